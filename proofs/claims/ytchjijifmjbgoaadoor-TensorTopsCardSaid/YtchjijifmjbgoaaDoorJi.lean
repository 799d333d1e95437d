import Derived.Test.YtchjijifmjbgoaaDoorJh
namespace Go.Proofs.YtchjijifmjbgoaaDoor.Tn
set_option maxRecDepth 100000
open Go.ChangeShapes Go.WideShapes Go.ChangeAt Go.RowKit Go.Proofs.YtchjijifmjbgoaaDoor.Fx Go.Proofs.YtchjijifmjbgoaaDoor.Rf

/-! ### the landed code: Mix -/
theorem chkL_zero {ls : List (List Int)} (h : chkL ls = 0) : ∀ i, i < ls.length → chkV (ls.getD i []) = 0 := by
  by_cases ha : ∀ i, i < ls.length → chkV (ls.getD i []) = 0
  · exact ha
  · obtain ⟨j, hj, hb, hg⟩ := first_not ls.length ha
    rw [chkL_at j hj hg hb] at h
    exact absurd h hb
theorem chkL_some {ls : List (List Int)} (h : chkL ls ≠ 0) : ∃ j, j < ls.length ∧ (∀ i, i < j → chkV (ls.getD i []) = 0) ∧ chkL ls = chkV (ls.getD j []) := by
  by_cases ha : ∀ i, i < ls.length → chkV (ls.getD i []) = 0
  · exact absurd (chkL_all ha) h
  · obtain ⟨j, hj, hb, hg⟩ := first_not ls.length ha
    exact ⟨j, hj, hg, chkL_at j hj hg hb⟩
theorem mixOk_of {ss : List Int} {ls : List (List Int)} (h1 : 1 ≤ ls.length) (h2 : ls.length ≤ 64) (h3 : ss.length = ls.length) (h4 : sameL ls) : mixOk ss ls := ⟨h1, h2, h3, mem_getD (P := fun l => l.length = (ls.getD 0 []).length) h4⟩
theorem mixOk_same {ss : List Int} {ls : List (List Int)} (h : mixOk ss ls) : sameL ls := fun i hi => h.2.2.2 _ (getD_mem i hi)
theorem mixE_no {ss : List Int} {ls : List (List Int)} (h : ¬ mixOk ss ls) : mixE ss ls = 13 := by unfold mixE; rw [if_pos h]
theorem mixE_chk {ss : List Int} {ls : List (List Int)} (h : mixOk ss ls) (hc : chkL ls ≠ 0) : mixE ss ls = chkL ls := by
  obtain ⟨j, hj, hg, he⟩ := chkL_some hc
  have hn : ∀ i, i < ls.length → (ls.getD i []).length = mixN ls := mixOk_same h
  unfold mixE
  rw [if_neg (fun hh => hh h)]
  by_cases hs : mixN ls < 1 ∨ 512 < mixN ls
  · rw [if_pos hs, he]
    have := hn j hj
    exact (chkV_size (by omega)).symm
  · rw [if_neg hs]
    have hjn := hn j hj
    have hbad : ¬ ∀ x ∈ ls.getD j [], isN x := fun hx => by
      rw [he] at hc
      exact hc (by unfold chkV; rw [if_neg (by omega), if_pos hx])
    rw [if_pos (fun hx => hbad (hx _ (getD_mem j hj))), he]
    unfold chkV
    rw [if_neg (by omega), if_neg hbad]
theorem mix_numbers {ss : List Int} {ls : List (List Int)} (h : mixOk ss ls) (hc : chkL ls = 0) : 1 ≤ mixN ls ∧ mixN ls ≤ 512 ∧ ∀ l ∈ ls, ∀ x ∈ l, isN x := by
  have h0 := chkL_zero hc
  obtain ⟨a, b, _⟩ := chkV_zero (h0 0 (by have := h.1; omega))
  exact ⟨a, b, mem_getD (P := fun l => ∀ x ∈ l, isN x) fun i hi => (chkV_zero (h0 i hi)).2.2⟩
theorem mixE_share {ss : List Int} {ls : List (List Int)} (h : mixOk ss ls) (hc : chkL ls = 0) (hs : ¬ ∀ x ∈ ss, isS x) : mixE ss ls = 10 := by
  obtain ⟨a, b, c⟩ := mix_numbers h hc
  unfold mixE
  rw [if_neg (fun hh => hh h), if_neg (by omega), if_neg (fun hh => hh c), if_pos hs]
theorem far_mix {ss : List Int} {ls : List (List Int)} (h : mixOk ss ls) (hc : chkL ls = 0) (hs : ∀ x ∈ ss, isS x) (k : Nat) (hk : k < mixN ls) : Far ss (colA (0 : Int) ls k) := fun i => by
  obtain ⟨a, b, c⟩ := mix_numbers h hc
  have hn : ∀ l ∈ ls, l.length = mixN ls := h.2.2.2
  have e : colA (0 : Int) ls k = ls.map fun l => l.getD k 0 := rfl
  rw [e]
  have hl : (ls.map fun l => l.getD k 0).length = ss.length := by rw [List.length_map]; exact h.2.2.1.symm
  have h64 : ss.length ≤ 64 := by have := h.2.2.1; have := h.2.1; omega
  by_cases hi : i ≤ 64
  · have := mixS_small hs c hn k i hk hi
    omega
  · have := mixS_small hs c hn k 64 hk (Nat.le_refl _)
    rw [List.take_of_length_le (by omega), List.take_of_length_le (by omega)] at this
    rw [List.take_of_length_le (by omega), List.take_of_length_le (by omega)]
    omega
theorem mix_first {ss : List Int} {ls : List (List Int)} (h : mixOk ss ls) (hc : chkL ls = 0) (hs : ∀ x ∈ ss, isS x) :
    firstN (fun i => over (rnd (dotS ss (colA (0 : Int) ls i)))) (mixN ls) = mixE ss ls ∧ (if firstN (fun i => over (rnd (dotS ss (colA (0 : Int) ls i)))) (mixN ls) = 0 then (List.range (mixN ls)).map (fun i => orNil (rnd (dotS ss (colA (0 : Int) ls i)))) else []) = mixV ss ls := by
  obtain ⟨a, b, c⟩ := mix_numbers h hc
  have e0 : mixE ss ls = if ∀ k, k < mixN ls → isN (rnd (mixS ss ls k)) then 0 else 17 := by
    unfold mixE
    rw [if_neg (fun hh => hh h), if_neg (by omega), if_neg (fun hh => hh c), if_neg (fun hh => hh hs)]
  have e1 : firstN (fun i => over (rnd (dotS ss (colA (0 : Int) ls i)))) (mixN ls) = mixE ss ls := by
    rw [e0]
    by_cases hall : ∀ k, k < mixN ls → isN (rnd (mixS ss ls k))
    · rw [if_pos hall]
      exact firstN_all fun i hi => by
        show over (rnd (mixS ss ls i)) = 0
        unfold over
        rw [if_pos (hall i hi)]
    · rw [if_neg hall]
      refine firstN_bad (fun i hi => ?_) (fun hh => hall fun i hi => ?_)
      · show over (rnd (mixS ss ls i)) = 0 ∨ over (rnd (mixS ss ls i)) = 17
        unfold over
        split
        · exact Or.inl rfl
        · exact Or.inr rfl
      · have h1 : over (rnd (mixS ss ls i)) = 0 := hh i hi
        unfold over at h1
        by_cases hn : isN (rnd (mixS ss ls i))
        · exact hn
        · rw [if_neg hn] at h1; omega
  refine ⟨e1, ?_⟩
  rw [e1]
  unfold mixV
  by_cases h0 : mixE ss ls = 0
  · rw [if_pos h0, if_pos h0]
    have hall : ∀ k, k < mixN ls → isN (rnd (mixS ss ls k)) := by
      rw [e0] at h0
      by_cases hall : ∀ k, k < mixN ls → isN (rnd (mixS ss ls k))
      · exact hall
      · rw [if_neg hall] at h0; omega
    unfold mixL
    apply List.map_congr_left
    intro i hi
    show orNil (rnd (mixS ss ls i)) = _
    unfold orNil
    rw [if_pos (hall i (by simpa using hi))]
  · rw [if_neg h0, if_neg h0]
/-- what the call's own variable holds -/
structure BoxS (w : World) (v : Value) (t : TypeId) (W : World) : Prop where
  below : Below w.heap.size w W
  box : W.heap[w.heap.size]? = some (.cells #[v] t (0, 0))
theorem BoxS.made (w : World) (v : Value) (t : TypeId) (X : Array Value) (hX : X = #[v]) : BoxS w v t (w.alloc (.cells X t)) := by
  subst hX
  exact ⟨(Below.refl _ _).alloc (Nat.le_refl _) _, heap_alloc_new _ _⟩
theorem BoxS.later {w W W' : World} {v : Value} {t : TypeId} (h : BoxS w v t W) (hb : Below W.heap.size W W') : BoxS w v t W' :=
  ⟨h.below.trans (hb.mono h.below.size), (hb.block _ (Array.getElem?_eq_some_iff.1 h.box).1).trans h.box⟩
theorem BoxS.cell {w W : World} {v : Value} {t : TypeId} (h : BoxS w v t W) : W.cell? ⟨w.heap.size, 0, none⟩ = some v := by rw [cell_of_row _ _ _ _ _ _ h.box]; rfl
set_option maxHeartbeats 4000000 in
theorem tmix_any (w : World) (sp sq : Option Addr) (cap caq N M : Nat) (ss : List Int) (ls : List (List Int)) (hN : ss.length = N) (hM : ls.length = M) (hs : Nums w sp cap ss) (hv : Vecs w sq caq ls) (he : E0 w) :
    Calls Tryd.prog 25 #[.slice sp N cap, .slice sq M caq] w (AnsE w (mixV ss ls) (mixE ss ls)) := by
  have hNm : N ≤ 9223372036854775807 := by rw [← hN]; exact hs.len
  have hMm : M ≤ 9223372036854775807 := by rw [← hM]; exact hv.len
  have HA := Lib.hid (fun W (hW : Below w.heap.size w W) => areSame_any W sq caq M ls hM (hv.below hW))
  have HC := Lib.hid (fun W (hW : Below w.heap.size w W) => check_any W sq caq M ls hM (hv.below hW))
  by_cases hm : 1 ≤ (M : Int) ∧ (M : Int) ≤ 64
  · have HT : Hid (cnt M 64 = true) := Lib.hid (cnt_yes hm)
    by_cases hnm : N = M
    · subst hnm
      have hnn : ((N : Int) != (N : Int)) = false := by simp
      have hnn' : (N != N) = false := by simp
      by_cases hsl : sameL ls
      · rw [show decide (sameL ls) = true by simpa using hsl] at HA
        have hok := mixOk_of (ss := ss) (by omega) (by omega) (by omega) hsl
        by_cases hc : chkL ls = 0
        · rw [hc] at HC
          by_cases hsh : ∀ x ∈ ss, isS x
          · obtain ⟨e1, e2⟩ := mix_first hok hc hsh
            have hlen : ∀ i, i < N → (ls.getD i []).length = mixN ls := fun i hi => hsl i (by omega)
            have h512 := (mix_numbers hok hc).2.1
            have HTg : Hid (∀ W, BoxS w (.slice sp N cap) 22 W → Calls Tryd.prog 49 #[.func (.func 53) #[] #[.pointer (some ⟨w.heap.size, 0, none⟩)], .slice sq N caq] W (AnsO W (mixV ss ls) (mixE ss ls))) := Lib.hid (fun W hW => by
              refine (tog_ints W 53 #[.pointer (some ⟨w.heap.size, 0, none⟩)] sq caq N (mixN ls) ls hM (by omega) (by omega) hlen (by omega) (vecsA_of (hv.below hW.below)) (fun i => orNil (rnd (dotS ss (colA (0 : Int) ls i)))) (fun i => over (rnd (dotS ss (colA (0 : Int) ls i)))) (eg_of Tryd.func53 (by kernel_rfl) (by kernel_rfl)) (fun i hi W' b' hW' hsl' => ?_)).mono fun e w' h => h.cast e2 e1
              have hB := hW.later hW'
              exact mix1_any W' b' N w.heap.size sp cap ss (colA 0 ls i) hN (by rw [colA_length]; exact hM) hsl' hB.cell (hs.below hB.below) (far_mix hok hc hsh i hi) (he.below hB.below))
            have HSh := Lib.hid (fun i hi => in_of (p := isS) hsh i hi)
            have HSs := Lib.hid (fun W (hW : Below w.heap.size w W) => hs.below hW)
            have HNn := Lib.hid hN
            obtain ⟨V, hV⟩ : ∃ V, mixV ss ls = V := ⟨_, rfl⟩
            obtain ⟨E, hE⟩ : ∃ E, mixE ss ls = E := ⟨_, rfl⟩
            rw [hV, hE] at HTg ⊢
            clear hs hv hN hM hm hsl hok hc hsh e1 e2 hlen h512 hV hE he
            go_enter Tryd.func25, Tryd.ntmps25
            go_upto_region 1 with fail
            refine gen_world (Q := fun w => Code.wp _ _ _ _ w) _ (BoxS w (.slice sp N cap) 22) (BoxS.made w _ _ _ rfl) ?_
            intro W hW
            have HW := Lib.hid hW
            have c0 := hW.cell
            clear hW
            go_wp2_with fail
            refine (count_any _ _ _).mono ?_
            rintro e w' ⟨rfl, rfl⟩
            rw [HT.out]
            go_wp2_with fail
            refine (HA.out _ HW.out.below).mono ?_
            rintro e w' ⟨rfl, rfl⟩
            go_wp2_with fail
            refine (HC.out _ HW.out.below).mono ?_
            rintro e w2 ⟨rfl, hb2⟩
            have HW2 := Lib.hid (HW.out.later hb2)
            have c0 := HW2.out.cell
            clear hb2
            go_wp2
            go_loop [32] (fun t => ∃ k : Nat, k ≤ N ∧ t = .int .i64 k) (fun t => N - (intOf t).toNat)
            case atStart => exact ⟨0, by omega, rfl⟩
            case round =>
              obtain ⟨k, hk, rfl⟩ := hrel
              by_cases hlt : k < N
              · have hdt : decide (k < N) = true := by simp; omega
                obtain ⟨g, p, rfl, hcx⟩ := (HSs.out _ HW2.out.below).at_ k (by rw [HNn.out]; exact hlt)
                have hx := HSh.out k (by rw [HNn.out]; exact hlt)
                obtain ⟨x, hxe⟩ : ∃ x, ss.getD k 0 = x := ⟨_, rfl⟩
                rw [hxe] at hcx hx
                obtain ⟨x1, x2⟩ := hx
                have d1 : decide (x < 0) = false := by simp; omega
                have d2 : decide (65536 < x) = false := by simp; omega
                clear hxe
                go_wp2
                go_round
                case rel => exact ⟨k + 1, by omega, by go_num⟩
                case measure => simp [intOf]; omega
              · obtain rfl : k = N := by omega
                have hdf : decide (k < k) = false := by simp
                go_wp2_with fail
                refine (HTg.out _ HW2.out).mono ?_
                rintro e w3 h3
                obtain ⟨s3, c3, rfl, hn3, hb3⟩ := h3.ansE
                have HN3 := Lib.hid hn3
                have HB3 := Lib.hid (HW2.out.below.trans (hb3.mono HW2.out.below.size))
                clear h3 hn3 hb3
                go_wp2
                go_ret2
                exact ⟨s3, c3, rfl, HN3.out, HB3.out⟩
          · have hE := mixE_share hok hc hsh
            have hV : mixV ss ls = [] := by unfold mixV; rw [if_neg (by omega)]
            rw [hE, hV]
            obtain ⟨j, hj, hb, hg⟩ := not_in (p := isS) hsh
            rw [hN] at hj
            have HSb := Lib.hid hb
            have HSg := Lib.hid hg
            have HSs := Lib.hid (fun W (hW : Below w.heap.size w W) => hs.below hW)
            have HNn := Lib.hid hN
            clear hs hv hN hM hm hsl hok hc hsh hV hE hb hg he
            go_enter Tryd.func25, Tryd.ntmps25
            go_upto_region 1 with fail
            refine gen_world (Q := fun w => Code.wp _ _ _ _ w) _ (BoxS w (.slice sp N cap) 22) (BoxS.made w _ _ _ rfl) ?_
            intro W hW
            have HW := Lib.hid hW
            have c0 := hW.cell
            clear hW
            go_wp2_with fail
            refine (count_any _ _ _).mono ?_
            rintro e w' ⟨rfl, rfl⟩
            rw [HT.out]
            go_wp2_with fail
            refine (HA.out _ HW.out.below).mono ?_
            rintro e w' ⟨rfl, rfl⟩
            go_wp2_with fail
            refine (HC.out _ HW.out.below).mono ?_
            rintro e w2 ⟨rfl, hb2⟩
            have HW2 := Lib.hid (HW.out.later hb2)
            have c0 := HW2.out.cell
            clear hb2
            go_wp2
            go_loop [32] (fun t => ∃ k : Nat, k ≤ j ∧ t = .int .i64 k) (fun t => N - (intOf t).toNat)
            case atStart => exact ⟨0, by omega, rfl⟩
            case round =>
              obtain ⟨k, hk, rfl⟩ := hrel
              have hlt : k < N := by omega
              have hdt : decide (k < N) = true := by simp; omega
              obtain ⟨g, p, rfl, hcx⟩ := (HSs.out _ HW2.out.below).at_ k (by rw [HNn.out]; exact hlt)
              have hne : k = j → ¬ isS (ss.getD k 0) := fun e => by rw [e]; exact HSb.out
              obtain ⟨x, hxe⟩ : ∃ x, ss.getD k 0 = x := ⟨_, rfl⟩
              rw [hxe] at hcx hne
              clear hxe
              by_cases h1 : x < 0
              · have d1 : decide (x < 0) = true := by simp; omega
                clear hne
                go_wp2
                go_ret2
                exact AnsE.no HW2.out.below
              · have d1 : decide (x < 0) = false := by simp; omega
                by_cases h2 : 65536 < x
                · have d2 : decide (65536 < x) = true := by simp; omega
                  clear hne
                  go_wp2
                  go_ret2
                  exact AnsE.no HW2.out.below
                · have d2 : decide (65536 < x) = false := by simp; omega
                  have hkj : k < j := Nat.lt_of_le_of_ne hk (fun e => hne e ⟨by omega, by omega⟩)
                  clear hne
                  go_wp2
                  go_round
                  case rel => exact ⟨k + 1, by omega, by go_num⟩
                  case measure => simp [intOf]; omega
        · have hE := mixE_chk hok hc
          have hV : mixV ss ls = [] := by unfold mixV; rw [if_neg (by omega)]
          rw [hE, hV]
          have hne := ne0 hc
          obtain ⟨E, hEE⟩ : ∃ E, chkL ls = E := ⟨_, rfl⟩
          rw [hEE] at HC hne ⊢
          clear hs hv hN hM hm hsl hok hc hV hE hEE he
          go_enter Tryd.func25, Tryd.ntmps25
          go_upto_region 1 with fail
          refine gen_world (Q := fun w => Code.wp _ _ _ _ w) _ (BoxS w (.slice sp N cap) 22) (BoxS.made w _ _ _ rfl) ?_
          intro W hW
          have HW := Lib.hid hW
          have c0 := hW.cell
          clear hW
          go_wp2_with fail
          refine (count_any _ _ _).mono ?_
          rintro e w' ⟨rfl, rfl⟩
          rw [HT.out]
          go_wp2_with fail
          refine (HA.out _ HW.out.below).mono ?_
          rintro e w' ⟨rfl, rfl⟩
          go_wp2_with fail
          refine (HC.out _ HW.out.below).mono ?_
          rintro e w2 ⟨rfl, hb2⟩
          have HW2 := Lib.hid (HW.out.later hb2)
          clear hb2
          go_wp2
          go_ret2
          exact AnsE.no HW2.out.below
      · rw [show decide (sameL ls) = false by simpa using hsl] at HA
        have hE := mixE_no (ss := ss) (ls := ls) (fun h => hsl (mixOk_same h))
        have hV : mixV ss ls = [] := by unfold mixV; rw [if_neg (by omega)]
        rw [hE, hV]
        clear hs hv hN hM hm hsl hV hE he HC
        go_enter Tryd.func25, Tryd.ntmps25
        go_upto_region 1 with fail
        refine gen_world (Q := fun w => Code.wp _ _ _ _ w) _ (BoxS w (.slice sp N cap) 22) (BoxS.made w _ _ _ rfl) ?_
        intro W hW
        have HW := Lib.hid hW
        have c0 := hW.cell
        clear hW
        go_wp2_with fail
        refine (count_any _ _ _).mono ?_
        rintro e w' ⟨rfl, rfl⟩
        rw [HT.out]
        go_wp2_with fail
        refine (HA.out _ HW.out.below).mono ?_
        rintro e w' ⟨rfl, rfl⟩
        go_wp2
        go_ret2
        exact AnsE.no HW.out.below
    · have hE := mixE_no (ss := ss) (ls := ls) (fun h => hnm (by have := h.2.2.1; omega))
      have hV : mixV ss ls = [] := by unfold mixV; rw [if_neg (by omega)]
      rw [hE, hV]
      have hnn : ((N : Int) != (M : Int)) = true := by
        simp only [bne_iff_ne, ne_eq]
        omega
      have hnn' : (N != M) = true := by simpa using hnm
      clear hs hv hN hM hm hnm hV hE he HC HA
      go_enter Tryd.func25, Tryd.ntmps25
      go_upto_region 1 with fail
      refine gen_world (Q := fun w => Code.wp _ _ _ _ w) _ (BoxS w (.slice sp N cap) 22) (BoxS.made w _ _ _ rfl) ?_
      intro W hW
      have HW := Lib.hid hW
      have c0 := hW.cell
      clear hW
      go_wp2_with fail
      refine (count_any _ _ _).mono ?_
      rintro e w' ⟨rfl, rfl⟩
      rw [HT.out]
      go_wp2
      go_ret2
      exact AnsE.no HW.out.below
  · have HT : Hid (cnt M 64 = false) := Lib.hid (cnt_no hm)
    have hE := mixE_no (ss := ss) (ls := ls) (fun h => hm (by have := h.1; have := h.2.1; omega))
    have hV : mixV ss ls = [] := by unfold mixV; rw [if_neg (by omega)]
    rw [hE, hV]
    clear hs hv hN hM hm hV hE he HC HA
    go_enter Tryd.func25, Tryd.ntmps25
    go_upto_region 1 with fail
    refine gen_world (Q := fun w => Code.wp _ _ _ _ w) _ (BoxS w (.slice sp N cap) 22) (BoxS.made w _ _ _ rfl) ?_
    intro W hW
    have HW := Lib.hid hW
    have c0 := hW.cell
    clear hW
    go_wp2_with fail
    refine (count_any _ _ _).mono ?_
    rintro e w' ⟨rfl, rfl⟩
    rw [HT.out]
    go_wp2
    go_ret2
    exact AnsE.no HW.out.below
end Go.Proofs.YtchjijifmjbgoaaDoor.Tn
