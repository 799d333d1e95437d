import Derived.Test.YtchjijifmjbgoaaDoorJi
namespace Go.Proofs.YtchjijifmjbgoaaDoor.Tn
set_option maxRecDepth 100000
open Go.ChangeShapes Go.WideShapes Go.ChangeAt Go.RowKit Go.Proofs.YtchjijifmjbgoaaDoor.Fx Go.Proofs.YtchjijifmjbgoaaDoor.Rf

/-! ### the landed code: Softmax -/
set_option maxHeartbeats 4000000 in
theorem max_any (w : World) (sp : Option Addr) (cap N : Nat) (l : List Int) (hN : l.length = N) (hl : Nums w sp cap l) (h1 : 1 ≤ N) : Calls Tryd.prog 48 #[.slice sp N cap] w fun e w' => e = .returned (.int .i64 (mostL l)) ∧ w = w' := by
  have hNm : N ≤ 9223372036854775807 := by rw [← hN]; exact hl.len
  have HL := Lib.hid hl
  have HN := Lib.hid hN
  obtain ⟨g, o, rfl, hc0⟩ := HL.out.at_ 0 (by rw [HN.out]; omega)
  clear hl hN
  obtain ⟨z, hz⟩ : ∃ z, l.getD 0 0 = z := ⟨_, rfl⟩
  rw [hz, Nat.add_zero] at hc0
  have H1 : Hid ((l.take 1).foldl max z = z) := Lib.hid (by
    have h2 := fold_take l z 0 (by rw [HN.out]; omega)
    rw [hz] at h2
    rw [h2]
    simp)
  have HE : Hid ((l.take N).foldl max z = mostL l) := Lib.hid (by rw [List.take_of_length_le (by rw [HN.out]; omega), mostL, hz])
  clear hz
  have d0 : decide ((N : Int) < 1) = false := by simp; omega
  go_enter Tryd.func48, Tryd.ntmps48
  go_wp2
  go_loop [3, 4] (fun m i => ∃ k : Nat, 1 ≤ k ∧ k ≤ N ∧ i = .int .i64 k ∧ m = .int .i64 ((l.take k).foldl max z)) (fun _ i => N - (intOf i).toNat)
  case atStart => exact ⟨1, by omega, by omega, rfl, by rw [H1.out]⟩
  case round =>
    obtain ⟨k, hk1, hk, rfl, rfl⟩ := hrel
    by_cases hlt : k < N
    · have hdt : decide (k < N) = true := by simp; omega
      obtain ⟨g', o', e, hc⟩ := HL.out.at_ k (by rw [HN.out]; exact hlt)
      cases e
      have HT := Lib.hid (fold_take l z k (by rw [HN.out]; exact hlt))
      obtain ⟨x, hx⟩ : ∃ x, l.getD k 0 = x := ⟨_, rfl⟩
      obtain ⟨m, hm⟩ : ∃ m, (l.take k).foldl max z = m := ⟨_, rfl⟩
      rw [hx] at hc HT
      rw [hm] at HT ⊢
      clear hx hm
      by_cases hxm : x ≤ m
      · have HT2 : Hid ((l.take (k + 1)).foldl max z = m) := Lib.hid (by rw [HT.out]; exact Int.max_eq_left hxm)
        go_wp2
        all_goals go_round
        all_goals first
          | (case rel => exact ⟨k + 1, by omega, by omega, by go_num, by rw [HT2.out]⟩)
          | (case measure => simp [intOf]; omega)
      · have HT2 : Hid ((l.take (k + 1)).foldl max z = x) := Lib.hid (by rw [HT.out]; exact Int.max_eq_right (by omega))
        go_wp2
        all_goals go_round
        all_goals first
          | (case rel => exact ⟨k + 1, by omega, by omega, by go_num, by rw [HT2.out]⟩)
          | (case measure => simp [intOf]; omega)
    · obtain rfl : k = N := by omega
      have hdf : decide (k < k) = false := by simp
      rw [HE.out]
      obtain ⟨m, hm⟩ : ∃ m, mostL l = m := ⟨_, rfl⟩
      rw [hm]
      have HM := Lib.hid hm
      clear hm
      go_wp2
      go_ret
      exact ⟨by rw [HM.out]; rfl, rfl⟩
theorem owns_base {W : World} {base base' : Nat} {e : TypeId} {size : Nat} {v : Value} {k : Nat} {xs : List Value} (h : W.ownsRow base e size v k xs) (hb : base' ≤ base) : W.ownsRow base' e size v k xs := by
  refine ⟨h.1, ?_⟩
  rcases h.2 with hn | ⟨g, cap, cur, hv, hbg, rest⟩
  · exact .inl hn
  · exact .inr ⟨g, cap, cur, hv, Nat.le_trans hb hbg, rest⟩
theorem soft_first (v : List Int) : (if firstN (fun _ => (0 : Int)) v.length = 0 then (List.range v.length).map (fun i => ex (v.getD i 0 - mostL v)) else []) = exs v := by
  rw [if_pos (firstN_all (E := fun _ => (0 : Int)) fun i _ => rfl)]
  unfold exs
  apply List.ext_getElem
  · simp
  · intro i h1 h2
    simp only [List.length_map, List.length_range] at h1
    simp [h1]
set_option maxHeartbeats 4000000 in
theorem tsoft_any (w : World) (sp : Option Addr) (cap N : Nat) (l : List Int) (hN : l.length = N) (hl : Nums w sp cap l) (he : E0 w) :
    Calls Tryd.prog 23 #[.slice sp N cap] w (AnsE w (smV l) (chkV l)) := by
  have HB0 := Lib.hid (Below.refl w.heap.size w)
  have HC := Lib.hid (fun W g (hg : g = W.heap.size) (hb : Below w.heap.size w W) => check_any _ _ 1 1 [l] rfl (vecs_new1 W g hg sp cap N l hN (hl.below hb)))
  simp only [chkL1] at HC
  by_cases hc : chkV l = 0
  · have hV : smV l = smx l := by unfold smV; rw [if_pos hc]
    rw [hV, hc]
    rw [hc] at HC
    obtain ⟨z1, z2, z3⟩ := chkV_zero hc
    have HMx := Lib.hid (fun W (hb : Below w.heap.size w W) => max_any W sp cap N l hN (hl.below hb) (by omega))
    have HTg : Hid (∀ W g B, g = W.heap.size → Below w.heap.size w W → W.cell? ⟨B, 0, none⟩ = some (.int .i64 (mostL l)) → Calls Tryd.prog 49 #[.func (.func 50) #[] #[.pointer (some ⟨B, 0, none⟩)], .slice (some ⟨g, 0, none⟩) 1 1] (W.alloc (.cells #[.slice sp N cap] 22)) (AnsO (W.alloc (.cells #[.slice sp N cap] 22)) (exs l) 0)) := Lib.hid (fun W g B hg hW hB => by
      have hv := vecs_new1 W g hg sp cap N l hN (hl.below hW)
      have hbA : Below W.heap.size W (W.alloc (.cells #[.slice sp N cap] 22)) := (Below.refl _ _).alloc (Nat.le_refl _) _
      refine (tog_ints _ 50 #[.pointer (some ⟨B, 0, none⟩)] _ 1 1 N [l] rfl (by omega) (by omega) (fun i hi => ?_) (by omega) (vecsA_of hv) (fun i => ex (l.getD i 0 - mostL l)) (fun _ => 0) (eg_of Tryd.func50 (by kernel_rfl) (by kernel_rfl)) (fun i hi W' b' hW' hsl => ?_)).mono fun e w' h => h.cast (by rw [← hN]; exact soft_first l) (firstN_all fun i _ => rfl)
      · obtain rfl : i = 0 := by omega
        exact hN
      · have hx := in_of z3 i (by omega)
        have hm : isN (mostL l) := z3 _ (most_mem (by omega))
        have hle := most_le l (l.getD i 0) (by rw [List.getD_eq_getElem?_getD, List.getElem?_eq_getElem (by omega)]; exact List.getElem_mem _)
        have hbb : Below W.heap.size W W' := hbA.trans (hW'.mono (by simp))
        exact soft1_any W' b' 1 B _ _ hsl rfl ((hbb.cell (block_lt_of_cell hB)).trans hB) hle hx.1 hm.2 (he.below (hW.trans (hbb.mono hW.size))))
    have hes := exs_sum (l := l) (by omega) z2
    have HEx : Hid (∀ i, i < N → (exs l).getD i 0 = ex (l.getD i 0 - mostL l)) := Lib.hid (fun i hi => exs_get i (by omega))
    have HEl : Hid ((exs l).length = N) := Lib.hid (by rw [exs_length]; exact hN)
    have HSl : Hid ((smx l).length = N) := Lib.hid (by rw [smx_length]; exact hN)
    have HSg : Hid (∀ i, i < N → (smx l).getD i 0 = ex (l.getD i 0 - mostL l) * 65536 / (exs l).sum) := Lib.hid (fun i hi => smx_get i (by omega))
    have HKg : Hid (∀ i, i < N → (smk l i).getD i 0 = ex (l.getD i 0 - mostL l)) := Lib.hid (fun i hi => smk_get l i (by omega))
    have HKl : Hid (∀ i, i ≤ N → (smk l i).length = N) := Lib.hid (fun i hi => by rw [smk_length l i (by omega)]; exact hN)
    have HKs : Hid (∀ i, i < N → (smk l i).set i ((smx l).getD i 0) = smk l (i + 1)) := Lib.hid (fun i hi => smk_set l i (by omega))
    have HK0 : Hid (smk l 0 = exs l) := Lib.hid (by simp [smk])
    have HKN : Hid (smk l N = smx l) := Lib.hid (by unfold smk; rw [List.take_of_length_le (by rw [HSl.out]; omega), List.drop_eq_nil_of_le (by rw [HEl.out]; omega), List.append_nil])
    have hN512 : N ≤ 512 := by omega
    have hN1 : 1 ≤ N := by omega
    obtain ⟨m, hm⟩ : ∃ m, mostL l = m := ⟨_, rfl⟩
    rw [hm] at HMx HTg HEx HSg HKg
    clear hV hc z1 z2 z3 hl hN hm he
    go_enter Tryd.func23, Tryd.ntmps23
    go_wp2_with fail
    refine (HC.out _ _ rfl HB0.out).mono ?_
    rintro e w1 ⟨rfl, hb1⟩
    have HB1 := Lib.hid ((HB0.out.alloc (Nat.le_refl _) (.cells #[.slice sp N cap] 22)).trans (hb1.mono (by simp)))
    clear hb1
    go_wp2_with fail
    refine (HMx.out _ HB1.out).mono ?_
    rintro e w' ⟨rfl, rfl⟩
    have HB2 := Lib.hid (HB1.out.alloc HB1.out.size (.cells #[.int .i64 m] 3))
    have HBx := Lib.hid (show (w1.alloc (.cells #[.int .i64 m] 3)).cell? ⟨w1.heap.size, 0, none⟩ = some (.int .i64 m) by simp)
    go_wp2_with fail
    refine (HTg.out _ _ _ (by simp) HB2.out HBx.out).mono ?_
    rintro e w3 ⟨v3, rfl, ho3, hb3⟩
    have HB3 := Lib.hid ((HB2.out.alloc HB2.out.size (.cells #[.slice sp N cap] 22)).trans (hb3.mono (by have := HB2.out.size; simp; simp at this; omega)))
    rw [HEl.out] at ho3
    rcases ho3.2 with ⟨e, h0'⟩ | ⟨gb, cb, cur, e, hbg, _⟩
    · exfalso; omega
    subst e
    have HO := Lib.hid (owns_base ho3 (base' := w.heap.size) (by have := HB2.out.size; simp; simp at this; omega))
    clear hb3 ho3 hbg HBx
    go_wp2
    go_loop [8, 33] (fun s t => ∃ k : Nat, k ≤ N ∧ t = .int .i64 k ∧ s = .int .i64 (((exs l).take k).sum)) (fun _ t => N - (intOf t).toNat)
    case atStart => exact ⟨0, by omega, rfl, rfl⟩
    case round =>
      obtain ⟨k, hk, rfl, rfl⟩ := hrel
      have hss := sum_take_in (l := exs l) exs_in (by rw [HEl.out]; exact hN512) k
      by_cases hlt : k < N
      · have hdt : decide (k < N) = true := by simp; omega
        have hck := HO.out.cells (g := gb) rfl k (.int .i64 ((exs l).getD k 0)) (by simp [show k < (exs l).length by rw [HEl.out]; exact hlt])
        rw [add_plain, Nat.zero_add] at hck
        have HT := Lib.hid (sum_take (exs l) k (by rw [HEl.out]; exact hlt))
        have hin := exs_in (l := l) ((exs l).getD k 0) (by rw [List.getD_eq_getElem?_getD, List.getElem?_eq_getElem (by rw [HEl.out]; exact hlt)]; exact List.getElem_mem _)
        obtain ⟨x, hx⟩ : ∃ x, (exs l).getD k 0 = x := ⟨_, rfl⟩
        obtain ⟨S, hS⟩ : ∃ S, ((exs l).take k).sum = S := ⟨_, rfl⟩
        rw [hx] at hck HT hin
        rw [hS] at hss HT ⊢
        obtain ⟨a1, a2⟩ := hss
        obtain ⟨b1, b2⟩ := hin
        clear hx hS
        go_wp2
        clear hck
        go_round
        case rel => exact ⟨k + 1, by omega, by go_num, by rw [HT.out]⟩
        case measure => simp [intOf]; omega
      · obtain rfl : k = N := by omega
        have hdf : decide (k < k) = false := by simp
        have hT : (exs l).take k = exs l := List.take_of_length_le (by rw [HEl.out]; omega)
        rw [hT]
        obtain ⟨S, hS⟩ : ∃ S, (exs l).sum = S := ⟨_, rfl⟩
        rw [hS] at hes HSg ⊢
        obtain ⟨s1, s2⟩ := hes
        clear hT hS hss
        have hO0 := HO.out
        rw [← HK0.out] at hO0
        have HO2 := Lib.hid hO0
        clear hO0 HO
        go_wp2
        go_loopw [43] (fun t wr => ∃ q : Nat, q ≤ k ∧ t = .int .i64 q ∧ SmB w l k q (.slice (some ⟨gb, 0, none⟩) k cb) wr) (fun t _ => k - (intOf t).toNat)
        case atStart => exact ⟨0, by omega, rfl, HB3.out, HO2.out⟩
        case round =>
          obtain ⟨q, hq, rfl, hS⟩ := hrel
          have HS := Lib.hid hS
          clear hS HO2
          by_cases hlt : q < k
          · have hdt : decide (q < k) = true := by simp; omega
            have hck := HS.out.own.cells (g := gb) rfl q (.int .i64 ((smk l q).getD q 0)) (by
              have := HKl.out q hq
              simp [this, hlt])
            rw [add_plain, Nat.zero_add, HKg.out q hlt] at hck
            have hfk := HS.out.own.frozenAt q
            have hgq := HSg.out q hlt
            have hE := ex_le (l.getD q 0 - m)
            have HST := Lib.hid (HKs.out q hlt)
            have HW := Lib.hid (HS.out.own.stored q (.int .i64 ((smx l).getD q 0)))
            rw [hgq] at HST HW
            obtain ⟨E, hEE⟩ : ∃ E, ex (l.getD q 0 - m) = E := ⟨_, rfl⟩
            rw [hEE] at hE hck HST HW
            obtain ⟨E1, E2⟩ := hE
            clear hgq hEE
            go_wp2
            clear hck hfk
            go_roundw
            case rel =>
              refine ⟨q + 1, by omega, by go_num, HS.out.below.trans (Below.ofGrown HW.out.2 HS.out.below.size (fun k hk => (HS.out.own.lt k hk).1)), ?_⟩
              rw [← HST.out, List.map_set]
              exact HW.out.1
            case measure => simp [intOf]; omega
          · obtain rfl : q = k := by omega
            have hdf : decide (q < q) = false := by simp
            have hown := HS.out.own
            rw [HKN.out] at hown
            have HO3 := Lib.hid hown
            clear hown
            go_wp2
            go_ret2
            obtain ⟨sp2, cap2, e2, _, hnum⟩ := own_nums HO3.out
            exact ⟨sp2, cap2, by rw [HSl.out, ← e2]; rfl, hnum, HS.out.below⟩
  · have hV : smV l = [] := by unfold smV; rw [if_neg hc]
    rw [hV]
    have hne := ne0 hc
    obtain ⟨E, hEE⟩ : ∃ E, chkV l = E := ⟨_, rfl⟩
    rw [hEE] at HC hne ⊢
    clear hV hc hl hN hEE he
    go_enter Tryd.func23, Tryd.ntmps23
    go_wp2_with fail
    refine (HC.out _ _ rfl HB0.out).mono ?_
    rintro e w1 ⟨rfl, hb1⟩
    have HB1 := Lib.hid ((HB0.out.alloc (Nat.le_refl _) (.cells #[.slice sp N cap] 22)).trans (hb1.mono (by simp)))
    clear hb1
    go_wp2
    go_ret2
    exact AnsE.no HB1.out
end Go.Proofs.YtchjijifmjbgoaaDoor.Tn
