import Derived.Test.YtchjijifmjbgoaaDoorJb
import Derived.Test.YtchjijifmjbgoaaDoorGw
import Derived.Lib.SliceRun
namespace Go.Proofs.YtchjijifmjbgoaaDoor.Tn
set_option maxRecDepth 100000
open Go.ChangeShapes Go.WideShapes Go.ChangeAt Go.RowKit Go.Proofs.YtchjijifmjbgoaaDoor.Fx Go.Proofs.YtchjijifmjbgoaaDoor.Rf

/-! ### the landed code: Check, Dot, a matrix's Check and Row -/
theorem vecs_new (w : World) (g : Nat) (hg : g = w.heap.size) (vs : List Value) (ls : List (List Int)) (cs : Array Value) (n : Nat) (hn : vs.length = n) (hl : ls.length = n) (hc : cs = vs.toArray) (hb : n ≤ 1000000) (h : ∀ i v, vs[i]? = some v → VecVal w v (ls.getD i [])) :
    Vecs (w.alloc (.cells cs 22)) (some ⟨g, 0, none⟩) n ls := by
  subst hn
  subst hg
  have hs := Sl.new w vs cs 22 (0, 0) hc hb
  refine ⟨vs, hl.symm, hs, fun i v hv => ?_⟩
  obtain ⟨sp, cap, e, hnm⟩ := h i v hv
  exact ⟨sp, cap, e, hnm.below ((Below.refl _ _).alloc (Nat.le_refl _) _)⟩
theorem vecs_new1 (w : World) (g : Nat) (hg : g = w.heap.size) (sp : Option Addr) (cap N : Nat) (l : List Int) (hN : l.length = N) (h : Nums w sp cap l) : Vecs (w.alloc (.cells #[.slice sp N cap] 22)) (some ⟨g, 0, none⟩) 1 [l] :=
  vecs_new w g hg [.slice sp N cap] [l] _ 1 rfl rfl rfl (by omega) fun i v hv => by
    rcases i with _ | i
    · simp at hv; subst hv; exact ⟨sp, cap, by rw [← hN]; rfl, h⟩
    · simp at hv
theorem vecs_new2 (w : World) (g : Nat) (hg : g = w.heap.size) (sp sq : Option Addr) (cap caq N M : Nat) (a b : List Int) (hN : a.length = N) (hM : b.length = M) (ha : Nums w sp cap a) (hb : Nums w sq caq b) : Vecs (w.alloc (.cells #[.slice sp N cap, .slice sq M caq] 22)) (some ⟨g, 0, none⟩) 2 [a, b] :=
  vecs_new w g hg [.slice sp N cap, .slice sq M caq] [a, b] _ 2 rfl rfl rfl (by omega) fun i v hv => by
    rcases i with _ | _ | i
    · simp at hv; subst hv; exact ⟨sp, cap, by rw [← hN]; rfl, ha⟩
    · simp at hv; subst hv; exact ⟨sq, caq, by rw [← hM]; rfl, hb⟩
    · simp at hv
theorem chkL1 (l : List Int) : chkL [l] = chkV l := by
  unfold chkL
  simp only [List.map_cons, List.map_nil, firstE]
  split
  · rfl
  · omega
theorem chkL2 (a b : List Int) : chkL [a, b] = if chkV a ≠ 0 then chkV a else chkV b := by
  unfold chkL
  simp only [List.map_cons, List.map_nil, firstE]
  split
  · rfl
  · split
    · rfl
    · omega
theorem sameL2 (a b : List Int) : sameL [a, b] ↔ a.length = b.length := by
  unfold sameL
  constructor
  · intro h
    exact (h 1 (by simp)).symm
  · intro h i hi
    rcases i with _ | _ | i
    · rfl
    · exact h.symm
    · simp at hi; omega
set_option maxHeartbeats 4000000 in
theorem tcheck_any (w : World) (sp : Option Addr) (cap N : Nat) (l : List Int) (hN : l.length = N) (hl : Nums w sp cap l) : Calls Tryd.prog 16 #[.slice sp N cap] w fun e w' => e = .returned (.int .i64 (chkV l)) ∧ Below w.heap.size w w' := by
  have HC := Lib.hid (check_any _ _ 1 1 [l] rfl (vecs_new1 w _ rfl sp cap N l hN hl))
  rw [chkL1] at HC
  obtain ⟨R, hR⟩ : ∃ R, chkV l = R := ⟨_, rfl⟩
  rw [hR] at HC ⊢
  clear hl hN hR
  go_enter Tryd.func16, Tryd.ntmps16
  go_wp2_with fail
  refine HC.out.mono ?_
  rintro e w' ⟨rfl, hb⟩
  have HB := Lib.hid (((Below.refl w.heap.size w).alloc (Nat.le_refl _) (.cells #[.slice sp N cap] 22)).trans (hb.mono (by simp)))
  clear hb
  go_wp2
  go_ret
  exact ⟨rfl, HB.out⟩
theorem wE_yes {l : List Int} (h : ∀ x ∈ l, isW x) : wE l = 0 := by unfold wE; rw [if_pos h]
theorem wE_no {l : List Int} (h : ¬ ∀ x ∈ l, isW x) : wE l = 10 := by unfold wE; rw [if_neg h]
theorem far_dot {row v : List Int} (h : dotIn row v) (hl : row.length ≤ 64) : Far row v := fun k => by
  by_cases hk : k ≤ 64
  · exact dot_small h k hk
  · have h1 := dot_small h 64 (Nat.le_refl _)
    have e : row.take k = row.take 64 := by rw [List.take_of_length_le (by omega), List.take_of_length_le hl]
    have e2 : dotS (row.take 64) (v.take k) = dotS (row.take 64) (v.take 64) := by
      have aux : ∀ (a b : List Int) (n : Nat), a.length ≤ n → dotS a (b.take n) = dotS a b := by
        intro a
        induction a with
        | nil => intro b n _; cases b <;> cases n <;> simp [dotS]
        | cons x a ih =>
          intro b n hn
          cases n with
          | zero => simp at hn
          | succ n =>
            cases b with
            | nil => simp [dotS]
            | cons y b => rw [List.take_succ_cons, dotS, dotS, ih b n (by simpa using hn)]
      rw [aux _ _ _ (by simp; omega), aux _ _ _ (by simp; omega)]
    rw [e, e2]
    exact h1
set_option maxHeartbeats 4000000 in
theorem tdot_any (w : World) (sp sq : Option Addr) (cap caq N M : Nat) (row v : List Int) (hN : row.length = N) (hM : v.length = M) (hr : Nums w sp cap row) (hv : Nums w sq caq v) (he : E0 w) :
    Calls Tryd.prog 19 #[.slice sp N cap, .slice sq M caq] w fun e w' => e = .returned (.tuple #[.int .i64 (dotR row v), .int .i64 (dotE row v)]) ∧ Below w.heap.size w w' := by
  have hMm : M ≤ 9223372036854775807 := by rw [← hM]; exact hv.len
  have HA := Lib.hid (areSame_any _ _ 2 2 [row, v] rfl (vecs_new2 w _ rfl sp sq cap caq N M row v hN hM hr hv))
  have HW := Lib.hid (fun W (hb : Below w.heap.size w W) => weights_any W sp cap N row hN (hr.below hb))
  have HC := Lib.hid (fun W g (hg : g = W.heap.size) (hb : Below w.heap.size w W) => check_any _ _ 1 1 [v] rfl (vecs_new1 W g hg sq caq M v hM (hv.below hb)))
  have b0 : Below w.heap.size w (w.alloc (.cells #[.slice sp N cap, .slice sq M caq] 22)) := (Below.refl w.heap.size w).alloc (Nat.le_refl _) _
  have HB0 := Lib.hid b0
  clear b0
  simp only [chkL1] at HC
  by_cases hs : N = M
  · subst hs
    rw [show decide (sameL [row, v]) = true by simp only [decide_eq_true_eq]; exact (sameL2 _ _).2 (by omega)] at HA
    by_cases hc : 1 ≤ (N : Int) ∧ (N : Int) ≤ 64
    · have hok : dotOk row v := ⟨by omega, by omega, by omega⟩
      have HT : Hid (cnt N 64 = true) := Lib.hid (cnt_yes hc)
      by_cases hw : ∀ x ∈ row, isW x
      · rw [wE_yes hw] at HW
        by_cases hx : ∀ x ∈ v, isN x
        · have hv0 : chkV v = 0 := by unfold chkV; rw [if_neg (by omega), if_pos hx]
          rw [hv0] at HC
          have HR : Hid (dotR row v = orNil (rnd (dotS row v)) ∧ dotE row v = over (rnd (dotS row v))) := Lib.hid (by
            unfold dotR dotE
            rw [if_pos ⟨hok, hw, hx⟩, if_neg (fun h => h hok), if_pos ⟨hw, hx⟩]
            exact ⟨rfl, rfl⟩)
          rw [HR.out.1, HR.out.2]
          have hf := far_dot ⟨hw, hx⟩ (by omega)
          have HS := Lib.hid (fun W (hb : Below w.heap.size w W) => scaled_any W sp sq cap caq N row v hN hM (hr.below hb) (hv.below hb) hf (he.below hb))
          obtain ⟨A, hA⟩ : ∃ A, orNil (rnd (dotS row v)) = A := ⟨_, rfl⟩
          obtain ⟨B, hB⟩ : ∃ B, over (rnd (dotS row v)) = B := ⟨_, rfl⟩
          rw [hA, hB] at HS ⊢
          clear hr hv hN hM hf HR hw hx hv0 hok hc hA hB he
          go_enter Tryd.func19, Tryd.ntmps19
          go_wp2_with fail
          refine HA.out.mono ?_
          rintro e w' ⟨rfl, rfl⟩
          go_wp2_with fail
          refine (count_any _ _ _).mono ?_
          rintro e w' ⟨rfl, rfl⟩
          rw [HT.out]
          go_wp2_with fail
          refine (HW.out _ HB0.out).mono ?_
          rintro e w' ⟨rfl, rfl⟩
          go_wp2_with fail
          refine (HC.out _ _ (by simp) HB0.out).mono ?_
          rintro e w1 ⟨rfl, hb1⟩
          have HB1 := Lib.hid ((HB0.out.alloc HB0.out.size (.cells #[.slice sq N caq] 22)).trans (hb1.mono (by simp; omega)))
          clear hb1
          go_wp2_with fail
          refine (HS.out _ HB1.out).mono ?_
          rintro e w2 ⟨rfl, hb2⟩
          have HB2 := Lib.hid (HB1.out.trans (hb2.mono HB1.out.size))
          clear hb2
          go_wp2
          go_ret2
          exact ⟨rfl, HB2.out⟩
        · have hv0 : chkV v = 10 := by unfold chkV; rw [if_neg (by omega), if_neg hx]
          rw [hv0] at HC
          have HR : Hid (dotR row v = 0 ∧ dotE row v = 10) := Lib.hid (by
            unfold dotR dotE
            rw [if_neg (fun h => hx h.2.2), if_neg (fun h => h hok), if_neg (fun h => hx h.2)]
            exact ⟨rfl, rfl⟩)
          rw [HR.out.1, HR.out.2]
          clear hr hv hN hM HR hw hx hv0 hok hc he
          go_enter Tryd.func19, Tryd.ntmps19
          go_wp2_with fail
          refine HA.out.mono ?_
          rintro e w' ⟨rfl, rfl⟩
          go_wp2_with fail
          refine (count_any _ _ _).mono ?_
          rintro e w' ⟨rfl, rfl⟩
          rw [HT.out]
          go_wp2_with fail
          refine (HW.out _ HB0.out).mono ?_
          rintro e w' ⟨rfl, rfl⟩
          go_wp2_with fail
          refine (HC.out _ _ (by simp) HB0.out).mono ?_
          rintro e w1 ⟨rfl, hb1⟩
          have HB1 := Lib.hid ((HB0.out.alloc HB0.out.size (.cells #[.slice sq N caq] 22)).trans (hb1.mono (by simp; omega)))
          clear hb1
          go_wp2
          go_ret2
          exact ⟨rfl, HB1.out⟩
      · rw [wE_no hw] at HW
        have HR : Hid (dotR row v = 0 ∧ dotE row v = 10) := Lib.hid (by
          unfold dotR dotE
          rw [if_neg (fun h => hw h.2.1), if_neg (fun h => h hok), if_neg (fun h => hw h.1)]
          exact ⟨rfl, rfl⟩)
        rw [HR.out.1, HR.out.2]
        clear hr hv hN hM HR hw hok hc he
        go_enter Tryd.func19, Tryd.ntmps19
        go_wp2_with fail
        refine HA.out.mono ?_
        rintro e w' ⟨rfl, rfl⟩
        go_wp2_with fail
        refine (count_any _ _ _).mono ?_
        rintro e w' ⟨rfl, rfl⟩
        rw [HT.out]
        go_wp2_with fail
        refine (HW.out _ HB0.out).mono ?_
        rintro e w' ⟨rfl, rfl⟩
        go_wp2
        go_ret2
        exact ⟨rfl, HB0.out⟩
    · have HT : Hid (cnt N 64 = false) := Lib.hid (cnt_no hc)
      have HR : Hid (dotR row v = 0 ∧ dotE row v = 13) := Lib.hid (by
        have hok : ¬ dotOk row v := fun h => hc (by unfold dotOk at h; omega)
        unfold dotR dotE
        rw [if_neg (fun h => hok h.1), if_pos hok]
        exact ⟨rfl, rfl⟩)
      rw [HR.out.1, HR.out.2]
      clear hr hv hN hM HR hc he
      go_enter Tryd.func19, Tryd.ntmps19
      go_wp2_with fail
      refine HA.out.mono ?_
      rintro e w' ⟨rfl, rfl⟩
      go_wp2_with fail
      refine (count_any _ _ _).mono ?_
      rintro e w' ⟨rfl, rfl⟩
      rw [HT.out]
      go_wp2
      go_ret2
      exact ⟨rfl, HB0.out⟩
  · rw [show decide (sameL [row, v]) = false by simp only [decide_eq_false_iff_not, sameL2]; omega] at HA
    have HR : Hid (dotR row v = 0 ∧ dotE row v = 13) := Lib.hid (by
      have hok : ¬ dotOk row v := fun h => hs (by unfold dotOk at h; omega)
      unfold dotR dotE
      rw [if_neg (fun h => hok h.1), if_pos hok]
      exact ⟨rfl, rfl⟩)
    rw [HR.out.1, HR.out.2]
    clear hr hv hN hM HR hs he
    go_enter Tryd.func19, Tryd.ntmps19
    go_wp2_with fail
    refine HA.out.mono ?_
    rintro e w' ⟨rfl, rfl⟩
    go_wp2
    go_ret2
    exact ⟨rfl, HB0.out⟩
theorem chkM_size {r c : Int} {l : List Int} (h : ¬ sizeM r c l.length) : chkM r c l = 13 := by unfold chkM; rw [if_pos h]
theorem chkM_w {r c : Int} {l : List Int} (h : sizeM r c l.length) : chkM r c l = wE l := by unfold chkM wE; rw [if_neg (fun hh => hh h)]
set_option maxHeartbeats 4000000 in
theorem mcheck_any (w : World) (r c : Int) (sp : Option Addr) (cap N : Nat) (l : List Int) (hN : l.length = N) (hl : Nums w sp cap l) : Calls Tryd.prog 15 #[matV r c sp N cap] w fun e w' => e = .returned (.int .i64 (chkM r c l)) ∧ Below w.heap.size w w' := by
  have hNm : N ≤ 9223372036854775807 := by rw [← hN]; exact hl.len
  have HL := Lib.hid hl
  have HN := Lib.hid hN
  unfold matV
  by_cases k1 : 1 ≤ r ∧ r ≤ 512
  · have HT1 : Hid (cnt r 512 = true) := Lib.hid (cnt_yes k1)
    by_cases k2 : 1 ≤ c ∧ c ≤ 64
    · have HT2 : Hid (cnt c 64 = true) := Lib.hid (cnt_yes k2)
      obtain ⟨hrc1, hrc2⟩ := mul_rc k1 k2
      by_cases k3 : (N : Int) = r * c
      · have HM := Lib.hid (chkM_w (r := r) (c := c) (l := l) (by rw [hN]; exact ⟨k1.1, k1.2, k2.1, k2.2, k3⟩))
        rw [HM.out]
        have e5 : ((N : Int) != r * c) = false := by simp [k3]
        have HW := Lib.hid (fun W (hb : Below w.heap.size w W) => weights_any W sp cap N l hN (hl.below hb))
        obtain ⟨R, hR⟩ : ∃ R, wE l = R := ⟨_, rfl⟩
        rw [hR] at HW ⊢
        clear hl hN k1 k2 k3 hR HM
        go_enter Tryd.func15, Tryd.ntmps15
        go_upto_region 1 with fail
        refine gen_world (Q := fun w => Code.wp _ _ _ _ w) _ (MatAt w r c sp N cap) (MatAt.made w r c sp N cap _ rfl) ?_
        intro W hW
        have HB0 := Lib.hid hW.below
        have c0 := hW.c0
        have c1 := hW.c1
        have c2 := hW.c2
        clear hW
        go_wp2_with fail
        refine (count_any _ _ _).mono ?_
        rintro e w' ⟨rfl, rfl⟩
        rw [HT1.out]
        go_wp2_with fail
        refine (count_any _ _ _).mono ?_
        rintro e w' ⟨rfl, rfl⟩
        rw [HT2.out]
        go_wp2_with fail
        refine (HW.out _ HB0.out).mono ?_
        rintro e w' ⟨rfl, rfl⟩
        go_wp2
        go_ret
        exact ⟨rfl, HB0.out⟩
      · have HM := Lib.hid (chkM_size (r := r) (c := c) (l := l) (by rw [hN]; exact fun h => k3 h.2.2.2.2))
        rw [HM.out]
        have e5 : ((N : Int) != r * c) = true := by simpa using k3
        clear hl hN k1 k2 k3 HM
        go_enter Tryd.func15, Tryd.ntmps15
        go_upto_region 1 with fail
        refine gen_world (Q := fun w => Code.wp _ _ _ _ w) _ (MatAt w r c sp N cap) (MatAt.made w r c sp N cap _ rfl) ?_
        intro W hW
        have HB0 := Lib.hid hW.below
        have c0 := hW.c0
        have c1 := hW.c1
        have c2 := hW.c2
        clear hW
        go_wp2_with fail
        refine (count_any _ _ _).mono ?_
        rintro e w' ⟨rfl, rfl⟩
        rw [HT1.out]
        go_wp2_with fail
        refine (count_any _ _ _).mono ?_
        rintro e w' ⟨rfl, rfl⟩
        rw [HT2.out]
        go_wp2
        go_ret
        exact ⟨rfl, HB0.out⟩
    · have HT2 : Hid (cnt c 64 = false) := Lib.hid (cnt_no k2)
      have HM := Lib.hid (chkM_size (r := r) (c := c) (l := l) (fun h => k2 ⟨h.2.2.1, h.2.2.2.1⟩))
      rw [HM.out]
      clear hl hN k1 k2 HM
      go_enter Tryd.func15, Tryd.ntmps15
      go_upto_region 1 with fail
      refine gen_world (Q := fun w => Code.wp _ _ _ _ w) _ (MatAt w r c sp N cap) (MatAt.made w r c sp N cap _ rfl) ?_
      intro W hW
      have HB0 := Lib.hid hW.below
      have c0 := hW.c0
      have c1 := hW.c1
      have c2 := hW.c2
      clear hW
      go_wp2_with fail
      refine (count_any _ _ _).mono ?_
      rintro e w' ⟨rfl, rfl⟩
      rw [HT1.out]
      go_wp2_with fail
      refine (count_any _ _ _).mono ?_
      rintro e w' ⟨rfl, rfl⟩
      rw [HT2.out]
      go_wp2
      go_ret
      exact ⟨rfl, HB0.out⟩
  · have HT1 : Hid (cnt r 512 = false) := Lib.hid (cnt_no k1)
    have HM := Lib.hid (chkM_size (r := r) (c := c) (l := l) (fun h => k1 ⟨h.1, h.2.1⟩))
    rw [HM.out]
    clear hl hN k1 HM
    go_enter Tryd.func15, Tryd.ntmps15
    go_upto_region 1 with fail
    refine gen_world (Q := fun w => Code.wp _ _ _ _ w) _ (MatAt w r c sp N cap) (MatAt.made w r c sp N cap _ rfl) ?_
    intro W hW
    have HB0 := Lib.hid hW.below
    have c0 := hW.c0
    have c1 := hW.c1
    have c2 := hW.c2
    clear hW
    go_wp2_with fail
    refine (count_any _ _ _).mono ?_
    rintro e w' ⟨rfl, rfl⟩
    rw [HT1.out]
    go_wp2
    go_ret
    exact ⟨rfl, HB0.out⟩
/-- a copy of numbers -/
theorem made_none (w : World) : (w.alloc (.cells #[] 3)).ownsRow w.heap.size 3 1 (.slice (some ⟨w.heap.size, 0, none⟩) 0 0) 0 [] := World.ownsRow_made w #[] 0 (Nat.le_refl _) (Nat.zero_le _) rfl
set_option maxHeartbeats 4000000 in
theorem clone_any (w : World) (a : Addr) (cap N : Nat) (l : List Int) (hN : l.length = N) (hl : Nums w (some a) cap l) (hm : N ≤ 100000) :
    Calls Tryd.prog 35 #[.slice (some a) N cap] w (AnsN w l) := by
  have HL := Lib.hid hl
  have HN := Lib.hid hN
  have q22 : ∀ w : World, (binOp .eql 22 (.slice (some a) N cap) (.slice none 0 0)).run Tryd.prog w = .ok (.bool false) w := fun w => Lib.run_eql_slice_nil w _ 3 (some a) N cap 0 0 Tryd.underlying22
  clear hl hN
  go_enter Tryd.func35, Tryd.ntmps35
  go_wp2_with (refine wpList_append_sl 22 3 8 (.int .i64 0) Tryd.underlying22 info3 rfl (by decide) rfl (.tmp 5) (.tmp 6) rfl w.heap.size (.slice (some ⟨w.heap.size, 0, none⟩) 0 0) 0 N [] (l.map (Value.int .i64)) rfl (made_none w) (some a) cap rfl (by rw [List.length_map]; exact HN.out) (HL.out.below ((Below.refl _ _).alloc (Nat.le_refl _) _)) (one_ints l) (by omega) (by simp) ?_; intro v' w' hown hgr; obtain ⟨sv, cv, rfl, _, hnm⟩ := own_nums (l := l) (by simpa using hown); have HNm := Lib.hid hnm; have HB := Lib.hid (((Below.refl w.heap.size w).alloc (Nat.le_refl _) (.cells #[] 3)).trans (Below.ofGrown hgr (by simp) (fun k hk => by simp [Value.ownBlock] at hk; omega))); clear hown hgr hnm)
  go_ret
  refine ⟨sv, cv, ?_, HNm.out, HB.out⟩
  rw [HN.out]
  simp
end Go.Proofs.YtchjijifmjbgoaaDoor.Tn
