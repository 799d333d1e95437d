import Derived.Test.YtdmgkapclgfljaaWn
namespace Go.Proofs.Ytdmgkapclgfljaa.Wg
set_option maxRecDepth 100000
open Go.ChangeShapes Go.WideShapes Go.ChangeAt Go.RowKit Go.Shelf Go.Proofs.Ytdmgkapclgfljaa.Tn

/-! ### the chapter's example, and the walk of WeightsSizes -/
theorem many_ex (w : World) : Calls Try.prog 11 #[.agg #[.int .i64 3, .int .i64 2, .int .i64 1, .int .i64 1, .int .i64 4, .int .i64 1]] w fun e w' => e = .returned (.tuple #[.int .i64 22, .int .i64 0]) ∧ Below w.heap.size w w' := by
  have h := many_any w ⟨3, 2, 1, 1, 4, 1⟩
  have e : manyV ⟨3, 2, 1, 1, 4, 1⟩ = #[.int .i64 22, .int .i64 0] := by
    have h1 : (⟨3, 2, 1, 1, 4, 1⟩ : Cfg).chk = 0 := by decide
    have h2 : 1 + rowsB (⟨3, 2, 1, 1, 4, 1⟩ : Cfg).blks = 22 := by decide
    unfold manyV
    rw [if_neg (by rw [h1]; decide), h2]
    rfl
  rw [e] at h
  exact h
theorem place_ex (w : World) : Calls Try.prog 12 #[.agg #[.int .i64 3, .int .i64 2, .int .i64 1, .int .i64 1, .int .i64 4, .int .i64 1], .agg #[.int .i64 3, .int .i64 0, .int .i64 1]] w fun e w' => e = .returned (.tuple #[.int .i64 6, .int .i64 0]) ∧ Below w.heap.size w w' := by
  have h := place_any w ⟨3, 2, 1, 1, 4, 1⟩ 3 0 1
  have e : placeV ⟨3, 2, 1, 1, 4, 1⟩ 3 0 1 = (6, 0) := by decide
  rw [e] at h
  exact h
structure Cx (w : World) (W : World) : Prop where
  below : Below w.heap.size w W
  row : W.heap[w.heap.size]? = some (.cells #[.int .i64 3, .int .i64 2, .int .i64 1, .int .i64 1, .int .i64 4, .int .i64 1] 23 (0, 0))
theorem Cx.later {w W W' : World} (h : Cx w W) (hb : Below W.heap.size W W') : Cx w W' := ⟨h.below.trans (hb.mono h.below.size), (hb.block _ (Array.getElem?_eq_some_iff.1 h.row).1).trans h.row⟩
set_option maxHeartbeats 8000000 in
theorem awake_any (w : World) : Calls Try.prog 14 #[] w fun e w' => e = .returned (.bool true) ∧ Below w.heap.size w w' := by
  have HB : Hid (Cx w (w.alloc (.cells #[.int .i64 3, .int .i64 2, .int .i64 1, .int .i64 1, .int .i64 4, .int .i64 1] 23))) := Lib.hid ⟨(Below.refl _ _).alloc (Nat.le_refl _) _, heap_alloc_new _ _⟩
  go_enter Try.func14, Try.ntmps14
  go_upto_region 2 with fail
  refine gen_w (Q := fun w => Code.wp _ _ _ _ w) _ (Cx w) HB.out ?_
  clear HB
  intro w1 hx
  have HX := Lib.hid hx
  have HR := Lib.hid hx.row
  clear hx
  go_wp2_with (first
    | (refine wpList_load_row rfl 23 (.tmp 1) rfl w.heap.size rfl 23 _ (0, 0) _ HR.out Try.underlying23 rfl size_cfg ?_)
    | (refine wpList_load_row rfl 23 (.tmp 1) rfl w.heap.size rfl 23 _ (0, 0) _ HR2.out Try.underlying23 rfl size_cfg ?_)
    | (refine (many_ex w1).mono ?_; rintro e w2 ⟨rfl, hb2⟩; have HX2 := Lib.hid (HX.out.later hb2); have HR2 := Lib.hid HX2.out.row; clear hb2)
    | (refine (place_ex _).mono ?_; rintro e w3 ⟨rfl, hb3⟩; have HX3 := Lib.hid (HX2.out.later hb3); clear hb3))
  go_ret
  exact ⟨rfl, HX3.out.below⟩
/-- the law's boxes -/
structure Sx (w : World) (c : Cfg) (k y r : Int) (g : Nat) (W : World) : Prop where
  below : Below w.heap.size w W
  cf : W.heap[w.heap.size]? = some (.cells c.cells 23 (0, 0))
  pt : W.heap[w.heap.size + 1]? = some (.cells #[.int .i64 k, .int .i64 y, .int .i64 r] 25 (0, 0))
  sz : W.heap[g]? = some (.cells c.cells 27 (0, 0))
theorem Sx.later {w W W' : World} {c : Cfg} {k y r : Int} {g : Nat} (h : Sx w c k y r g W) (hb : Below W.heap.size W W') : Sx w c k y r g W' :=
  ⟨h.below.trans (hb.mono h.below.size), (hb.block _ (Array.getElem?_eq_some_iff.1 h.cf).1).trans h.cf, (hb.block _ (Array.getElem?_eq_some_iff.1 h.pt).1).trans h.pt, (hb.block _ (Array.getElem?_eq_some_iff.1 h.sz).1).trans h.sz⟩
structure Sy (w : World) (c : Cfg) (k y r : Int) (W : World) : Prop where
  below : Below w.heap.size w W
  cf : W.heap[w.heap.size]? = some (.cells c.cells 23 (0, 0))
  pt : W.heap[w.heap.size + 1]? = some (.cells #[.int .i64 k, .int .i64 y, .int .i64 r] 25 (0, 0))
theorem Sy.made (w : World) (c : Cfg) (k y r : Int) : Sy w c k y r ((w.alloc (.cells c.cells 23)).alloc (.cells #[.int .i64 k, .int .i64 y, .int .i64 r] 25)) := by
  refine ⟨((Below.refl _ w).alloc (Nat.le_refl _) _).alloc (by simp) _, ?_, ?_⟩
  · rw [heap_alloc_old _ _ (by simp)]
    exact heap_alloc_new _ _
  · have := heap_alloc_new (w.alloc (.cells c.cells 23)) (.cells #[.int .i64 k, .int .i64 y, .int .i64 r] 25)
    rwa [World.size_alloc] at this
theorem Sy.later {w W W' : World} {c : Cfg} {k y r : Int} (h : Sy w c k y r W) (hb : Below W.heap.size W W') : Sy w c k y r W' :=
  ⟨h.below.trans (hb.mono h.below.size), (hb.block _ (Array.getElem?_eq_some_iff.1 h.cf).1).trans h.cf, (hb.block _ (Array.getElem?_eq_some_iff.1 h.pt).1).trans h.pt⟩
theorem Sy.with {w W : World} {c : Cfg} {k y r : Int} (h : Sy w c k y r W) : Sx w c k y r W.heap.size (W.alloc (.cells c.cells 27)) := by
  have h2 := h.later ((Below.refl _ W).alloc (Nat.le_refl _) (.cells c.cells 27))
  exact ⟨h2.below, h2.cf, h2.pt, heap_alloc_new _ _⟩
theorem Sx.p {w W : World} {c : Cfg} {k y r : Int} {g : Nat} (h : Sx w c k y r g W) : W.cell? ⟨w.heap.size + 1, 0, none⟩ = some (.int .i64 k) ∧ W.cell? ⟨w.heap.size + 1, 1, none⟩ = some (.int .i64 y) ∧ W.cell? ⟨w.heap.size + 1, 2, none⟩ = some (.int .i64 r) := by
  refine ⟨?_, ?_, ?_⟩ <;> · rw [cell_of_row _ _ _ _ _ _ h.pt]; rfl
set_option maxHeartbeats 8000000 in
theorem sizes_walk (w : World) (c : Cfg) (k y r : Int) : Calls Try.prog 3 #[.agg c.cells, .agg #[.int .i64 k, .int .i64 y, .int .i64 r]] w fun e w' => e = .returned (.bool true) ∧ Below w.heap.size w w' := by
  have HB := Lib.hid (Sy.made w c k y r)
  have HZ := Lib.hid (fun W => sizes_any W c)
  have HRc := Lib.hid (fun W => refChk_any W c)
  have HC := Lib.hid (fun W => chk_any W c)
  have HM := Lib.hid (fun W => many_any W c)
  have HP := Lib.hid (fun W => place_any W c k y r)
  unfold Cfg.cells at HB HZ HRc HC HM HP ⊢
  go_enter Try.func3, Try.ntmps3
  go_upto_region 1 with fail
  refine gen_w (Q := fun w => Code.wp _ _ _ _ w) _ (Sy w c k y r) HB.out ?_
  clear HB
  intro w1 hx
  have HX := Lib.hid hx
  obtain ⟨c0, c1, c2, c3, c4, c5⟩ := cfg_cells hx.cf
  clear hx
  go_wp2_with fail
  refine (HZ.out w1).mono ?_
  rintro e w2 ⟨rfl, hb2⟩
  have HX2 := Lib.hid (HX.out.later hb2)
  clear c0 c1 c2 c3 c4 c5 hb2 HX HZ
  go_upto_region 2 with fail
  refine gen_w (Q := fun w => Code.wp _ _ _ _ w) _ (Sx w c k y r w2.heap.size) HX2.out.with ?_
  clear HX2
  obtain ⟨g, hg⟩ : ∃ g, w2.heap.size = g := ⟨_, rfl⟩
  rw [hg]
  clear hg
  intro w3 hx
  have HX := Lib.hid hx
  obtain ⟨s0, s1, s2, s3, s4, s5⟩ := sz_cells hx.sz
  clear hx
  go_wp2_with fail
  refine (HRc.out w3).mono ?_
  rintro e w4 ⟨rfl, hb4⟩
  have HX4 := Lib.hid (HX.out.later hb4)
  obtain ⟨c0, c1, c2, c3, c4, c5⟩ := cfg_cells HX4.out.cf
  clear hb4 HX HRc s0 s1 s2 s3 s4 s5
  go_wp2_with fail
  refine (HM.out w4).mono ?_
  unfold manyV
  rintro e w5 ⟨rfl, hb5⟩
  have HX5 := Lib.hid (HX4.out.later hb5)
  clear c0 c1 c2 c3 c4 c5 hb5 HX4 HM
  by_cases hE : c.chk = 0
  · rw [if_neg (show ¬ c.chk ≠ 0 by omega)]
    have HE := Lib.hid hE
    have hO := Cfg.ok_of_chk hE
    obtain ⟨M, hM⟩ : ∃ M : Nat, 1 + rowsB c.blks = M := ⟨_, rfl⟩
    have HMm := Lib.hid hM
    rw [hM, hE]
    have HPv : Hid (placeV c k y r = if plcB k y r 1 c.blks < 0 then (0, 10) else (plcB k y r 1 c.blks, 0)) := Lib.hid (by unfold placeV; rw [if_neg (show ¬ c.chk ≠ 0 by omega)])
    obtain ⟨c0, c1, c2, c3, c4, c5⟩ := cfg_cells HX5.out.cf
    obtain ⟨p0, p1, p2⟩ := HX5.out.p
    have HO := Lib.hid hO
    clear hM hO
    go_wp2_with fail
    refine (HP.out w5).mono ?_
    rintro e w6 ⟨rfl, hb6⟩
    have HX6 := Lib.hid (HX5.out.later hb6)
    clear c0 c1 c2 c3 c4 c5 p0 p1 p2 hb6 HX5 HP
    obtain ⟨P1, hP1⟩ : ∃ P1, (placeV c k y r).1 = P1 := ⟨_, rfl⟩
    obtain ⟨P2, hP2⟩ : ∃ P2, (placeV c k y r).2 = P2 := ⟨_, rfl⟩
    rw [hP1, hP2]
    have HP1 := Lib.hid hP1
    have HP2 := Lib.hid hP2
    obtain ⟨c0, c1, c2, c3, c4, c5⟩ := cfg_cells HX6.out.cf
    clear hP1 hP2 hE
    go_wp2_with fail
    refine (HC.out w6).mono ?_
    rintro e w7 ⟨rfl, hb7⟩
    have HX7 := Lib.hid (HX6.out.later hb7)
    rw [HE.out]
    clear c0 c1 c2 c3 c4 c5 hb7 HX6 HC
    obtain ⟨s0, s1, s2, s3, s4, s5⟩ := sz_cells HX7.out.sz
    have HRM : Hid (∀ W, Calls Try.prog 15 #[.agg #[.int .i64 c.v, .int .i64 c.d, .int .i64 c.h, .int .i64 c.l, .int .i64 c.x, .int .i64 c.i]] W fun e w' => e = .returned (.int .i64 (M : Int)) ∧ Below W.heap.size W w') := Lib.hid (fun W => by
      have h1 := HO.out
      have h2 := Cfg.rows_le h1
      have h3 := HMm.out
      obtain ⟨V, D, ch, L, cx, I⟩ := c
      obtain ⟨V, rfl⟩ : ∃ n : Nat, V = n := Int.eq_ofNat_of_zero_le (by have := h1.v.1; simp only at this; omega)
      obtain ⟨D, rfl⟩ : ∃ n : Nat, D = n := Int.eq_ofNat_of_zero_le (by have := h1.d.1; simp only at this; omega)
      obtain ⟨L, rfl⟩ : ∃ n : Nat, L = n := Int.eq_ofNat_of_zero_le (by have := h1.l.1; simp only at this; omega)
      obtain ⟨I, rfl⟩ : ∃ n : Nat, I = n := Int.eq_ofNat_of_zero_le (by have := h1.i.1; simp only at this; omega)
      have := refMany_any W V D L I ch cx (by have := h1.l.2; simp only at this; omega) h2
      rw [← h3]
      exact this)
    have HRP : Hid (∀ W, Calls Try.prog 16 #[.agg #[.int .i64 c.v, .int .i64 c.d, .int .i64 c.h, .int .i64 c.l, .int .i64 c.x, .int .i64 c.i], .int .i64 k, .int .i64 y, .int .i64 r] W fun e w' => e = .returned (.int .i64 (plcB k y r 1 c.blks)) ∧ Below W.heap.size W w') := Lib.hid (fun W => by
      have h1 := HO.out
      have h2 := Cfg.rows_le h1
      obtain ⟨V, D, ch, L, cx, I⟩ := c
      obtain ⟨V, rfl⟩ : ∃ n : Nat, V = n := Int.eq_ofNat_of_zero_le (by have := h1.v.1; simp only at this; omega)
      obtain ⟨D, rfl⟩ : ∃ n : Nat, D = n := Int.eq_ofNat_of_zero_le (by have := h1.d.1; simp only at this; omega)
      obtain ⟨L, rfl⟩ : ∃ n : Nat, L = n := Int.eq_ofNat_of_zero_le (by have := h1.l.1; simp only at this; omega)
      obtain ⟨I, rfl⟩ : ∃ n : Nat, I = n := Int.eq_ofNat_of_zero_le (by have := h1.i.1; simp only at this; omega)
      exact refPlace_any W V D L I ch cx k y r (by have := h1.l.2; simp only at this; omega) h2)
    have nM : ((M : Int) == (M : Int)) = true := by simp
    have nM2 : ((M : Int) != (M : Int)) = false := by simp
    go_wp2_with fail
    refine (HRM.out w7).mono ?_
    rintro e w8 ⟨rfl, hb8⟩
    have HX8 := Lib.hid (HX7.out.later hb8)
    clear s0 s1 s2 s3 s4 s5 hb8 HX7 HRM
    obtain ⟨s0, s1, s2, s3, s4, s5⟩ := sz_cells HX8.out.sz
    obtain ⟨p0, p1, p2⟩ := HX8.out.p
    go_wp2_with fail
    refine (HRP.out w8).mono ?_
    rintro e w9 ⟨rfl, hb9⟩
    have HX9 := Lib.hid (HX8.out.later hb9)
    clear s0 s1 s2 s3 s4 s5 p0 p1 p2 hb9 HX8 HRP nM nM2
    obtain ⟨A, hA⟩ : ∃ A, plcB k y r 1 c.blks = A := ⟨_, rfl⟩
    rw [hA] at HPv ⊢
    by_cases hA0 : A < 0
    · have d0 : decide (A < 0) = true := by simpa using hA0
      obtain rfl : P1 = 0 := by rw [← HP1.out, HPv.out, if_pos hA0]
      obtain rfl : P2 = 10 := by rw [← HP2.out, HPv.out, if_pos hA0]
      clear hA hA0
      go_wp2_with fail
      refine (awake_any w9).mono ?_
      rintro e w10 ⟨rfl, hb10⟩
      have HX10 := Lib.hid (HX9.out.later hb10)
      clear hb10
      go_wp2
      go_ret
      exact ⟨rfl, HX10.out.below⟩
    · have d0 : decide (A < 0) = false := by simpa using hA0
      obtain rfl : P1 = A := by rw [← HP1.out, HPv.out, if_neg hA0]
      obtain rfl : P2 = 0 := by rw [← HP2.out, HPv.out, if_neg hA0]
      have nA : (P1 == P1) = true := by simp
      clear hA hA0
      go_wp2_with fail
      refine (awake_any w9).mono ?_
      rintro e w10 ⟨rfl, hb10⟩
      have HX10 := Lib.hid (HX9.out.later hb10)
      clear hb10
      go_wp2
      go_ret
      exact ⟨rfl, HX10.out.below⟩
  · rw [if_pos (show c.chk ≠ 0 from hE)]
    have HPv : Hid (placeV c k y r = (0, c.chk)) := Lib.hid (by unfold placeV; rw [if_pos hE])
    rw [HPv.out] at HP
    obtain ⟨E, hEE⟩ : ∃ E, c.chk = E := ⟨_, rfl⟩
    rw [hEE] at HP HC hE ⊢
    have n1 : (E == 0) = false := by simpa using hE
    have n2 : (E != 0) = true := by simpa using hE
    have n3 : (E == E) = true := by simp
    have n4 : (E != E) = false := by simp
    obtain ⟨c0, c1, c2, c3, c4, c5⟩ := cfg_cells HX5.out.cf
    obtain ⟨p0, p1, p2⟩ := HX5.out.p
    clear hE hEE HPv
    go_wp2_with fail
    refine (HP.out w5).mono ?_
    rintro e w6 ⟨rfl, hb6⟩
    have HX6 := Lib.hid (HX5.out.later hb6)
    clear c0 c1 c2 c3 c4 c5 p0 p1 p2 hb6 HX5 HP
    obtain ⟨c0, c1, c2, c3, c4, c5⟩ := cfg_cells HX6.out.cf
    go_wp2_with fail
    refine (HC.out w6).mono ?_
    rintro e w7 ⟨rfl, hb7⟩
    have HX7 := Lib.hid (HX6.out.later hb7)
    clear c0 c1 c2 c3 c4 c5 hb7 HX6 HC
    go_wp2_with fail
    refine (awake_any w7).mono ?_
    rintro e w8 ⟨rfl, hb8⟩
    have HX8 := Lib.hid (HX7.out.later hb8)
    clear hb8
    go_wp2
    go_ret
    exact ⟨rfl, HX8.out.below⟩
end Go.Proofs.Ytdmgkapclgfljaa.Wg
