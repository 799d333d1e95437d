/- Steps: how many places, cells, layers, heads and rows there are. -/
import Derived.Test.YtdffbjjiojheoaaSd
namespace Go.Proofs.Ytdffbjjiojheoaa.St
set_option maxRecDepth 100000
open Go.ChangeShapes Go.WideShapes Go.ChangeAt Go.RowKit Go.Shelf Go.Proofs.Ytdffbjjiojheoaa.Tn Go.Proofs.Ytdffbjjiojheoaa.Wg
/-- a plan of numbers that are not below 0 -/
structure PlN where
  v : Nat
  d : Nat
  h : Nat
  l : Nat
  x : Nat
  i : Nat
  p : Nat
  m : Nat
  k : Nat
def PlN.c (s : PlN) : Cfg := ⟨s.v, s.d, s.h, s.l, s.x, s.i⟩
def PlN.q (s : PlN) : Pl := ⟨s.c, s.p, s.m, s.k⟩
/-- a plan that may be -/
structure PlN.B (s : PlN) : Prop where
  v : 1 ≤ s.v ∧ s.v ≤ 512
  d : 2 ≤ s.d ∧ s.d ≤ 64
  h : 1 ≤ s.h ∧ s.h ≤ 8
  l : 1 ≤ s.l ∧ s.l ≤ 4
  x : 1 ≤ s.x ∧ s.x ≤ 64
  i : 1 ≤ s.i ∧ s.i ≤ 64
  p : 1 ≤ s.p
  m : 1 ≤ s.m
  pm : s.p + s.m ≤ s.x
  k : 1 ≤ s.k ∧ s.k ≤ s.v
  chk : s.c.chk = 0
theorem pl_ok {q : Pl} (h : q.chk = 0) : ∃ s : PlN, q = s.q ∧ s.B := by
  have h0 : q.c.chk = 0 := by
    unfold Pl.chk at h
    by_cases hc : q.c.chk = 0
    · exact hc
    · rw [if_pos hc] at h; exact absurd h hc
  unfold Pl.chk at h
  rw [if_neg (by omega)] at h
  unfold mchk at h
  rw [if_neg (by omega), List.length_replicate] at h
  obtain ⟨h1, h2, h3, h4, h5, h6⟩ := Cfg.ok_of_chk h0
  have hn : (q.n : Int) = min (max q.p 0) q.c.x := by unfold Pl.n; omega
  by_cases a1 : q.n = 0 ∨ q.m < 1
  · rw [if_pos a1] at h; omega
  rw [if_neg a1] at h
  by_cases a2 : q.c.x - (q.n : Int) < q.m
  · rw [if_pos a2] at h; omega
  rw [if_neg a2] at h
  by_cases a3 : (∃ t ∈ List.replicate q.n (0 : Int), t < 0 ∨ q.c.v ≤ t) ∨ q.k < 1 ∨ q.c.v < q.k
  · rw [if_pos a3] at h; omega
  have a4 : ¬ (q.k < 1 ∨ q.c.v < q.k) := fun h => a3 (Or.inr h)
  obtain ⟨⟨v, d, hh, l, x, i⟩, p, m, k⟩ := q
  dsimp only at *
  refine ⟨⟨v.toNat, d.toNat, hh.toNat, l.toNat, x.toNat, i.toNat, p.toNat, m.toNat, k.toNat⟩, ?_, ?_⟩
  · unfold PlN.q PlN.c
    dsimp only
    rw [Int.toNat_of_nonneg (by omega), Int.toNat_of_nonneg (by omega), Int.toNat_of_nonneg (by omega), Int.toNat_of_nonneg (by omega), Int.toNat_of_nonneg (by omega), Int.toNat_of_nonneg (by omega), Int.toNat_of_nonneg (by omega), Int.toNat_of_nonneg (by omega), Int.toNat_of_nonneg (by omega)]
  · refine ⟨?_, ?_, ?_, ?_, ?_, ?_, ?_, ?_, ?_, ?_, ?_⟩
    all_goals first
      | (dsimp only; omega)
      | (unfold PlN.c; dsimp only; rw [Int.toNat_of_nonneg (by omega), Int.toNat_of_nonneg (by omega), Int.toNat_of_nonneg (by omega), Int.toNat_of_nonneg (by omega), Int.toNat_of_nonneg (by omega), Int.toNat_of_nonneg (by omega)]; exact h0)
theorem pl_ok_iff {s : PlN} (h : s.B) : s.q.chk = 0 := by
  have hn : s.q.n = s.p := by have := h.pm; have := h.m; unfold Pl.n PlN.q PlN.c; dsimp only; omega
  unfold Pl.chk
  have hc : s.q.c.chk = 0 := h.chk
  rw [if_neg (by omega)]
  unfold mchk
  rw [if_neg (by omega), List.length_replicate, hn, if_neg (by have := h.p; have := h.m; simp only [PlN.q]; omega), if_neg (by have := h.pm; simp only [PlN.q, PlN.c]; omega), if_neg]
  rintro (⟨t, h1, h2⟩ | h1 | h1)
  · rw [List.eq_of_mem_replicate h1] at h2
    have := h.v
    simp only [PlN.q, PlN.c] at h2
    omega
  · have := h.k; simp only [PlN.q] at h1; omega
  · have := h.k; simp only [PlN.q, PlN.c] at h1; omega
/-- how many places -/
def PlN.t (s : PlN) : Nat := s.p + s.m - 1
theorem PlN.B.t {s : PlN} (h : s.B) : 1 ≤ s.t ∧ s.t ≤ 63 := by have := h.p; have := h.m; have := h.pm; have := h.x; unfold PlN.t; omega
def PlN.key (s : PlN) (y a : Nat) : Nat := 12 + 2 * (y * s.t + a)
def PlN.cells (s : PlN) : Nat := 12 + 2 * (s.l * s.t)
def PlN.size (s : PlN) (c : Int) : Nat := if c = 0 then 1 + s.p + s.m else if c = 7 then s.t else if c = 8 ∨ c = 9 then s.i else if c = 11 then s.v else s.d
def PlN.rows (s : PlN) (k a : Int) : Nat := if k = 3 ∨ k = 4 ∨ k = 5 ∨ k = 12 ∨ k = 19 then s.d else if k = 15 ∨ k = 17 then s.i else if k = 9 then a.toNat + 1 else if k = 22 then s.v else if k = 23 ∧ a < s.p - 1 then 0 else 1
theorem isPlace_any (w : World) (n m : Int) : Calls Try.prog 44 #[.int .i64 n, .int .i64 m] w fun e w' => e = .returned (.bool (decide (0 ≤ n ∧ n < m))) ∧ w' = w := by
  by_cases h1 : 0 ≤ n
  · have d1 : decide (0 ≤ n) = true := by simpa using h1
    by_cases h2 : n < m
    · have d2 : decide (n < m) = true := by simpa using h2
      have e : decide (0 ≤ n ∧ n < m) = true := by simp [h1, h2]
      rw [e]
      clear h1 h2 e
      go_enter Try.func44, Try.ntmps44
      go_wp2
      go_ret
      exact ⟨rfl, rfl⟩
    · have d2 : decide (n < m) = false := by simpa using h2
      have e : decide (0 ≤ n ∧ n < m) = false := by simp [h2]
      rw [e]
      clear h1 h2 e
      go_enter Try.func44, Try.ntmps44
      go_wp2
      go_ret
      exact ⟨rfl, rfl⟩
  · have d1 : decide (0 ≤ n) = false := by simpa using h1
    have e : decide (0 ≤ n ∧ n < m) = false := by simp [h1]
    rw [e]
    clear h1 e
    go_enter Try.func44, Try.ntmps44
    go_wp2
    go_ret
    exact ⟨rfl, rfl⟩
theorem places_any (w : World) (s : PlN) (hs : s.B) : Calls Try.prog 39 #[.agg s.q.cells] w fun e w' => e = .returned (.int .i64 (s.t : Int)) ∧ Below w.heap.size w w' := by
  obtain ⟨T, hT⟩ : ∃ T, s.t = T := ⟨_, rfl⟩
  have h1 := hs.p
  have h2 := hs.m
  have h3 := hs.pm
  have h4 := hs.x.2
  rw [hT]
  obtain ⟨V, D, H, L, X, I, P, M, K⟩ := s
  dsimp only at h1 h2 h3 h4
  unfold PlN.t at hT
  dsimp only at hT
  unfold PlN.q PlN.c Pl.cells
  dsimp only
  have w1 : wrap64 ((P : Int) + (M : Int)) = (P : Int) + (M : Int) := by unfold wrap64; omega
  have w1' : IntKind.i64.wrap ((P : Int) + (M : Int)) = (P : Int) + (M : Int) := IntWalk.i64_in _ (by omega)
  have w2 : wrap64 ((P : Int) + (M : Int) - 1) = (T : Int) := by unfold wrap64; omega
  have w2' : IntKind.i64.wrap ((P : Int) + (M : Int) - 1) = (T : Int) := by rw [IntWalk.i64_in _ (by omega)]; omega
  clear h1 h2 h3 h4 hs hT
  go_enter Try.func39, Try.ntmps39
  go_wp2
  go_ret
  exact ⟨rfl, (Below.refl _ _).alloc (Nat.le_refl _) _⟩
/-- the box of a plan, opened -/
theorem pl_cells {W : World} {g : Nat} {q : Pl} (h : W.heap[g]? = some (.cells q.cells 40 (0, 0))) : W.cell? ⟨g, 0, none⟩ = some (.int .i64 q.c.v) ∧ W.cell? ⟨g, 1, none⟩ = some (.int .i64 q.c.d) ∧ W.cell? ⟨g, 2, none⟩ = some (.int .i64 q.c.h) ∧ W.cell? ⟨g, 3, none⟩ = some (.int .i64 q.c.l) ∧ W.cell? ⟨g, 4, none⟩ = some (.int .i64 q.c.x) ∧ W.cell? ⟨g, 5, none⟩ = some (.int .i64 q.c.i) ∧ W.cell? ⟨g, 6, none⟩ = some (.int .i64 q.p) ∧ W.cell? ⟨g, 7, none⟩ = some (.int .i64 q.m) ∧ W.cell? ⟨g, 8, none⟩ = some (.int .i64 q.k) := by
  refine ⟨?_, ?_, ?_, ?_, ?_, ?_, ?_, ?_, ?_⟩ <;> (rw [cell_of_row _ _ _ _ _ _ h]; rfl)
theorem key_any (w : World) (s : PlN) (hs : s.B) (y a : Nat) (hy : y ≤ 4) (ha : a ≤ 64) : Calls Try.prog 60 #[.agg s.q.cells, .int .i64 (y : Int), .int .i64 (a : Int)] w fun e w' => e = .returned (.int .i64 (s.key y a : Int)) ∧ Below w.heap.size w w' := by
  have HP := Lib.hid (fun W => places_any W s hs)
  have HM := Lib.hid (PlI.made w s.q)
  obtain ⟨T, hT⟩ : ∃ T, s.t = T := ⟨_, rfl⟩
  have hT2 := hs.t.2
  unfold PlN.key
  rw [hT] at hT2 HP ⊢
  obtain ⟨z, hz⟩ : ∃ z, y * T = z := ⟨_, rfl⟩
  have hz2 : z ≤ 4 * 63 := by rw [← hz]; exact Nat.mul_le_mul hy hT2
  have hzi : (y : Int) * (T : Int) = (z : Int) := by rw [← hz]; exact (Int.natCast_mul y T).symm
  have w1 : wrap64 ((y : Int) * (T : Int)) = (z : Int) := by rw [hzi]; unfold wrap64; omega
  have w1' : IntKind.i64.wrap ((y : Int) * (T : Int)) = (z : Int) := by rw [hzi]; exact IntWalk.i64_in _ (by omega)
  have w2 : wrap64 ((z : Int) + (a : Int)) = (z : Int) + (a : Int) := by unfold wrap64; omega
  have w2' : IntKind.i64.wrap ((z : Int) + (a : Int)) = (z : Int) + (a : Int) := IntWalk.i64_in _ (by omega)
  have w3 : wrap64 (2 * ((z : Int) + (a : Int))) = 2 * ((z : Int) + (a : Int)) := by unfold wrap64; omega
  have w3' : IntKind.i64.wrap (2 * ((z : Int) + (a : Int))) = 2 * ((z : Int) + (a : Int)) := IntWalk.i64_in _ (by omega)
  have w4 : wrap64 (12 + 2 * ((z : Int) + (a : Int))) = ((12 + 2 * (z + a) : Nat) : Int) := by unfold wrap64; omega
  have w4' : IntKind.i64.wrap (12 + 2 * ((z : Int) + (a : Int))) = ((12 + 2 * (z + a) : Nat) : Int) := by rw [IntWalk.i64_in _ (by omega)]; omega
  rw [hz]
  obtain ⟨R, hR⟩ : ∃ R, 12 + 2 * (z + a) = R := ⟨_, rfl⟩
  rw [hR] at w4 w4' ⊢
  clear hs hT hT2 hz hz2 hzi hR hy ha
  go_enter Try.func60, Try.ntmps60
  go_upto_region 1 with fail
  refine Mk.genM (Q := fun w => Code.wp _ _ _ _ w) _ (PlI w s.q) HM.out ?_
  clear HM
  intro w5 hx
  have HI := Lib.hid hx
  clear hx
  go_wp2_with (first
    | (refine Mk.wpList_vl rfl _ (exec_pl (.tmp 3) rfl w.heap.size rfl s.q HI.out.row) ?_)
    | (go_at_call 39; refine (HP.out _).mono ?_; rintro e w6 ⟨rfl, hb6⟩; have HI6 := Lib.hid (HI.out.later hb6); clear hb6))
  go_ret
  exact ⟨rfl, HI6.out.below⟩
theorem value_any (w : World) (s : PlN) (hs : s.B) (y a : Nat) (hy : y ≤ 4) (ha : a ≤ 64) : Calls Try.prog 64 #[.agg s.q.cells, .int .i64 (y : Int), .int .i64 (a : Int)] w fun e w' => e = .returned (.int .i64 ((s.key y a + 1 : Nat) : Int)) ∧ Below w.heap.size w w' := by
  have HK := Lib.hid (fun W => key_any W s hs y a hy ha)
  have HM := Lib.hid (PlI.made w s.q)
  obtain ⟨z, hz⟩ : ∃ z, s.key y a = z := ⟨_, rfl⟩
  have hz2 : z ≤ 1000 := by
    rw [← hz]
    have h1 : y * s.t ≤ 4 * 63 := Nat.mul_le_mul hy hs.t.2
    unfold PlN.key; omega
  rw [hz] at HK ⊢
  have w2 : wrap64 ((z : Int) + 1) = ((z + 1 : Nat) : Int) := by unfold wrap64; omega
  have w2' : IntKind.i64.wrap ((z : Int) + 1) = ((z + 1 : Nat) : Int) := by rw [IntWalk.i64_in _ (by omega)]; omega
  obtain ⟨R, hR⟩ : ∃ R, z + 1 = R := ⟨_, rfl⟩
  rw [hR] at w2 w2' ⊢
  clear hs hz hz2 hR hy ha
  go_enter Try.func64, Try.ntmps64
  go_upto_region 1 with fail
  refine Mk.genM (Q := fun w => Code.wp _ _ _ _ w) _ (PlI w s.q) HM.out ?_
  clear HM
  intro w5 hx
  have HI := Lib.hid hx
  clear hx
  go_wp2_with (first
    | (refine Mk.wpList_vl rfl _ (exec_pl (.tmp 3) rfl w.heap.size rfl s.q HI.out.row) ?_)
    | (go_at_call 60; refine (HK.out _).mono ?_; rintro e w6 ⟨rfl, hb6⟩; have HI6 := Lib.hid (HI.out.later hb6); clear hb6))
  go_ret
  exact ⟨rfl, HI6.out.below⟩
theorem cells_any (w : World) (s : PlN) (hs : s.B) : Calls Try.prog 40 #[.agg s.q.cells] w fun e w' => e = .returned (.int .i64 (s.cells : Int)) ∧ Below w.heap.size w w' := by
  have HK := Lib.hid (fun W => key_any W s hs s.l 0 hs.l.2 (by omega))
  have HM := Lib.hid (PlI.made w s.q)
  have hz : s.key s.l 0 = s.cells := rfl
  rw [hz] at HK
  clear hs hz
  go_enter Try.func40, Try.ntmps40
  go_upto_region 1 with fail
  refine Mk.genM (Q := fun w => Code.wp _ _ _ _ w) _ (PlI w s.q) HM.out ?_
  clear HM
  intro w5 hx
  have HI := Lib.hid hx
  obtain ⟨c0, c1, c2, c3, c4, c5, c6, c7, c8⟩ := hx.cells
  replace c3 : w5.cell? ⟨w.heap.size, 3, none⟩ = some (.int .i64 (s.l : Int)) := c3
  clear hx c0 c1 c2 c4 c5 c6 c7 c8
  go_wp2_with (first
    | (refine Mk.wpList_vl rfl _ (exec_pl (.tmp 1) rfl w.heap.size rfl s.q HI.out.row) ?_)
    | (go_at_call 60; refine (HK.out _).mono ?_; rintro e w6 ⟨rfl, hb6⟩; have HI6 := Lib.hid (HI.out.later hb6); clear hb6))
  go_ret
  exact ⟨rfl, HI6.out.below⟩
theorem Places_no (w : World) (q : Pl) (hq : q.chk ≠ 0) : Calls Try.prog 13 #[.agg q.cells] w fun e w' => e = .returned (.int .i64 0) ∧ Below w.heap.size w w' := by
  have HK := Lib.hid (fun W => pchk_any W q)
  have HM := Lib.hid (PlI.made w q)
  obtain ⟨E, hE⟩ : ∃ z, q.chk = z := ⟨_, rfl⟩
  rw [hE] at HK hq
  have n1 : (E == 0) = false := by simpa using hq
  have n2 : (E != 0) = true := by simpa using hq
  clear hE hq
  go_enter Try.func13, Try.ntmps13
  go_upto_region 1 with fail
  refine Mk.genM (Q := fun w => Code.wp _ _ _ _ w) _ (PlI w q) HM.out ?_
  clear HM
  intro w5 hx
  have HI := Lib.hid hx
  clear hx
  go_wp2_with (first
    | (refine Mk.wpList_vl rfl _ (exec_pl (.tmp 1) rfl w.heap.size rfl q HI.out.row) ?_)
    | (go_at_call 11; refine (HK.out _).mono ?_; rintro e w6 ⟨rfl, hb6⟩; have HI6 := Lib.hid (HI.out.later hb6); clear hb6))
  go_ret
  exact ⟨rfl, HI6.out.below⟩
theorem Places_yes (w : World) (s : PlN) (hs : s.B) : Calls Try.prog 13 #[.agg s.q.cells] w fun e w' => e = .returned (.int .i64 (s.t : Int)) ∧ Below w.heap.size w w' := by
  have HK := Lib.hid (fun W => pchk_any W s.q)
  have HP := Lib.hid (fun W => places_any W s hs)
  have HM := Lib.hid (PlI.made w s.q)
  rw [pl_ok_iff hs] at HK
  clear hs
  go_enter Try.func13, Try.ntmps13
  go_upto_region 1 with fail
  refine Mk.genM (Q := fun w => Code.wp _ _ _ _ w) _ (PlI w s.q) HM.out ?_
  clear HM
  intro w5 hx
  have HI := Lib.hid hx
  clear hx
  go_upto_region 3 with (first
    | (refine Mk.wpList_vl rfl _ (exec_pl (.tmp 1) rfl w.heap.size rfl s.q HI.out.row) ?_)
    | (go_at_call 11; refine (HK.out _).mono ?_; rintro e w6 ⟨rfl, hb6⟩; have HI6 := Lib.hid (HI.out.later hb6); clear hb6))
  go_wp2_with (first
    | (refine Mk.wpList_vl rfl _ (exec_pl (.tmp 1) rfl w.heap.size rfl s.q HI6.out.row) ?_)
    | (go_at_call 39; refine (HP.out _).mono ?_; rintro e w7 ⟨rfl, hb7⟩; have HI7 := Lib.hid (HI6.out.later hb7); clear hb7))
  go_ret
  exact ⟨rfl, HI7.out.below⟩
end Go.Proofs.Ytdffbjjiojheoaa.St
