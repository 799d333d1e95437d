import Derived.Test.YtdffbjjiojheoaaBt
namespace Go.Proofs.Ytdffbjjiojheoaa.Wg
set_option maxRecDepth 100000
open Go.ChangeShapes Go.WideShapes Go.ChangeAt Go.RowKit Go.Proofs.Ytdffbjjiojheoaa.Tn

/-! ### models: sizes, parts, places -/
/-- the sizes of a model -/
structure Cfg where
  v : Int
  d : Int
  h : Int
  l : Int
  x : Int
  i : Int
/-- what is wrong with sizes -/
def Cfg.bad (c : Cfg) : Prop := c.v < 1 ∨ 512 < c.v ∨ c.d < 2 ∨ 64 < c.d ∨ c.h < 1 ∨ 8 < c.h ∨ c.l < 1 ∨ 4 < c.l ∨ c.x < 1 ∨ 64 < c.x ∨ c.i < 1 ∨ 64 < c.i
instance (c : Cfg) : Decidable c.bad := by unfold Cfg.bad; infer_instance
def Cfg.chk (c : Cfg) : Int := if c.bad then 10 else if c.d.tmod (2 * c.h) ≠ 0 then 13 else 0
/-- a part with all its rows: kind, layer, rows, columns -/
structure Bl where
  k : Nat
  y : Nat
  r : Nat
  c : Nat
deriving DecidableEq
/-- is a kind a vector's? -/
def isVec (k : Nat) : Bool := k == 2 || k == 7 || k == 11
/-- the parts of one layer -/
def layB (d i y : Nat) : List Bl := [⟨2, y, 1, d⟩, ⟨3, y, d, d⟩, ⟨4, y, d, d⟩, ⟨5, y, d, d⟩, ⟨6, y, d, d⟩, ⟨7, y, 1, d⟩, ⟨8, y, i, d⟩, ⟨9, y, i, d⟩, ⟨10, y, d, i⟩]
/-- those of so many layers -/
def laysB (d i : Nat) : Nat → List Bl
  | 0 => []
  | l + 1 => laysB d i l ++ layB d i l
/-- all parts -/
def blks (v d l i : Nat) : List Bl := ⟨1, 0, v, d⟩ :: (laysB d i l ++ [⟨11, 0, 1, d⟩, ⟨12, 0, v, d⟩])
def Cfg.blks (c : Cfg) : List Bl := Wg.blks c.v.toNat c.d.toNat c.l.toNat c.i.toNat
/-- how many rows parts have -/
def rowsB (l : List Bl) : Nat := (l.map (·.r)).sum
/-- the place of a row behind so many; -1: there is none -/
def plcB (k y r : Int) : Nat → List Bl → Int
  | _, [] => -1
  | n, b :: l => if (b.k : Int) = k ∧ (b.y : Int) = y then (if r < 0 ∨ (b.r : Int) ≤ r then -1 else (n : Int) + r) else plcB k y r (n + b.r) l
theorem layB_length (d i y : Nat) : (layB d i y).length = 9 := rfl
theorem laysB_length (d i : Nat) : ∀ l, (laysB d i l).length = 9 * l
  | 0 => rfl
  | l + 1 => by rw [laysB, List.length_append, laysB_length d i l, layB_length]; omega
theorem blks_length (v d l i : Nat) : (blks v d l i).length = 9 * l + 3 := by
  unfold blks
  simp [laysB_length]
theorem laysB_rows (d i : Nat) : ∀ l, rowsB (laysB d i l) = l * (2 + 5 * d + 2 * i)
  | 0 => by simp [laysB, rowsB]
  | l + 1 => by
    have h := laysB_rows d i l
    unfold rowsB at h ⊢
    rw [laysB, List.map_append, List.sum_append, h, Nat.add_mul]
    simp [layB]
    omega
theorem rowsB_take_le (l : List Bl) (k : Nat) : rowsB (l.take k) ≤ rowsB l := by
  unfold rowsB
  induction l generalizing k with
  | nil => simp
  | cons b l ih =>
    cases k with
    | zero => simp
    | succ k => simp only [List.take_succ_cons, List.map_cons, List.sum_cons]; have := ih k; omega
theorem rowsB_snoc (l : List Bl) (b : Bl) : rowsB (l ++ [b]) = rowsB l + b.r := by simp [rowsB]
theorem blks_rows (v d l i : Nat) : rowsB (blks v d l i) = 2 * v + 1 + l * (2 + 5 * d + 2 * i) := by
  have h := laysB_rows d i l
  unfold rowsB at h ⊢
  simp only [blks, List.map_cons, List.map_append, List.sum_cons, List.sum_append, h]
  simp
  omega
theorem laysB_at (d i : Nat) : ∀ (l y j : Nat), y < l → j < 9 → (laysB d i l)[9 * y + j]? = (layB d i y)[j]?
  | 0, y, j, h, _ => absurd h (by omega)
  | l + 1, y, j, h, hj => by
    rw [laysB]
    by_cases hy : y < l
    · rw [List.getElem?_append_left (by rw [laysB_length]; omega)]
      exact laysB_at d i l y j hy hj
    · obtain rfl : y = l := by omega
      rw [List.getElem?_append_right (by rw [laysB_length]; omega), laysB_length]
      congr 1
      omega
theorem blks_lay (v d l i : Nat) {y j : Nat} (hy : y < l) (hj : j < 9) : (blks v d l i)[1 + 9 * y + j]? = (layB d i y)[j]? := by
  unfold blks
  rw [show 1 + 9 * y + j = (9 * y + j) + 1 by omega, List.getElem?_cons_succ, List.getElem?_append_left (by rw [laysB_length]; omega)]
  exact laysB_at d i l y j hy hj
theorem blks_norm (v d l i : Nat) : (blks v d l i)[1 + 9 * l]? = some ⟨11, 0, 1, d⟩ := by
  unfold blks
  rw [show 1 + 9 * l = 9 * l + 1 by omega, List.getElem?_cons_succ, List.getElem?_append_right (by rw [laysB_length]; omega), laysB_length]
  simp
theorem blks_out (v d l i : Nat) : (blks v d l i)[1 + 9 * l + 1]? = some ⟨12, 0, v, d⟩ := by
  unfold blks
  rw [show 1 + 9 * l + 1 = (9 * l + 1) + 1 by omega, List.getElem?_cons_succ, List.getElem?_append_right (by rw [laysB_length]; omega), laysB_length]
  simp
/-- sizes that may be -/
structure Cfg.Ok (c : Cfg) : Prop where
  v : 1 ≤ c.v ∧ c.v ≤ 512
  d : 2 ≤ c.d ∧ c.d ≤ 64
  h : 1 ≤ c.h ∧ c.h ≤ 8
  l : 1 ≤ c.l ∧ c.l ≤ 4
  x : 1 ≤ c.x ∧ c.x ≤ 64
  i : 1 ≤ c.i ∧ c.i ≤ 64
theorem Cfg.ok_of {c : Cfg} (h : ¬ c.bad) : c.Ok := by
  unfold Cfg.bad at h
  exact ⟨by omega, by omega, by omega, by omega, by omega, by omega⟩
theorem Cfg.ok_of_chk {c : Cfg} (h : c.chk = 0) : c.Ok := by
  unfold Cfg.chk at h
  by_cases hb : c.bad
  · rw [if_pos hb] at h; omega
  · exact Cfg.ok_of hb
theorem Cfg.chk_cases (c : Cfg) : c.chk = 0 ∨ c.chk = 10 ∨ c.chk = 13 := by
  unfold Cfg.chk
  split
  · simp
  · split <;> simp
theorem Cfg.rows_le {c : Cfg} (h : c.Ok) : rowsB c.blks ≤ 2900 := by
  have h1 := h.v; have h2 := h.d; have h3 := h.l; have h4 := h.i
  unfold Cfg.blks
  rw [blks_rows]
  have e : c.l.toNat * (2 + 5 * c.d.toNat + 2 * c.i.toNat) ≤ 4 * (2 + 5 * 64 + 2 * 64) := Nat.mul_le_mul (by omega) (by omega)
  omega
/-- a model's sizes as a value -/
def Cfg.cells (c : Cfg) : Array Value := #[.int .i64 c.v, .int .i64 c.d, .int .i64 c.h, .int .i64 c.l, .int .i64 c.x, .int .i64 c.i]
theorem plcB_step {k y r : Int} {n : Nat} {b : Bl} {l : List Bl} (h : ¬ ((b.k : Int) = k ∧ (b.y : Int) = y)) : plcB k y r n (b :: l) = plcB k y r (n + b.r) l := by rw [plcB, if_neg h]
theorem plcB_no {k y r : Int} {n : Nat} {b : Bl} {l : List Bl} (h : (b.k : Int) = k ∧ (b.y : Int) = y) (hr : r < 0 ∨ (b.r : Int) ≤ r) : plcB k y r n (b :: l) = -1 := by rw [plcB, if_pos h, if_pos hr]
theorem plcB_yes {k y r : Int} {n : Nat} {b : Bl} {l : List Bl} (h : (b.k : Int) = k ∧ (b.y : Int) = y) (hr : ¬ (r < 0 ∨ (b.r : Int) ≤ r)) : plcB k y r n (b :: l) = (n : Int) + r := by rw [plcB, if_pos h, if_neg hr]
theorem plcB_range {k y r : Int} : ∀ (l : List Bl) (n : Nat), plcB k y r n l = -1 ∨ ((n : Int) ≤ plcB k y r n l ∧ plcB k y r n l < (n + rowsB l : Nat))
  | [], n => Or.inl rfl
  | b :: l, n => by
    rw [plcB]
    by_cases h : (b.k : Int) = k ∧ (b.y : Int) = y
    · rw [if_pos h]
      by_cases hr : r < 0 ∨ (b.r : Int) ≤ r
      · rw [if_pos hr]; exact Or.inl rfl
      · rw [if_neg hr]; refine Or.inr ?_; simp [rowsB]; omega
    · rw [if_neg h]
      rcases plcB_range l (n + b.r) with h1 | h1
      · exact Or.inl h1
      · refine Or.inr ?_
        simp only [rowsB, List.map_cons, List.sum_cons] at h1 ⊢
        omega
end Go.Proofs.Ytdffbjjiojheoaa.Wg
