import Derived.Test.YtmlkgbfaamdapaaDoorSj
namespace Go.Proofs.YtmlkgbfaamdapaaDoor
open Go.ChangeShapes Go.WideShapes Go.ChangeAt Go.RowKit

/-- bytes -/
def rng (l : List Int) : Prop := ∀ x ∈ l, 0 ≤ x ∧ x < 256
/-- all are numbers of 32 bits -/
def allW (l : List Int) : Prop := ∀ x ∈ l, W32 x
theorem allW_get {l : List Int} (h : allW l) (i : Nat) (hi : i < l.length) : W32 (l.getD i 0) := h _ (by simp [hi])
theorem rng_get {l : List Int} (h : rng l) (i : Nat) (hi : i < l.length) : 0 ≤ l.getD i 0 ∧ l.getD i 0 < 256 := h _ (by simp [hi])
theorem first_in (l : List Int) (hr : rng l) : ∀ n, 4 * n ≤ l.length → allW (first l n)
  | 0, _ => fun x hx => by cases hx
  | n + 1, h => by
    intro x hx
    rcases List.mem_append.1 hx with hx | hx
    · exact first_in l hr n (by omega) x hx
    · obtain rfl := List.mem_singleton.1 hx
      have b0 := rng_get hr (4 * n) (by omega)
      have b1 := rng_get hr (4 * n + 1) (by omega)
      have b2 := rng_get hr (4 * n + 2) (by omega)
      have b3 := rng_get hr (4 * n + 3) (by omega)
      rw [word_sum _ _ _ _ b0 b1 b2 b3]
      unfold W32
      omega
theorem ext_in (b : List Int) (hb : allW b) : ∀ n, allW (ext b n)
  | 0 => hb
  | n + 1 => by
    intro x hx
    rcases List.mem_append.1 hx with hx | hx
    · exact ext_in b hb n x hx
    · obtain rfl := List.mem_singleton.1 hx
      unfold next W32
      omega
/-- 64 words, those of ws first -/
def padw (ws : List Int) : List Int := ws ++ zs (64 - ws.length)
theorem padw_length (ws : List Int) (h : ws.length ≤ 64) : (padw ws).length = 64 := by simp [padw, zs]; omega
theorem padw_get (ws : List Int) (i : Nat) (h : i < ws.length) : (padw ws).getD i 0 = ws.getD i 0 := by simp [padw, List.getElem?_append, h]
theorem padw_set (ws : List Int) (x : Int) (h : ws.length < 64) : (padw ws).set ws.length x = padw (ws ++ [x]) := by
  unfold padw zs
  rw [List.length_append, List.length_singleton, show 64 - ws.length = (64 - (ws.length + 1)) + 1 by omega, List.replicate_succ, List.set_append_right _ _ (Nat.le_refl _)]
  simp
theorem padw_all (ws : List Int) (h : ws.length = 64) : padw ws = ws := by simp [padw, h, zs]
/-- the world while the words are made -/
structure Bl (w : World) (s : St) (ws : List Int) (wr : World) : Prop where
  below : Below w.heap.size w wr
  box : wr.heap[w.heap.size]? = some (.cells (rowN s.list) 48 (0, 0))
  res : wr.heap[w.heap.size + 1]? = some (.cells (rowN (zs 8)) 48 (0, 0))
  row : wr.heap[w.heap.size + 2]? = some (.cells (rowN (padw ws)) 60 (0, 0))
section
variable {w wr W : World} {s : St} {ws : List Int}
theorem lt_of_row {g : Nat} {o : Obj} (h : wr.heap[g]? = some o) : g < wr.heap.size := (Array.getElem?_eq_some_iff.1 h).1
theorem Bl.next (h : Bl w s ws wr) (hb : Below wr.heap.size wr W) : Bl w s ws W :=
  ⟨h.below.trans (hb.mono h.below.size), (hb.block _ (lt_of_row h.box)).trans h.box, (hb.block _ (lt_of_row h.res)).trans h.res, (hb.block _ (lt_of_row h.row)).trans h.row⟩
theorem Bl.drew (h : Bl w s ws wr) : Bl w s ws wr.drew := h.next (Below.refl _ _).drew
theorem Bl.cell (h : Bl w s ws wr) (hl : ws.length ≤ 64) (i : Nat) (hi : i < ws.length) : wr.cell? ⟨w.heap.size + 2, i, none⟩ = some (.int .i64 (ws.getD i 0)) := by
  rw [cell_of_row _ _ _ _ _ _ h.row, rowN_get _ _ (by rw [padw_length _ hl]; omega), padw_get _ _ hi]
theorem Bl.some (h : Bl w s ws wr) (hl : ws.length ≤ 64) (i : Nat) (hi : i < 64) : wr.cell? ⟨w.heap.size + 2, i, none⟩ = some (.int .i64 ((padw ws).getD i 0)) := by
  rw [cell_of_row _ _ _ _ _ _ h.row, rowN_get _ _ (by rw [padw_length _ hl]; omega)]
theorem Bl.free (h : Bl w s ws wr) (i : Nat) : wr.frozen? ⟨w.heap.size + 2, i, none⟩ = false := frozen_of_row _ _ _ _ _ h.row
theorem Bl.put (h : Bl w s ws wr) (hl : ws.length < 64) (k : Nat) (hk : ws.length = k) (x : Int) : Bl w s (ws ++ [x]) (wr.setCell ⟨w.heap.size + 2, k, none⟩ (.int .i64 x)) := by
  subst hk
  refine ⟨h.below.setCell (by simp) _, ?_, ?_, ?_⟩
  · rw [heap_setCell_other _ _ _ _ (by simp)]; exact h.box
  · rw [heap_setCell_other _ _ _ _ (by simp)]; exact h.res
  · rw [heap_setCell_same _ _ _ _ _ _ h.row, rowN_set, padw_set _ _ hl]
end
/-- the world while the state is turned: the constants lie at gk, the state at gx -/
structure Bx (w : World) (s : St) (ws : List Int) (gk gx : Nat) (l : List Int) (wr : World) : Prop where
  bl : Bl w s ws wr
  k3 : w.heap.size + 2 < gk
  kx : gk < gx
  con : wr.heap[gk]? = some (.cells (rowN kc) 60 (0, 0))
  st : wr.heap[gx]? = some (.cells (rowN l) 48 (0, 0))
section
variable {w wr W : World} {s : St} {ws l : List Int} {gk gx : Nat}
theorem Bx.next (h : Bx w s ws gk gx l wr) (hb : Below wr.heap.size wr W) : Bx w s ws gk gx l W :=
  ⟨h.bl.next hb, h.k3, h.kx, (hb.block _ (lt_of_row h.con)).trans h.con, (hb.block _ (lt_of_row h.st)).trans h.st⟩
theorem Bx.drew (h : Bx w s ws gk gx l wr) : Bx w s ws gk gx l wr.drew := h.next (Below.refl _ _).drew
theorem Bx.cell (h : Bx w s ws gk gx l wr) (i : Nat) (hi : i < l.length) : wr.cell? ⟨gx, i, none⟩ = some (.int .i64 (l.getD i 0)) := by
  rw [cell_of_row _ _ _ _ _ _ h.st, rowN_get _ _ hi]
theorem Bx.kcell (h : Bx w s ws gk gx l wr) (i : Nat) (hi : i < 64) : wr.cell? ⟨gk, i, none⟩ = some (.int .i64 (kc.getD i 0)) := by
  rw [cell_of_row _ _ _ _ _ _ h.con, rowN_get _ _ hi]
theorem Bx.free (h : Bx w s ws gk gx l wr) (i : Nat) : wr.frozen? ⟨gx, i, none⟩ = false := frozen_of_row _ _ _ _ _ h.st
theorem Bx.put (h : Bx w s ws gk gx l wr) (i : Nat) (x : Int) : Bx w s ws gk gx (l.set i x) (wr.setCell ⟨gx, i, none⟩ (.int .i64 x)) := by
  have h1 := h.k3
  have h2 := h.kx
  refine ⟨⟨h.bl.below.setCell (by simp only; omega) _, ?_, ?_, ?_⟩, h1, h2, ?_, ?_⟩
  · rw [heap_setCell_other _ _ _ _ (by simp only; omega)]; exact h.bl.box
  · rw [heap_setCell_other _ _ _ _ (by simp only; omega)]; exact h.bl.res
  · rw [heap_setCell_other _ _ _ _ (by simp only; omega)]; exact h.bl.row
  · rw [heap_setCell_other _ _ _ _ (by simp only; omega)]; exact h.con
  · rw [heap_setCell_same _ _ _ _ _ _ h.st, rowN_set]
theorem Bx.store (h : Bx w s ws gk gx l wr) (l' : List Int) : Bx w s ws gk gx l' (wr.setRow gx (rowN l')) := by
  have h1 := h.k3
  have h2 := h.kx
  refine ⟨⟨below_setRow h.bl.below (by omega) _, ?_, ?_, ?_⟩, h1, h2, ?_, ?_⟩
  · rw [setRow_other _ _ _ _ (by omega)]; exact h.bl.box
  · rw [setRow_other _ _ _ _ (by omega)]; exact h.bl.res
  · rw [setRow_other _ _ _ _ (by omega)]; exact h.bl.row
  · rw [setRow_other _ _ _ _ (by omega)]; exact h.con
  · exact setRow_heap _ _ _ _ _ _ h.st
end
/-- a state of numbers of 32 bits -/
def StW (s : St) : Prop := allW s.list
theorem step_in (s : St) (k x : Int) (h : StW s) : StW (s.step k x) := by
  intro y hy
  have m : ∀ z : Int, W32 (z % 4294967296) := fun z => by unfold W32; omega
  simp only [St.step, St.list, List.mem_cons, List.not_mem_nil, or_false] at hy
  rcases hy with rfl | rfl | rfl | rfl | rfl | rfl | rfl | rfl
  · exact m _
  · exact h _ (by simp [St.list])
  · exact h _ (by simp [St.list])
  · exact h _ (by simp [St.list])
  · exact m _
  · exact h _ (by simp [St.list])
  · exact h _ (by simp [St.list])
  · exact h _ (by simp [St.list])
theorem rounds_in (s : St) (ws : List Int) (h : StW s) : ∀ n, StW (s.rounds ws n)
  | 0 => h
  | n + 1 => step_in _ _ _ (rounds_in s ws h n)
theorem plus_in (s x : St) : StW (s.plus x) := by
  intro y hy
  have m : ∀ z : Int, W32 (z % 4294967296) := fun z => by unfold W32; omega
  simp only [St.plus, St.list, List.mem_cons, List.not_mem_nil, or_false] at hy
  rcases hy with rfl | rfl | rfl | rfl | rfl | rfl | rfl | rfl <;> exact m _
theorem turn_in (s : St) (l : List Int) : StW (s.turn l) := plus_in _ _
theorem kc_in : allW kc := by unfold allW W32; decide
/-- the reference adds the other way round -/
theorem mix_swap (x s : St) : mix x.list s.list 8 = (s.plus x).list := by
  rw [mix_all]
  simp only [St.plus, St.list, Int.add_comm]
end Go.Proofs.YtmlkgbfaamdapaaDoor
