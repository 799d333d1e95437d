import Derived.Test.YtpaffncdfldnmaaDoorU
namespace Go.Proofs.YtpaffncdfldnmaaDoor
open Go.RowKit

/-- a row of bytes -/
def rowB (l : List Int) : Array Value := (l.map (Value.int .u8)).toArray
theorem rowB_size (l : List Int) : (rowB l).size = l.length := by simp [rowB]
theorem rowB_get (l : List Int) (i : Nat) (h : i < l.length) : (rowB l)[i]? = some (.int .u8 (l.getD i 0)) := by
  simp [rowB, h, List.getD]
theorem rowB_set (l : List Int) (i : Nat) (x : Int) : (rowB l).setIfInBounds i (.int .u8 x) = rowB (l.set i x) := by
  apply Array.ext'
  simp [rowB]
theorem rowB_one (l : List Int) : (rowB l).all (·.oneCell') = true := by
  simp [rowB, Value.oneCell']

/-- the digest's bytes, those of the first n words -/
def dig (s : List Int) : Nat → List Int
  | 0 => List.replicate 32 0
  | n + 1 => ((((dig s n).set (4 * n) (s.getD n 0 / 16777216 % 256)).set (4 * n + 1) (s.getD n 0 / 65536 % 256)).set (4 * n + 2) (s.getD n 0 / 256 % 256)).set (4 * n + 3) (s.getD n 0 % 256)
theorem dig_length (s : List Int) : ∀ n, (dig s n).length = 32
  | 0 => rfl
  | n + 1 => by simp [dig, dig_length s n]
def St.digest (s : St) : List Int := dig s.list 8

/-- the world while bytes are filled into a new block g: all below w's size is as it was -/
structure Fl (w : World) (g : Nat) (t : TypeId) (l : List Int) (wr : World) : Prop where
  below : Below w.heap.size w wr
  ge : w.heap.size ≤ g
  row : wr.heap[g]? = some (.cells (rowB l) t (0, 0))
theorem Fl.drew {w wr : World} {g : Nat} {t : TypeId} {l : List Int} (h : Fl w g t l wr) : Fl w g t l wr.drew := ⟨h.below.drew, h.ge, h.row⟩
theorem Fl.drewN {w wr : World} {g : Nat} {t : TypeId} {l : List Int} (h : Fl w g t l wr) (n : Nat) : Fl w g t l (wr.drewN n) :=
  ⟨⟨h.below.os, h.below.tape, h.below.output, h.below.size, h.below.block⟩, h.ge, h.row⟩
theorem Fl.put {w wr : World} {g : Nat} {t : TypeId} {l : List Int} (h : Fl w g t l wr) (i : Nat) (x : Int) : Fl w g t (l.set i x) (wr.setCell ⟨g, i, none⟩ (.int .u8 x)) := by
  refine ⟨h.below.setCell h.ge _, h.ge, ?_⟩
  rw [heap_setCell_same _ _ _ _ _ _ h.row, rowB_set]
theorem Fl.cell {w wr : World} {g : Nat} {t : TypeId} {l : List Int} (h : Fl w g t l wr) (i : Nat) (hi : i < l.length) : wr.cell? ⟨g, i, none⟩ = some (.int .u8 (l.getD i 0)) := by
  rw [cell_of_row _ _ _ _ _ _ h.row, rowB_get _ _ hi]
theorem Fl.free {w wr : World} {g : Nat} {t : TypeId} {l : List Int} (h : Fl w g t l wr) (i : Nat) : wr.frozen? ⟨g, i, none⟩ = false := frozen_of_row _ _ _ _ _ h.row

/-- two new blocks: the answer's (at w's size), and g behind it -/
structure Two (w : World) (t : TypeId) (z : List Int) (l : List Int) (t' : TypeId) (wr : World) : Prop where
  fl : Fl w (w.heap.size + 1) t' l wr
  res : wr.heap[w.heap.size]? = some (.cells (rowB z) t (0, 0))
theorem Two.start (w : World) (t t' : TypeId) (z l : List Int) (X Y : Array Value) (hX : X = rowB z) (hY : Y = rowB l) : Two w t z l t' ((w.alloc (.cells X t)).alloc (.cells Y t')) := by
  subst hX hY
  exact ⟨⟨((Below.refl _ _).alloc (Nat.le_refl _) _).alloc (by simp) _, by omega, heap_alloc2_new _ _ _⟩, heap_alloc2_old _ _ _⟩
theorem Two.drew {w wr : World} {t t' : TypeId} {z l : List Int} (h : Two w t z l t' wr) : Two w t z l t' wr.drew := ⟨h.fl.drew, h.res⟩
theorem Two.drewN {w wr : World} {t t' : TypeId} {z l : List Int} (h : Two w t z l t' wr) (n : Nat) : Two w t z l t' (wr.drewN n) := ⟨h.fl.drewN n, h.res⟩
theorem Two.put {w wr : World} {t t' : TypeId} {z l : List Int} (h : Two w t z l t' wr) (i : Nat) (x : Int) : Two w t z (l.set i x) t' (wr.setCell ⟨w.heap.size + 1, i, none⟩ (.int .u8 x)) :=
  ⟨h.fl.put i x, by rw [heap_setCell_other _ _ _ _ (by simp)]; exact h.res⟩
end Go.Proofs.YtpaffncdfldnmaaDoor
