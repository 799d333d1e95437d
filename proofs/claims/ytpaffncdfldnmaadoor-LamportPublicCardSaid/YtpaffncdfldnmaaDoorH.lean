import Derived.Test.YtpaffncdfldnmaaDoorG
import Derived.Deep.DeepCutAuto
import Derived.Lib.SlBytesConst
namespace Go.Proofs.YtpaffncdfldnmaaDoor
open Go.ChangeShapes Go.WideShapes Go.ChangeAt Go.RowKit

theorem Bytes.nil (w : World) : Bytes w none 0 [] := ⟨Nat.le_refl _, by unfold maxLen; omega, fun h => absurd h (by simp)⟩
/-- a digest in a new block -/
theorem Fl.made {w w1 : World} (hb : Below w.heap.size w w1) (X : Array Value) (l : List Int) (t : TypeId) : Fl w w1.heap.size t l ((w1.alloc (.cells X t)).setRow w1.heap.size (rowB l)) :=
  ⟨below_setRow (hb.alloc hb.size _) hb.size _, hb.size, setRow_heap _ _ _ _ _ _ (heap_alloc_new _ _)⟩
theorem row_sum (l : List Int) : (Tryd.prog.info? 23).map (·.size) = some (rowB (sum l)).size := by rw [rowB_size, sum_length]; exact size25
theorem row_zero (l : List Int) : 32 = (rowB (sum l)).size := by rw [rowB_size, sum_length]

theorem Fl.at {w wr : World} {g : Nat} {t : TypeId} {l : List Int} (h : Fl w g t l wr) (i : Nat) (x : Int) (hi : i < l.length) (hx : l.getD i 0 = x) : wr.cell? ⟨g, i, none⟩ = some (.int .u8 x) := by
  rw [← hx]; exact h.cell i hi
theorem Fl.later {w wr w' : World} {g : Nat} {t : TypeId} {l : List Int} (h : Fl w g t l wr) (hb : Below wr.heap.size wr w') : Fl w g t l w' :=
  ⟨h.below.trans (hb.mono h.below.size), h.ge, (hb.block g (Array.getElem?_eq_some_iff.1 h.row).1).trans h.row⟩

theorem Bytes.abc (w : World) (fr : Nat × Nat) : Bytes (w.alloc (.cells #[.int .u8 97, .int .u8 98, .int .u8 99] 5 fr)) (some ⟨w.heap.size, 0, none⟩) 3 [97, 98, 99] := by
  refine ⟨Nat.le_refl _, by unfold maxLen; omega, fun _ => ⟨_, _, rfl, fun i hi => ?_⟩⟩
  rw [Nat.zero_add, cell_of_row _ _ _ _ _ _ (heap_alloc_new _ _)]
  exact rowB_get [97, 98, 99] i hi

end Go.Proofs.YtpaffncdfldnmaaDoor
