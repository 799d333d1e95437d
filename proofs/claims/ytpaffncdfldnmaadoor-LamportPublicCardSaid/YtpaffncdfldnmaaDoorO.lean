import Derived.Test.YtpaffncdfldnmaaDoorM
namespace Go.Proofs.YtpaffncdfldnmaaDoor
open Go.ChangeShapes Go.WideShapes Go.ChangeAt Go.RowKit

def newRow : Array Value := rowSt start.list (tailRow (zs 64) 0)
theorem new_built : (Tryd.prog.built 90 [(0, .agg (rowSt start.list #[]))]) = some newRow := by kernel_rfl
theorem new_any (w : World) (he : Env w) : Calls Tryd.prog 42 #[] w fun e w' => e = .returned (.pointer (some ⟨w.heap.size, 0, none⟩)) ∧ w' = w.alloc (.cells newRow 90) := by
  obtain ⟨t0, fr0, hst⟩ := he.start
  have HS := Lib.hid hst
  have HZ0 := Lib.hid (show (Tryd.prog.info? 48).map (·.size) = some (rowSt start.list #[]).size from size45)
  clear he hst
  go_enter Tryd.func42, Tryd.ntmps42
  go_wp2_with (first
    | (refine wpList_load_row rfl 48 (.global 0) rfl 0 rfl t0 (rowSt start.list #[]) fr0 _ HS.out Tryd.underlying48 rfl HZ0.out ?_)
    | (refine wpList_build rfl 90 #[(0, .tmp 1)] rfl (by kernel_rfl) ?_))
  rw [new_built]
  go_ret
  exact ⟨rfl, rfl⟩
theorem HashAt.new (w : World) : HashAt (w.alloc (.cells newRow 90)) w.heap.size [] :=
  ⟨zs 64, rfl, rfl, heap_alloc_new _ _⟩
theorem HashAt.later {w w' : World} {p : Nat} {l : List Int} (h : HashAt w p l) (hb : Below w.heap.size w w') : HashAt w' p l := by
  obtain ⟨T, h1, h2, h3⟩ := h
  exact ⟨T, h1, h2, (hb.block p (Array.getElem?_eq_some_iff.1 h3).1).trans h3⟩
theorem eq_sum (l : List Int) (w : World) : (binOp .eql 23 (.agg (rowB (sum l))) (.agg (rowB (sum l)))).run Tryd.prog w = .ok (.bool true) w := by
  rw [run_eql_row (P := Tryd.prog) 23 5 32 .u8 Tryd.underlying23 Tryd.underlying5 size5 (sum l) (sum l) (sum_length l) (sum_length l) w]
  simp
end Go.Proofs.YtpaffncdfldnmaaDoor
