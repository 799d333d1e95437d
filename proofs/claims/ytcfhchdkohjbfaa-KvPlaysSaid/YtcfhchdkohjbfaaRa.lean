/- Pools of rows in pages: the document's pool of the law's, as long as it has no row. -/
import Derived.Test.YtcfhchdkohjbfaaLe
namespace Go.Proofs.Ytcfhchdkohjbfaa.Kv
set_option maxRecDepth 100000
open Go.ChangeShapes Go.WideShapes Go.ChangeAt Go.RowKit Go.Proofs.Ytcfhchdkohjbfaa.Tn
/-- the document's pool, without rows -/
def Fresh (w : World) (r : Nat) (p s : Int) : Prop := w.heap[r]? = some (.cells #[.slice none 0 0, .int .i64 p, .int .i64 s] 32 (0, 0))
theorem Fresh.cells {w : World} {r : Nat} {p s : Int} (h : Fresh w r p s) : w.cell? ⟨r, 0, none⟩ = some (.slice none 0 0) ∧ w.cell? ⟨r, 1, none⟩ = some (.int .i64 p) ∧ w.cell? ⟨r, 2, none⟩ = some (.int .i64 s) := by
  refine ⟨?_, ?_, ?_⟩ <;> (rw [cell_of_row _ _ _ _ _ _ h]; rfl)
section
variable {w : World} {r : Nat} {p s : Int}
theorem right_fresh (h : Fresh w r p s) (id : Int) : Calls Try.prog 38 #[.pointer (some ⟨r, 0, none⟩), .int .i64 id] w fun e w' => e = .returned (.bool false) ∧ w = w' := by
  obtain ⟨c0, _, _⟩ := h.cells
  clear h
  by_cases h0 : 0 ≤ id
  · have d0 : decide (0 ≤ id) = true := by simpa using h0
    have d1 : decide (id < 0) = false := by simp; omega
    go_enter Try.func38, Try.ntmps38
    go_wp2
    go_ret
    exact ⟨rfl, rfl⟩
  · have d0 : decide (0 ≤ id) = false := by simpa using h0
    go_enter Try.func38, Try.ntmps38
    go_wp2
    go_ret
    exact ⟨rfl, rfl⟩
theorem append_fresh (h : Fresh w r p s) (id x : Int) : Calls Try.prog 35 #[.pointer (some ⟨r, 0, none⟩), .int .i64 id, .int .i64 x] w fun e w' => e = .returned (.int .i64 14) ∧ w = w' := by
  have H := Lib.hid h
  clear h
  go_enter Try.func35, Try.ntmps35
  go_wp2_with fail
  refine (right_fresh H.out id).mono ?_
  rintro e w1 ⟨rfl, rfl⟩
  go_wp2
  go_ret
  exact ⟨rfl, rfl⟩
theorem share_fresh (h : Fresh w r p s) (id x : Int) : Calls Try.prog 36 #[.pointer (some ⟨r, 0, none⟩), .int .i64 id, .int .i64 x] w fun e w' => e = .returned (.tuple #[.int .i64 0, .int .i64 14]) ∧ w = w' := by
  have H := Lib.hid h
  clear h
  go_enter Try.func36, Try.ntmps36
  go_wp2_with fail
  refine (right_fresh H.out id).mono ?_
  rintro e w1 ⟨rfl, rfl⟩
  go_wp2
  go_ret2
  exact ⟨rfl, rfl⟩
theorem close_fresh (h : Fresh w r p s) (id : Int) : Calls Try.prog 37 #[.pointer (some ⟨r, 0, none⟩), .int .i64 id] w fun e w' => e = .returned (.int .i64 14) ∧ w = w' := by
  have H := Lib.hid h
  clear h
  go_enter Try.func37, Try.ntmps37
  go_wp2_with fail
  refine (right_fresh H.out id).mono ?_
  rintro e w1 ⟨rfl, rfl⟩
  go_wp2
  go_ret
  exact ⟨rfl, rfl⟩
theorem grown_two (w : World) (r : Nat) (v : Value) (O1 O2 : Obj) : w.grownBy (((w.setCell ⟨r, 0, none⟩ v).alloc O1).alloc O2).drew (some r) := by
  refine ⟨rfl, rfl, rfl, ?_, fun k hk hne => ?_⟩
  · show w.heap.size ≤ (((w.setCell ⟨r, 0, none⟩ v).alloc O1).alloc O2).heap.size
    simp
    omega
  · show (((w.setCell ⟨r, 0, none⟩ v).alloc O1).alloc O2).heap[k]? = _
    have h1 : (w.setCell ⟨r, 0, none⟩ v).heap.size = w.heap.size := set_size _ _ _
    rw [alloc_old _ _ _ (by simp; omega), alloc_old _ _ _ (by omega), set_other _ _ _ _ _ (fun e => hne (by rw [e]))]
theorem infoRow : (Try.prog.info? 73).map (fun i => (i.zero, i.size, i.bytes)) = some (some (.agg #[.slice none 0 0, .slice none 0 0, .bool false]), 3, 56) := by kernel_rfl
set_option maxHeartbeats 1000000 in
theorem open_fresh (h : Fresh w r p s) : Calls Try.prog 34 #[.pointer (some ⟨r, 0, none⟩)] w fun e w' => e = .returned (.tuple #[.int .i64 0, .int .i64 0]) ∧ w.grownBy w' (some r) := by
  obtain ⟨c0, _, _⟩ := h.cells
  have H := Lib.hid h
  have f0 := row_frozen (i := 0) h
  have hr := (Array.getElem?_eq_some_iff.1 h).1
  clear h
  go_enter Try.func34, Try.ntmps34
  go_wp2
  go_ret2
  refine ⟨rfl, ?_⟩
  refine grown_two w r _ _ _
end
end Go.Proofs.Ytcfhchdkohjbfaa.Kv
