import Derived.Test.YtkfkjapkcjidnaaOo
namespace Go.Proofs.Ytkfkjapkcjidnaa.Wg
set_option maxRecDepth 100000
open Go.ChangeShapes Go.WideShapes Go.ChangeAt Go.RowKit Go.Shelf Go.Proofs.Ytkfkjapkcjidnaa.Tn
attribute [local go_sem] Oper.semAt_some

/-! ### a part, whichever it is -/
theorem given_partS (w0 w : World) (hw0 : Below w0.heap.size w0 w) (v : Wv) (m : Md) (hv : WvOK w0 v m) (k y : Nat) (hk : (k = 1 ∧ y = 0) ∨ (k = 11 ∧ y = 0) ∨ (k = 12 ∧ y = 0) ∨ (y < v.nl ∧ 2 ≤ k ∧ k ≤ 10)) (a b : Int) (z : Bool) :
    Calls Try.prog 20 #[.agg v.cells, .agg (prC (k : Int) (y : Int) a b z)] w (GivenPostS w0 w v k y (m.part k y) (isVec k)) := by
  unfold Md.part
  rcases hk with ⟨rfl, rfl⟩ | ⟨rfl, rfl⟩ | ⟨rfl, rfl⟩ | ⟨hy, h2, h3⟩
  · rw [if_pos rfl]; exact given_1 w0 w hw0 v m hv 0 a b z
  · rw [if_neg (by decide), if_pos rfl]; exact given_11 w0 w hw0 v m hv 0 a b z
  · rw [if_neg (by decide), if_neg (by decide), if_pos rfl]; exact given_12 w0 w hw0 v m hv 0 a b z
  · rw [if_neg (by omega), if_neg (by omega), if_neg (by omega)]
    obtain rfl | rfl | rfl | rfl | rfl | rfl | rfl | rfl | rfl : k = 2 ∨ k = 3 ∨ k = 4 ∨ k = 5 ∨ k = 6 ∨ k = 7 ∨ k = 8 ∨ k = 9 ∨ k = 10 := by omega
    · exact given_2 w0 w hw0 v m hv y hy a b z
    · exact given_3 w0 w hw0 v m hv y hy a b z
    · exact given_4 w0 w hw0 v m hv y hy a b z
    · exact given_5 w0 w hw0 v m hv y hy a b z
    · exact given_6 w0 w hw0 v m hv y hy a b z
    · exact given_7 w0 w hw0 v m hv y hy a b z
    · exact given_8 w0 w hw0 v m hv y hy a b z
    · exact given_9 w0 w hw0 v m hv y hy a b z
    · exact given_10 w0 w hw0 v m hv y hy a b z
theorem given_part (w0 w : World) (hw0 : Below w0.heap.size w0 w) (v : Wv) (m : Md) (hv : WvOK w0 v m) (k y : Nat) (hk : (k = 1 ∧ y = 0) ∨ (k = 11 ∧ y = 0) ∨ (k = 12 ∧ y = 0) ∨ (y < v.nl ∧ 2 ≤ k ∧ k ≤ 10)) (a b : Int) (z : Bool) :
    Calls Try.prog 20 #[.agg v.cells, .agg (prC (k : Int) (y : Int) a b z)] w (GivenPost w0 w (m.part k y) (isVec k)) :=
  (given_partS w0 w hw0 v m hv k y hk a b z).mono fun _ _ ⟨sp, cap, h1, h2, h3, _⟩ => ⟨sp, cap, h1, h2, h3⟩
end Go.Proofs.Ytkfkjapkcjidnaa.Wg
