import Derived.Test.YtkfkjapkcjidnaaEa
namespace Go.Proofs.Ytkfkjapkcjidnaa.Wg
set_option maxRecDepth 100000
open Go.Deep Go.ChangeShapes Go.WideShapes Go.ChangeAt Go.RowKit Go.Proofs.Ytkfkjapkcjidnaa.Tn

/-! ### what came in: two numbers -/
theorem cellsTwo : Try.prog.cellsOf 54 = 2 := by kernel_rfl
set_option maxRecDepth 100000 in
/-- two numbers that came in -/
theorem open_two {H : Type} {enc : TypeId × Value → H} {W : World} {base : Nat} {v : Value} {d : DataW H} {p : List MemPlace} (hv : Value.okWide Try.prog W .any base 54 v) (h : DataW.Trod enc Try.prog W 0 (fun _ => true) true 54 v d p) :
    ∃ x y : Int, v = .agg #[.int .i64 x, .int .i64 y] ∧ (-9223372036854775808 ≤ x ∧ x ≤ 9223372036854775807) ∧ (-9223372036854775808 ≤ y ∧ y ≤ 9223372036854775807) := by
  simp only [Value.okWide, Try.underlying54] at hv
  obtain ⟨cs, rfl, hsz, _⟩ := hv
  rw [cellsTwo] at hsz
  obtain ⟨fuel, hf⟩ := h
  obtain ⟨xs, m, _, _, hl, hxl, hx⟩ := DataW.trod_array Try.underlying54 hf
  have key : ∀ i (hi : i < cs.size), ∃ z : Int, cs[i] = .int .i64 z ∧ -9223372036854775808 ≤ z ∧ z ≤ 9223372036854775807 := by
    intro i hi
    have h1 := hx i (by omega)
    rw [cells3, Nat.mul_one] at h1
    have h2 : ((Value.agg cs).cells.toList.drop i).take 1 = [cs[i]] := by
      have : (Value.agg cs).cells = cs := rfl
      rw [this, List.drop_eq_getElem_cons (by simpa using hi)]
      simp
    rw [h2] at h1
    have h3 : xs[i]? = some (xs[i]'(by omega)) := List.getElem?_eq_getElem (by omega)
    rw [h3] at h1
    obtain ⟨z, hc, hw⟩ := open_int1T h1
    exact ⟨z, by simpa using hc, hw⟩
  obtain ⟨x, hx0, hx1⟩ := key 0 (by omega)
  obtain ⟨y, hy0, hy1⟩ := key 1 (by omega)
  refine ⟨x, y, ?_, hx1, hy1⟩
  congr 1
  apply Array.ext
  · simpa using hsz
  · intro i h1 h2
    have hi : i < 2 := by simpa using h2
    rcases i with _ | _ | i
    · simpa using hx0
    · simpa using hy0
    · omega
end Go.Proofs.Ytkfkjapkcjidnaa.Wg
