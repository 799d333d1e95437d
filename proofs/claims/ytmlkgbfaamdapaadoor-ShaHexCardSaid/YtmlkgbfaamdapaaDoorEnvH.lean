import Derived.Test.YtmlkgbfaamdapaaDoorEnvL
import Derived.Test.YtmlkgbfaamdapaaDoorHxW
import Derived.ChangeMaps5
namespace Go.Proofs.YtmlkgbfaamdapaaDoor
open Go.ChangeShapes Go.WideShapes Go.ChangeAt Go.RowKit

theorem cells25 : Tryd.prog.cellsOf 25 = 32 := by kernel_rfl
/-- a digest that came in -/
theorem open_digest {H : Type} {enc : TypeId × Value → H} {W : World} {base : Nat} {v : Value} {d : DataW H} {p : List MemPlace} (hv : Value.okWide Tryd.prog W .any base 25 v) (h : DataW.Trod enc Tryd.prog W 0 (fun _ => true) true 25 v d p) :
    ∃ l : List Int, v = .agg (rowB l) ∧ l.length = 32 ∧ Byt l := by
  simp only [Value.okWide, Tryd.underlying25] at hv
  obtain ⟨cs, rfl, hsz, _⟩ := hv
  rw [cells25] at hsz
  obtain ⟨fuel, hf⟩ := h
  obtain ⟨xs, m, _, _, hl, hxl, hx⟩ := DataW.trod_array Tryd.underlying25 hf
  have key : ∀ i (hi : i < cs.size), ∃ z : Int, cs[i] = .int .u8 z ∧ 0 ≤ z ∧ z < 256 := by
    intro i hi
    have h1 := hx i (by omega)
    rw [cells5, Nat.mul_one] at h1
    have h2 : ((Value.agg cs).cells.toList.drop i).take 1 = [cs[i]] := by
      have : (Value.agg cs).cells = cs := rfl
      rw [this, List.drop_eq_getElem_cons (by simpa using hi)]
      simp
    rw [h2] at h1
    have h3 : xs[i]? = some (xs[i]'(by omega)) := List.getElem?_eq_getElem (by omega)
    rw [h3] at h1
    obtain ⟨z, hc, _, hw⟩ := DataW.trod_int Tryd.underlying5 h1
    simp only [List.cons.injEq, and_true] at hc
    have hb : 0 ≤ z ∧ z ≤ 255 := bounds_u8 hw
    exact ⟨z, hc, by omega, by omega⟩
  refine ⟨cs.toList.map intOf, ?_, by simpa using hsz, ?_⟩
  · congr 1
    apply Array.ext'
    apply List.ext_getElem
    · simp [rowB]
    · intro i h1 h2
      have hi : i < cs.size := by simpa using h1
      obtain ⟨z, hz, _⟩ := key i hi
      simp [rowB, hz, intOf]
  · intro i
    by_cases hi : i < cs.size
    · obtain ⟨z, hz, h0, h1⟩ := key i hi
      have e : (cs.toList.map intOf).getD i 0 = z := by simp [hi, hz, intOf]
      rw [e]
      exact ⟨h0, h1⟩
    · have e : (cs.toList.map intOf).getD i 0 = 0 := by
        rw [List.getD_eq_getElem?_getD, List.getElem?_eq_none (by simp; omega)]
        rfl
      rw [e]
      omega
end Go.Proofs.YtmlkgbfaamdapaaDoor
