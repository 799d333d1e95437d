/- Pools of rows in pages: one operation that came in. -/
import Derived.Test.YtacokklgmhmdeaaEo
namespace Go.Proofs.Ytacokklgmhmdeaa.Kv
set_option maxRecDepth 100000
open Go.Deep Go.ChangeShapes Go.WideShapes Go.ChangeAt Go.RowKit Go.Proofs.Ytacokklgmhmdeaa.Tn
/-- a field that is a whole number, in a struct's cells -/
theorem open_field {H : Type} {enc : TypeId × Value → H} {W : World} {n : Nat} {fs : Array Field} {cs : List Value} {xs : List (DataW H × List MemPlace)} (hl : xs.length = fs.size)
    (hat : ∀ (i : Nat) (f : Field), fs[i]? = some f → DataW.trod enc Try.prog W 0 (fun _ => true) true n f.type ((cs.drop f.offset).take (Try.prog.cellsOf f.type)) = xs[i]?) (i : Nat) {f : Field} (hf : fs[i]? = some f) (ht : f.type = 3) :
    ∃ z : Int, cs[f.offset]? = some (.int .i64 z) ∧ -9223372036854775808 ≤ z ∧ z ≤ 9223372036854775807 := by
  have h := hat i f hf
  have hi : i < xs.length := by rw [hl]; exact (Array.getElem?_eq_some_iff.1 hf).1
  rw [List.getElem?_eq_getElem hi, ht, cells3] at h
  obtain ⟨z, hz, _, hw0⟩ := DataW.trod_int Try.underlying3 h
  have hw := int_wfT hw0
  refine ⟨z, ?_, hw⟩
  have h2 : ((cs.drop f.offset).take 1)[0]? = some (.int .i64 z) := by rw [hz]; rfl
  rw [List.getElem?_take, if_pos (by omega), List.getElem?_drop] at h2
  simpa using h2
theorem open_op {H : Type} {enc : TypeId × Value → H} {W : World} {base : Nat} {v : Value} {d : DataW H} {p : List MemPlace} (hv : Value.okWide Try.prog W .any base 35 v) (h : DataW.Trod enc Try.prog W 0 (fun _ => true) true 35 v d p) :
    ∃ a i m : Int, v = .agg #[.int .i64 a, .int .i64 i, .int .i64 m] ∧ (-9223372036854775808 ≤ m ∧ m ≤ 9223372036854775807) := by
  obtain ⟨cs, rfl, hsz⟩ := okWide_struct Try.underlying35 hv
  obtain ⟨fuel, hf⟩ := h
  obtain ⟨xs, n, _, _, hlen, hxl, hat⟩ := DataW.trod_struct Try.underlying35 hf
  obtain ⟨z0, h0, _⟩ := open_field hxl hat 0 rfl rfl
  obtain ⟨z1, h1, _⟩ := open_field hxl hat 1 rfl rfl
  obtain ⟨z2, h2, hr⟩ := open_field hxl hat 2 rfl rfl
  have hs : cs.size = 3 := hsz.trans cellsOp
  obtain ⟨l⟩ := cs
  replace h0 : l[0]? = some _ := h0
  replace h1 : l[1]? = some _ := h1
  replace h2 : l[2]? = some _ := h2
  replace hs : l.length = 3 := hs
  rcases l with _ | ⟨a0, _ | ⟨a1, _ | ⟨a2, _ | ⟨a3, l⟩⟩⟩⟩ <;> simp at hs
  simp at h0 h1 h2
  subst h0 h1 h2
  exact ⟨z0, z1, z2, rfl, hr⟩
end Go.Proofs.Ytacokklgmhmdeaa.Kv
