import Derived.Test.YtdffbjjiojheoaaWa
import Derived.ChangeMaps5
import Derived.Deep.DeepHandedRow
import Derived.Deep.Slices
import Derived.Deep.Fields
import Derived.Deep.MidRow
import Derived.ChangeSame
import Derived.Lib.SmallJoins
import Derived.Lib.LaidTab
import Derived.Carry
import Derived.Lay
import Derived.Stop.LaidErr
namespace Go.Proofs.Ytdffbjjiojheoaa.Wg
set_option maxRecDepth 100000
open Go.Deep Go.ChangeShapes Go.WideShapes Go.ChangeAt Go.RowKit Go.Proofs.Ytdffbjjiojheoaa.Tn

/-! ### what came in: sizes, parts -/
theorem own : ownKnob Try.prog.godebug = none := by kernel_rfl
theorem laidOut : laidOutB Try.prog = true := by kernel_rfl
theorem cells3 : Try.prog.cellsOf 3 = 1 := by kernel_rfl
theorem int_wfT {n : Int} (h : (Lit.int .i64 n).wf = true) : -9223372036854775808 ≤ n ∧ n ≤ 9223372036854775807 := by
  simp [Lit.wf, IntKind.min, IntKind.max, IntKind.bits, IntKind.signed] at h
  omega
theorem open_int1T {H : Type} {enc : TypeId × Value → H} {W : World} {fuel : Nat} {cs : List Value} {x : DataW H × List MemPlace} (hf : DataW.trod enc Try.prog W 0 (fun _ => true) true fuel 3 cs = some x) : ∃ n : Int, cs = [.int .i64 n] ∧ -9223372036854775808 ≤ n ∧ n ≤ 9223372036854775807 := by
  obtain ⟨z, hc, _, hw⟩ := DataW.trod_int Try.underlying3 hf
  exact ⟨z, hc, int_wfT hw⟩
/-- a field that is a whole number, in a struct's cells -/
theorem open_field {H : Type} {enc : TypeId × Value → H} {W : World} {n : Nat} {fs : Array Field} {cs : List Value} {xs : List (DataW H × List MemPlace)} (hl : xs.length = fs.size)
    (hat : ∀ (i : Nat) (f : Field), fs[i]? = some f → DataW.trod enc Try.prog W 0 (fun _ => true) true n f.type ((cs.drop f.offset).take (Try.prog.cellsOf f.type)) = xs[i]?) (i : Nat) {f : Field} (hf : fs[i]? = some f) (ht : f.type = 3) :
    ∃ z : Int, cs[f.offset]? = some (.int .i64 z) ∧ -9223372036854775808 ≤ z ∧ z ≤ 9223372036854775807 := by
  have h := hat i f hf
  have hi : i < xs.length := by rw [hl]; exact (Array.getElem?_eq_some_iff.1 hf).1
  rw [List.getElem?_eq_getElem hi, ht, cells3] at h
  obtain ⟨z, hz, hw⟩ := open_int1T h
  refine ⟨z, ?_, hw⟩
  have h2 : ((cs.drop f.offset).take 1)[0]? = some (.int .i64 z) := by rw [hz]; rfl
  rw [List.getElem?_take, if_pos (by omega), List.getElem?_drop] at h2
  simpa using h2
section
variable {H : Type} {enc : TypeId × Value → H} {W : World} {base : Nat} {v : Value} {d : DataW H} {p : List MemPlace}
theorem open_cfg (hv : Value.okWide Try.prog W .any base 31 v) (h : DataW.Trod enc Try.prog W 0 (fun _ => true) true 31 v d p) : ∃ c : Cfg, v = .agg c.cells := by
  obtain ⟨cs, rfl, hsz⟩ := okWide_struct Try.underlying31 hv
  obtain ⟨fuel, hf⟩ := h
  obtain ⟨xs, n, _, _, hlen, hxl, hat⟩ := DataW.trod_struct Try.underlying31 hf
  obtain ⟨z0, h0, _⟩ := open_field hxl hat 0 rfl rfl
  obtain ⟨z1, h1, _⟩ := open_field hxl hat 1 rfl rfl
  obtain ⟨z2, h2, _⟩ := open_field hxl hat 2 rfl rfl
  obtain ⟨z3, h3, _⟩ := open_field hxl hat 3 rfl rfl
  obtain ⟨z4, h4, _⟩ := open_field hxl hat 4 rfl rfl
  obtain ⟨z5, h5, _⟩ := open_field hxl hat 5 rfl rfl
  have hs6 : cs.size = 6 := hsz.trans (by kernel_rfl)
  refine ⟨⟨z0, z1, z2, z3, z4, z5⟩, ?_⟩
  congr 1
  obtain ⟨l⟩ := cs
  replace h0 : l[0]? = some _ := h0
  replace h1 : l[1]? = some _ := h1
  replace h2 : l[2]? = some _ := h2
  replace h3 : l[3]? = some _ := h3
  replace h4 : l[4]? = some _ := h4
  replace h5 : l[5]? = some _ := h5
  rcases l with _ | ⟨a0, _ | ⟨a1, _ | ⟨a2, _ | ⟨a3, _ | ⟨a4, _ | ⟨a5, _ | ⟨a6, l⟩⟩⟩⟩⟩⟩⟩ <;> simp at hs6
  simp at h0 h1 h2 h3 h4 h5
  subst h0 h1 h2 h3 h4 h5
  rfl
theorem open_part (hv : Value.okWide Try.prog W .any base 76 v) (h : DataW.Trod enc Try.prog W 0 (fun _ => true) true 76 v d p) : ∃ k y r : Int, v = .agg #[.int .i64 k, .int .i64 y, .int .i64 r] ∧ (-9223372036854775808 ≤ r ∧ r ≤ 9223372036854775807) := by
  obtain ⟨cs, rfl, hsz⟩ := okWide_struct Try.underlying76 hv
  obtain ⟨fuel, hf⟩ := h
  obtain ⟨xs, n, _, _, hlen, hxl, hat⟩ := DataW.trod_struct Try.underlying76 hf
  obtain ⟨z0, h0, _⟩ := open_field hxl hat 0 rfl rfl
  obtain ⟨z1, h1, _⟩ := open_field hxl hat 1 rfl rfl
  obtain ⟨z2, h2, hr⟩ := open_field hxl hat 2 rfl rfl
  have hs3 : cs.size = 3 := hsz.trans (by kernel_rfl)
  refine ⟨z0, z1, z2, ?_, hr⟩
  congr 1
  obtain ⟨l⟩ := cs
  replace h0 : l[0]? = some _ := h0
  replace h1 : l[1]? = some _ := h1
  replace h2 : l[2]? = some _ := h2
  rcases l with _ | ⟨a0, _ | ⟨a1, _ | ⟨a2, _ | ⟨a3, l⟩⟩⟩⟩ <;> simp at hs3
  simp at h0 h1 h2
  subst h0 h1 h2
  rfl
end
end Go.Proofs.Ytdffbjjiojheoaa.Wg
