import Derived.Test.YtpaffncdfldnmaaDoorLa
import Derived.ChangeMaps5
import Derived.Test.YtpaffncdfldnmaaDoorCards
import Derived.Test.YtpaffncdfldnmaaDoorTie
import Derived.Deep.DeepHandedRow
import Derived.Deep.Slices
import Derived.Lib.LaidTab
import Derived.Carry
import Derived.Lay
import Derived.Stop.LaidErr
namespace Go.Proofs.YtpaffncdfldnmaaDoor
open Go.ChangeShapes Go.WideShapes Go.ChangeAt Go.RowKit

theorem own : ownKnob Tryd.prog.godebug = none := by kernel_rfl
theorem laidOut : laidOutB Tryd.prog = true := by kernel_rfl
theorem gStart : Tryd.prog.globalNamed "cupel/sha.start" = some 0 := by kernel_rfl
theorem gStartType : (Tryd.prog.globals[0]?).map (·.type) = some 48 := by kernel_rfl
theorem gKc : Tryd.prog.globalNamed "cupel/sha.roundConstants" = some 1 := by kernel_rfl
theorem gKcType : (Tryd.prog.globals[1]?).map (·.type) = some 83 := by kernel_rfl
theorem cellsState : Tryd.prog.cellsOf 48 = 8 := by kernel_rfl
theorem cellsKc : Tryd.prog.cellsOf 83 = 64 := by kernel_rfl
theorem cellsU32 : Tryd.prog.cellsOf 46 = 1 := by kernel_rfl
theorem cellsByte : Tryd.prog.cellsOf 5 = 1 := by kernel_rfl
theorem cellsBytes : Tryd.prog.cellsOf 38 = 1 := by kernel_rfl

/-- the variables that every row of this seat lists -/
def laidBoth : List (String × DataW Unit) := [("cupel/sha.start", Rows.laid_cupel_sha_start), ("cupel/sha.roundConstants", Rows.laid_cupel_sha_roundConstants)]

theorem env_of_laid {W : World} (h : laidMetH Tryd.prog laidBoth W) : Env W := by
  have h' : laidMet Tryd.prog [("cupel/sha.start", Lib.tabData .u32 start.list), ("cupel/sha.roundConstants", Lib.tabData .u32 kc)] W := h
  have t1 : Lib.TabIs Tryd.prog W "cupel/sha.start" .u32 start.list := Lib.tabIs_of_head gStart gStartType Tryd.underlying48 Tryd.underlying46 cellsU32 cellsState h'
  have t2 : Lib.TabIs Tryd.prog W "cupel/sha.roundConstants" .u32 kc := Lib.tabIs_of_head gKc gKcType Tryd.underlying83 Tryd.underlying46 cellsU32 cellsKc (laidMet.tail h')
  refine ⟨fun i hi => t2.cell gKc i hi, ?_⟩
  unfold Lib.TabIs World.var? at t1
  rw [gStart] at t1
  simp only [Option.bind_some] at t1
  split at t1
  · rename_i cs t fr hc
    refine ⟨t, fr, ?_⟩
    rw [hc, Option.some.inj t1]
    rfl
  · cases t1
theorem cell_plain {W : World} {a : Addr} {v : Value} (h : W.cell? a = some v) : a.spot = none := by
  obtain ⟨b, o, s⟩ := a
  cases s with
  | none => rfl
  | some k =>
    exfalso
    simp [World.cell?] at h
    split at h <;> cases h
theorem add_zero (a : Addr) : a.add 0 = a := by
  obtain ⟨b, o, s⟩ := a
  unfold Addr.add
  simp
theorem int_wf {n : Int} (h : (Lit.int .i64 n).wf = true) : -9223372036854775808 ≤ n ∧ n ≤ 9223372036854775807 := by
  simp [Lit.wf, IntKind.min, IntKind.max, IntKind.bits, IntKind.signed] at h
  omega
/-- one cell that holds a slice of bytes -/
theorem open_bytes1 {H : Type} {enc : TypeId × Value → H} {W : World} {fuel : Nat} {v : Value} {x : DataW H × List MemPlace} (hf : DataW.trod enc Tryd.prog W 0 (fun _ => true) true fuel 38 [v] = some x) :
    ∃ (sp : Option Addr) (cap : Nat) (l : List Int), v = .slice sp l.length cap ∧ Byt W sp cap l := by
  rcases open_ints Tryd.underlying38 Tryd.underlying5 cellsByte hf with ⟨hcs, _⟩ | ⟨a, len', cap', zs, hcs, _, hl, hm, hz, _, hcell, _⟩
  · simp only [List.cons.injEq, and_true] at hcs
    exact ⟨none, 0, [], hcs, Byt.nil W⟩
  · simp only [List.cons.injEq, and_true] at hcs
    simp only [if_true] at hz
    have hlen : (zs.take len').length = len' := by simp; omega
    refine ⟨some a, cap', zs.take len', by rw [hlen]; exact hcs, ⟨by rw [hlen]; exact hl, hm, fun hp => ?_⟩, fun h => by cases h⟩
    have h0 := cell_plain (hcell 0 (by omega))
    rw [add_zero] at h0
    obtain ⟨b, o, s⟩ := a
    have hs : s = none := h0
    subst hs
    refine ⟨b, o, rfl, fun i hi => ?_⟩
    have hi' : i < len' := by omega
    have := hcell i (by omega)
    rw [add_plain] at this
    rw [this]
    simp [hi']
set_option maxRecDepth 100000 in
/-- a slice of bytes that came in -/
theorem open_bytes {H : Type} {enc : TypeId × Value → H} {W : World} {base : Nat} {v : Value} {d : DataW H} {p : List MemPlace} (hv : Value.okWide Tryd.prog W .any base 38 v) (h : DataW.Trod enc Tryd.prog W 0 (fun _ => true) true 38 v d p) :
    ∃ (sp : Option Addr) (cap : Nat) (l : List Int), v = .slice sp l.length cap ∧ Byt W sp cap l := by
  obtain ⟨a0, len, cap, rfl⟩ := okWide_slice Tryd.underlying38 hv
  obtain ⟨fuel, hf⟩ := h
  exact open_bytes1 hf
def rngE (l : List Int) : Prop := ∀ x ∈ l, 0 ≤ x ∧ x < 256
theorem cellsDigest : Tryd.prog.cellsOf 23 = 32 := by kernel_rfl
theorem byte_wf {n : Int} (h : (Lit.int .u8 n).wf = true) : 0 ≤ n ∧ n < 256 := by
  simp [Lit.wf, IntKind.min, IntKind.max, IntKind.bits, IntKind.signed] at h
  omega
set_option maxRecDepth 100000 in
/-- a digest that came in -/
theorem open_digest {H : Type} {enc : TypeId × Value → H} {W : World} {base : Nat} {v : Value} {d : DataW H} {p : List MemPlace} (hv : Value.okWide Tryd.prog W .any base 23 v) (h : DataW.Trod enc Tryd.prog W 0 (fun _ => true) true 23 v d p) :
    ∃ l : List Int, v = .agg (rowB l) ∧ l.length = 32 ∧ rngE l := by
  simp only [Value.okWide, Tryd.underlying23] at hv
  obtain ⟨cs, rfl, hsz, _⟩ := hv
  rw [cellsDigest] at hsz
  obtain ⟨fuel, hf⟩ := h
  obtain ⟨xs, m, _, _, hl, hxl, hx⟩ := DataW.trod_array Tryd.underlying23 hf
  have key : ∀ i (hi : i < cs.size), ∃ z : Int, cs[i] = .int .u8 z ∧ 0 ≤ z ∧ z < 256 := by
    intro i hi
    have h1 := hx i (by omega)
    rw [cellsByte, Nat.mul_one] at h1
    have h2 : ((Value.agg cs).cells.toList.drop i).take 1 = [cs[i]] := by
      have : (Value.agg cs).cells = cs := rfl
      rw [this, List.drop_eq_getElem_cons (by simpa using hi)]
      simp
    rw [h2] at h1
    have h3 : xs[i]? = some (xs[i]'(by omega)) := List.getElem?_eq_getElem (by omega)
    rw [h3] at h1
    obtain ⟨z, hc, _, hw⟩ := DataW.trod_int Tryd.underlying5 h1
    simp only [List.cons.injEq, and_true] at hc
    have hb : 0 ≤ z ∧ z ≤ 255 := bounds_u8 hw
    exact ⟨z, hc, by omega, by omega⟩
  refine ⟨cs.toList.map intOf, ?_, by simpa using hsz, ?_⟩
  · congr 1
    apply Array.ext'
    apply List.ext_getElem
    · simp [rowB]
    · intro i h1 h2
      have hi : i < cs.size := by simpa using h1
      obtain ⟨z, hz, _⟩ := key i hi
      simp [rowB, hz, intOf]
  · intro x hx
    obtain ⟨v, hv, rfl⟩ := List.mem_map.1 hx
    obtain ⟨i, hi, rfl⟩ := List.mem_iff_getElem.1 hv
    obtain ⟨z, hz, h0, h1⟩ := key i (by simpa using hi)
    have e : cs.toList[i] = .int .u8 z := by simpa using hz
    rw [e]
    exact ⟨h0, h1⟩
end Go.Proofs.YtpaffncdfldnmaaDoor
