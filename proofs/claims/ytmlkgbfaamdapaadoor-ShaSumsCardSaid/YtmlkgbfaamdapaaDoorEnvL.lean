import Derived.Test.YtmlkgbfaamdapaaDoorO
import Derived.Test.YtmlkgbfaamdapaaDoorCards
import Derived.Test.YtmlkgbfaamdapaaDoorTie
import Derived.Deep.DeepHandedRow
import Derived.Lib.LaidTab
import Derived.Carry
import Derived.Lay
import Derived.Stop.LaidErr
namespace Go.Proofs.YtmlkgbfaamdapaaDoor
open Go.ChangeShapes Go.WideShapes Go.ChangeAt Go.RowKit

theorem own : ownKnob Tryd.prog.godebug = none := by kernel_rfl
theorem laidOut : laidOutB Tryd.prog = true := by kernel_rfl
theorem gStart : Tryd.prog.globalNamed "cupel/sha.start" = some 0 := by kernel_rfl
theorem gStartType : (Tryd.prog.globals[0]?).map (·.type) = some 45 := by kernel_rfl
theorem gKc : Tryd.prog.globalNamed "cupel/sha.roundConstants" = some 1 := by kernel_rfl
theorem gKcType : (Tryd.prog.globals[1]?).map (·.type) = some 65 := by kernel_rfl
theorem cells45 : Tryd.prog.cellsOf 45 = 8 := by kernel_rfl
theorem cells65 : Tryd.prog.cellsOf 65 = 64 := by kernel_rfl
theorem cells43 : Tryd.prog.cellsOf 43 = 1 := by kernel_rfl
theorem cells5 : Tryd.prog.cellsOf 5 = 1 := by kernel_rfl

/-- the variables that every row of this seat lists -/
def laidBoth : List (String × DataW Unit) := [("cupel/sha.start", Rows.laid_cupel_sha_start), ("cupel/sha.roundConstants", Rows.laid_cupel_sha_roundConstants)]

theorem env_of_laid {W : World} (h : laidMetH Tryd.prog laidBoth W) : Env W := by
  have h' : laidMet Tryd.prog [("cupel/sha.start", Lib.tabData .u32 start.list), ("cupel/sha.roundConstants", Lib.tabData .u32 kc)] W := h
  have t1 : Lib.TabIs Tryd.prog W "cupel/sha.start" .u32 start.list := Lib.tabIs_of_head gStart gStartType Tryd.underlying45 Tryd.underlying43 cells43 cells45 h'
  have t2 : Lib.TabIs Tryd.prog W "cupel/sha.roundConstants" .u32 kc := Lib.tabIs_of_head gKc gKcType Tryd.underlying65 Tryd.underlying43 cells43 cells65 (laidMet.tail h')
  refine ⟨fun i hi => t2.cell gKc i hi, ?_⟩
  unfold Lib.TabIs World.var? at t1
  rw [gStart] at t1
  simp only [Option.bind_some] at t1
  split at t1
  · rename_i cs t fr hc
    refine ⟨t, fr, ?_⟩
    rw [hc, Option.some.inj t1]
    rfl
  · cases t1
/-- a slice of bytes that came in -/
theorem open_bytes {H : Type} {enc : TypeId × Value → H} {W : World} {base : Nat} {v : Value} {d : DataW H} {p : List MemPlace} (hv : Value.okWide Tryd.prog W .any base 22 v) (h : DataW.Trod enc Tryd.prog W 0 (fun _ => true) true 22 v d p) :
    ∃ (sp : Option Addr) (cap : Nat) (l : List Int), v = .slice sp l.length cap ∧ Bytes W sp cap l := by
  obtain ⟨a0, len, cap, rfl⟩ := okWide_slice Tryd.underlying22 hv
  obtain ⟨fuel, hf⟩ := h
  rcases open_ints Tryd.underlying22 Tryd.underlying5 cells5 hf with ⟨hcs, _⟩ | ⟨a, len', cap', zs, hcs, _, hl, hm, hz, _, hcell, _⟩
  · simp [Value.cells] at hcs
    obtain ⟨rfl, rfl, rfl⟩ := hcs
    exact ⟨none, 0, [], rfl, Bytes.nil W⟩
  · simp [Value.cells] at hcs
    obtain ⟨rfl, rfl, rfl⟩ := hcs
    simp only [if_true] at hz
    have hlen : (zs.take len).length = len := by simp; omega
    refine ⟨some a, cap, zs.take len, by rw [hlen], by rw [hlen]; exact hl, hm, fun hp => ?_⟩
    obtain ⟨b, o, s⟩ := a
    have h0 := hcell 0 (by omega)
    have hs : s = none := by
      cases s with
      | none => rfl
      | some k =>
        exfalso
        simp [World.cell?, Addr.add] at h0
        split at h0 <;> cases h0
    subst hs
    refine ⟨b, o, rfl, fun i hi => ?_⟩
    have hi' : i < len := by omega
    have hadd : (⟨b, o, none⟩ : Addr).add i = ⟨b, o + i, none⟩ := by unfold Addr.add; split <;> simp_all
    have := hcell i (by omega)
    rw [hadd] at this
    rw [this]
    simp [hi']
end Go.Proofs.YtmlkgbfaamdapaaDoor
