import Derived.Test.YtchjijifmjbgoaaDoorKw
import Derived.Test.YtchjijifmjbgoaaDoorGo
import Derived.Test.YtchjijifmjbgoaaDoorCards
import Derived.Test.YtchjijifmjbgoaaDoorTie
namespace Go.Proofs.YtchjijifmjbgoaaDoor.Tn
set_option maxRecDepth 100000
open Go.ChangeShapes Go.WideShapes Go.ChangeAt Go.RowKit Go.Proofs.YtchjijifmjbgoaaDoor.Fx

/-! ### the landed package tensor, as one fact; what the listed variables hold -/
theorem own : ownKnob Tryd.prog.godebug = none := by kernel_rfl
theorem laidOut : laidOutB Tryd.prog = true := by kernel_rfl
/-- the variables that eight rows of this seat list -/
def laidBoth : List (String × DataW Unit) := [("math/bits.deBruijn32tab", Rows.laid_math_bits_deBruijn32tab), ("math/bits.deBruijn64tab", Rows.laid_math_bits_deBruijn64tab), ("cupel/fixed.expSteps", Rows.laid_cupel_fixed_expSteps)]
theorem gSteps : Tryd.prog.globalNamed "cupel/fixed.expSteps" = some 1 := by kernel_rfl
theorem gStepsType : (Tryd.prog.globals[1]?).map (·.type) = some 108 := by kernel_rfl
theorem cellsSteps : Tryd.prog.cellsOf 108 = 20 := by kernel_rfl
theorem gDeb : Tryd.prog.globalNamed "math/bits.deBruijn64tab" = some 3 := by kernel_rfl
theorem gDebType : (Tryd.prog.globals[3]?).map (·.type) = some 112 := by kernel_rfl
theorem cellsDeb : Tryd.prog.cellsOf 112 = 64 := by kernel_rfl
theorem cellsU8 : Tryd.prog.cellsOf 5 = 1 := by kernel_rfl
theorem tab_heap {W : World} {name : String} {g : Nat} {k : IntKind} {zs : List Int} (hg : Tryd.prog.globalNamed name = some g) (h : Lib.TabIs Tryd.prog W name k zs) : ∃ (t : TypeId) (fr : Nat × Nat), W.heap[g]? = some (.cells ((zs.map (Value.int k)).toArray) t fr) := by
  unfold Lib.TabIs World.var? at h
  rw [hg] at h
  simp only [Option.bind_some] at h
  split at h
  · rename_i cs t fr hc
    refine ⟨t, fr, ?_⟩
    rw [hc]
    have := Option.some.inj h
    rw [← this]
  · cases h
theorem e0_of_laid {W : World} (h : laidMetH Tryd.prog laidBoth W) : E0 W := by
  have h' : laidMet Tryd.prog [("math/bits.deBruijn32tab", Rows.laid_math_bits_deBruijn32tab), ("math/bits.deBruijn64tab", Lib.tabData .u8 deB), ("cupel/fixed.expSteps", Lib.tabData .i64 stepsL)] W := h
  have h1 := laidMet.tail h'
  have h2 := laidMet.tail h1
  have t1 : Lib.TabIs Tryd.prog W "math/bits.deBruijn64tab" .u8 deB := Lib.tabIs_of_head gDeb gDebType Tryd.underlying112 Tryd.underlying5 cellsU8 cellsDeb h1
  have t2 : Lib.TabIs Tryd.prog W "cupel/fixed.expSteps" .i64 stepsL := Lib.tabIs_of_head gSteps gStepsType Tryd.underlying108 Tryd.underlying3 cells3 cellsSteps h2
  obtain ⟨a, b, hab⟩ := tab_heap gSteps t2
  exact ⟨⟨⟨a, b, hab⟩⟩, tab_heap gDeb t1⟩
theorem tensor_ok : TensorOK E0 where
  env _ _ he hb := he.below hb
  check w sp cap l _ hl := tcheck_any w sp cap _ l rfl hl
  mcheck w r c sp cap l _ hl := mcheck_any w r c sp cap _ l rfl hl
  row w r c i sp cap l _ hl i1 i2 := trow_any w r c i sp cap _ l rfl hl i1 i2
  dot w sp sq cap caq row v he hr hv := tdot_any w sp sq cap caq _ _ row v rfl rfl hr hv he
  mul w r c sp sq cap caq l v he hl hv := tmul_any w r c sp sq cap caq _ _ l v rfl rfl hl hv he
  add w sp sq cap caq a b _ ha hb := tadd_any w sp sq cap caq _ _ a b rfl rfl ha hb
  softmax w sp cap l he hl := tsoft_any w sp cap _ l rfl hl he
  mix w sp sq cap caq ss ls he hs hv := tmix_any w sp sq cap caq _ _ ss ls rfl rfl hs hv he
  most w sp cap l _ hl := tmost_any w sp cap _ l rfl hl
  top w sp cap l k _ hl h12 k1 k2 := top_small w sp cap _ l k rfl hl h12 k1 k2
end Go.Proofs.YtchjijifmjbgoaaDoor.Tn
