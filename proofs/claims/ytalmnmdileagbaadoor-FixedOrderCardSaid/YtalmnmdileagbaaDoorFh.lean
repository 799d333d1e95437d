import Derived.Test.YtalmnmdileagbaaDoorFd
import Derived.ChangeMaps5
import Derived.Test.YtalmnmdileagbaaDoorCards
import Derived.Test.YtalmnmdileagbaaDoorTie
import Derived.Deep.DeepHandedRow
import Derived.Lib.LaidTab
import Derived.Carry
import Derived.Lay
import Derived.Stop.LaidErr
namespace Go.Proofs.YtalmnmdileagbaaDoor.Fx
open Go.ChangeShapes Go.WideShapes Go.ChangeAt Go.RowKit

/-! ### what came in -/
theorem own : ownKnob Tryd.prog.godebug = none := by kernel_rfl
theorem laidOut : laidOutB Tryd.prog = true := by kernel_rfl
theorem gSteps : Tryd.prog.globalNamed "cupel/fixed.expSteps" = some 0 := by kernel_rfl
theorem gStepsType : (Tryd.prog.globals[0]?).map (·.type) = some 38 := by kernel_rfl
theorem cellsSteps : Tryd.prog.cellsOf 38 = 20 := by kernel_rfl
theorem cellsInt : Tryd.prog.cellsOf 3 = 1 := by kernel_rfl

/-- the variable that every row of this seat lists -/
def laidBoth : List (String × DataW Unit) := [("cupel/fixed.expSteps", Rows.laid_cupel_fixed_expSteps)]

theorem env_of_laid {W : World} (h : laidMetH Tryd.prog laidBoth W) : Env W := by
  have h' : laidMet Tryd.prog [("cupel/fixed.expSteps", Lib.tabData .i64 stepsL)] W := h
  have t1 : Lib.TabIs Tryd.prog W "cupel/fixed.expSteps" .i64 stepsL := Lib.tabIs_of_head gSteps gStepsType Tryd.underlying38 Tryd.underlying3 cellsInt cellsSteps h'
  unfold Lib.TabIs World.var? at t1
  rw [gSteps] at t1
  simp only [Option.bind_some] at t1
  split at t1
  · rename_i cs t fr hc
    refine ⟨⟨t, fr, ?_⟩⟩
    rw [hc, Option.some.inj t1]
    rfl
  · cases t1
theorem int_wf {n : Int} (h : (Lit.int .i64 n).wf = true) : -9223372036854775808 ≤ n ∧ n ≤ 9223372036854775807 := by
  simp [Lit.wf, IntKind.min, IntKind.max, IntKind.bits, IntKind.signed] at h
  omega
end Go.Proofs.YtalmnmdileagbaaDoor.Fx
