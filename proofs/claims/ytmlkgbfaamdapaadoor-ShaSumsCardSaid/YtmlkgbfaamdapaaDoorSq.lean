import Derived.Test.YtmlkgbfaamdapaaDoorSg
namespace Go.Proofs.YtmlkgbfaamdapaaDoor
open Go.ChangeShapes Go.WideShapes Go.ChangeAt Go.RowKit
theorem run_quo (B P : Int) (h1 : 0 ≤ B) (h2 : B ≤ 1152921504606846975) (h3 : 1 ≤ P) (w : World) : (binOp .quo 3 (.int .i64 B) (.int .i64 P)).run Tryd.prog w = .ok (.int .i64 (B / P)) w := by
  have a := Int.ediv_nonneg h1 (show 0 ≤ P by omega)
  have b := Int.ediv_le_self P h1
  have c : B.tdiv P = B / P := Int.tdiv_eq_ediv_of_nonneg h1
  have d : ¬ P = 0 := by omega
  have e : IntKind.i64.wrap (B / P) = B / P := by simp [IntKind.wrap, IntKind.bits, IntKind.signed]; omega
  simp [go_sem, binOp, d, c, e]
end Go.Proofs.YtmlkgbfaamdapaaDoor
