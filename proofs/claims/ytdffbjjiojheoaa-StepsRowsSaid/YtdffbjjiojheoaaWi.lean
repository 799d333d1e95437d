import Derived.Test.YtdffbjjiojheoaaWh
namespace Go.Proofs.Ytdffbjjiojheoaa.Wg
set_option maxRecDepth 100000
open Go.ChangeShapes Go.WideShapes Go.ChangeAt Go.RowKit Go.Shelf Go.Proofs.Ytdffbjjiojheoaa.Tn
attribute [local go_sem] Oper.semAt_some

/-! ### Many -/
theorem size_cfg : (Try.prog.info? 31).map (·.size) = some 6 := by kernel_rfl
theorem boxed_below {W W' : World} {B : Nat} {t : TypeId} {v : Value} (h : Boxed W B t v) (hb : Below W.heap.size W W') : Boxed W' B t v := (hb.block B h.lt).trans h
end Go.Proofs.Ytdffbjjiojheoaa.Wg
