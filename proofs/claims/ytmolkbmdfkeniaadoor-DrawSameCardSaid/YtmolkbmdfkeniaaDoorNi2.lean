import Derived.Test.YtmolkbmdfkeniaaDoorNi
import Derived.Test.YtmolkbmdfkeniaaDoorYi
namespace Go.Proofs.YtmolkbmdfkeniaaDoor.Dr
set_option maxRecDepth 100000
open Go.ChangeShapes Go.WideShapes Go.ChangeAt Go.RowKit Go.Proofs.YtmolkbmdfkeniaaDoor.Tn

open Go.Proofs.YtmolkbmdfkeniaaDoor.Fx in
/-- package draw, of whatever numbers -/
theorem draw_all : DrawOK E8 numV St8 (fun _ => True) := draw_ok _ fun w sp cap v k _ _ hl k1 k2 W hW =>
  ttop_any W sp cap v.length v k rfl (hl.below hW) k1 k2 fun hc P =>
    pdq_ok ⟨eg_of Tryd.func71 (by kernel_rfl) (by kernel_rfl), cmp_ord W sp _ cap v.length v.length v.length v rfl (hl.below hW), by have := (chkV_zero hc).2.1; omega⟩ (swo_ord v) P
end Go.Proofs.YtmolkbmdfkeniaaDoor.Dr
