/-
  NARROWER THAN 'FOR EVERY INPUT', by the rows' own cells (each row's printed sentence says how): FixedAdds: laid · FixedDivs: laid · FixedRoots: laid · FixedExps: laid · FixedNear: laid · FixedBounds: laid · FixedOrder: laid.
  DERIVED. THE GIVEN ROWS OF THIS SEAT. 7 by the template 'for every input the law returns true; each argument reads behind the call as it read before'; 0 by the template 'total and deterministic' (their statements: YtalmnmdileagbaaDoorTotals.lean).
  GIVEN WITH THE SEED: the statements are not yours to turn. If you find one false, say at which input.
  Laid BY PROGRAM, IN A SANDBOX (cutbox-rows.mjs): the forced cells as the released guide's own fill.sh prints them over the translation b0edcb5c84ee25bb… (all of the seat's roots in one cut). By AI agents, Wed Nov 11 2026. No macro, syntax, notation, axiom, sorry.
-/
import Derived.Test.YtalmnmdileagbaaDoorChecked
import GoSem.Claim
import GoSem.ClaimJoined
import GoSem.ClaimMapViews
import Derived.JoinedTies
import Derived.KernelRfl
namespace Go.Proofs.YtalmnmdileagbaaDoor
/- THE CELL 'sum', in the pinned program and in every row, IS THE sha256 OF THE DUMP (.gsa) THAT YtalmnmdileagbaaDoorProg.lean LOADS. Nothing in Lean hashes anything: it is a label: what it is worth is what the hold of that sum in a sandbox is worth. -/
noncomputable def Tryd.pinned : Pinned := { name := "ytalmnmdileagbaadoor", sum := "b0edcb5c84ee25bb4b33ad85391e6f7fe8d7d13812521996ae3168ec8dc97aa2", checked := Tryd.checked }
namespace Rows
def none {H : Type} : Left H := { results := [], args := [] }

/- WHAT THE LISTED PACKAGE-LEVEL VARIABLES READ AS WHEN THE CALL BEGINS. Each datum BY PROGRAM (the guide's laid-datum.mjs) off the statement by which the dump's own 'gosem.cut.vars' lays the variable. In a bare row this is a premise. The card (YtalmnmdileagbaaDoorCards.lean) ties it to the program's text. -/
def laid_cupel_fixed_expSteps {H : Type} : DataW H := .agg [.lit (.int .i64 22), .lit (.int .i64 1200), .lit (.int .i64 8869), .lit (.int .i64 24109), .lit (.int .i64 39750), .lit (.int .i64 51039), .lit (.int .i64 57835), .lit (.int .i64 61565), .lit (.int .i64 63520), .lit (.int .i64 64520), .lit (.int .i64 65026), .lit (.int .i64 65280), .lit (.int .i64 65408), .lit (.int .i64 65472), .lit (.int .i64 65504), .lit (.int .i64 65520), .lit (.int .i64 65528), .lit (.int .i64 65532), .lit (.int .i64 65534), .lit (.int .i64 65535)]

/-- 'cupellaw06.FixedAdds': WHATEVER THE INPUT: true; the input reads as it did. -/
def fixedAddsSpec : ChangeSpec := { name := "fixedAdds", fn := fun _ => fun
  | [d1, d2] => { results := [.lit (.bool true)], args := [d1, d2] }
  | _ => none }
def fixedAddsRow : OpenClaim := { program := "ytalmnmdileagbaadoor", sum := "b0edcb5c84ee25bb4b33ad85391e6f7fe8d7d13812521996ae3168ec8dc97aa2", func := "cupel/cupellaw06.FixedAdds", spec := "fixedAdds", unfollowed := true, recurses := true, named := ["cupel/fixed.expSteps"], apart := false, laid := [("cupel/fixed.expSteps", laid_cupel_fixed_expSteps)] }
def FixedAddsSaid : Prop := fixedAddsRow.holds Tryd.pinned (OpenSpec.ofChange fixedAddsSpec)

/-- ITS FALSE NEIGHBOUR: 'it returns false'. Refute it at one input. -/
def fixedAddsWrong : ChangeSpec := { name := "fixedAdds", fn := fun _ => fun
  | [d1, d2] => { results := [.lit (.bool false)], args := [d1, d2] }
  | _ => none }
def FixedAddsWrongFalsely : Prop := fixedAddsRow.holds Tryd.pinned (OpenSpec.ofChange fixedAddsWrong)

/-- 'cupellaw06.FixedDivs': WHATEVER THE INPUT: true; the input reads as it did. -/
def fixedDivsSpec : ChangeSpec := { name := "fixedDivs", fn := fun _ => fun
  | [d1, d2] => { results := [.lit (.bool true)], args := [d1, d2] }
  | _ => none }
def fixedDivsRow : OpenClaim := { program := "ytalmnmdileagbaadoor", sum := "b0edcb5c84ee25bb4b33ad85391e6f7fe8d7d13812521996ae3168ec8dc97aa2", func := "cupel/cupellaw06.FixedDivs", spec := "fixedDivs", unfollowed := true, recurses := true, named := ["cupel/fixed.expSteps"], apart := false, laid := [("cupel/fixed.expSteps", laid_cupel_fixed_expSteps)] }
def FixedDivsSaid : Prop := fixedDivsRow.holds Tryd.pinned (OpenSpec.ofChange fixedDivsSpec)

/-- ITS FALSE NEIGHBOUR: 'it returns false'. Refute it at one input. -/
def fixedDivsWrong : ChangeSpec := { name := "fixedDivs", fn := fun _ => fun
  | [d1, d2] => { results := [.lit (.bool false)], args := [d1, d2] }
  | _ => none }
def FixedDivsWrongFalsely : Prop := fixedDivsRow.holds Tryd.pinned (OpenSpec.ofChange fixedDivsWrong)

/-- 'cupellaw06.FixedRoots': WHATEVER THE INPUT: true; the input reads as it did. -/
def fixedRootsSpec : ChangeSpec := { name := "fixedRoots", fn := fun _ => fun
  | [d] => { results := [.lit (.bool true)], args := [d] }
  | _ => none }
def fixedRootsRow : OpenClaim := { program := "ytalmnmdileagbaadoor", sum := "b0edcb5c84ee25bb4b33ad85391e6f7fe8d7d13812521996ae3168ec8dc97aa2", func := "cupel/cupellaw06.FixedRoots", spec := "fixedRoots", unfollowed := true, recurses := true, named := ["cupel/fixed.expSteps"], apart := false, laid := [("cupel/fixed.expSteps", laid_cupel_fixed_expSteps)] }
def FixedRootsSaid : Prop := fixedRootsRow.holds Tryd.pinned (OpenSpec.ofChange fixedRootsSpec)

/-- ITS FALSE NEIGHBOUR: 'it returns false'. Refute it at one input. -/
def fixedRootsWrong : ChangeSpec := { name := "fixedRoots", fn := fun _ => fun
  | [d] => { results := [.lit (.bool false)], args := [d] }
  | _ => none }
def FixedRootsWrongFalsely : Prop := fixedRootsRow.holds Tryd.pinned (OpenSpec.ofChange fixedRootsWrong)

/-- 'cupellaw06.FixedExps': WHATEVER THE INPUT: true; the input reads as it did. -/
def fixedExpsSpec : ChangeSpec := { name := "fixedExps", fn := fun _ => fun
  | [d] => { results := [.lit (.bool true)], args := [d] }
  | _ => none }
def fixedExpsRow : OpenClaim := { program := "ytalmnmdileagbaadoor", sum := "b0edcb5c84ee25bb4b33ad85391e6f7fe8d7d13812521996ae3168ec8dc97aa2", func := "cupel/cupellaw06.FixedExps", spec := "fixedExps", unfollowed := true, recurses := true, named := ["cupel/fixed.expSteps"], apart := false, laid := [("cupel/fixed.expSteps", laid_cupel_fixed_expSteps)] }
def FixedExpsSaid : Prop := fixedExpsRow.holds Tryd.pinned (OpenSpec.ofChange fixedExpsSpec)

/-- ITS FALSE NEIGHBOUR: 'it returns false'. Refute it at one input. -/
def fixedExpsWrong : ChangeSpec := { name := "fixedExps", fn := fun _ => fun
  | [d] => { results := [.lit (.bool false)], args := [d] }
  | _ => none }
def FixedExpsWrongFalsely : Prop := fixedExpsRow.holds Tryd.pinned (OpenSpec.ofChange fixedExpsWrong)

/-- 'cupellaw06.FixedNear': WHATEVER THE INPUT: true; the input reads as it did. -/
def fixedNearSpec : ChangeSpec := { name := "fixedNear", fn := fun _ => fun
  | [d1, d2] => { results := [.lit (.bool true)], args := [d1, d2] }
  | _ => none }
def fixedNearRow : OpenClaim := { program := "ytalmnmdileagbaadoor", sum := "b0edcb5c84ee25bb4b33ad85391e6f7fe8d7d13812521996ae3168ec8dc97aa2", func := "cupel/cupellaw06.FixedNear", spec := "fixedNear", unfollowed := true, recurses := true, named := ["cupel/fixed.expSteps"], apart := false, laid := [("cupel/fixed.expSteps", laid_cupel_fixed_expSteps)] }
def FixedNearSaid : Prop := fixedNearRow.holds Tryd.pinned (OpenSpec.ofChange fixedNearSpec)

/-- ITS FALSE NEIGHBOUR: 'it returns false'. Refute it at one input. -/
def fixedNearWrong : ChangeSpec := { name := "fixedNear", fn := fun _ => fun
  | [d1, d2] => { results := [.lit (.bool false)], args := [d1, d2] }
  | _ => none }
def FixedNearWrongFalsely : Prop := fixedNearRow.holds Tryd.pinned (OpenSpec.ofChange fixedNearWrong)

/-- 'cupellaw06.FixedBounds': WHATEVER THE INPUT: true; the input reads as it did. -/
def fixedBoundsSpec : ChangeSpec := { name := "fixedBounds", fn := fun _ => fun
  | [d] => { results := [.lit (.bool true)], args := [d] }
  | _ => none }
def fixedBoundsRow : OpenClaim := { program := "ytalmnmdileagbaadoor", sum := "b0edcb5c84ee25bb4b33ad85391e6f7fe8d7d13812521996ae3168ec8dc97aa2", func := "cupel/cupellaw06.FixedBounds", spec := "fixedBounds", unfollowed := true, recurses := true, named := ["cupel/fixed.expSteps"], apart := false, laid := [("cupel/fixed.expSteps", laid_cupel_fixed_expSteps)] }
def FixedBoundsSaid : Prop := fixedBoundsRow.holds Tryd.pinned (OpenSpec.ofChange fixedBoundsSpec)

/-- ITS FALSE NEIGHBOUR: 'it returns false'. Refute it at one input. -/
def fixedBoundsWrong : ChangeSpec := { name := "fixedBounds", fn := fun _ => fun
  | [d] => { results := [.lit (.bool false)], args := [d] }
  | _ => none }
def FixedBoundsWrongFalsely : Prop := fixedBoundsRow.holds Tryd.pinned (OpenSpec.ofChange fixedBoundsWrong)

/-- 'cupellaw06.FixedOrder': WHATEVER THE INPUT: true; the input reads as it did. -/
def fixedOrderSpec : ChangeSpec := { name := "fixedOrder", fn := fun _ => fun
  | [d1, d2, d3] => { results := [.lit (.bool true)], args := [d1, d2, d3] }
  | _ => none }
def fixedOrderRow : OpenClaim := { program := "ytalmnmdileagbaadoor", sum := "b0edcb5c84ee25bb4b33ad85391e6f7fe8d7d13812521996ae3168ec8dc97aa2", func := "cupel/cupellaw06.FixedOrder", spec := "fixedOrder", unfollowed := true, recurses := true, named := ["cupel/fixed.expSteps"], apart := false, laid := [("cupel/fixed.expSteps", laid_cupel_fixed_expSteps)] }
def FixedOrderSaid : Prop := fixedOrderRow.holds Tryd.pinned (OpenSpec.ofChange fixedOrderSpec)

/-- ITS FALSE NEIGHBOUR: 'it returns false'. Refute it at one input. -/
def fixedOrderWrong : ChangeSpec := { name := "fixedOrder", fn := fun _ => fun
  | [d1, d2, d3] => { results := [.lit (.bool false)], args := [d1, d2, d3] }
  | _ => none }
def FixedOrderWrongFalsely : Prop := fixedOrderRow.holds Tryd.pinned (OpenSpec.ofChange fixedOrderWrong)

/- THE SECOND FORM. 'bulk': how many values and letters a reading holds, each counted each time it is reached (what is shared counts as often as it is met; a slice's spare places count too). A statement '..UptoSaid' is the law's where the arguments, and the package variables that the reading takes, are together of bulk at most 1048576: NARROWER than '..Said'. Prove '..Said' where nothing that the law and all that it calls make is longer than what came in: it says more and counts as full. Else prove '..UptoSaid'. A law counts once. -/
mutual
def uptoBulk {H : Type} : DataW H → Nat
  | .lit (.string bytes) => bytes.length + 1
  | .lit _ => 1
  | .nil => 1
  | .ptr d => uptoBulk d + 1
  | .slice elems spare => uptoBulkAll elems + uptoBulkAll spare + 1
  | .agg parts => uptoBulkAll parts + 1
  | .iface _ d => uptoBulk d + 1
  | .map entries => uptoBulkEntries entries + 1
  | .held _ => 1
def uptoBulkAll {H : Type} : List (DataW H) → Nat
  | [] => 0
  | d :: r => uptoBulk d + uptoBulkAll r
def uptoBulkEntries {H : Type} : List (Lit × DataW H) → Nat
  | [] => 0
  | x :: r => uptoBulkEntry x + uptoBulkEntries r
def uptoBulkEntry {H : Type} : Lit × DataW H → Nat
  | (.string bytes, d) => bytes.length + uptoBulk d + 1
  | (_, d) => uptoBulk d + 1
 end
def uptoSmall : (H : Type) → List (DataW H) → Bool := fun _ ds => decide (uptoBulkAll ds ≤ 1048576)
def OpenSpec.upto (s : _root_.Go.ChangeSpec) : _root_.Go.OpenSpec := { _root_.Go.OpenSpec.ofChange s with cond := some uptoSmall }

/-- 'cupellaw06.FixedAdds', WHERE WHAT IT READS IS OF BULK AT MOST 1048576: true; the input reads as it did. -/
def fixedAddsUptoRow : OpenClaim := { program := "ytalmnmdileagbaadoor", sum := "b0edcb5c84ee25bb4b33ad85391e6f7fe8d7d13812521996ae3168ec8dc97aa2", func := "cupel/cupellaw06.FixedAdds", spec := "fixedAdds", unfollowed := true, recurses := true, named := ["cupel/fixed.expSteps"], apart := false, laid := [("cupel/fixed.expSteps", laid_cupel_fixed_expSteps)], narrowed := true }
def FixedAddsUptoSaid : Prop := fixedAddsUptoRow.holds Tryd.pinned (OpenSpec.upto fixedAddsSpec)

/-- 'cupellaw06.FixedDivs', WHERE WHAT IT READS IS OF BULK AT MOST 1048576: true; the input reads as it did. -/
def fixedDivsUptoRow : OpenClaim := { program := "ytalmnmdileagbaadoor", sum := "b0edcb5c84ee25bb4b33ad85391e6f7fe8d7d13812521996ae3168ec8dc97aa2", func := "cupel/cupellaw06.FixedDivs", spec := "fixedDivs", unfollowed := true, recurses := true, named := ["cupel/fixed.expSteps"], apart := false, laid := [("cupel/fixed.expSteps", laid_cupel_fixed_expSteps)], narrowed := true }
def FixedDivsUptoSaid : Prop := fixedDivsUptoRow.holds Tryd.pinned (OpenSpec.upto fixedDivsSpec)

/-- 'cupellaw06.FixedRoots', WHERE WHAT IT READS IS OF BULK AT MOST 1048576: true; the input reads as it did. -/
def fixedRootsUptoRow : OpenClaim := { program := "ytalmnmdileagbaadoor", sum := "b0edcb5c84ee25bb4b33ad85391e6f7fe8d7d13812521996ae3168ec8dc97aa2", func := "cupel/cupellaw06.FixedRoots", spec := "fixedRoots", unfollowed := true, recurses := true, named := ["cupel/fixed.expSteps"], apart := false, laid := [("cupel/fixed.expSteps", laid_cupel_fixed_expSteps)], narrowed := true }
def FixedRootsUptoSaid : Prop := fixedRootsUptoRow.holds Tryd.pinned (OpenSpec.upto fixedRootsSpec)

/-- 'cupellaw06.FixedExps', WHERE WHAT IT READS IS OF BULK AT MOST 1048576: true; the input reads as it did. -/
def fixedExpsUptoRow : OpenClaim := { program := "ytalmnmdileagbaadoor", sum := "b0edcb5c84ee25bb4b33ad85391e6f7fe8d7d13812521996ae3168ec8dc97aa2", func := "cupel/cupellaw06.FixedExps", spec := "fixedExps", unfollowed := true, recurses := true, named := ["cupel/fixed.expSteps"], apart := false, laid := [("cupel/fixed.expSteps", laid_cupel_fixed_expSteps)], narrowed := true }
def FixedExpsUptoSaid : Prop := fixedExpsUptoRow.holds Tryd.pinned (OpenSpec.upto fixedExpsSpec)

/-- 'cupellaw06.FixedNear', WHERE WHAT IT READS IS OF BULK AT MOST 1048576: true; the input reads as it did. -/
def fixedNearUptoRow : OpenClaim := { program := "ytalmnmdileagbaadoor", sum := "b0edcb5c84ee25bb4b33ad85391e6f7fe8d7d13812521996ae3168ec8dc97aa2", func := "cupel/cupellaw06.FixedNear", spec := "fixedNear", unfollowed := true, recurses := true, named := ["cupel/fixed.expSteps"], apart := false, laid := [("cupel/fixed.expSteps", laid_cupel_fixed_expSteps)], narrowed := true }
def FixedNearUptoSaid : Prop := fixedNearUptoRow.holds Tryd.pinned (OpenSpec.upto fixedNearSpec)

/-- 'cupellaw06.FixedBounds', WHERE WHAT IT READS IS OF BULK AT MOST 1048576: true; the input reads as it did. -/
def fixedBoundsUptoRow : OpenClaim := { program := "ytalmnmdileagbaadoor", sum := "b0edcb5c84ee25bb4b33ad85391e6f7fe8d7d13812521996ae3168ec8dc97aa2", func := "cupel/cupellaw06.FixedBounds", spec := "fixedBounds", unfollowed := true, recurses := true, named := ["cupel/fixed.expSteps"], apart := false, laid := [("cupel/fixed.expSteps", laid_cupel_fixed_expSteps)], narrowed := true }
def FixedBoundsUptoSaid : Prop := fixedBoundsUptoRow.holds Tryd.pinned (OpenSpec.upto fixedBoundsSpec)

/-- 'cupellaw06.FixedOrder', WHERE WHAT IT READS IS OF BULK AT MOST 1048576: true; the input reads as it did. -/
def fixedOrderUptoRow : OpenClaim := { program := "ytalmnmdileagbaadoor", sum := "b0edcb5c84ee25bb4b33ad85391e6f7fe8d7d13812521996ae3168ec8dc97aa2", func := "cupel/cupellaw06.FixedOrder", spec := "fixedOrder", unfollowed := true, recurses := true, named := ["cupel/fixed.expSteps"], apart := false, laid := [("cupel/fixed.expSteps", laid_cupel_fixed_expSteps)], narrowed := true }
def FixedOrderUptoSaid : Prop := fixedOrderUptoRow.holds Tryd.pinned (OpenSpec.upto fixedOrderSpec)

end Rows
end Go.Proofs.YtalmnmdileagbaaDoor
