/-
  NARROWER THAN 'FOR EVERY INPUT', by the rows' own cells (each row's printed sentence says how): BpeDecodes: laid · BpeBack: laid · BpeNil: laid.
  DERIVED. THE GIVEN ROWS OF THIS SEAT. 3 by the template 'for every input the law returns true; each argument reads behind the call as it read before'; 0 by the template 'total and deterministic' (their statements: YtllaecliaojmjaaDoorTotals.lean).
  GIVEN WITH THE SEED: the statements are not yours to turn. If you find one false, say at which input.
  Laid BY PROGRAM, IN A SANDBOX (cutbox-rows.mjs): the forced cells as the released guide's own fill.sh prints them over the translation de3ced5c956d1235… (all of the seat's roots in one cut). By AI agents, Wed Nov 11 2026. No macro, syntax, notation, axiom, sorry.
-/
import Derived.Test.YtllaecliaojmjaaDoorChecked
import GoSem.Claim
import GoSem.ClaimJoined
import GoSem.ClaimMapViews
import Derived.JoinedTies
import Derived.KernelRfl
namespace Go.Proofs.YtllaecliaojmjaaDoor
/- THE CELL 'sum', in the pinned program and in every row, IS THE sha256 OF THE DUMP (.gsa) THAT YtllaecliaojmjaaDoorProg.lean LOADS. Nothing in Lean hashes anything: it is a label: what it is worth is what the hold of that sum in a sandbox is worth. -/
noncomputable def Tryd.pinned : Pinned := { name := "ytllaecliaojmjaadoor", sum := "de3ced5c956d1235a3cf26a7f8ab75ca9fecebb965b84c39b151b3afd93b2631", checked := Tryd.checked }
namespace Rows
def none {H : Type} : Left H := { results := [], args := [] }

/- WHAT THE LISTED PACKAGE-LEVEL VARIABLES READ AS WHEN THE CALL BEGINS. Each datum BY PROGRAM (the guide's laid-datum.mjs) off the statement by which the dump's own 'gosem.cut.vars' lays the variable. In a bare row this is a premise. The card (YtllaecliaojmjaaDoorCards.lean) ties it to the program's text. -/
def laid_bytes_ErrTooLarge {H : Type} : DataW H := .iface "*errors.errorString" (.ptr (.agg [.lit (.string [98, 121, 116, 101, 115, 46, 66, 117, 102, 102, 101, 114, 58, 32, 116, 111, 111, 32, 108, 97, 114, 103, 101])]))

/-- 'cupellaw09.BpeDecodes': WHATEVER THE INPUT: true; the input reads as it did. -/
def bpeDecodesSpec : ChangeSpec := { name := "bpeDecodes", fn := fun _ => fun
  | [d1, d2] => { results := [.lit (.bool true)], args := [d1, d2] }
  | _ => none }
def bpeDecodesRow : OpenClaim := { program := "ytllaecliaojmjaadoor", sum := "de3ced5c956d1235a3cf26a7f8ab75ca9fecebb965b84c39b151b3afd93b2631", func := "cupel/cupellaw09.BpeDecodes", spec := "bpeDecodes", named := ["bytes.ErrTooLarge"], plainKeys := false, apart := false, laid := [("bytes.ErrTooLarge", laid_bytes_ErrTooLarge)] }
def BpeDecodesSaid : Prop := bpeDecodesRow.holds Tryd.pinned (OpenSpec.ofChange bpeDecodesSpec)

/-- ITS FALSE NEIGHBOUR: 'it returns false'. Refute it at one input. -/
def bpeDecodesWrong : ChangeSpec := { name := "bpeDecodes", fn := fun _ => fun
  | [d1, d2] => { results := [.lit (.bool false)], args := [d1, d2] }
  | _ => none }
def BpeDecodesWrongFalsely : Prop := bpeDecodesRow.holds Tryd.pinned (OpenSpec.ofChange bpeDecodesWrong)

/-- 'cupellaw09.BpeBack': WHATEVER THE INPUT: true; the input reads as it did. -/
def bpeBackSpec : ChangeSpec := { name := "bpeBack", fn := fun _ => fun
  | [d1, d2] => { results := [.lit (.bool true)], args := [d1, d2] }
  | _ => none }
def bpeBackRow : OpenClaim := { program := "ytllaecliaojmjaadoor", sum := "de3ced5c956d1235a3cf26a7f8ab75ca9fecebb965b84c39b151b3afd93b2631", func := "cupel/cupellaw09.BpeBack", spec := "bpeBack", named := ["bytes.ErrTooLarge"], plainKeys := false, apart := false, laid := [("bytes.ErrTooLarge", laid_bytes_ErrTooLarge)] }
def BpeBackSaid : Prop := bpeBackRow.holds Tryd.pinned (OpenSpec.ofChange bpeBackSpec)

/-- ITS FALSE NEIGHBOUR: 'it returns false'. Refute it at one input. -/
def bpeBackWrong : ChangeSpec := { name := "bpeBack", fn := fun _ => fun
  | [d1, d2] => { results := [.lit (.bool false)], args := [d1, d2] }
  | _ => none }
def BpeBackWrongFalsely : Prop := bpeBackRow.holds Tryd.pinned (OpenSpec.ofChange bpeBackWrong)

/-- 'cupellaw09.BpeNil': WHATEVER THE INPUT: true; the input reads as it did. -/
def bpeNilSpec : ChangeSpec := { name := "bpeNil", fn := fun _ => fun
  | [d1, d2, d3] => { results := [.lit (.bool true)], args := [d1, d2, d3] }
  | _ => none }
def bpeNilRow : OpenClaim := { program := "ytllaecliaojmjaadoor", sum := "de3ced5c956d1235a3cf26a7f8ab75ca9fecebb965b84c39b151b3afd93b2631", func := "cupel/cupellaw09.BpeNil", spec := "bpeNil", named := ["bytes.ErrTooLarge"], plainKeys := false, apart := false, laid := [("bytes.ErrTooLarge", laid_bytes_ErrTooLarge)] }
def BpeNilSaid : Prop := bpeNilRow.holds Tryd.pinned (OpenSpec.ofChange bpeNilSpec)

/-- ITS FALSE NEIGHBOUR: 'it returns false'. Refute it at one input. -/
def bpeNilWrong : ChangeSpec := { name := "bpeNil", fn := fun _ => fun
  | [d1, d2, d3] => { results := [.lit (.bool false)], args := [d1, d2, d3] }
  | _ => none }
def BpeNilWrongFalsely : Prop := bpeNilRow.holds Tryd.pinned (OpenSpec.ofChange bpeNilWrong)

/- THE SECOND FORM. 'bulk': how many values and letters a reading holds, each counted each time it is reached (what is shared counts as often as it is met; a slice's spare places count too). A statement '..UptoSaid' is the law's where the arguments, and the package variables that the reading takes, are together of bulk at most 1048576: NARROWER than '..Said'. Prove '..Said' where nothing that the law and all that it calls make is longer than what came in: it says more and counts as full. Else prove '..UptoSaid'. A law counts once. -/
mutual
def uptoBulk {H : Type} : DataW H → Nat
  | .lit (.string bytes) => bytes.length + 1
  | .lit _ => 1
  | .nil => 1
  | .ptr d => uptoBulk d + 1
  | .slice elems spare => uptoBulkAll elems + uptoBulkAll spare + 1
  | .agg parts => uptoBulkAll parts + 1
  | .iface _ d => uptoBulk d + 1
  | .map entries => uptoBulkEntries entries + 1
  | .held _ => 1
def uptoBulkAll {H : Type} : List (DataW H) → Nat
  | [] => 0
  | d :: r => uptoBulk d + uptoBulkAll r
def uptoBulkEntries {H : Type} : List (Lit × DataW H) → Nat
  | [] => 0
  | x :: r => uptoBulkEntry x + uptoBulkEntries r
def uptoBulkEntry {H : Type} : Lit × DataW H → Nat
  | (.string bytes, d) => bytes.length + uptoBulk d + 1
  | (_, d) => uptoBulk d + 1
 end
def uptoSmall : (H : Type) → List (DataW H) → Bool := fun _ ds => decide (uptoBulkAll ds ≤ 1048576)
def OpenSpec.upto (s : _root_.Go.ChangeSpec) : _root_.Go.OpenSpec := { _root_.Go.OpenSpec.ofChange s with cond := some uptoSmall }

/-- 'cupellaw09.BpeDecodes', WHERE WHAT IT READS IS OF BULK AT MOST 1048576: true; the input reads as it did. -/
def bpeDecodesUptoRow : OpenClaim := { program := "ytllaecliaojmjaadoor", sum := "de3ced5c956d1235a3cf26a7f8ab75ca9fecebb965b84c39b151b3afd93b2631", func := "cupel/cupellaw09.BpeDecodes", spec := "bpeDecodes", named := ["bytes.ErrTooLarge"], plainKeys := false, apart := false, laid := [("bytes.ErrTooLarge", laid_bytes_ErrTooLarge)], narrowed := true }
def BpeDecodesUptoSaid : Prop := bpeDecodesUptoRow.holds Tryd.pinned (OpenSpec.upto bpeDecodesSpec)

/-- 'cupellaw09.BpeBack', WHERE WHAT IT READS IS OF BULK AT MOST 1048576: true; the input reads as it did. -/
def bpeBackUptoRow : OpenClaim := { program := "ytllaecliaojmjaadoor", sum := "de3ced5c956d1235a3cf26a7f8ab75ca9fecebb965b84c39b151b3afd93b2631", func := "cupel/cupellaw09.BpeBack", spec := "bpeBack", named := ["bytes.ErrTooLarge"], plainKeys := false, apart := false, laid := [("bytes.ErrTooLarge", laid_bytes_ErrTooLarge)], narrowed := true }
def BpeBackUptoSaid : Prop := bpeBackUptoRow.holds Tryd.pinned (OpenSpec.upto bpeBackSpec)

/-- 'cupellaw09.BpeNil', WHERE WHAT IT READS IS OF BULK AT MOST 1048576: true; the input reads as it did. -/
def bpeNilUptoRow : OpenClaim := { program := "ytllaecliaojmjaadoor", sum := "de3ced5c956d1235a3cf26a7f8ab75ca9fecebb965b84c39b151b3afd93b2631", func := "cupel/cupellaw09.BpeNil", spec := "bpeNil", named := ["bytes.ErrTooLarge"], plainKeys := false, apart := false, laid := [("bytes.ErrTooLarge", laid_bytes_ErrTooLarge)], narrowed := true }
def BpeNilUptoSaid : Prop := bpeNilUptoRow.holds Tryd.pinned (OpenSpec.upto bpeNilSpec)

end Rows
end Go.Proofs.YtllaecliaojmjaaDoor
