/-
  No cell of these rows narrows 'for every input' (looked for: loops, veiled, ifaces, maps, wideKeys, modest, calm, conditions, laid).
  DERIVED. THE GIVEN ROWS OF THIS SEAT. 3 by the template 'for every input the law returns true; each argument reads behind the call as it read before'; 0 by the template 'total and deterministic' (their statements: YtllaecliaojmjaaTotals.lean).
  GIVEN WITH THE SEED: the statements are not yours to turn. If you find one false, say at which input.
  Laid BY PROGRAM, IN A SANDBOX (cutbox-rows.mjs): the forced cells as the released guide's own fill.sh prints them over the translation 0a86755197c6e8f5… (all of the seat's roots in one cut). By AI agents, Wed Nov 11 2026. No macro, syntax, notation, axiom, sorry.
-/
import Derived.Test.YtllaecliaojmjaaChecked
import GoSem.Claim
import GoSem.ClaimJoined
import GoSem.ClaimMapViews
import Derived.JoinedTies
import Derived.KernelRfl
namespace Go.Proofs.Ytllaecliaojmjaa
/- THE CELL 'sum', in the pinned program and in every row, IS THE sha256 OF THE DUMP (.gsa) THAT YtllaecliaojmjaaProg.lean LOADS. Nothing in Lean hashes anything: it is a label: what it is worth is what the hold of that sum in a sandbox is worth. -/
noncomputable def Try.pinned : Pinned := { name := "ytllaecliaojmjaa", sum := "0a86755197c6e8f565fe98d0be6169c3b88f4ab7d267ff1cce0b1801e37059e0", checked := Try.checked }
namespace Rows
def none {H : Type} : Left H := { results := [], args := [] }

/-- 'cupellaw09.BpeTokens': WHATEVER THE INPUT: true; the input reads as it did. -/
def bpeTokensSpec : ChangeSpec := { name := "bpeTokens", fn := fun _ => fun
  | [d1, d2] => { results := [.lit (.bool true)], args := [d1, d2] }
  | _ => none }
def bpeTokensRow : OpenClaim := { program := "ytllaecliaojmjaa", sum := "0a86755197c6e8f565fe98d0be6169c3b88f4ab7d267ff1cce0b1801e37059e0", func := "cupel/cupellaw09.BpeTokens", spec := "bpeTokens", plainKeys := false, apart := false }
def BpeTokensSaid : Prop := bpeTokensRow.holds Try.pinned (OpenSpec.ofChange bpeTokensSpec)

/-- ITS FALSE NEIGHBOUR: 'it returns false'. Refute it at one input. -/
def bpeTokensWrong : ChangeSpec := { name := "bpeTokens", fn := fun _ => fun
  | [d1, d2] => { results := [.lit (.bool false)], args := [d1, d2] }
  | _ => none }
def BpeTokensWrongFalsely : Prop := bpeTokensRow.holds Try.pinned (OpenSpec.ofChange bpeTokensWrong)

/-- 'cupellaw09.BpeEncodes': WHATEVER THE INPUT: true; the input reads as it did. -/
def bpeEncodesSpec : ChangeSpec := { name := "bpeEncodes", fn := fun _ => fun
  | [d1, d2] => { results := [.lit (.bool true)], args := [d1, d2] }
  | _ => none }
def bpeEncodesRow : OpenClaim := { program := "ytllaecliaojmjaa", sum := "0a86755197c6e8f565fe98d0be6169c3b88f4ab7d267ff1cce0b1801e37059e0", func := "cupel/cupellaw09.BpeEncodes", spec := "bpeEncodes", plainKeys := false, apart := false }
def BpeEncodesSaid : Prop := bpeEncodesRow.holds Try.pinned (OpenSpec.ofChange bpeEncodesSpec)

/-- ITS FALSE NEIGHBOUR: 'it returns false'. Refute it at one input. -/
def bpeEncodesWrong : ChangeSpec := { name := "bpeEncodes", fn := fun _ => fun
  | [d1, d2] => { results := [.lit (.bool false)], args := [d1, d2] }
  | _ => none }
def BpeEncodesWrongFalsely : Prop := bpeEncodesRow.holds Try.pinned (OpenSpec.ofChange bpeEncodesWrong)

/-- 'cupellaw09.BpeLast': WHATEVER THE INPUT: true; the input reads as it did. -/
def bpeLastSpec : ChangeSpec := { name := "bpeLast", fn := fun _ => fun
  | [d1, d2] => { results := [.lit (.bool true)], args := [d1, d2] }
  | _ => none }
def bpeLastRow : OpenClaim := { program := "ytllaecliaojmjaa", sum := "0a86755197c6e8f565fe98d0be6169c3b88f4ab7d267ff1cce0b1801e37059e0", func := "cupel/cupellaw09.BpeLast", spec := "bpeLast", plainKeys := false, apart := false }
def BpeLastSaid : Prop := bpeLastRow.holds Try.pinned (OpenSpec.ofChange bpeLastSpec)

/-- ITS FALSE NEIGHBOUR: 'it returns false'. Refute it at one input. -/
def bpeLastWrong : ChangeSpec := { name := "bpeLast", fn := fun _ => fun
  | [d1, d2] => { results := [.lit (.bool false)], args := [d1, d2] }
  | _ => none }
def BpeLastWrongFalsely : Prop := bpeLastRow.holds Try.pinned (OpenSpec.ofChange bpeLastWrong)

/- THE SECOND FORM. 'bulk': how many values and letters a reading holds, each counted each time it is reached (what is shared counts as often as it is met; a slice's spare places count too). A statement '..UptoSaid' is the law's where the arguments, and the package variables that the reading takes, are together of bulk at most 1048576: NARROWER than '..Said'. Prove '..Said' where nothing that the law and all that it calls make is longer than what came in: it says more and counts as full. Else prove '..UptoSaid'. A law counts once. -/
mutual
def uptoBulk {H : Type} : DataW H → Nat
  | .lit (.string bytes) => bytes.length + 1
  | .lit _ => 1
  | .nil => 1
  | .ptr d => uptoBulk d + 1
  | .slice elems spare => uptoBulkAll elems + uptoBulkAll spare + 1
  | .agg parts => uptoBulkAll parts + 1
  | .iface _ d => uptoBulk d + 1
  | .map entries => uptoBulkEntries entries + 1
  | .held _ => 1
def uptoBulkAll {H : Type} : List (DataW H) → Nat
  | [] => 0
  | d :: r => uptoBulk d + uptoBulkAll r
def uptoBulkEntries {H : Type} : List (Lit × DataW H) → Nat
  | [] => 0
  | x :: r => uptoBulkEntry x + uptoBulkEntries r
def uptoBulkEntry {H : Type} : Lit × DataW H → Nat
  | (.string bytes, d) => bytes.length + uptoBulk d + 1
  | (_, d) => uptoBulk d + 1
 end
def uptoSmall : (H : Type) → List (DataW H) → Bool := fun _ ds => decide (uptoBulkAll ds ≤ 1048576)
def OpenSpec.upto (s : _root_.Go.ChangeSpec) : _root_.Go.OpenSpec := { _root_.Go.OpenSpec.ofChange s with cond := some uptoSmall }

/-- 'cupellaw09.BpeTokens', WHERE WHAT IT READS IS OF BULK AT MOST 1048576: true; the input reads as it did. -/
def bpeTokensUptoRow : OpenClaim := { program := "ytllaecliaojmjaa", sum := "0a86755197c6e8f565fe98d0be6169c3b88f4ab7d267ff1cce0b1801e37059e0", func := "cupel/cupellaw09.BpeTokens", spec := "bpeTokens", plainKeys := false, apart := false, narrowed := true }
def BpeTokensUptoSaid : Prop := bpeTokensUptoRow.holds Try.pinned (OpenSpec.upto bpeTokensSpec)

/-- 'cupellaw09.BpeEncodes', WHERE WHAT IT READS IS OF BULK AT MOST 1048576: true; the input reads as it did. -/
def bpeEncodesUptoRow : OpenClaim := { program := "ytllaecliaojmjaa", sum := "0a86755197c6e8f565fe98d0be6169c3b88f4ab7d267ff1cce0b1801e37059e0", func := "cupel/cupellaw09.BpeEncodes", spec := "bpeEncodes", plainKeys := false, apart := false, narrowed := true }
def BpeEncodesUptoSaid : Prop := bpeEncodesUptoRow.holds Try.pinned (OpenSpec.upto bpeEncodesSpec)

/-- 'cupellaw09.BpeLast', WHERE WHAT IT READS IS OF BULK AT MOST 1048576: true; the input reads as it did. -/
def bpeLastUptoRow : OpenClaim := { program := "ytllaecliaojmjaa", sum := "0a86755197c6e8f565fe98d0be6169c3b88f4ab7d267ff1cce0b1801e37059e0", func := "cupel/cupellaw09.BpeLast", spec := "bpeLast", plainKeys := false, apart := false, narrowed := true }
def BpeLastUptoSaid : Prop := bpeLastUptoRow.holds Try.pinned (OpenSpec.upto bpeLastSpec)

end Rows
end Go.Proofs.Ytllaecliaojmjaa
