/-
  No cell of these rows narrows 'for every input' (looked for: loops, veiled, ifaces, maps, wideKeys, modest, calm, conditions, laid).
  DERIVED. THE GIVEN ROWS OF THIS SEAT. 5 by the template 'for every input the law returns true; each argument reads behind the call as it read before'; 0 by the template 'total and deterministic' (their statements: YtcfhchdkohjbfaaTotals.lean).
  GIVEN WITH THE SEED: the statements are not yours to turn. If you find one false, say at which input.
  Laid BY PROGRAM, IN A SANDBOX (cutbox-rows.mjs): the forced cells as the released guide's own fill.sh prints them over the translation 44d578a8675b2958… (all of the seat's roots in one cut). By AI agents, Wed Nov 11 2026. No macro, syntax, notation, axiom, sorry.
-/
import Derived.Test.YtcfhchdkohjbfaaChecked
import GoSem.Claim
import GoSem.ClaimJoined
import GoSem.ClaimMapViews
import Derived.JoinedTies
import Derived.KernelRfl
namespace Go.Proofs.Ytcfhchdkohjbfaa
/- THE CELL 'sum', in the pinned program and in every row, IS THE sha256 OF THE DUMP (.gsa) THAT YtcfhchdkohjbfaaProg.lean LOADS. Nothing in Lean hashes anything: it is a label: what it is worth is what the hold of that sum in a sandbox is worth. -/
noncomputable def Try.pinned : Pinned := { name := "ytcfhchdkohjbfaa", sum := "44d578a8675b2958f09a2d742adee3620f85e07744998b40e14534b39f98d6a9", checked := Try.checked }
namespace Rows
def none {H : Type} : Left H := { results := [], args := [] }

/-- 'cupellaw13.KvPlays': WHATEVER THE INPUT: true; the input reads as it did. -/
def kvPlaysSpec : ChangeSpec := { name := "kvPlays", fn := fun _ => fun
  | [d1, d2] => { results := [.lit (.bool true)], args := [d1, d2] }
  | _ => none }
def kvPlaysRow : OpenClaim := { program := "ytcfhchdkohjbfaa", sum := "44d578a8675b2958f09a2d742adee3620f85e07744998b40e14534b39f98d6a9", func := "cupel/cupellaw13.KvPlays", spec := "kvPlays", unfollowed := true, recurses := true, apart := false }
def KvPlaysSaid : Prop := kvPlaysRow.holds Try.pinned (OpenSpec.ofChange kvPlaysSpec)

/-- ITS FALSE NEIGHBOUR: 'it returns false'. Refute it at one input. -/
def kvPlaysWrong : ChangeSpec := { name := "kvPlays", fn := fun _ => fun
  | [d1, d2] => { results := [.lit (.bool false)], args := [d1, d2] }
  | _ => none }
def KvPlaysWrongFalsely : Prop := kvPlaysRow.holds Try.pinned (OpenSpec.ofChange kvPlaysWrong)

/-- 'cupellaw13.KvApart': WHATEVER THE INPUT: true; the input reads as it did. -/
def kvApartSpec : ChangeSpec := { name := "kvApart", fn := fun _ => fun
  | [d1, d2, d3] => { results := [.lit (.bool true)], args := [d1, d2, d3] }
  | _ => none }
def kvApartRow : OpenClaim := { program := "ytcfhchdkohjbfaa", sum := "44d578a8675b2958f09a2d742adee3620f85e07744998b40e14534b39f98d6a9", func := "cupel/cupellaw13.KvApart", spec := "kvApart", unfollowed := true, recurses := true, apart := false }
def KvApartSaid : Prop := kvApartRow.holds Try.pinned (OpenSpec.ofChange kvApartSpec)

/-- ITS FALSE NEIGHBOUR: 'it returns false'. Refute it at one input. -/
def kvApartWrong : ChangeSpec := { name := "kvApart", fn := fun _ => fun
  | [d1, d2, d3] => { results := [.lit (.bool false)], args := [d1, d2, d3] }
  | _ => none }
def KvApartWrongFalsely : Prop := kvApartRow.holds Try.pinned (OpenSpec.ofChange kvApartWrong)

/-- 'cupellaw13.KvGoes': WHATEVER THE INPUT: true; the input reads as it did. -/
def kvGoesSpec : ChangeSpec := { name := "kvGoes", fn := fun _ => fun
  | [d1, d2] => { results := [.lit (.bool true)], args := [d1, d2] }
  | _ => none }
def kvGoesRow : OpenClaim := { program := "ytcfhchdkohjbfaa", sum := "44d578a8675b2958f09a2d742adee3620f85e07744998b40e14534b39f98d6a9", func := "cupel/cupellaw13.KvGoes", spec := "kvGoes", unfollowed := true, recurses := true, apart := false }
def KvGoesSaid : Prop := kvGoesRow.holds Try.pinned (OpenSpec.ofChange kvGoesSpec)

/-- ITS FALSE NEIGHBOUR: 'it returns false'. Refute it at one input. -/
def kvGoesWrong : ChangeSpec := { name := "kvGoes", fn := fun _ => fun
  | [d1, d2] => { results := [.lit (.bool false)], args := [d1, d2] }
  | _ => none }
def KvGoesWrongFalsely : Prop := kvGoesRow.holds Try.pinned (OpenSpec.ofChange kvGoesWrong)

/-- 'cupellaw13.KvShares': WHATEVER THE INPUT: true; the input reads as it did. -/
def kvSharesSpec : ChangeSpec := { name := "kvShares", fn := fun _ => fun
  | [d1, d2, d3] => { results := [.lit (.bool true)], args := [d1, d2, d3] }
  | _ => none }
def kvSharesRow : OpenClaim := { program := "ytcfhchdkohjbfaa", sum := "44d578a8675b2958f09a2d742adee3620f85e07744998b40e14534b39f98d6a9", func := "cupel/cupellaw13.KvShares", spec := "kvShares", unfollowed := true, recurses := true, apart := false }
def KvSharesSaid : Prop := kvSharesRow.holds Try.pinned (OpenSpec.ofChange kvSharesSpec)

/-- ITS FALSE NEIGHBOUR: 'it returns false'. Refute it at one input. -/
def kvSharesWrong : ChangeSpec := { name := "kvShares", fn := fun _ => fun
  | [d1, d2, d3] => { results := [.lit (.bool false)], args := [d1, d2, d3] }
  | _ => none }
def KvSharesWrongFalsely : Prop := kvSharesRow.holds Try.pinned (OpenSpec.ofChange kvSharesWrong)

/-- 'cupellaw13.KvNil': WHATEVER THE INPUT: true; the input reads as it did. -/
def kvNilSpec : ChangeSpec := { name := "kvNil", fn := fun _ => fun
  | [d1, d2] => { results := [.lit (.bool true)], args := [d1, d2] }
  | _ => none }
def kvNilRow : OpenClaim := { program := "ytcfhchdkohjbfaa", sum := "44d578a8675b2958f09a2d742adee3620f85e07744998b40e14534b39f98d6a9", func := "cupel/cupellaw13.KvNil", spec := "kvNil", unfollowed := true, recurses := true, apart := false }
def KvNilSaid : Prop := kvNilRow.holds Try.pinned (OpenSpec.ofChange kvNilSpec)

/-- ITS FALSE NEIGHBOUR: 'it returns false'. Refute it at one input. -/
def kvNilWrong : ChangeSpec := { name := "kvNil", fn := fun _ => fun
  | [d1, d2] => { results := [.lit (.bool false)], args := [d1, d2] }
  | _ => none }
def KvNilWrongFalsely : Prop := kvNilRow.holds Try.pinned (OpenSpec.ofChange kvNilWrong)

/- THE SECOND FORM. 'bulk': how many values and letters a reading holds, each counted each time it is reached (what is shared counts as often as it is met; a slice's spare places count too). A statement '..UptoSaid' is the law's where the arguments, and the package variables that the reading takes, are together of bulk at most 1048576: NARROWER than '..Said'. Prove '..Said' where nothing that the law and all that it calls make is longer than what came in: it says more and counts as full. Else prove '..UptoSaid'. A law counts once. -/
mutual
def uptoBulk {H : Type} : DataW H → Nat
  | .lit (.string bytes) => bytes.length + 1
  | .lit _ => 1
  | .nil => 1
  | .ptr d => uptoBulk d + 1
  | .slice elems spare => uptoBulkAll elems + uptoBulkAll spare + 1
  | .agg parts => uptoBulkAll parts + 1
  | .iface _ d => uptoBulk d + 1
  | .map entries => uptoBulkEntries entries + 1
  | .held _ => 1
def uptoBulkAll {H : Type} : List (DataW H) → Nat
  | [] => 0
  | d :: r => uptoBulk d + uptoBulkAll r
def uptoBulkEntries {H : Type} : List (Lit × DataW H) → Nat
  | [] => 0
  | x :: r => uptoBulkEntry x + uptoBulkEntries r
def uptoBulkEntry {H : Type} : Lit × DataW H → Nat
  | (.string bytes, d) => bytes.length + uptoBulk d + 1
  | (_, d) => uptoBulk d + 1
 end
def uptoSmall : (H : Type) → List (DataW H) → Bool := fun _ ds => decide (uptoBulkAll ds ≤ 1048576)
def OpenSpec.upto (s : _root_.Go.ChangeSpec) : _root_.Go.OpenSpec := { _root_.Go.OpenSpec.ofChange s with cond := some uptoSmall }

/-- 'cupellaw13.KvPlays', WHERE WHAT IT READS IS OF BULK AT MOST 1048576: true; the input reads as it did. -/
def kvPlaysUptoRow : OpenClaim := { program := "ytcfhchdkohjbfaa", sum := "44d578a8675b2958f09a2d742adee3620f85e07744998b40e14534b39f98d6a9", func := "cupel/cupellaw13.KvPlays", spec := "kvPlays", unfollowed := true, recurses := true, apart := false, narrowed := true }
def KvPlaysUptoSaid : Prop := kvPlaysUptoRow.holds Try.pinned (OpenSpec.upto kvPlaysSpec)

/-- 'cupellaw13.KvApart', WHERE WHAT IT READS IS OF BULK AT MOST 1048576: true; the input reads as it did. -/
def kvApartUptoRow : OpenClaim := { program := "ytcfhchdkohjbfaa", sum := "44d578a8675b2958f09a2d742adee3620f85e07744998b40e14534b39f98d6a9", func := "cupel/cupellaw13.KvApart", spec := "kvApart", unfollowed := true, recurses := true, apart := false, narrowed := true }
def KvApartUptoSaid : Prop := kvApartUptoRow.holds Try.pinned (OpenSpec.upto kvApartSpec)

/-- 'cupellaw13.KvGoes', WHERE WHAT IT READS IS OF BULK AT MOST 1048576: true; the input reads as it did. -/
def kvGoesUptoRow : OpenClaim := { program := "ytcfhchdkohjbfaa", sum := "44d578a8675b2958f09a2d742adee3620f85e07744998b40e14534b39f98d6a9", func := "cupel/cupellaw13.KvGoes", spec := "kvGoes", unfollowed := true, recurses := true, apart := false, narrowed := true }
def KvGoesUptoSaid : Prop := kvGoesUptoRow.holds Try.pinned (OpenSpec.upto kvGoesSpec)

/-- 'cupellaw13.KvShares', WHERE WHAT IT READS IS OF BULK AT MOST 1048576: true; the input reads as it did. -/
def kvSharesUptoRow : OpenClaim := { program := "ytcfhchdkohjbfaa", sum := "44d578a8675b2958f09a2d742adee3620f85e07744998b40e14534b39f98d6a9", func := "cupel/cupellaw13.KvShares", spec := "kvShares", unfollowed := true, recurses := true, apart := false, narrowed := true }
def KvSharesUptoSaid : Prop := kvSharesUptoRow.holds Try.pinned (OpenSpec.upto kvSharesSpec)

/-- 'cupellaw13.KvNil', WHERE WHAT IT READS IS OF BULK AT MOST 1048576: true; the input reads as it did. -/
def kvNilUptoRow : OpenClaim := { program := "ytcfhchdkohjbfaa", sum := "44d578a8675b2958f09a2d742adee3620f85e07744998b40e14534b39f98d6a9", func := "cupel/cupellaw13.KvNil", spec := "kvNil", unfollowed := true, recurses := true, apart := false, narrowed := true }
def KvNilUptoSaid : Prop := kvNilUptoRow.holds Try.pinned (OpenSpec.upto kvNilSpec)

end Rows
end Go.Proofs.Ytcfhchdkohjbfaa
