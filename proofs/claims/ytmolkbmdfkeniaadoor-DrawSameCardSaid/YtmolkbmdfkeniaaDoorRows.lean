/-
  NARROWER THAN 'FOR EVERY INPUT', by the rows' own cells (each row's printed sentence says how): DrawNumbers: laid · DrawBelow: laid · DrawChoose: laid · DrawPicks: laid · DrawSame: laid · DrawFits: laid · DrawNil: laid · DrawRow: laid.
  DERIVED. THE GIVEN ROWS OF THIS SEAT. 8 by the template 'for every input the law returns true; each argument reads behind the call as it read before'; 0 by the template 'total and deterministic' (their statements: YtmolkbmdfkeniaaDoorTotals.lean).
  GIVEN WITH THE SEED: the statements are not yours to turn. If you find one false, say at which input.
  Laid BY PROGRAM, IN A SANDBOX (cutbox-rows.mjs): the forced cells as the released guide's own fill.sh prints them over the translation 6a494e1089ecf83c… (all of the seat's roots in one cut). By AI agents, Wed Nov 11 2026. No macro, syntax, notation, axiom, sorry.
-/
import Derived.Test.YtmolkbmdfkeniaaDoorChecked
import GoSem.Claim
import GoSem.ClaimJoined
import GoSem.ClaimMapViews
import Derived.JoinedTies
import Derived.KernelRfl
namespace Go.Proofs.YtmolkbmdfkeniaaDoor
/- THE CELL 'sum', in the pinned program and in every row, IS THE sha256 OF THE DUMP (.gsa) THAT YtmolkbmdfkeniaaDoorProg.lean LOADS. Nothing in Lean hashes anything: it is a label: what it is worth is what the hold of that sum in a sandbox is worth. -/
noncomputable def Tryd.pinned : Pinned := { name := "ytmolkbmdfkeniaadoor", sum := "6a494e1089ecf83c465ebf5f83d884f68ccb0821f899d4dbd94b6b8f68525d09", checked := Tryd.checked }
namespace Rows
def none {H : Type} : Left H := { results := [], args := [] }

/- WHAT THE LISTED PACKAGE-LEVEL VARIABLES READ AS WHEN THE CALL BEGINS. Each datum BY PROGRAM (the guide's laid-datum.mjs) off the statement by which the dump's own 'gosem.cut.vars' lays the variable. In a bare row this is a premise. The card (YtmolkbmdfkeniaaDoorCards.lean) ties it to the program's text. -/
def laid_cupel_fixed_expSteps {H : Type} : DataW H := .agg [.lit (.int .i64 22), .lit (.int .i64 1200), .lit (.int .i64 8869), .lit (.int .i64 24109), .lit (.int .i64 39750), .lit (.int .i64 51039), .lit (.int .i64 57835), .lit (.int .i64 61565), .lit (.int .i64 63520), .lit (.int .i64 64520), .lit (.int .i64 65026), .lit (.int .i64 65280), .lit (.int .i64 65408), .lit (.int .i64 65472), .lit (.int .i64 65504), .lit (.int .i64 65520), .lit (.int .i64 65528), .lit (.int .i64 65532), .lit (.int .i64 65534), .lit (.int .i64 65535)]
def laid_cupel_sha_start {H : Type} : DataW H := .agg [.lit (.int .u32 1779033703), .lit (.int .u32 3144134277), .lit (.int .u32 1013904242), .lit (.int .u32 2773480762), .lit (.int .u32 1359893119), .lit (.int .u32 2600822924), .lit (.int .u32 528734635), .lit (.int .u32 1541459225)]
def laid_cupel_sha_roundConstants {H : Type} : DataW H := .agg [.lit (.int .u32 1116352408), .lit (.int .u32 1899447441), .lit (.int .u32 3049323471), .lit (.int .u32 3921009573), .lit (.int .u32 961987163), .lit (.int .u32 1508970993), .lit (.int .u32 2453635748), .lit (.int .u32 2870763221), .lit (.int .u32 3624381080), .lit (.int .u32 310598401), .lit (.int .u32 607225278), .lit (.int .u32 1426881987), .lit (.int .u32 1925078388), .lit (.int .u32 2162078206), .lit (.int .u32 2614888103), .lit (.int .u32 3248222580), .lit (.int .u32 3835390401), .lit (.int .u32 4022224774), .lit (.int .u32 264347078), .lit (.int .u32 604807628), .lit (.int .u32 770255983), .lit (.int .u32 1249150122), .lit (.int .u32 1555081692), .lit (.int .u32 1996064986), .lit (.int .u32 2554220882), .lit (.int .u32 2821834349), .lit (.int .u32 2952996808), .lit (.int .u32 3210313671), .lit (.int .u32 3336571891), .lit (.int .u32 3584528711), .lit (.int .u32 113926993), .lit (.int .u32 338241895), .lit (.int .u32 666307205), .lit (.int .u32 773529912), .lit (.int .u32 1294757372), .lit (.int .u32 1396182291), .lit (.int .u32 1695183700), .lit (.int .u32 1986661051), .lit (.int .u32 2177026350), .lit (.int .u32 2456956037), .lit (.int .u32 2730485921), .lit (.int .u32 2820302411), .lit (.int .u32 3259730800), .lit (.int .u32 3345764771), .lit (.int .u32 3516065817), .lit (.int .u32 3600352804), .lit (.int .u32 4094571909), .lit (.int .u32 275423344), .lit (.int .u32 430227734), .lit (.int .u32 506948616), .lit (.int .u32 659060556), .lit (.int .u32 883997877), .lit (.int .u32 958139571), .lit (.int .u32 1322822218), .lit (.int .u32 1537002063), .lit (.int .u32 1747873779), .lit (.int .u32 1955562222), .lit (.int .u32 2024104815), .lit (.int .u32 2227730452), .lit (.int .u32 2361852424), .lit (.int .u32 2428436474), .lit (.int .u32 2756734187), .lit (.int .u32 3204031479), .lit (.int .u32 3329325298)]

/-- 'cupellaw08.DrawNumbers': WHATEVER THE INPUT: true; the input reads as it did. -/
def drawNumbersSpec : ChangeSpec := { name := "drawNumbers", fn := fun _ => fun
  | [d1, d2] => { results := [.lit (.bool true)], args := [d1, d2] }
  | _ => none }
def drawNumbersRow : OpenClaim := { program := "ytmolkbmdfkeniaadoor", sum := "6a494e1089ecf83c465ebf5f83d884f68ccb0821f899d4dbd94b6b8f68525d09", func := "cupel/cupellaw08.DrawNumbers", spec := "drawNumbers", unfollowed := true, recurses := true, named := ["cupel/sha.start", "cupel/sha.roundConstants", "cupel/fixed.expSteps"], apart := false, laid := [("cupel/fixed.expSteps", laid_cupel_fixed_expSteps), ("cupel/sha.start", laid_cupel_sha_start), ("cupel/sha.roundConstants", laid_cupel_sha_roundConstants)] }
def DrawNumbersSaid : Prop := drawNumbersRow.holds Tryd.pinned (OpenSpec.ofChange drawNumbersSpec)

/-- ITS FALSE NEIGHBOUR: 'it returns false'. Refute it at one input. -/
def drawNumbersWrong : ChangeSpec := { name := "drawNumbers", fn := fun _ => fun
  | [d1, d2] => { results := [.lit (.bool false)], args := [d1, d2] }
  | _ => none }
def DrawNumbersWrongFalsely : Prop := drawNumbersRow.holds Tryd.pinned (OpenSpec.ofChange drawNumbersWrong)

/-- 'cupellaw08.DrawBelow': WHATEVER THE INPUT: true; the input reads as it did. -/
def drawBelowSpec : ChangeSpec := { name := "drawBelow", fn := fun _ => fun
  | [d1, d2, d3] => { results := [.lit (.bool true)], args := [d1, d2, d3] }
  | _ => none }
def drawBelowRow : OpenClaim := { program := "ytmolkbmdfkeniaadoor", sum := "6a494e1089ecf83c465ebf5f83d884f68ccb0821f899d4dbd94b6b8f68525d09", func := "cupel/cupellaw08.DrawBelow", spec := "drawBelow", unfollowed := true, recurses := true, named := ["cupel/sha.start", "cupel/sha.roundConstants", "cupel/fixed.expSteps"], apart := false, laid := [("cupel/fixed.expSteps", laid_cupel_fixed_expSteps), ("cupel/sha.start", laid_cupel_sha_start), ("cupel/sha.roundConstants", laid_cupel_sha_roundConstants)] }
def DrawBelowSaid : Prop := drawBelowRow.holds Tryd.pinned (OpenSpec.ofChange drawBelowSpec)

/-- ITS FALSE NEIGHBOUR: 'it returns false'. Refute it at one input. -/
def drawBelowWrong : ChangeSpec := { name := "drawBelow", fn := fun _ => fun
  | [d1, d2, d3] => { results := [.lit (.bool false)], args := [d1, d2, d3] }
  | _ => none }
def DrawBelowWrongFalsely : Prop := drawBelowRow.holds Tryd.pinned (OpenSpec.ofChange drawBelowWrong)

/-- 'cupellaw08.DrawChoose': WHATEVER THE INPUT: true; the input reads as it did. -/
def drawChooseSpec : ChangeSpec := { name := "drawChoose", fn := fun _ => fun
  | [d1, d2, d3] => { results := [.lit (.bool true)], args := [d1, d2, d3] }
  | _ => none }
def drawChooseRow : OpenClaim := { program := "ytmolkbmdfkeniaadoor", sum := "6a494e1089ecf83c465ebf5f83d884f68ccb0821f899d4dbd94b6b8f68525d09", func := "cupel/cupellaw08.DrawChoose", spec := "drawChoose", unfollowed := true, recurses := true, named := ["cupel/sha.start", "cupel/sha.roundConstants", "cupel/fixed.expSteps"], apart := false, laid := [("cupel/fixed.expSteps", laid_cupel_fixed_expSteps), ("cupel/sha.start", laid_cupel_sha_start), ("cupel/sha.roundConstants", laid_cupel_sha_roundConstants)] }
def DrawChooseSaid : Prop := drawChooseRow.holds Tryd.pinned (OpenSpec.ofChange drawChooseSpec)

/-- ITS FALSE NEIGHBOUR: 'it returns false'. Refute it at one input. -/
def drawChooseWrong : ChangeSpec := { name := "drawChoose", fn := fun _ => fun
  | [d1, d2, d3] => { results := [.lit (.bool false)], args := [d1, d2, d3] }
  | _ => none }
def DrawChooseWrongFalsely : Prop := drawChooseRow.holds Tryd.pinned (OpenSpec.ofChange drawChooseWrong)

/-- 'cupellaw08.DrawPicks': WHATEVER THE INPUT: true; the input reads as it did. -/
def drawPicksSpec : ChangeSpec := { name := "drawPicks", fn := fun _ => fun
  | [d1, d2, d3] => { results := [.lit (.bool true)], args := [d1, d2, d3] }
  | _ => none }
def drawPicksRow : OpenClaim := { program := "ytmolkbmdfkeniaadoor", sum := "6a494e1089ecf83c465ebf5f83d884f68ccb0821f899d4dbd94b6b8f68525d09", func := "cupel/cupellaw08.DrawPicks", spec := "drawPicks", unfollowed := true, recurses := true, named := ["cupel/sha.start", "cupel/sha.roundConstants", "cupel/fixed.expSteps"], apart := false, laid := [("cupel/fixed.expSteps", laid_cupel_fixed_expSteps), ("cupel/sha.start", laid_cupel_sha_start), ("cupel/sha.roundConstants", laid_cupel_sha_roundConstants)] }
def DrawPicksSaid : Prop := drawPicksRow.holds Tryd.pinned (OpenSpec.ofChange drawPicksSpec)

/-- ITS FALSE NEIGHBOUR: 'it returns false'. Refute it at one input. -/
def drawPicksWrong : ChangeSpec := { name := "drawPicks", fn := fun _ => fun
  | [d1, d2, d3] => { results := [.lit (.bool false)], args := [d1, d2, d3] }
  | _ => none }
def DrawPicksWrongFalsely : Prop := drawPicksRow.holds Tryd.pinned (OpenSpec.ofChange drawPicksWrong)

/-- 'cupellaw08.DrawSame': WHATEVER THE INPUT: true; the input reads as it did. -/
def drawSameSpec : ChangeSpec := { name := "drawSame", fn := fun _ => fun
  | [d1, d2, d3] => { results := [.lit (.bool true)], args := [d1, d2, d3] }
  | _ => none }
def drawSameRow : OpenClaim := { program := "ytmolkbmdfkeniaadoor", sum := "6a494e1089ecf83c465ebf5f83d884f68ccb0821f899d4dbd94b6b8f68525d09", func := "cupel/cupellaw08.DrawSame", spec := "drawSame", unfollowed := true, recurses := true, named := ["cupel/sha.start", "cupel/sha.roundConstants", "cupel/fixed.expSteps"], apart := false, laid := [("cupel/fixed.expSteps", laid_cupel_fixed_expSteps), ("cupel/sha.start", laid_cupel_sha_start), ("cupel/sha.roundConstants", laid_cupel_sha_roundConstants)] }
def DrawSameSaid : Prop := drawSameRow.holds Tryd.pinned (OpenSpec.ofChange drawSameSpec)

/-- ITS FALSE NEIGHBOUR: 'it returns false'. Refute it at one input. -/
def drawSameWrong : ChangeSpec := { name := "drawSame", fn := fun _ => fun
  | [d1, d2, d3] => { results := [.lit (.bool false)], args := [d1, d2, d3] }
  | _ => none }
def DrawSameWrongFalsely : Prop := drawSameRow.holds Tryd.pinned (OpenSpec.ofChange drawSameWrong)

/-- 'cupellaw08.DrawFits': WHATEVER THE INPUT: true; the input reads as it did. -/
def drawFitsSpec : ChangeSpec := { name := "drawFits", fn := fun _ => fun
  | [d1, d2, d3] => { results := [.lit (.bool true)], args := [d1, d2, d3] }
  | _ => none }
def drawFitsRow : OpenClaim := { program := "ytmolkbmdfkeniaadoor", sum := "6a494e1089ecf83c465ebf5f83d884f68ccb0821f899d4dbd94b6b8f68525d09", func := "cupel/cupellaw08.DrawFits", spec := "drawFits", unfollowed := true, recurses := true, named := ["cupel/sha.start", "cupel/sha.roundConstants", "cupel/fixed.expSteps"], apart := false, laid := [("cupel/fixed.expSteps", laid_cupel_fixed_expSteps), ("cupel/sha.start", laid_cupel_sha_start), ("cupel/sha.roundConstants", laid_cupel_sha_roundConstants)] }
def DrawFitsSaid : Prop := drawFitsRow.holds Tryd.pinned (OpenSpec.ofChange drawFitsSpec)

/-- ITS FALSE NEIGHBOUR: 'it returns false'. Refute it at one input. -/
def drawFitsWrong : ChangeSpec := { name := "drawFits", fn := fun _ => fun
  | [d1, d2, d3] => { results := [.lit (.bool false)], args := [d1, d2, d3] }
  | _ => none }
def DrawFitsWrongFalsely : Prop := drawFitsRow.holds Tryd.pinned (OpenSpec.ofChange drawFitsWrong)

/-- 'cupellaw08.DrawNil': WHATEVER THE INPUT: true; the input reads as it did. -/
def drawNilSpec : ChangeSpec := { name := "drawNil", fn := fun _ => fun
  | [d1, d2] => { results := [.lit (.bool true)], args := [d1, d2] }
  | _ => none }
def drawNilRow : OpenClaim := { program := "ytmolkbmdfkeniaadoor", sum := "6a494e1089ecf83c465ebf5f83d884f68ccb0821f899d4dbd94b6b8f68525d09", func := "cupel/cupellaw08.DrawNil", spec := "drawNil", unfollowed := true, recurses := true, named := ["cupel/sha.start", "cupel/sha.roundConstants", "cupel/fixed.expSteps"], apart := false, laid := [("cupel/fixed.expSteps", laid_cupel_fixed_expSteps), ("cupel/sha.start", laid_cupel_sha_start), ("cupel/sha.roundConstants", laid_cupel_sha_roundConstants)] }
def DrawNilSaid : Prop := drawNilRow.holds Tryd.pinned (OpenSpec.ofChange drawNilSpec)

/-- ITS FALSE NEIGHBOUR: 'it returns false'. Refute it at one input. -/
def drawNilWrong : ChangeSpec := { name := "drawNil", fn := fun _ => fun
  | [d1, d2] => { results := [.lit (.bool false)], args := [d1, d2] }
  | _ => none }
def DrawNilWrongFalsely : Prop := drawNilRow.holds Tryd.pinned (OpenSpec.ofChange drawNilWrong)

/-- 'cupellaw08.DrawRow': WHATEVER THE INPUT: true; the input reads as it did. -/
def drawRowSpec : ChangeSpec := { name := "drawRow", fn := fun _ => fun
  | [d1, d2, d3] => { results := [.lit (.bool true)], args := [d1, d2, d3] }
  | _ => none }
def drawRowRow : OpenClaim := { program := "ytmolkbmdfkeniaadoor", sum := "6a494e1089ecf83c465ebf5f83d884f68ccb0821f899d4dbd94b6b8f68525d09", func := "cupel/cupellaw08.DrawRow", spec := "drawRow", unfollowed := true, recurses := true, named := ["cupel/sha.start", "cupel/sha.roundConstants", "cupel/fixed.expSteps"], apart := false, laid := [("cupel/fixed.expSteps", laid_cupel_fixed_expSteps), ("cupel/sha.start", laid_cupel_sha_start), ("cupel/sha.roundConstants", laid_cupel_sha_roundConstants)] }
def DrawRowSaid : Prop := drawRowRow.holds Tryd.pinned (OpenSpec.ofChange drawRowSpec)

/-- ITS FALSE NEIGHBOUR: 'it returns false'. Refute it at one input. -/
def drawRowWrong : ChangeSpec := { name := "drawRow", fn := fun _ => fun
  | [d1, d2, d3] => { results := [.lit (.bool false)], args := [d1, d2, d3] }
  | _ => none }
def DrawRowWrongFalsely : Prop := drawRowRow.holds Tryd.pinned (OpenSpec.ofChange drawRowWrong)

/- THE SECOND FORM. 'bulk': how many values and letters a reading holds, each counted each time it is reached (what is shared counts as often as it is met; a slice's spare places count too). A statement '..UptoSaid' is the law's where the arguments, and the package variables that the reading takes, are together of bulk at most 1048576: NARROWER than '..Said'. Prove '..Said' where nothing that the law and all that it calls make is longer than what came in: it says more and counts as full. Else prove '..UptoSaid'. A law counts once. -/
mutual
def uptoBulk {H : Type} : DataW H → Nat
  | .lit (.string bytes) => bytes.length + 1
  | .lit _ => 1
  | .nil => 1
  | .ptr d => uptoBulk d + 1
  | .slice elems spare => uptoBulkAll elems + uptoBulkAll spare + 1
  | .agg parts => uptoBulkAll parts + 1
  | .iface _ d => uptoBulk d + 1
  | .map entries => uptoBulkEntries entries + 1
  | .held _ => 1
def uptoBulkAll {H : Type} : List (DataW H) → Nat
  | [] => 0
  | d :: r => uptoBulk d + uptoBulkAll r
def uptoBulkEntries {H : Type} : List (Lit × DataW H) → Nat
  | [] => 0
  | x :: r => uptoBulkEntry x + uptoBulkEntries r
def uptoBulkEntry {H : Type} : Lit × DataW H → Nat
  | (.string bytes, d) => bytes.length + uptoBulk d + 1
  | (_, d) => uptoBulk d + 1
 end
def uptoSmall : (H : Type) → List (DataW H) → Bool := fun _ ds => decide (uptoBulkAll ds ≤ 1048576)
def OpenSpec.upto (s : _root_.Go.ChangeSpec) : _root_.Go.OpenSpec := { _root_.Go.OpenSpec.ofChange s with cond := some uptoSmall }

/-- 'cupellaw08.DrawNumbers', WHERE WHAT IT READS IS OF BULK AT MOST 1048576: true; the input reads as it did. -/
def drawNumbersUptoRow : OpenClaim := { program := "ytmolkbmdfkeniaadoor", sum := "6a494e1089ecf83c465ebf5f83d884f68ccb0821f899d4dbd94b6b8f68525d09", func := "cupel/cupellaw08.DrawNumbers", spec := "drawNumbers", unfollowed := true, recurses := true, named := ["cupel/sha.start", "cupel/sha.roundConstants", "cupel/fixed.expSteps"], apart := false, laid := [("cupel/fixed.expSteps", laid_cupel_fixed_expSteps), ("cupel/sha.start", laid_cupel_sha_start), ("cupel/sha.roundConstants", laid_cupel_sha_roundConstants)], narrowed := true }
def DrawNumbersUptoSaid : Prop := drawNumbersUptoRow.holds Tryd.pinned (OpenSpec.upto drawNumbersSpec)

/-- 'cupellaw08.DrawBelow', WHERE WHAT IT READS IS OF BULK AT MOST 1048576: true; the input reads as it did. -/
def drawBelowUptoRow : OpenClaim := { program := "ytmolkbmdfkeniaadoor", sum := "6a494e1089ecf83c465ebf5f83d884f68ccb0821f899d4dbd94b6b8f68525d09", func := "cupel/cupellaw08.DrawBelow", spec := "drawBelow", unfollowed := true, recurses := true, named := ["cupel/sha.start", "cupel/sha.roundConstants", "cupel/fixed.expSteps"], apart := false, laid := [("cupel/fixed.expSteps", laid_cupel_fixed_expSteps), ("cupel/sha.start", laid_cupel_sha_start), ("cupel/sha.roundConstants", laid_cupel_sha_roundConstants)], narrowed := true }
def DrawBelowUptoSaid : Prop := drawBelowUptoRow.holds Tryd.pinned (OpenSpec.upto drawBelowSpec)

/-- 'cupellaw08.DrawChoose', WHERE WHAT IT READS IS OF BULK AT MOST 1048576: true; the input reads as it did. -/
def drawChooseUptoRow : OpenClaim := { program := "ytmolkbmdfkeniaadoor", sum := "6a494e1089ecf83c465ebf5f83d884f68ccb0821f899d4dbd94b6b8f68525d09", func := "cupel/cupellaw08.DrawChoose", spec := "drawChoose", unfollowed := true, recurses := true, named := ["cupel/sha.start", "cupel/sha.roundConstants", "cupel/fixed.expSteps"], apart := false, laid := [("cupel/fixed.expSteps", laid_cupel_fixed_expSteps), ("cupel/sha.start", laid_cupel_sha_start), ("cupel/sha.roundConstants", laid_cupel_sha_roundConstants)], narrowed := true }
def DrawChooseUptoSaid : Prop := drawChooseUptoRow.holds Tryd.pinned (OpenSpec.upto drawChooseSpec)

/-- 'cupellaw08.DrawPicks', WHERE WHAT IT READS IS OF BULK AT MOST 1048576: true; the input reads as it did. -/
def drawPicksUptoRow : OpenClaim := { program := "ytmolkbmdfkeniaadoor", sum := "6a494e1089ecf83c465ebf5f83d884f68ccb0821f899d4dbd94b6b8f68525d09", func := "cupel/cupellaw08.DrawPicks", spec := "drawPicks", unfollowed := true, recurses := true, named := ["cupel/sha.start", "cupel/sha.roundConstants", "cupel/fixed.expSteps"], apart := false, laid := [("cupel/fixed.expSteps", laid_cupel_fixed_expSteps), ("cupel/sha.start", laid_cupel_sha_start), ("cupel/sha.roundConstants", laid_cupel_sha_roundConstants)], narrowed := true }
def DrawPicksUptoSaid : Prop := drawPicksUptoRow.holds Tryd.pinned (OpenSpec.upto drawPicksSpec)

/-- 'cupellaw08.DrawSame', WHERE WHAT IT READS IS OF BULK AT MOST 1048576: true; the input reads as it did. -/
def drawSameUptoRow : OpenClaim := { program := "ytmolkbmdfkeniaadoor", sum := "6a494e1089ecf83c465ebf5f83d884f68ccb0821f899d4dbd94b6b8f68525d09", func := "cupel/cupellaw08.DrawSame", spec := "drawSame", unfollowed := true, recurses := true, named := ["cupel/sha.start", "cupel/sha.roundConstants", "cupel/fixed.expSteps"], apart := false, laid := [("cupel/fixed.expSteps", laid_cupel_fixed_expSteps), ("cupel/sha.start", laid_cupel_sha_start), ("cupel/sha.roundConstants", laid_cupel_sha_roundConstants)], narrowed := true }
def DrawSameUptoSaid : Prop := drawSameUptoRow.holds Tryd.pinned (OpenSpec.upto drawSameSpec)

/-- 'cupellaw08.DrawFits', WHERE WHAT IT READS IS OF BULK AT MOST 1048576: true; the input reads as it did. -/
def drawFitsUptoRow : OpenClaim := { program := "ytmolkbmdfkeniaadoor", sum := "6a494e1089ecf83c465ebf5f83d884f68ccb0821f899d4dbd94b6b8f68525d09", func := "cupel/cupellaw08.DrawFits", spec := "drawFits", unfollowed := true, recurses := true, named := ["cupel/sha.start", "cupel/sha.roundConstants", "cupel/fixed.expSteps"], apart := false, laid := [("cupel/fixed.expSteps", laid_cupel_fixed_expSteps), ("cupel/sha.start", laid_cupel_sha_start), ("cupel/sha.roundConstants", laid_cupel_sha_roundConstants)], narrowed := true }
def DrawFitsUptoSaid : Prop := drawFitsUptoRow.holds Tryd.pinned (OpenSpec.upto drawFitsSpec)

/-- 'cupellaw08.DrawNil', WHERE WHAT IT READS IS OF BULK AT MOST 1048576: true; the input reads as it did. -/
def drawNilUptoRow : OpenClaim := { program := "ytmolkbmdfkeniaadoor", sum := "6a494e1089ecf83c465ebf5f83d884f68ccb0821f899d4dbd94b6b8f68525d09", func := "cupel/cupellaw08.DrawNil", spec := "drawNil", unfollowed := true, recurses := true, named := ["cupel/sha.start", "cupel/sha.roundConstants", "cupel/fixed.expSteps"], apart := false, laid := [("cupel/fixed.expSteps", laid_cupel_fixed_expSteps), ("cupel/sha.start", laid_cupel_sha_start), ("cupel/sha.roundConstants", laid_cupel_sha_roundConstants)], narrowed := true }
def DrawNilUptoSaid : Prop := drawNilUptoRow.holds Tryd.pinned (OpenSpec.upto drawNilSpec)

/-- 'cupellaw08.DrawRow', WHERE WHAT IT READS IS OF BULK AT MOST 1048576: true; the input reads as it did. -/
def drawRowUptoRow : OpenClaim := { program := "ytmolkbmdfkeniaadoor", sum := "6a494e1089ecf83c465ebf5f83d884f68ccb0821f899d4dbd94b6b8f68525d09", func := "cupel/cupellaw08.DrawRow", spec := "drawRow", unfollowed := true, recurses := true, named := ["cupel/sha.start", "cupel/sha.roundConstants", "cupel/fixed.expSteps"], apart := false, laid := [("cupel/fixed.expSteps", laid_cupel_fixed_expSteps), ("cupel/sha.start", laid_cupel_sha_start), ("cupel/sha.roundConstants", laid_cupel_sha_roundConstants)], narrowed := true }
def DrawRowUptoSaid : Prop := drawRowUptoRow.holds Tryd.pinned (OpenSpec.upto drawRowSpec)

end Rows
end Go.Proofs.YtmolkbmdfkeniaaDoor
