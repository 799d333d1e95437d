/-
  DERIVED. GIVEN WITH THE SEED: THE CARDS: each row of YtmolkbmdfkeniaaDoorRows.lean that lists a variable, with what it lists TIED to the program's text (the seventh form; the later family's looks); each row that meets fmt, with fmt's text TOLD by the authors' own Lean function (tested against real Go, not proved from fmt's source: count such statements apart). THE CARD IS WHAT COUNTS. Prove the row's statement (the work); the ties are given (YtmolkbmdfkeniaaDoorTie.lean); close each card by the builder's one call (the guide's Derived/Test/ToyasCard.lean, 'card_holds'). Laid BY PROGRAM, IN A SANDBOX (cutbox-door.mjs). By AI agents, Wed Nov 11 2026. No macro, syntax, notation, axiom, sorry.
-/
import Derived.Test.YtmolkbmdfkeniaaDoorRows
import GoSem.ClaimSeven
namespace Go.Proofs.YtmolkbmdfkeniaaDoor
namespace Rows

/-- THE TIED CARD OF 'cupellaw08.DrawNumbers'. -/
def drawNumbersCard : Claim7 := { stood := { row := drawNumbersRow, standIns := [], harness := (true, "b9d89119ddece5e16aee15c1265754d331b0799ab9acf0321ced385695a77784"), looks := false }, kinds := [], alts := [], laidByText := true, laidKinds := [.data, .data, .data], laidTests := true, laidLooks := .later }
def DrawNumbersCardSaid : Prop := Claim7.holds Tryd.pinned (.plain (OpenSpec.ofChange drawNumbersSpec)) drawNumbersCard

/-- THE TIED CARD OF 'cupellaw08.DrawBelow'. -/
def drawBelowCard : Claim7 := { stood := { row := drawBelowRow, standIns := [], harness := (true, "b9d89119ddece5e16aee15c1265754d331b0799ab9acf0321ced385695a77784"), looks := false }, kinds := [], alts := [], laidByText := true, laidKinds := [.data, .data, .data], laidTests := true, laidLooks := .later }
def DrawBelowCardSaid : Prop := Claim7.holds Tryd.pinned (.plain (OpenSpec.ofChange drawBelowSpec)) drawBelowCard

/-- THE TIED CARD OF 'cupellaw08.DrawChoose'. -/
def drawChooseCard : Claim7 := { stood := { row := drawChooseRow, standIns := [], harness := (true, "b9d89119ddece5e16aee15c1265754d331b0799ab9acf0321ced385695a77784"), looks := false }, kinds := [], alts := [], laidByText := true, laidKinds := [.data, .data, .data], laidTests := true, laidLooks := .later }
def DrawChooseCardSaid : Prop := Claim7.holds Tryd.pinned (.plain (OpenSpec.ofChange drawChooseSpec)) drawChooseCard

/-- THE TIED CARD OF 'cupellaw08.DrawPicks'. -/
def drawPicksCard : Claim7 := { stood := { row := drawPicksRow, standIns := [], harness := (true, "b9d89119ddece5e16aee15c1265754d331b0799ab9acf0321ced385695a77784"), looks := false }, kinds := [], alts := [], laidByText := true, laidKinds := [.data, .data, .data], laidTests := true, laidLooks := .later }
def DrawPicksCardSaid : Prop := Claim7.holds Tryd.pinned (.plain (OpenSpec.ofChange drawPicksSpec)) drawPicksCard

/-- THE TIED CARD OF 'cupellaw08.DrawSame'. -/
def drawSameCard : Claim7 := { stood := { row := drawSameRow, standIns := [], harness := (true, "b9d89119ddece5e16aee15c1265754d331b0799ab9acf0321ced385695a77784"), looks := false }, kinds := [], alts := [], laidByText := true, laidKinds := [.data, .data, .data], laidTests := true, laidLooks := .later }
def DrawSameCardSaid : Prop := Claim7.holds Tryd.pinned (.plain (OpenSpec.ofChange drawSameSpec)) drawSameCard

/-- THE TIED CARD OF 'cupellaw08.DrawFits'. -/
def drawFitsCard : Claim7 := { stood := { row := drawFitsRow, standIns := [], harness := (true, "b9d89119ddece5e16aee15c1265754d331b0799ab9acf0321ced385695a77784"), looks := false }, kinds := [], alts := [], laidByText := true, laidKinds := [.data, .data, .data], laidTests := true, laidLooks := .later }
def DrawFitsCardSaid : Prop := Claim7.holds Tryd.pinned (.plain (OpenSpec.ofChange drawFitsSpec)) drawFitsCard

/-- THE TIED CARD OF 'cupellaw08.DrawNil'. -/
def drawNilCard : Claim7 := { stood := { row := drawNilRow, standIns := [], harness := (true, "b9d89119ddece5e16aee15c1265754d331b0799ab9acf0321ced385695a77784"), looks := false }, kinds := [], alts := [], laidByText := true, laidKinds := [.data, .data, .data], laidTests := true, laidLooks := .later }
def DrawNilCardSaid : Prop := Claim7.holds Tryd.pinned (.plain (OpenSpec.ofChange drawNilSpec)) drawNilCard

/-- THE TIED CARD OF 'cupellaw08.DrawRow'. -/
def drawRowCard : Claim7 := { stood := { row := drawRowRow, standIns := [], harness := (true, "b9d89119ddece5e16aee15c1265754d331b0799ab9acf0321ced385695a77784"), looks := false }, kinds := [], alts := [], laidByText := true, laidKinds := [.data, .data, .data], laidTests := true, laidLooks := .later }
def DrawRowCardSaid : Prop := Claim7.holds Tryd.pinned (.plain (OpenSpec.ofChange drawRowSpec)) drawRowCard

/-- THE SECOND FORM's CARD OF 'cupellaw08.DrawNumbers'. -/
def drawNumbersUptoCard : Claim7 := { stood := { row := drawNumbersUptoRow, standIns := [], harness := (true, "b9d89119ddece5e16aee15c1265754d331b0799ab9acf0321ced385695a77784"), looks := false }, kinds := [], alts := [], laidByText := true, laidKinds := [.data, .data, .data], laidTests := true, laidLooks := .later }
def DrawNumbersUptoCardSaid : Prop := Claim7.holds Tryd.pinned (.plain (OpenSpec.upto drawNumbersSpec)) drawNumbersUptoCard

/-- THE SECOND FORM's CARD OF 'cupellaw08.DrawBelow'. -/
def drawBelowUptoCard : Claim7 := { stood := { row := drawBelowUptoRow, standIns := [], harness := (true, "b9d89119ddece5e16aee15c1265754d331b0799ab9acf0321ced385695a77784"), looks := false }, kinds := [], alts := [], laidByText := true, laidKinds := [.data, .data, .data], laidTests := true, laidLooks := .later }
def DrawBelowUptoCardSaid : Prop := Claim7.holds Tryd.pinned (.plain (OpenSpec.upto drawBelowSpec)) drawBelowUptoCard

/-- THE SECOND FORM's CARD OF 'cupellaw08.DrawChoose'. -/
def drawChooseUptoCard : Claim7 := { stood := { row := drawChooseUptoRow, standIns := [], harness := (true, "b9d89119ddece5e16aee15c1265754d331b0799ab9acf0321ced385695a77784"), looks := false }, kinds := [], alts := [], laidByText := true, laidKinds := [.data, .data, .data], laidTests := true, laidLooks := .later }
def DrawChooseUptoCardSaid : Prop := Claim7.holds Tryd.pinned (.plain (OpenSpec.upto drawChooseSpec)) drawChooseUptoCard

/-- THE SECOND FORM's CARD OF 'cupellaw08.DrawPicks'. -/
def drawPicksUptoCard : Claim7 := { stood := { row := drawPicksUptoRow, standIns := [], harness := (true, "b9d89119ddece5e16aee15c1265754d331b0799ab9acf0321ced385695a77784"), looks := false }, kinds := [], alts := [], laidByText := true, laidKinds := [.data, .data, .data], laidTests := true, laidLooks := .later }
def DrawPicksUptoCardSaid : Prop := Claim7.holds Tryd.pinned (.plain (OpenSpec.upto drawPicksSpec)) drawPicksUptoCard

/-- THE SECOND FORM's CARD OF 'cupellaw08.DrawSame'. -/
def drawSameUptoCard : Claim7 := { stood := { row := drawSameUptoRow, standIns := [], harness := (true, "b9d89119ddece5e16aee15c1265754d331b0799ab9acf0321ced385695a77784"), looks := false }, kinds := [], alts := [], laidByText := true, laidKinds := [.data, .data, .data], laidTests := true, laidLooks := .later }
def DrawSameUptoCardSaid : Prop := Claim7.holds Tryd.pinned (.plain (OpenSpec.upto drawSameSpec)) drawSameUptoCard

/-- THE SECOND FORM's CARD OF 'cupellaw08.DrawFits'. -/
def drawFitsUptoCard : Claim7 := { stood := { row := drawFitsUptoRow, standIns := [], harness := (true, "b9d89119ddece5e16aee15c1265754d331b0799ab9acf0321ced385695a77784"), looks := false }, kinds := [], alts := [], laidByText := true, laidKinds := [.data, .data, .data], laidTests := true, laidLooks := .later }
def DrawFitsUptoCardSaid : Prop := Claim7.holds Tryd.pinned (.plain (OpenSpec.upto drawFitsSpec)) drawFitsUptoCard

/-- THE SECOND FORM's CARD OF 'cupellaw08.DrawNil'. -/
def drawNilUptoCard : Claim7 := { stood := { row := drawNilUptoRow, standIns := [], harness := (true, "b9d89119ddece5e16aee15c1265754d331b0799ab9acf0321ced385695a77784"), looks := false }, kinds := [], alts := [], laidByText := true, laidKinds := [.data, .data, .data], laidTests := true, laidLooks := .later }
def DrawNilUptoCardSaid : Prop := Claim7.holds Tryd.pinned (.plain (OpenSpec.upto drawNilSpec)) drawNilUptoCard

/-- THE SECOND FORM's CARD OF 'cupellaw08.DrawRow'. -/
def drawRowUptoCard : Claim7 := { stood := { row := drawRowUptoRow, standIns := [], harness := (true, "b9d89119ddece5e16aee15c1265754d331b0799ab9acf0321ced385695a77784"), looks := false }, kinds := [], alts := [], laidByText := true, laidKinds := [.data, .data, .data], laidTests := true, laidLooks := .later }
def DrawRowUptoCardSaid : Prop := Claim7.holds Tryd.pinned (.plain (OpenSpec.upto drawRowSpec)) drawRowUptoCard
end Rows
end Go.Proofs.YtmolkbmdfkeniaaDoor
