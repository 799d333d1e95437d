/-
  DERIVED. GIVEN WITH THE SEED: THE CARDS: each row of YtalmnmdileagbaaDoorRows.lean that lists a variable, with what it lists TIED to the program's text (the seventh form; the later family's looks); each row that meets fmt, with fmt's text TOLD by the authors' own Lean function (tested against real Go, not proved from fmt's source: count such statements apart). THE CARD IS WHAT COUNTS. Prove the row's statement (the work); the ties are given (YtalmnmdileagbaaDoorTie.lean); close each card by the builder's one call (the guide's Derived/Test/ToyasCard.lean, 'card_holds'). Laid BY PROGRAM, IN A SANDBOX (cutbox-door.mjs). By AI agents, Wed Nov 11 2026. No macro, syntax, notation, axiom, sorry.
-/
import Derived.Test.YtalmnmdileagbaaDoorRows
import GoSem.ClaimSeven
namespace Go.Proofs.YtalmnmdileagbaaDoor
namespace Rows

/-- THE TIED CARD OF 'cupellaw06.FixedAdds'. -/
def fixedAddsCard : Claim7 := { stood := { row := fixedAddsRow, standIns := [], harness := (true, "6b14bbbcb4abe9514d883c19b348ef2eb88ec28bb1bbbee36eb4067e1e0888e5"), looks := false }, kinds := [], alts := [], laidByText := true, laidKinds := [.data], laidTests := true, laidLooks := .later }
def FixedAddsCardSaid : Prop := Claim7.holds Tryd.pinned (.plain (OpenSpec.ofChange fixedAddsSpec)) fixedAddsCard

/-- THE TIED CARD OF 'cupellaw06.FixedDivs'. -/
def fixedDivsCard : Claim7 := { stood := { row := fixedDivsRow, standIns := [], harness := (true, "6b14bbbcb4abe9514d883c19b348ef2eb88ec28bb1bbbee36eb4067e1e0888e5"), looks := false }, kinds := [], alts := [], laidByText := true, laidKinds := [.data], laidTests := true, laidLooks := .later }
def FixedDivsCardSaid : Prop := Claim7.holds Tryd.pinned (.plain (OpenSpec.ofChange fixedDivsSpec)) fixedDivsCard

/-- THE TIED CARD OF 'cupellaw06.FixedRoots'. -/
def fixedRootsCard : Claim7 := { stood := { row := fixedRootsRow, standIns := [], harness := (true, "6b14bbbcb4abe9514d883c19b348ef2eb88ec28bb1bbbee36eb4067e1e0888e5"), looks := false }, kinds := [], alts := [], laidByText := true, laidKinds := [.data], laidTests := true, laidLooks := .later }
def FixedRootsCardSaid : Prop := Claim7.holds Tryd.pinned (.plain (OpenSpec.ofChange fixedRootsSpec)) fixedRootsCard

/-- THE TIED CARD OF 'cupellaw06.FixedExps'. -/
def fixedExpsCard : Claim7 := { stood := { row := fixedExpsRow, standIns := [], harness := (true, "6b14bbbcb4abe9514d883c19b348ef2eb88ec28bb1bbbee36eb4067e1e0888e5"), looks := false }, kinds := [], alts := [], laidByText := true, laidKinds := [.data], laidTests := true, laidLooks := .later }
def FixedExpsCardSaid : Prop := Claim7.holds Tryd.pinned (.plain (OpenSpec.ofChange fixedExpsSpec)) fixedExpsCard

/-- THE TIED CARD OF 'cupellaw06.FixedNear'. -/
def fixedNearCard : Claim7 := { stood := { row := fixedNearRow, standIns := [], harness := (true, "6b14bbbcb4abe9514d883c19b348ef2eb88ec28bb1bbbee36eb4067e1e0888e5"), looks := false }, kinds := [], alts := [], laidByText := true, laidKinds := [.data], laidTests := true, laidLooks := .later }
def FixedNearCardSaid : Prop := Claim7.holds Tryd.pinned (.plain (OpenSpec.ofChange fixedNearSpec)) fixedNearCard

/-- THE TIED CARD OF 'cupellaw06.FixedBounds'. -/
def fixedBoundsCard : Claim7 := { stood := { row := fixedBoundsRow, standIns := [], harness := (true, "6b14bbbcb4abe9514d883c19b348ef2eb88ec28bb1bbbee36eb4067e1e0888e5"), looks := false }, kinds := [], alts := [], laidByText := true, laidKinds := [.data], laidTests := true, laidLooks := .later }
def FixedBoundsCardSaid : Prop := Claim7.holds Tryd.pinned (.plain (OpenSpec.ofChange fixedBoundsSpec)) fixedBoundsCard

/-- THE TIED CARD OF 'cupellaw06.FixedOrder'. -/
def fixedOrderCard : Claim7 := { stood := { row := fixedOrderRow, standIns := [], harness := (true, "6b14bbbcb4abe9514d883c19b348ef2eb88ec28bb1bbbee36eb4067e1e0888e5"), looks := false }, kinds := [], alts := [], laidByText := true, laidKinds := [.data], laidTests := true, laidLooks := .later }
def FixedOrderCardSaid : Prop := Claim7.holds Tryd.pinned (.plain (OpenSpec.ofChange fixedOrderSpec)) fixedOrderCard

/-- THE SECOND FORM's CARD OF 'cupellaw06.FixedAdds'. -/
def fixedAddsUptoCard : Claim7 := { stood := { row := fixedAddsUptoRow, standIns := [], harness := (true, "6b14bbbcb4abe9514d883c19b348ef2eb88ec28bb1bbbee36eb4067e1e0888e5"), looks := false }, kinds := [], alts := [], laidByText := true, laidKinds := [.data], laidTests := true, laidLooks := .later }
def FixedAddsUptoCardSaid : Prop := Claim7.holds Tryd.pinned (.plain (OpenSpec.upto fixedAddsSpec)) fixedAddsUptoCard

/-- THE SECOND FORM's CARD OF 'cupellaw06.FixedDivs'. -/
def fixedDivsUptoCard : Claim7 := { stood := { row := fixedDivsUptoRow, standIns := [], harness := (true, "6b14bbbcb4abe9514d883c19b348ef2eb88ec28bb1bbbee36eb4067e1e0888e5"), looks := false }, kinds := [], alts := [], laidByText := true, laidKinds := [.data], laidTests := true, laidLooks := .later }
def FixedDivsUptoCardSaid : Prop := Claim7.holds Tryd.pinned (.plain (OpenSpec.upto fixedDivsSpec)) fixedDivsUptoCard

/-- THE SECOND FORM's CARD OF 'cupellaw06.FixedRoots'. -/
def fixedRootsUptoCard : Claim7 := { stood := { row := fixedRootsUptoRow, standIns := [], harness := (true, "6b14bbbcb4abe9514d883c19b348ef2eb88ec28bb1bbbee36eb4067e1e0888e5"), looks := false }, kinds := [], alts := [], laidByText := true, laidKinds := [.data], laidTests := true, laidLooks := .later }
def FixedRootsUptoCardSaid : Prop := Claim7.holds Tryd.pinned (.plain (OpenSpec.upto fixedRootsSpec)) fixedRootsUptoCard

/-- THE SECOND FORM's CARD OF 'cupellaw06.FixedExps'. -/
def fixedExpsUptoCard : Claim7 := { stood := { row := fixedExpsUptoRow, standIns := [], harness := (true, "6b14bbbcb4abe9514d883c19b348ef2eb88ec28bb1bbbee36eb4067e1e0888e5"), looks := false }, kinds := [], alts := [], laidByText := true, laidKinds := [.data], laidTests := true, laidLooks := .later }
def FixedExpsUptoCardSaid : Prop := Claim7.holds Tryd.pinned (.plain (OpenSpec.upto fixedExpsSpec)) fixedExpsUptoCard

/-- THE SECOND FORM's CARD OF 'cupellaw06.FixedNear'. -/
def fixedNearUptoCard : Claim7 := { stood := { row := fixedNearUptoRow, standIns := [], harness := (true, "6b14bbbcb4abe9514d883c19b348ef2eb88ec28bb1bbbee36eb4067e1e0888e5"), looks := false }, kinds := [], alts := [], laidByText := true, laidKinds := [.data], laidTests := true, laidLooks := .later }
def FixedNearUptoCardSaid : Prop := Claim7.holds Tryd.pinned (.plain (OpenSpec.upto fixedNearSpec)) fixedNearUptoCard

/-- THE SECOND FORM's CARD OF 'cupellaw06.FixedBounds'. -/
def fixedBoundsUptoCard : Claim7 := { stood := { row := fixedBoundsUptoRow, standIns := [], harness := (true, "6b14bbbcb4abe9514d883c19b348ef2eb88ec28bb1bbbee36eb4067e1e0888e5"), looks := false }, kinds := [], alts := [], laidByText := true, laidKinds := [.data], laidTests := true, laidLooks := .later }
def FixedBoundsUptoCardSaid : Prop := Claim7.holds Tryd.pinned (.plain (OpenSpec.upto fixedBoundsSpec)) fixedBoundsUptoCard

/-- THE SECOND FORM's CARD OF 'cupellaw06.FixedOrder'. -/
def fixedOrderUptoCard : Claim7 := { stood := { row := fixedOrderUptoRow, standIns := [], harness := (true, "6b14bbbcb4abe9514d883c19b348ef2eb88ec28bb1bbbee36eb4067e1e0888e5"), looks := false }, kinds := [], alts := [], laidByText := true, laidKinds := [.data], laidTests := true, laidLooks := .later }
def FixedOrderUptoCardSaid : Prop := Claim7.holds Tryd.pinned (.plain (OpenSpec.upto fixedOrderSpec)) fixedOrderUptoCard
end Rows
end Go.Proofs.YtalmnmdileagbaaDoor
