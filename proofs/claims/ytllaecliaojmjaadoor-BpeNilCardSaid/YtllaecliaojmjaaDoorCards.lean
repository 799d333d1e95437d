/-
  DERIVED. GIVEN WITH THE SEED: THE CARDS: each row of YtllaecliaojmjaaDoorRows.lean that lists a variable, with what it lists TIED to the program's text (the seventh form; the later family's looks); each row that meets fmt, with fmt's text TOLD by the authors' own Lean function (tested against real Go, not proved from fmt's source: count such statements apart). THE CARD IS WHAT COUNTS. Prove the row's statement (the work); the ties are given (YtllaecliaojmjaaDoorTie.lean); close each card by the builder's one call (the guide's Derived/Test/ToyasCard.lean, 'card_holds'). Laid BY PROGRAM, IN A SANDBOX (cutbox-door.mjs). By AI agents, Wed Nov 11 2026. No macro, syntax, notation, axiom, sorry.
-/
import Derived.Test.YtllaecliaojmjaaDoorRows
import GoSem.ClaimSeven
namespace Go.Proofs.YtllaecliaojmjaaDoor
namespace Rows

/-- THE TIED CARD OF 'cupellaw09.BpeDecodes'. -/
def bpeDecodesCard : Claim7 := { stood := { row := bpeDecodesRow, standIns := [], harness := (true, "d5095b1dc5a09eabfa21732fe92fde56740698bbb0fa01448b544d16e4a80bd8"), looks := false }, kinds := [], alts := [], laidByText := true, laidKinds := [.sentinel], laidTests := true, laidLooks := .later }
def BpeDecodesCardSaid : Prop := Claim7.holds Tryd.pinned (.plain (OpenSpec.ofChange bpeDecodesSpec)) bpeDecodesCard

/-- THE TIED CARD OF 'cupellaw09.BpeBack'. -/
def bpeBackCard : Claim7 := { stood := { row := bpeBackRow, standIns := [], harness := (true, "d5095b1dc5a09eabfa21732fe92fde56740698bbb0fa01448b544d16e4a80bd8"), looks := false }, kinds := [], alts := [], laidByText := true, laidKinds := [.sentinel], laidTests := true, laidLooks := .later }
def BpeBackCardSaid : Prop := Claim7.holds Tryd.pinned (.plain (OpenSpec.ofChange bpeBackSpec)) bpeBackCard

/-- THE TIED CARD OF 'cupellaw09.BpeNil'. -/
def bpeNilCard : Claim7 := { stood := { row := bpeNilRow, standIns := [], harness := (true, "d5095b1dc5a09eabfa21732fe92fde56740698bbb0fa01448b544d16e4a80bd8"), looks := false }, kinds := [], alts := [], laidByText := true, laidKinds := [.sentinel], laidTests := true, laidLooks := .later }
def BpeNilCardSaid : Prop := Claim7.holds Tryd.pinned (.plain (OpenSpec.ofChange bpeNilSpec)) bpeNilCard

/-- THE SECOND FORM's CARD OF 'cupellaw09.BpeDecodes'. -/
def bpeDecodesUptoCard : Claim7 := { stood := { row := bpeDecodesUptoRow, standIns := [], harness := (true, "d5095b1dc5a09eabfa21732fe92fde56740698bbb0fa01448b544d16e4a80bd8"), looks := false }, kinds := [], alts := [], laidByText := true, laidKinds := [.sentinel], laidTests := true, laidLooks := .later }
def BpeDecodesUptoCardSaid : Prop := Claim7.holds Tryd.pinned (.plain (OpenSpec.upto bpeDecodesSpec)) bpeDecodesUptoCard

/-- THE SECOND FORM's CARD OF 'cupellaw09.BpeBack'. -/
def bpeBackUptoCard : Claim7 := { stood := { row := bpeBackUptoRow, standIns := [], harness := (true, "d5095b1dc5a09eabfa21732fe92fde56740698bbb0fa01448b544d16e4a80bd8"), looks := false }, kinds := [], alts := [], laidByText := true, laidKinds := [.sentinel], laidTests := true, laidLooks := .later }
def BpeBackUptoCardSaid : Prop := Claim7.holds Tryd.pinned (.plain (OpenSpec.upto bpeBackSpec)) bpeBackUptoCard

/-- THE SECOND FORM's CARD OF 'cupellaw09.BpeNil'. -/
def bpeNilUptoCard : Claim7 := { stood := { row := bpeNilUptoRow, standIns := [], harness := (true, "d5095b1dc5a09eabfa21732fe92fde56740698bbb0fa01448b544d16e4a80bd8"), looks := false }, kinds := [], alts := [], laidByText := true, laidKinds := [.sentinel], laidTests := true, laidLooks := .later }
def BpeNilUptoCardSaid : Prop := Claim7.holds Tryd.pinned (.plain (OpenSpec.upto bpeNilSpec)) bpeNilUptoCard
end Rows
end Go.Proofs.YtllaecliaojmjaaDoor
