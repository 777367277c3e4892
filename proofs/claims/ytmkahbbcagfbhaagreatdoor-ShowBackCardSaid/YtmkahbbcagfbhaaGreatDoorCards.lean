/-
  DERIVED. GIVEN WITH THE SEED: THE CARDS: each row of YtmkahbbcagfbhaaGreatDoorRows.lean that lists a variable, with what it lists TIED to the program's text (the seventh form; the later family's looks); each row that meets fmt, with fmt's text TOLD by the authors' own Lean function (tested against real Go, not proved from fmt's source: count such statements apart). THE CARD IS WHAT COUNTS. Prove the row's statement (the work); the ties are given (YtmkahbbcagfbhaaGreatDoorTie.lean); close each card by the builder's one call (the guide's Derived/Test/ToyasCard.lean, 'card_holds'). Laid BY PROGRAM, IN A SANDBOX (cutbox-door.mjs). By AI agents, Wed Nov 11 2026. No macro, syntax, notation, axiom, sorry.
-/
import Derived.Test.YtmkahbbcagfbhaaGreatDoorRows
import GoSem.ClaimSeven
namespace Go.Proofs.YtmkahbbcagfbhaaGreatDoor
namespace Rows

/-- THE TIED CARD OF 'amanuensislaw15.ShowBack'. -/
def showBackCard : Claim7 := { stood := { row := showBackRow, standIns := [], harness := (true, "e17af741bf8239cce638616f475d7d32e618853ce409f54f5f311ad10f274c8c"), looks := true }, kinds := [], alts := [], laidByText := true, laidKinds := [.data, .data, .data], laidTests := true, laidLooks := .later }
def ShowBackCardSaid : Prop := Claim7.holds Tryz.pinned (.plain (OpenSpec.ofChange showBackSpec)) showBackCard

/-- THE TIED CARD OF 'amanuensislaw15.ShowTerm'. -/
def showTermCard : Claim7 := { stood := { row := showTermRow, standIns := [], harness := (true, "e17af741bf8239cce638616f475d7d32e618853ce409f54f5f311ad10f274c8c"), looks := true }, kinds := [], alts := [], laidByText := true, laidKinds := [.data, .data, .data], laidTests := true, laidLooks := .later }
def ShowTermCardSaid : Prop := Claim7.holds Tryz.pinned (.plain (OpenSpec.ofChange showTermSpec)) showTermCard

/-- THE SECOND FORM's CARD OF 'amanuensislaw15.ShowBack'. -/
def showBackUptoCard : Claim7 := { stood := { row := showBackUptoRow, standIns := [], harness := (true, "e17af741bf8239cce638616f475d7d32e618853ce409f54f5f311ad10f274c8c"), looks := true }, kinds := [], alts := [], laidByText := true, laidKinds := [.data, .data, .data], laidTests := true, laidLooks := .later }
def ShowBackUptoCardSaid : Prop := Claim7.holds Tryz.pinned (.plain (OpenSpec.upto showBackSpec)) showBackUptoCard

/-- THE SECOND FORM's CARD OF 'amanuensislaw15.ShowTerm'. -/
def showTermUptoCard : Claim7 := { stood := { row := showTermUptoRow, standIns := [], harness := (true, "e17af741bf8239cce638616f475d7d32e618853ce409f54f5f311ad10f274c8c"), looks := true }, kinds := [], alts := [], laidByText := true, laidKinds := [.data, .data, .data], laidTests := true, laidLooks := .later }
def ShowTermUptoCardSaid : Prop := Claim7.holds Tryz.pinned (.plain (OpenSpec.upto showTermSpec)) showTermUptoCard
end Rows
end Go.Proofs.YtmkahbbcagfbhaaGreatDoor
