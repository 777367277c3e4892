/-
  DERIVED. GIVEN WITH THE SEED: THE CARDS: each row of YtmkahbbcagfbhaaDoorRows.lean that lists a variable, with what it lists TIED to the program's text (the seventh form; the later family's looks); each row that meets fmt, with fmt's text TOLD by the authors' own Lean function (tested against real Go, not proved from fmt's source: count such statements apart). THE CARD IS WHAT COUNTS. Prove the row's statement (the work); the ties are given (YtmkahbbcagfbhaaDoorTie.lean); close each card by the builder's one call (the guide's Derived/Test/ToyasCard.lean, 'card_holds'). Laid BY PROGRAM, IN A SANDBOX (cutbox-door.mjs). By AI agents, Wed Nov 11 2026. No macro, syntax, notation, axiom, sorry.
-/
import Derived.Test.YtmkahbbcagfbhaaDoorRows
import GoSem.ClaimSeven
namespace Go.Proofs.YtmkahbbcagfbhaaDoor
namespace Rows

/-- THE TIED CARD OF 'amanuensislaw15.ShowTells'. -/
def showTellsCard : Claim7 := { stood := { row := showTellsRow, standIns := [], harness := (true, "062e630cf855f1296ab1f347692d073aa3f1429776b651eacbcccb78d83b690f"), looks := false }, kinds := [], alts := [], laidByText := true, laidKinds := [.data, .data, .data], laidTests := true, laidLooks := .later }
def ShowTellsCardSaid : Prop := Claim7.holds Tryd.pinned (.plain (OpenSpec.ofChange showTellsSpec)) showTellsCard

/-- THE TIED CARD OF 'amanuensislaw15.ShowReads'. -/
def showReadsCard : Claim7 := { stood := { row := showReadsRow, standIns := [], harness := (true, "062e630cf855f1296ab1f347692d073aa3f1429776b651eacbcccb78d83b690f"), looks := false }, kinds := [], alts := [], laidByText := true, laidKinds := [.data, .data, .data], laidTests := true, laidLooks := .later }
def ShowReadsCardSaid : Prop := Claim7.holds Tryd.pinned (.plain (OpenSpec.ofChange showReadsSpec)) showReadsCard

/-- THE TIED CARD OF 'amanuensislaw15.ShowLimits'. -/
def showLimitsCard : Claim7 := { stood := { row := showLimitsRow, standIns := [], harness := (true, "062e630cf855f1296ab1f347692d073aa3f1429776b651eacbcccb78d83b690f"), looks := false }, kinds := [], alts := [], laidByText := true, laidKinds := [.data, .data, .data], laidTests := true, laidLooks := .later }
def ShowLimitsCardSaid : Prop := Claim7.holds Tryd.pinned (.plain (OpenSpec.ofChange showLimitsSpec)) showLimitsCard

/-- THE TIED CARD OF 'amanuensislaw15.ShowMore'. -/
def showMoreCard : Claim7 := { stood := { row := showMoreRow, standIns := [], harness := (true, "062e630cf855f1296ab1f347692d073aa3f1429776b651eacbcccb78d83b690f"), looks := false }, kinds := [], alts := [], laidByText := true, laidKinds := [.data, .data, .data], laidTests := true, laidLooks := .later }
def ShowMoreCardSaid : Prop := Claim7.holds Tryd.pinned (.plain (OpenSpec.ofChange showMoreSpec)) showMoreCard

/-- THE SECOND FORM's CARD OF 'amanuensislaw15.ShowTells'. -/
def showTellsUptoCard : Claim7 := { stood := { row := showTellsUptoRow, standIns := [], harness := (true, "062e630cf855f1296ab1f347692d073aa3f1429776b651eacbcccb78d83b690f"), looks := false }, kinds := [], alts := [], laidByText := true, laidKinds := [.data, .data, .data], laidTests := true, laidLooks := .later }
def ShowTellsUptoCardSaid : Prop := Claim7.holds Tryd.pinned (.plain (OpenSpec.upto showTellsSpec)) showTellsUptoCard

/-- THE SECOND FORM's CARD OF 'amanuensislaw15.ShowReads'. -/
def showReadsUptoCard : Claim7 := { stood := { row := showReadsUptoRow, standIns := [], harness := (true, "062e630cf855f1296ab1f347692d073aa3f1429776b651eacbcccb78d83b690f"), looks := false }, kinds := [], alts := [], laidByText := true, laidKinds := [.data, .data, .data], laidTests := true, laidLooks := .later }
def ShowReadsUptoCardSaid : Prop := Claim7.holds Tryd.pinned (.plain (OpenSpec.upto showReadsSpec)) showReadsUptoCard

/-- THE SECOND FORM's CARD OF 'amanuensislaw15.ShowLimits'. -/
def showLimitsUptoCard : Claim7 := { stood := { row := showLimitsUptoRow, standIns := [], harness := (true, "062e630cf855f1296ab1f347692d073aa3f1429776b651eacbcccb78d83b690f"), looks := false }, kinds := [], alts := [], laidByText := true, laidKinds := [.data, .data, .data], laidTests := true, laidLooks := .later }
def ShowLimitsUptoCardSaid : Prop := Claim7.holds Tryd.pinned (.plain (OpenSpec.upto showLimitsSpec)) showLimitsUptoCard

/-- THE SECOND FORM's CARD OF 'amanuensislaw15.ShowMore'. -/
def showMoreUptoCard : Claim7 := { stood := { row := showMoreUptoRow, standIns := [], harness := (true, "062e630cf855f1296ab1f347692d073aa3f1429776b651eacbcccb78d83b690f"), looks := false }, kinds := [], alts := [], laidByText := true, laidKinds := [.data, .data, .data], laidTests := true, laidLooks := .later }
def ShowMoreUptoCardSaid : Prop := Claim7.holds Tryd.pinned (.plain (OpenSpec.upto showMoreSpec)) showMoreUptoCard
end Rows
end Go.Proofs.YtmkahbbcagfbhaaDoor
