/-
  Contracts of the document's own functions on terms, second part: what may be, what is in scope, what is light.
-/
import Derived.Test.YtmkahbbcagfbhaaGreatDoorRs
namespace Go.Proofs.YtmkahbbcagfbhaaGreatDoor
open Go.ChangeShapes Go.WideShapes Go.ChangeAt Go.RowKit
set_option linter.unusedVariables false


/-- the head of a node is in its scope -/
def headIn (k h vars metas : Int) : Bool := !((k == 4 && decide (vars ≤ h)) || (k == 6 && decide (metas ≤ h)))

theorem wrapEq (x : Int) : IntKind.i64.wrap x = wrap64 x := by rw [IntKind.wrap_i64, wrap64]

end Go.Proofs.YtmkahbbcagfbhaaGreatDoor
