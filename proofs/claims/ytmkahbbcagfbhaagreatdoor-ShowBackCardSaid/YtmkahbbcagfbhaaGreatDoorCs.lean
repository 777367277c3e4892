/-
  Contracts of package term's functions, against plain functions.
-/
import Derived.Test.YtmkahbbcagfbhaaGreatDoorMa
namespace Go.Proofs.YtmkahbbcagfbhaaGreatDoor
open Go.ChangeShapes Go.WideShapes Go.ChangeAt Go.RowKit Go.Shelf
set_option linter.unusedVariables false

theorem mayC (t : T) (v : Value) (w : World) (hv : Rd w t v) (hs : nd t ≤ 1048576) : Calls Tryz.prog 33 #[v] w fun e w' => e = .returned (.bool (mayB t)) ∧ Below w.heap.size w w' := by
  rw [← may_eq hs]; exact termMay t v w hv
theorem scopedC (t : T) (vars metas : Int) (v : Value) (w : World) (hv : Rd w t v) (hw : wrap64 vars = vars) : Calls Tryz.prog 34 #[v, .int .i64 vars, .int .i64 metas] w fun e w' => e = .returned (.bool (scB t vars metas)) ∧ Below w.heap.size w w' := by
  rw [← scoped_eq t metas hw]; exact termScoped t vars metas v w hv
end Go.Proofs.YtmkahbbcagfbhaaGreatDoor
