/-
  Contracts of package term's functions, against plain functions.
-/
import Derived.Test.YtloeainlpcnhnaaGreatMa
namespace Go.Proofs.YtloeainlpcnhnaaGreat
open Go.ChangeShapes Go.WideShapes Go.ChangeAt Go.RowKit Go.Shelf
set_option linter.unusedVariables false

theorem sizeC (t : T) (v : Value) (w : World) (hv : Rd w t v) : Calls Tryz.prog 133 #[v] w fun e w' => e = .returned (.int .i64 (szW t)) ∧ Below w.heap.size w w' := by
  rw [← size_eq]; exact termSize t v w hv
theorem mayC (t : T) (v : Value) (w : World) (hv : Rd w t v) (hs : nd t ≤ 1048576) : Calls Tryz.prog 77 #[v] w fun e w' => e = .returned (.bool (mayB t)) ∧ Below w.heap.size w w' := by
  rw [← may_eq hs]; exact termMay t v w hv
end Go.Proofs.YtloeainlpcnhnaaGreat
