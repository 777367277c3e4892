/-
  Contracts of package term's functions, against plain functions.
-/
import Derived.Test.YtloeainlpcnhnaaMa
namespace Go.Proofs.Ytloeainlpcnhnaa
open Go.ChangeShapes Go.WideShapes Go.ChangeAt Go.RowKit Go.Shelf
set_option linter.unusedVariables false

theorem sizeC (t : T) (v : Value) (w : World) (hv : Rd w t v) : Calls Try.prog 114 #[v] w fun e w' => e = .returned (.int .i64 (szW t)) ∧ Below w.heap.size w w' := by
  rw [← size_eq]; exact termSize t v w hv
theorem mayC (t : T) (v : Value) (w : World) (hv : Rd w t v) (hs : nd t ≤ 1048576) : Calls Try.prog 58 #[v] w fun e w' => e = .returned (.bool (mayB t)) ∧ Below w.heap.size w w' := by
  rw [← may_eq hs]; exact termMay t v w hv
end Go.Proofs.Ytloeainlpcnhnaa
