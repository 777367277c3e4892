/-
  Contract of package term's Same.
-/
import Derived.Test.YtehdbjfalpjpeaaMa
namespace Go.Proofs.Ytehdbjfalpjpeaa
open Go.ChangeShapes Go.WideShapes Go.ChangeAt Go.RowKit
set_option linter.unusedVariables false


mutual
theorem sam_refl : ∀ t : T, samB t t = true
  | .node k h xs => by rw [samB, samL_refl xs]; simp
theorem samL_refl : ∀ xs : List T, samL xs xs = true
  | [] => by simp [samL]
  | t :: ts => by rw [samL, sam_refl t, samL_refl ts]; rfl
end
mutual
theorem sam_comm : ∀ t u : T, samB t u = samB u t
  | .node k h xs, .node k' h' ys => by
    rw [samB, samB, samL_comm xs ys, Bool.beq_comm (a := k), Bool.beq_comm (a := h), Bool.beq_comm (a := xs.length)]
theorem samL_comm : ∀ xs ys : List T, samL xs ys = samL ys xs
  | [], [] => rfl
  | [], y :: ys => by simp [samL]
  | x :: xs, [] => by simp [samL]
  | x :: xs, y :: ys => by rw [samL, samL, sam_comm x y, samL_comm xs ys]
end

end Go.Proofs.Ytehdbjfalpjpeaa
