/-
  Terms that are scoped, as a plain sentence. No statement is proved here.
-/
import Derived.Test.YtmkahbbcagfbhaaGreatDoorMa
namespace Go.Proofs.YtmkahbbcagfbhaaGreatDoor
open Go.ChangeShapes Go.WideShapes Go.ChangeAt Go.RowKit
set_option linter.unusedVariables false

theorem bd_cases (k : Int) (n i : Nat) : bd k n i = 0 ∨ bd k n i = 1 := by
  rw [bd]; split
  · exact .inr rfl
  · exact .inl rfl

/-! ### Scopes -/
mutual
def scC : T → Int → Int → Prop
  | .node k h xs, vars, metas => (k = 4 → h < vars) ∧ (k = 6 → h < metas) ∧ scCL k xs.length xs 0 vars metas
def scCL (k : Int) (n : Nat) : List T → Nat → Int → Int → Prop
  | [], _, _, _ => True
  | t :: ts, i, vars, metas => scC t (vars + bd k n i) metas ∧ scCL k n ts (i + 1) vars metas
end
mutual
theorem scB_iff (metas : Int) : ∀ (t : T) (vars : Int), -1099511627776 ≤ vars → vars + nd t ≤ 1099511627776 → (scB t vars metas = true ↔ scC t vars metas)
  | .node k h xs, vars, h1, h2 => by
    rw [nd] at h2
    rw [scB, scC, Bool.and_eq_true, scL_iff metas k _ xs 0 vars h1 (by omega), ← and_assoc]
    refine and_congr_left fun _ => ?_
    simp only [Bool.not_eq_true', Bool.or_eq_false_iff, Bool.and_eq_false_iff, beq_eq_false_iff_ne, decide_eq_false_iff_not, Int.not_le]
    constructor
    · rintro ⟨a, b⟩; exact ⟨fun e => a.resolve_left fun n => n e, fun e => b.resolve_left fun n => n e⟩
    · rintro ⟨a, b⟩; exact ⟨Classical.or_iff_not_imp_left.2 fun n => a (Classical.not_not.1 n), Classical.or_iff_not_imp_left.2 fun n => b (Classical.not_not.1 n)⟩
theorem scL_iff (metas k : Int) (n : Nat) : ∀ (xs : List T) (i : Nat) (vars : Int), -1099511627776 ≤ vars → vars + 1 + ndL xs ≤ 1099511627776 → (scL k n xs i vars metas = true ↔ scCL k n xs i vars metas)
  | [], _, _, _, _ => by rw [scL, scCL]; simp
  | t :: ts, i, vars, h1, h2 => by
    rw [ndL] at h2
    have hbd := bd_cases k n i
    rw [scL, scCL, Bool.and_eq_true, wrap_small (by omega) (by omega), scB_iff metas t _ (by omega) (by omega), scL_iff metas k n ts (i + 1) vars h1 (by omega)]
end
end Go.Proofs.YtmkahbbcagfbhaaGreatDoor
