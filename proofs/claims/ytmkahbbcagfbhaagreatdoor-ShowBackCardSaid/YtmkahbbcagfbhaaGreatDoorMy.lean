/-
  Terms that may be, counted without wrap-round, and package term's May against that. No statement is proved here.
-/
import Derived.Test.YtmkahbbcagfbhaaGreatDoorMa
namespace Go.Proofs.YtmkahbbcagfbhaaGreatDoor
open Go.ChangeShapes Go.WideShapes Go.ChangeAt Go.RowKit
set_option linter.unusedVariables false

theorem mayB_iff {t : T} (h : nd t ≤ 1048576) : mayB t = true ↔ nodB t = true ∧ nd t ≤ 4000 ∧ dp t ≤ 60 := by
  rw [mayB, szW_small h, dpW_eq t h]
  simp only [Bool.and_eq_true, decide_eq_true_eq]
  exact ⟨fun ⟨⟨h1, h2⟩, h3⟩ => ⟨h1, by omega, by omega⟩, fun ⟨h1, h2, h3⟩ => ⟨⟨h1, by omega⟩, by omega⟩⟩
/-- what package term's May lets in has few nodes -/
theorem nd_of_may {t : T} (h : mayK (flat t 1 0) = true) : nd t ≤ 4000 := by
  rw [mayK, Bool.and_eq_true, decide_eq_true_eq, flat_len] at h
  exact h.1
/-- may it be? without wrap-round -/
def myB (t : T) : Bool := nodB t && decide (nd t ≤ 4000) && decide (dp t ≤ 60)
theorem myB_iff (t : T) : myB t = true ↔ nodB t = true ∧ nd t ≤ 4000 ∧ dp t ≤ 60 := by
  simp only [myB, Bool.and_eq_true, decide_eq_true_eq, and_assoc]
theorem mayK_my (t : T) : mayK (flat t 1 0) = myB t := by
  by_cases h : nd t ≤ 1048576
  · rw [may_eq h, Bool.eq_iff_iff, mayB_iff h, myB_iff]
  · have h1 : mayK (flat t 1 0) = false := by
      rw [Bool.eq_false_iff]
      intro e
      have := nd_of_may e
      omega
    have h2 : myB t = false := by
      rw [Bool.eq_false_iff]
      intro e
      have := ((myB_iff t).1 e).2.1
      omega
    rw [h1, h2]
theorem mayB_my {t : T} (h : nd t ≤ 1048576) : mayB t = myB t := by rw [Bool.eq_iff_iff, mayB_iff h, myB_iff]
/-- package term's May, whatever the term -/
theorem myC (t : T) (v : Value) (w : World) (hv : Rd w t v) : Calls Tryz.prog 33 #[v] w fun e w' => e = .returned (.bool (myB t)) ∧ Below w.heap.size w w' := by
  rw [← mayK_my]; exact termMay t v w hv
end Go.Proofs.YtmkahbbcagfbhaaGreatDoor
