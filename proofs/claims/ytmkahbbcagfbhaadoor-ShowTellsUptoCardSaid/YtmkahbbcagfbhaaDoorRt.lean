/-
  Contracts of the document's own functions on terms, second part: what may be, what is in scope, what is light.
-/
import Derived.Test.YtmkahbbcagfbhaaDoorRs
namespace Go.Proofs.YtmkahbbcagfbhaaDoor
open Go.ChangeShapes Go.WideShapes Go.ChangeAt Go.RowKit
set_option linter.unusedVariables false

set_option maxHeartbeats 400000 in
theorem refBinds (k h : Int) (A : Option Addr) (n c : Nat) (hc : n ≤ c) (hm : c ≤ maxLen) (i : Nat) (hi : i ≤ maxLen) (w : World) :
    Calls Tryd.prog 48 #[.agg #[.int .i64 k, .int .i64 h, .slice A n c], .int .i64 i] w fun e w' => e = .returned (.int .i64 (bd k n i)) ∧ Below w.heap.size w w' := by
  unfold maxLen at hm hi
  have hb : Below w.heap.size w (w.alloc (.cells #[.int .i64 k, .int .i64 h, .slice A n c] 24)) := (Below.refl _ _).alloc (Nat.le_refl _) _
  by_cases h1 : k = 1
  · subst h1
    by_cases h2 : i + 1 = n
    · have e : ((i : Int) == (n : Int) - 1) = true := by rw [beq_iff_eq]; omega
      have E : bd 1 n i = 1 := by simp [bd, h2]
      have H2 := Lib.hid h2; clear h2
      go_enter Tryd.func48, Tryd.ntmps48
      go_wp2_with fail
      all_goals first | (go_ret; exact ⟨ret_int (by first | rw [E] | simp), hb⟩) | (exfalso; omega)
    · have e : ((i : Int) == (n : Int) - 1) = false := by rw [beq_eq_false_iff_ne]; omega
      have E : bd 1 n i = 0 := by simp [bd, h2]
      go_enter Tryd.func48, Tryd.ntmps48
      go_wp2_with fail
      all_goals first | (go_ret; exact ⟨ret_int (by first | rw [E] | simp), hb⟩) | (exfalso; omega)
  · by_cases h3 : k = 3
    · subst h3
      by_cases h2 : i + 1 = n
      · have e : ((i : Int) == (n : Int) - 1) = true := by rw [beq_iff_eq]; omega
        have E : bd 3 n i = 1 := by simp [bd, h2]
        have H2 := Lib.hid h2; clear h2
        go_enter Tryd.func48, Tryd.ntmps48
        go_wp2_with fail
        all_goals first | (go_ret; exact ⟨ret_int (by first | rw [E] | simp), hb⟩) | (exfalso; omega)
      · have e : ((i : Int) == (n : Int) - 1) = false := by rw [beq_eq_false_iff_ne]; omega
        have E : bd 3 n i = 0 := by simp [bd, h2]
        go_enter Tryd.func48, Tryd.ntmps48
        go_wp2_with fail
        all_goals first | (go_ret; exact ⟨ret_int (by first | rw [E] | simp), hb⟩) | (exfalso; omega)
    · have e1 : (k == 1) = false := by simpa using h1
      have e3 : (k == 3) = false := by simpa using h3
      have E : bd k n i = 0 := by simp [bd, h1, h3]
      go_enter Tryd.func48, Tryd.ntmps48
      go_wp2_with fail
      go_ret
      exact ⟨ret_int (by rw [E]), hb⟩

/-- the head of a node is in its scope -/
def headIn (k h vars metas : Int) : Bool := !((k == 4 && decide (vars ≤ h)) || (k == 6 && decide (metas ≤ h)))

theorem wrapEq (x : Int) : IntKind.i64.wrap x = wrap64 x := by rw [IntKind.wrap_i64, wrap64]

end Go.Proofs.YtmkahbbcagfbhaaDoor
