/-
  Contracts of package term's functions that go through a term by the function to range over: Depth, May, Scoped.
-/
import Derived.Test.YtmkahbbcagfbhaaGreatDoorTs
namespace Go.Proofs.YtmkahbbcagfbhaaGreatDoor
open Go.ChangeShapes Go.WideShapes Go.ChangeAt Go.RowKit Go.Shelf
set_option linter.unusedVariables false

attribute [local go_sem] Oper.semAt_some

/-- the greatest depth -/
def maxD (ks : List Key) : Int := ks.foldl (fun m x => if m < x.d then x.d else m) 0

/-! ### shaped, May -/
set_option maxHeartbeats 1000000 in
theorem shapedC (k h : Int) (A : Option Addr) (n c : Nat) (hc : n ≤ c) (hm : c ≤ maxLen) (w : World) :
    Calls Tryz.prog 53 #[.agg #[.int .i64 k, .int .i64 h, .slice A n c]] w fun e w' => e = .returned (.bool (okN k h n)) ∧ Below w.heap.size w w' := by
  unfold maxLen at hm
  have hb : Below w.heap.size w (w.alloc (.cells #[.int .i64 k, .int .i64 h, .slice A n c] 36)) := (Below.refl _ _).alloc (Nat.le_refl _) _
  have hcs : k = 0 ∨ k = 1 ∨ k = 3 ∨ (k ≠ 0 ∧ k ≠ 1 ∧ k ≠ 3) := by omega
  rcases hcs with rfl | rfl | rfl | ⟨k0, k1, k3⟩
  · by_cases h0 : h = 0
    · subst h0
      have E : okN 0 0 n = ((n : Int) == 0) := by simp only [okN]; rw [Bool.eq_iff_iff]; simp
      have HE := Lib.hid E; clear E
      go_enter Tryz.func53, Tryz.ntmps53
      go_wp2_with fail
      go_ret
      exact ⟨ret_bool HE.out.symm, hb⟩
    · have e0 : (h == 0) = false := by simpa using h0
      have E : okN 0 h n = false := by simp [okN, h0]
      have HE := Lib.hid E; clear E
      go_enter Tryz.func53, Tryz.ntmps53
      go_wp2_with fail
      go_ret
      exact ⟨ret_bool HE.out.symm, hb⟩
  · by_cases h0 : h = 0
    · subst h0
      have E : okN 1 0 n = ((n : Int) == 2) := by simp only [okN]; rw [Bool.eq_iff_iff]; simp; omega
      have HE := Lib.hid E; clear E
      go_enter Tryz.func53, Tryz.ntmps53
      go_wp2_with fail
      go_ret
      exact ⟨ret_bool HE.out.symm, hb⟩
    · have e0 : (h == 0) = false := by simpa using h0
      have E : okN 1 h n = false := by simp [okN, h0]
      have HE := Lib.hid E; clear E
      go_enter Tryz.func53, Tryz.ntmps53
      go_wp2_with fail
      go_ret
      exact ⟨ret_bool HE.out.symm, hb⟩
  · by_cases h0 : h = 0
    · subst h0
      have E : okN 3 0 n = ((n : Int) == 1) := by simp only [okN]; rw [Bool.eq_iff_iff]; simp; omega
      have HE := Lib.hid E; clear E
      go_enter Tryz.func53, Tryz.ntmps53
      go_wp2_with fail
      go_ret
      exact ⟨ret_bool HE.out.symm, hb⟩
    · have e0 : (h == 0) = false := by simpa using h0
      have E : okN 3 h n = false := by simp [okN, h0]
      have HE := Lib.hid E; clear E
      go_enter Tryz.func53, Tryz.ntmps53
      go_wp2_with fail
      go_ret
      exact ⟨ret_bool HE.out.symm, hb⟩
  · have e0 : (k == 0) = false := by simpa using k0
    have e1 : (k == 1) = false := by simpa using k1
    have e3 : (k == 3) = false := by simpa using k3
    have E : okN k h n = (decide (0 < k) && decide (k < 7) && decide (0 ≤ h)) := by
      simp only [okN]; rw [Bool.eq_iff_iff]; simp; omega
    have HE := Lib.hid E; clear E
    by_cases hp : 0 < k
    · have d1 : decide (0 < k) = true := by simpa using hp
      by_cases hq : k < 7
      · have d2 : decide (k < 7) = true := by simpa using hq
        clear k0 k1 k3
        go_enter Tryz.func53, Tryz.ntmps53
        go_wp2_with fail
        go_ret
        exact ⟨ret_bool (by rw [HE.out, d1, d2]; rfl), hb⟩
      · have d2 : decide (k < 7) = false := by simpa using hq
        clear k0 k1 k3
        go_enter Tryz.func53, Tryz.ntmps53
        go_wp2_with fail
        go_ret
        exact ⟨ret_bool (by rw [HE.out, d1, d2]; rfl), hb⟩
    · have d1 : decide (0 < k) = false := by simpa using hp
      clear k0 k1 k3
      go_enter Tryz.func53, Tryz.ntmps53
      go_wp2_with fail
      go_ret
      exact ⟨ret_bool (by rw [HE.out, d1]; rfl), hb⟩

def okK (x : Key) : Bool := decide (x.d ≤ 60) && okN x.k x.h x.n
def mayK (ks : List Key) : Bool := decide (ks.length ≤ 4000) && ks.all okK
theorem mayK_prefix {ks ls : List Key} (h : ks <+: ls) (hf : mayK ks = false) : mayK ls = false := by
  obtain ⟨r, rfl⟩ := h
  rw [Bool.eq_false_iff] at hf ⊢
  intro e
  apply hf
  simp only [mayK, List.length_append, List.all_append, Bool.and_eq_true, decide_eq_true_eq] at e ⊢
  exact ⟨by omega, e.2.1⟩

end Go.Proofs.YtmkahbbcagfbhaaGreatDoor
