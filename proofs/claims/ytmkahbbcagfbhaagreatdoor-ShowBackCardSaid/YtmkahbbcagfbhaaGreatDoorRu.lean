/-
  Contracts of the document's own functions on terms, third part: what may be, what is light.
-/
import Derived.Test.YtmkahbbcagfbhaaGreatDoorRt
namespace Go.Proofs.YtmkahbbcagfbhaaGreatDoor
open Go.ChangeShapes Go.WideShapes Go.ChangeAt Go.RowKit
set_option linter.unusedVariables false

def ltB (t : T) (s d : Int) : Bool := lowB t && decide (szW t ≤ s) && decide (dpW t ≤ d)

set_option maxHeartbeats 400000 in
theorem refLight (t : T) (s d : Int) (v : Value) (w : World) (hv : Rd w t v) :
    Calls Tryz.prog 12 #[v, .int .i64 s, .int .i64 d] w fun e w' => e = .returned (.bool (ltB t s d)) ∧ Below w.heap.size w w' := by
  obtain ⟨v0, v1, v2, rfl⟩ : ∃ v0 v1 v2, v = .agg #[v0, v1, v2] := by
    obtain ⟨k, h, xs⟩ := t
    obtain ⟨A, n, c, rfl, _⟩ := Rd_node.1 hv
    exact ⟨_, _, _, rfl⟩
  have E : ltB t s d = (lowB t && decide (szW t ≤ s) && decide (dpW t ≤ d)) := rfl
  generalize ltB t s d = R at *
  have E := Lib.hid E
  have hb0 : Below w.heap.size w (w.alloc (.cells #[v0, v1, v2] 36)) := (Below.refl _ _).alloc (Nat.le_refl _) _
  go_enter Tryz.func12, Tryz.ntmps12
  go_wp2_with fail
  refine (refLow t _ _ (Rd.keep hb0 _ _ hv)).mono ?_
  rintro e w1 ⟨rfl, hb1⟩
  have hbox := (Box.new w 36 #[v0, v1, v2]).keep hb1 (Box.new _ _ _).lt
  have hb1 := hb0.trans (hb1.mono hb0.size)
  obtain ⟨b0, b1, b2⟩ := hbox.three
  generalize lowB t = r1 at *
  cases r1
  · go_wp2_with fail
    go_ret
    exact ⟨ret_bool (by rw [E.out]; rfl), hb1⟩
  · go_wp2_with fail
    refine (refSize t _ _ (Rd.keep hb1 _ _ hv)).mono ?_
    rintro e w2 ⟨rfl, hb2⟩
    have hbox := hbox.keep hb2 hbox.lt
    have hb2 := hb1.trans (hb2.mono hb1.size)
    clear b0 b1 b2
    obtain ⟨b0, b1, b2⟩ := hbox.three
    by_cases hs : szW t ≤ s
    · have hs' : decide (szW t ≤ s) = true := by simpa using hs
      have E' := E.out
      rw [hs'] at E'
      have E := Lib.hid E'; clear E'
      go_wp2_with fail
      refine (refDepth t _ _ (Rd.keep hb2 _ _ hv)).mono ?_
      rintro e w3 ⟨rfl, hb3⟩
      have hb3 := hb2.trans (hb3.mono hb2.size)
      go_wp2_with fail
      go_ret
      exact ⟨ret_bool (by rw [E.out]; rfl), hb3⟩
    · have hs' : decide (szW t ≤ s) = false := by simpa using hs
      have E' := E.out
      rw [hs'] at E'
      have E := Lib.hid E'; clear E'
      go_wp2_with fail
      go_ret
      exact ⟨ret_bool (by rw [E.out]; rfl), hb2⟩

/-- nodes' loop is the same whatever the kind -/
theorem okN_cases {k h : Int} {n : Nat} (e : okN k h n = true) : (k = 0 ∧ h = 0 ∧ n = 0) ∨ (k = 1 ∧ h = 0 ∧ n = 2) ∨ (k = 3 ∧ h = 0 ∧ n = 1) ∨ (k = 2 ∧ 0 ≤ h) ∨ (k = 4 ∧ 0 ≤ h) ∨ (k = 5 ∧ 0 ≤ h) ∨ (k = 6 ∧ 0 ≤ h) := by
  simp only [okN, Bool.or_eq_true, Bool.and_eq_true, beq_iff_eq, decide_eq_true_eq] at e
  omega


/-! ### What may be -/
def mayB (t : T) : Bool := nodB t && decide (szW t ≤ 4000) && decide (dpW t ≤ 60)

end Go.Proofs.YtmkahbbcagfbhaaGreatDoor
