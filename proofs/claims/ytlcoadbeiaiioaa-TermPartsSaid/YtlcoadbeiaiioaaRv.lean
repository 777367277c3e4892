/-
  Contract of the document's own Scoped.
-/
import Derived.Test.YtlcoadbeiaiioaaRt
namespace Go.Proofs.Ytlcoadbeiaiioaa
open Go.ChangeShapes Go.WideShapes Go.ChangeAt Go.RowKit
set_option linter.unusedVariables false

set_option maxHeartbeats 2000000 in
theorem refScoped (t : T) : ∀ (vars metas : Int) (v : Value) (w : World), Rd w t v →
    Calls Try.prog 18 #[v, .int .i64 vars, .int .i64 metas] w fun e w' => e = .returned (.bool (scB t vars metas)) ∧ Below w.heap.size w w' := by
  induction t using T.ind with
  | step k h xs ih =>
    intro vars metas v w hv
    obtain ⟨A, n, c, rfl, hk, hh, hn, hc, hm, hx⟩ := Rd_node.1 hv
    clear hv
    have HM := Lib.hid hm
    unfold maxLen at hm
    have HN := Lib.hid hn; clear hn
    have HX := Lib.hid hx; clear hx
    have IH := Lib.hid ih; clear ih
    by_cases hin : headIn k h vars metas = true
    · have HI := Lib.hid hin; clear hin
      have tests : (k = 4 ∧ h < vars) ∨ (k = 6 ∧ h < metas) ∨ (k ≠ 4 ∧ k ≠ 6) := by
        have := HI.out
        simp only [headIn, Bool.not_eq_true', Bool.or_eq_false_iff, Bool.and_eq_false_iff, beq_eq_false_iff_ne, decide_eq_false_iff_not] at this
        omega
      rcases tests with ⟨rfl, t2⟩ | ⟨rfl, t2⟩ | ⟨t1, t2⟩
      case' inl => (have e1 : decide (vars ≤ h) = false := by simpa using t2)
      case' inr.inl => (have e1 : decide (metas ≤ h) = false := by simpa using t2)
      case' inr.inr => (have e1 : (k == 4) = false := by simpa using t1); (have e2 : (k == 6) = false := by simpa using t2)
      all_goals
        go_enter Try.func18, Try.ntmps18
        go_wp2_with fail
        go_loopw [7] (fun i wr => ∃ (j : Nat), j ≤ n ∧ i = .int .i64 j ∧ Hid (scL _ n (xs.drop j) j vars metas = scB (.node _ h xs) vars metas) ∧ Box wr w.heap.size 24 #[.int .i64 _, .int .i64 h, .slice A n c] ∧ Below w.heap.size w wr) (fun i _ => n - (intOf i).toNat)
        case atStart => exact ⟨0, Nat.zero_le _, rfl, Lib.hid (by have := HI.out; rw [headIn] at this; rw [scB, this, HN.out]; rfl), Box.new _ _ _, (Below.refl _ _).alloc (Nat.le_refl _) _⟩
        case round =>
          obtain ⟨j, hj, rfl, HS, hbox, hb⟩ := hrel
          obtain ⟨b0, b1, b2⟩ := hbox.three
          by_cases hlt : j < n
          · obtain ⟨t, ht⟩ := at_of HN.out hlt
            obtain ⟨b, o, v0, v1, v2, rfl, c0, c1, c2, hr⟩ := RdAt.keep hb (HX.out j t ht)
            have HT := Lib.hid ht; clear ht
            go_wp2_with fail
            have HS' := HS.out
            rw [drop_at HT.out, scL] at HS'
            have HS := Lib.hid HS'; clear HS'
            have pb0 := Past.cell b0
            have pb1 := Past.cell b1
            have pb2 := Past.cell b2
            have p0 := Past.cell c0
            have p1 := Past.cell c1
            have p2 := Past.cell c2
            have hi0 : (0 : Int) ≤ j := by omega
            have hi1 : (j : Int) < n := by omega
            refine wp_region_past (by kernel_rfl) (by kernel_rfl) ?_
            repeat (go_big_quiet_step ((first
              | (go_at_call 28; exact calls_past (refBinds _ _ _ _ _ hc HM.out j (by unfold maxLen; omega) _))
              | (go_at_call 18; exact calls_past (IH.out t (List.mem_of_getElem? HT.out) _ _ _ _ (Rd.keep (Past.h _) _ _ hr))))))
            refine wpQuiet_nil ?_
            rintro _ ⟨z, rfl⟩
            clear pb0 pb1 pb2 p0 p1 p2
            obtain ⟨w1, hb1⟩ := z
            dsimp only
            generalize scB t _ metas = r at *
            cases r
            · go_wp2_with fail
              go_ret
              exact ⟨ret_bool (by simpa using HS.out), hb.trans (hb1.mono hb.size)⟩
            · go_wp2_with fail
              go_roundw
              case rel => exact ⟨j + 1, by omega, by go_num, Lib.hid (by simpa using HS.out), hbox.keep hb1 hbox.lt, hb.trans (hb1.mono hb.size)⟩
              case measure => simp [intOf]; omega
          · go_wp2_with fail
            go_ret
            exact ⟨ret_bool (by have := HS.out; rw [drop_all HN.out (by omega), scL] at this; exact this), hb⟩
    · have HI := Lib.hid hin; clear hin
      have tests : (k = 4 ∧ vars ≤ h) ∨ (k = 6 ∧ metas ≤ h) := by
        have := HI.out
        simp only [headIn, Bool.not_eq_true', Bool.or_eq_false_iff, Bool.and_eq_false_iff, beq_eq_false_iff_ne, decide_eq_false_iff_not] at this
        omega
      have hb : Below w.heap.size w (w.alloc (.cells #[.int .i64 k, .int .i64 h, .slice A n c] 24)) := (Below.refl _ _).alloc (Nat.le_refl _) _
      have E : scB (.node k h xs) vars metas = false := by
        rw [scB]
        have := HI.out
        simp only [headIn, Bool.not_eq_true] at this
        rw [this]; rfl
      rcases tests with ⟨rfl, t2⟩ | ⟨rfl, t2⟩
      case' inl => (have e1 : decide (vars ≤ h) = true := by simpa using t2)
      case' inr => (have e1 : decide (metas ≤ h) = true := by simpa using t2)
      all_goals
        have E := Lib.hid E
        go_enter Try.func18, Try.ntmps18
        go_wp2_with fail
        go_ret
        exact ⟨ret_bool E.out.symm, hb⟩
end Go.Proofs.Ytlcoadbeiaiioaa
