/-
  Contracts of the document's own functions on terms, third part: what may be, what is light.
-/
import Derived.Test.YtmkahbbcagfbhaaDoorRt
namespace Go.Proofs.YtmkahbbcagfbhaaDoor
open Go.ChangeShapes Go.WideShapes Go.ChangeAt Go.RowKit
set_option linter.unusedVariables false

def ltB (t : T) (s d : Int) : Bool := lowB t && decide (szW t ≤ s) && decide (dpW t ≤ d)

set_option maxHeartbeats 400000 in
theorem refLight (t : T) (s d : Int) (v : Value) (w : World) (hv : Rd w t v) :
    Calls Tryd.prog 9 #[v, .int .i64 s, .int .i64 d] w fun e w' => e = .returned (.bool (ltB t s d)) ∧ Below w.heap.size w w' := by
  obtain ⟨v0, v1, v2, rfl⟩ : ∃ v0 v1 v2, v = .agg #[v0, v1, v2] := by
    obtain ⟨k, h, xs⟩ := t
    obtain ⟨A, n, c, rfl, _⟩ := Rd_node.1 hv
    exact ⟨_, _, _, rfl⟩
  have E : ltB t s d = (lowB t && decide (szW t ≤ s) && decide (dpW t ≤ d)) := rfl
  generalize ltB t s d = R at *
  have E := Lib.hid E
  have hb0 : Below w.heap.size w (w.alloc (.cells #[v0, v1, v2] 24)) := (Below.refl _ _).alloc (Nat.le_refl _) _
  go_enter Tryd.func9, Tryd.ntmps9
  go_wp2_with fail
  refine (refLow t _ _ (Rd.keep hb0 _ _ hv)).mono ?_
  rintro e w1 ⟨rfl, hb1⟩
  have hbox := (Box.new w 24 #[v0, v1, v2]).keep hb1 (Box.new _ _ _).lt
  have hb1 := hb0.trans (hb1.mono hb0.size)
  obtain ⟨b0, b1, b2⟩ := hbox.three
  generalize lowB t = r1 at *
  cases r1
  · go_wp2_with fail
    go_ret
    exact ⟨ret_bool (by rw [E.out]; rfl), hb1⟩
  · go_wp2_with fail
    refine (refSize t _ _ (Rd.keep hb1 _ _ hv)).mono ?_
    rintro e w2 ⟨rfl, hb2⟩
    have hbox := hbox.keep hb2 hbox.lt
    have hb2 := hb1.trans (hb2.mono hb1.size)
    clear b0 b1 b2
    obtain ⟨b0, b1, b2⟩ := hbox.three
    by_cases hs : szW t ≤ s
    · have hs' : decide (szW t ≤ s) = true := by simpa using hs
      have E' := E.out
      rw [hs'] at E'
      have E := Lib.hid E'; clear E'
      go_wp2_with fail
      refine (refDepth t _ _ (Rd.keep hb2 _ _ hv)).mono ?_
      rintro e w3 ⟨rfl, hb3⟩
      have hb3 := hb2.trans (hb3.mono hb2.size)
      go_wp2_with fail
      go_ret
      exact ⟨ret_bool (by rw [E.out]; rfl), hb3⟩
    · have hs' : decide (szW t ≤ s) = false := by simpa using hs
      have E' := E.out
      rw [hs'] at E'
      have E := Lib.hid E'; clear E'
      go_wp2_with fail
      go_ret
      exact ⟨ret_bool (by rw [E.out]; rfl), hb2⟩

/-- nodes' loop is the same whatever the kind -/
theorem okN_cases {k h : Int} {n : Nat} (e : okN k h n = true) : (k = 0 ∧ h = 0 ∧ n = 0) ∨ (k = 1 ∧ h = 0 ∧ n = 2) ∨ (k = 3 ∧ h = 0 ∧ n = 1) ∨ (k = 2 ∧ 0 ≤ h) ∨ (k = 4 ∧ 0 ≤ h) ∨ (k = 5 ∧ 0 ≤ h) ∨ (k = 6 ∧ 0 ≤ h) := by
  simp only [okN, Bool.or_eq_true, Bool.and_eq_true, beq_iff_eq, decide_eq_true_eq] at e
  omega

set_option maxHeartbeats 4000000 in
theorem refNodes (t : T) : ∀ (v : Value) (w : World), Rd w t v →
    Calls Tryd.prog 47 #[v] w fun e w' => e = .returned (.bool (nodB t)) ∧ Below w.heap.size w w' := by
  induction t using T.ind with
  | step k h xs ih =>
    intro v w hv
    obtain ⟨A, n, c, rfl, hk, hh, hn, hc, hm, hx⟩ := Rd_node.1 hv
    clear hv
    unfold maxLen at hm
    have HX := Lib.hid hx; clear hx
    have IH := Lib.hid ih; clear ih
    by_cases hok : okN k h n = true
    · have E0 : nodB (.node k h xs) = nodL xs := by rw [nodB, hn, hok]; rfl
      have HE := Lib.hid E0; clear E0
      have HN := Lib.hid hn; clear hn
      rcases okN_cases hok with ⟨rfl, rfl, en⟩ | ⟨rfl, rfl, en⟩ | ⟨rfl, rfl, en⟩ | ⟨rfl, h0⟩ | ⟨rfl, h0⟩ | ⟨rfl, h0⟩ | ⟨rfl, h0⟩
      case' inl => (have en' : ((n : Int) != 0) = false := by rw [en]; rfl); clear en
      case' inr.inl => (have en' : ((n : Int) != 2) = false := by rw [en]; rfl); clear en
      case' inr.inr.inl => (have en' : ((n : Int) != 1) = false := by rw [en]; rfl); clear en
      all_goals
        clear hok
        go_enter Tryd.func47, Tryd.ntmps47
        go_wp2_with fail
        go_loopw [3] (fun i wr => ∃ (j : Nat), j ≤ n ∧ i = .int .i64 j ∧ Hid (nodL (xs.drop j) = nodB (.node _ _ xs)) ∧ Box wr w.heap.size 24 #[.int .i64 _, .int .i64 _, .slice A n c] ∧ Below w.heap.size w wr) (fun i _ => n - (intOf i).toNat)
        case atStart => exact ⟨0, Nat.zero_le _, rfl, Lib.hid (by rw [HE.out]; rfl), Box.new _ _ _, (Below.refl _ _).alloc (Nat.le_refl _) _⟩
        case round =>
          obtain ⟨j, hj, rfl, HS, hbox, hb⟩ := hrel
          obtain ⟨b0, b1, b2⟩ := hbox.three
          by_cases hlt : j < n
          · obtain ⟨t, ht⟩ := at_of HN.out hlt
            obtain ⟨b, o, v0, v1, v2, rfl, c0, c1, c2, hr⟩ := RdAt.keep hb (HX.out j t ht)
            have HT := Lib.hid ht; clear ht
            go_wp2_with fail
            refine (IH.out t (List.mem_of_getElem? HT.out) _ _ hr).mono ?_
            have HS' := HS.out
            rw [drop_at HT.out, nodL] at HS'
            have HS := Lib.hid HS'; clear HS'
            generalize nodB t = r at *
            rintro e w1 ⟨rfl, hb1⟩
            cases r
            · go_wp2_with fail
              go_ret
              exact ⟨ret_bool (by simpa using HS.out), hb.trans (hb1.mono hb.size)⟩
            · go_wp2_with fail
              go_roundw
              case rel => exact ⟨j + 1, by omega, by go_num, Lib.hid (by simpa using HS.out), hbox.keep hb1 hbox.lt, hb.trans (hb1.mono hb.size)⟩
              case measure => simp [intOf]; omega
          · go_wp2_with fail
            go_ret
            exact ⟨ret_bool (by have := HS.out; rw [drop_all HN.out (by omega), nodL] at this; exact this), hb⟩
    · have hok : okN k h n = false := by simpa using hok
      have E0 : nodB (.node k h xs) = false := by rw [nodB, hn, hok]; rfl
      have HE := Lib.hid E0; clear E0
      have hb : Below w.heap.size w (w.alloc (.cells #[.int .i64 k, .int .i64 h, .slice A n c] 24)) := (Below.refl _ _).alloc (Nat.le_refl _) _
      have HK := Lib.hid hok; clear hok
      have hcases : k = 0 ∨ k = 1 ∨ k = 3 ∨ (k = 2 ∨ k = 4 ∨ k = 5 ∨ k = 6) ∨ (k ≠ 0 ∧ k ≠ 1 ∧ k ≠ 2 ∧ k ≠ 3 ∧ k ≠ 4 ∧ k ≠ 5 ∧ k ≠ 6) := by omega
      rcases hcases with rfl | rfl | rfl | hk4 | ⟨k0, k1, k2, k3, k4, k5, k6⟩
      · have := HK.out
        simp [okN] at this
        by_cases h0 : h = 0
        · subst h0
          have en' : ((n : Int) != 0) = true := by rw [bne_iff_ne]; omega
          go_enter Tryd.func47, Tryd.ntmps47
          go_wp2_with fail
          go_ret
          exact ⟨ret_bool HE.out.symm, hb⟩
        · have en' : (h != 0) = true := by simpa using h0
          go_enter Tryd.func47, Tryd.ntmps47
          go_wp2_with fail
          go_ret
          exact ⟨ret_bool HE.out.symm, hb⟩
      · have := HK.out
        simp [okN] at this
        by_cases h0 : h = 0
        · subst h0
          have en' : ((n : Int) != 2) = true := by rw [bne_iff_ne]; omega
          go_enter Tryd.func47, Tryd.ntmps47
          go_wp2_with fail
          go_ret
          exact ⟨ret_bool HE.out.symm, hb⟩
        · have en' : (h != 0) = true := by simpa using h0
          go_enter Tryd.func47, Tryd.ntmps47
          go_wp2_with fail
          go_ret
          exact ⟨ret_bool HE.out.symm, hb⟩
      · have := HK.out
        simp [okN] at this
        by_cases h0 : h = 0
        · subst h0
          have en' : ((n : Int) != 1) = true := by rw [bne_iff_ne]; omega
          go_enter Tryd.func47, Tryd.ntmps47
          go_wp2_with fail
          go_ret
          exact ⟨ret_bool HE.out.symm, hb⟩
        · have en' : (h != 0) = true := by simpa using h0
          go_enter Tryd.func47, Tryd.ntmps47
          go_wp2_with fail
          go_ret
          exact ⟨ret_bool HE.out.symm, hb⟩
      · have h0 : h < 0 := by
          have := HK.out
          simp only [okN] at this
          rcases hk4 with rfl | rfl | rfl | rfl <;> simp at this <;> exact this
        rcases hk4 with rfl | rfl | rfl | rfl
        all_goals
          clear HK
          go_enter Tryd.func47, Tryd.ntmps47
          go_wp2_with fail
          go_ret
          exact ⟨ret_bool HE.out.symm, hb⟩
      · have e0 : (k == 0) = false := by simpa using k0
        have e1 : (k == 1) = false := by simpa using k1
        have e2 : (k == 2) = false := by simpa using k2
        have e3 : (k == 3) = false := by simpa using k3
        have e4 : (k == 4) = false := by simpa using k4
        have e5 : (k == 5) = false := by simpa using k5
        have e6 : (k == 6) = false := by simpa using k6
        clear k0 k1 k2 k3 k4 k5 k6
        go_enter Tryd.func47, Tryd.ntmps47
        go_wp2_with fail
        go_ret
        exact ⟨ret_bool HE.out.symm, hb⟩

/-! ### What may be -/
def mayB (t : T) : Bool := nodB t && decide (szW t ≤ 4000) && decide (dpW t ≤ 60)

set_option maxHeartbeats 400000 in
theorem refMay (t : T) (v : Value) (w : World) (hv : Rd w t v) :
    Calls Tryd.prog 28 #[v] w fun e w' => e = .returned (.bool (mayB t)) ∧ Below w.heap.size w w' := by
  obtain ⟨v0, v1, v2, rfl⟩ : ∃ v0 v1 v2, v = .agg #[v0, v1, v2] := by
    obtain ⟨k, h, xs⟩ := t
    obtain ⟨A, n, c, rfl, _⟩ := Rd_node.1 hv
    exact ⟨_, _, _, rfl⟩
  have E : mayB t = (nodB t && decide (szW t ≤ 4000) && decide (dpW t ≤ 60)) := rfl
  generalize mayB t = R at *
  have E := Lib.hid E
  have hb0 : Below w.heap.size w (w.alloc (.cells #[v0, v1, v2] 24)) := (Below.refl _ _).alloc (Nat.le_refl _) _
  go_enter Tryd.func28, Tryd.ntmps28
  go_wp2_with fail
  refine (refNodes t _ _ (Rd.keep hb0 _ _ hv)).mono ?_
  rintro e w1 ⟨rfl, hb1⟩
  have hbox := (Box.new w 24 #[v0, v1, v2]).keep hb1 (Box.new _ _ _).lt
  have hb1 := hb0.trans (hb1.mono hb0.size)
  obtain ⟨b0, b1, b2⟩ := hbox.three
  generalize nodB t = r1 at *
  cases r1
  · go_wp2_with fail
    go_ret
    exact ⟨ret_bool (by rw [E.out]; rfl), hb1⟩
  · go_wp2_with fail
    refine (refSize t _ _ (Rd.keep hb1 _ _ hv)).mono ?_
    rintro e w2 ⟨rfl, hb2⟩
    have hbox := hbox.keep hb2 hbox.lt
    have hb2 := hb1.trans (hb2.mono hb1.size)
    clear b0 b1 b2
    obtain ⟨b0, b1, b2⟩ := hbox.three
    by_cases hs : szW t ≤ 4000
    · have hs' : decide (szW t ≤ 4000) = true := by simpa using hs
      have E' := E.out
      rw [hs'] at E'
      have E := Lib.hid E'; clear E'
      go_wp2_with fail
      refine (refDepth t _ _ (Rd.keep hb2 _ _ hv)).mono ?_
      rintro e w3 ⟨rfl, hb3⟩
      have hb3 := hb2.trans (hb3.mono hb2.size)
      go_wp2_with fail
      go_ret
      exact ⟨ret_bool (by rw [E.out]; rfl), hb3⟩
    · have hs' : decide (szW t ≤ 4000) = false := by simpa using hs
      have E' := E.out
      rw [hs'] at E'
      have E := Lib.hid E'; clear E'
      go_wp2_with fail
      go_ret
      exact ⟨ret_bool (by rw [E.out]; rfl), hb2⟩
end Go.Proofs.YtmkahbbcagfbhaaDoor
