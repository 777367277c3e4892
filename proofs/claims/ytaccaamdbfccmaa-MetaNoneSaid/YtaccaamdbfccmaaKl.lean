/-
  Contracts of the functions of the laws of layer 4: metas, bare; the chapter's example. No statement is proved here.
-/
import Derived.Test.YtaccaamdbfccmaaKj
namespace Go.Proofs.Ytaccaamdbfccmaa
open Go.ChangeShapes Go.WideShapes Go.ChangeAt Go.RowKit
set_option linter.unusedVariables false
set_option maxRecDepth 100000

mutual
/-- has a term metas? -/
def hasB : T → Bool
  | .node k _ xs => (k == 6) || hasL xs
def hasL : List T → Bool
  | [] => false
  | x :: xs => hasB x || hasL xs
end
mutual
/-- has no meta Args? -/
def barB : T → Bool
  | .node k _ xs => !((k == 6) && decide (0 < xs.length)) && barL xs
def barL : List T → Bool
  | [] => true
  | x :: xs => barB x && barL xs
end

set_option maxHeartbeats 4000000 in
theorem metasC : ∀ (t : T) (v : Value) (w : World), Rd w t v → Calls Try.prog 21 #[v] w fun e w' => e = .returned (.bool (hasB t)) ∧ Below w.heap.size w w' := by
  refine T.ind fun k h xs ih v w hv => ?_
  obtain ⟨A, n, c, rfl, wfk, wfh, hl, hc, hm, hx⟩ := Rd_node.1 hv
  unfold maxLen at hm
  obtain ⟨W, hW⟩ : ∃ W, w.alloc (.cells #[.int .i64 k, .int .i64 h, .slice A n c] 24) = W := ⟨_, rfl⟩
  have hb : Below w.heap.size w W := by rw [← hW]; exact (Below.refl _ _).alloc (Nat.le_refl _) _
  have x0 : Box W w.heap.size 24 #[.int .i64 k, .int .i64 h, .slice A n c] := by rw [← hW]; exact Box.new _ _ _
  have HW := Lib.hid hW; clear hW
  have HN := Lib.hid hl; clear hl
  have HX := Lib.hid hx; clear hx hv
  have IH := Lib.hid ih; clear ih
  rw [hasB]
  by_cases hk : k = 6
  · subst hk
    clear x0
    go_enter Try.func21, Try.ntmps21
    go_wp2_with fail
    go_ret
    exact ⟨ret_bool (by simp), (Below.refl _ _).alloc (Nat.le_refl _) _⟩
  · have e1 : (k == 6) = false := by simpa using hk
    rw [e1, Bool.false_or]
    clear hk
    go_enter Try.func21, Try.ntmps21
    go_wp2_with fail
    rw [HW.out]
    clear HW
    have HB := Lib.hid hb; clear hb
    have HX0 := Lib.hid x0; clear x0
    go_loopw [3] (fun i wr => ∃ (j : Nat), j ≤ n ∧ i = .int .i64 j ∧ Hid (hasL (xs.drop j) = hasL xs) ∧ Hid (Below W.heap.size W wr)) (fun i _ => n - (intOf i).toNat)
    case atStart => exact ⟨0, Nat.zero_le _, rfl, Lib.hid (by simp), Lib.hid (Below.refl _ _)⟩
    case round =>
      obtain ⟨j, hj, rfl, HS, HBR⟩ := hrel
      have hbw := HB.out.trans (HBR.out.mono HB.out.size)
      have y0 := HX0.out.keep HBR.out HX0.out.lt
      obtain ⟨a0, a1, a2⟩ := y0.three
      have ly := y0.lt
      by_cases hlt : j < n
      · obtain ⟨t, ht⟩ := at_of HN.out hlt
        obtain ⟨b, o, k2, h2, A2, n2, c2', rfl, c0, c1, c2, hr⟩ := (RdAt.keep hbw (HX.out j t ht)).full
        have HC := Lib.hid (IH.out t (List.mem_of_getElem? ht) _ _ hr)
        have hs := HS.out
        rw [drop_at ht, hasL] at hs
        have HS2 := Lib.hid hs; clear hs
        generalize hasB t = r at *
        clear ht hr
        have hi0 : (0 : Int) ≤ j := by omega
        have hi1 : (j : Int) < n := by omega
        go_wp2_with fail
        refine HC.out.mono ?_
        clear HC
        rintro e w1 ⟨rfl, hb1⟩
        have HB1 := Lib.hid hb1; clear hb1
        cases r
        · go_wp2_with fail
          go_roundw
          case rel => exact ⟨j + 1, by omega, by go_num, Lib.hid (by simpa using HS2.out), Lib.hid (HBR.out.trans (HB1.out.mono HBR.out.size))⟩
          case measure => simp [intOf]; omega
        · go_wp2_with fail
          go_ret
          exact ⟨ret_bool (by simpa using HS2.out), hbw.trans (HB1.out.mono hbw.size)⟩
      · go_wp2_with fail
        go_ret
        exact ⟨ret_bool (by have := HS.out; rw [drop_all HN.out (by omega)] at this; exact this), hbw⟩

set_option maxHeartbeats 4000000 in
theorem bareC : ∀ (t : T) (v : Value) (w : World), Rd w t v → Calls Try.prog 25 #[v] w fun e w' => e = .returned (.bool (barB t)) ∧ Below w.heap.size w w' := by
  refine T.ind fun k h xs ih v w hv => ?_
  obtain ⟨A, n, c, rfl, wfk, wfh, hl, hc, hm, hx⟩ := Rd_node.1 hv
  unfold maxLen at hm
  obtain ⟨W, hW⟩ : ∃ W, w.alloc (.cells #[.int .i64 k, .int .i64 h, .slice A n c] 24) = W := ⟨_, rfl⟩
  have hb : Below w.heap.size w W := by rw [← hW]; exact (Below.refl _ _).alloc (Nat.le_refl _) _
  have x0 : Box W w.heap.size 24 #[.int .i64 k, .int .i64 h, .slice A n c] := by rw [← hW]; exact Box.new _ _ _
  have hEQ : barB (.node k h xs) = (!((k == 6) && decide (0 < n)) && barL xs) := by rw [barB, hl]
  rw [hEQ]
  clear hEQ
  have HW := Lib.hid hW; clear hW
  have HN := Lib.hid hl; clear hl
  have HX := Lib.hid hx; clear hx hv
  have IH := Lib.hid ih; clear ih
  have hcase : (k = 6 ∧ 0 < n) ∨ (k ≠ 6) ∨ (k = 6 ∧ n = 0) := by omega
  rcases hcase with ⟨rfl, h0⟩ | hcase
  · have d1 : decide (0 < n) = true := by simpa using h0
    rw [d1]
    clear x0
    go_enter Try.func25, Try.ntmps25
    go_wp2_with fail
    go_ret
    exact ⟨ret_bool (by simp), (Below.refl _ _).alloc (Nat.le_refl _) _⟩
  · rcases hcase with hk | ⟨rfl, h0⟩
    case' inl =>
      have e1 : (k == 6) = false := by simpa using hk
      rw [e1]
      clear hk
    case' inr =>
      have e2 : decide (0 < n) = false := by simp [h0]
      rw [e2]
      clear h0
    all_goals
      simp only [Bool.and_false, Bool.false_and, Bool.not_false, Bool.true_and]
      go_enter Try.func25, Try.ntmps25
      go_wp2_with fail
      rw [HW.out]
      clear HW
      have HB := Lib.hid hb; clear hb
      have HX0 := Lib.hid x0; clear x0
      go_loopw [3] (fun i wr => ∃ (j : Nat), j ≤ n ∧ i = .int .i64 j ∧ Hid (barL (xs.drop j) = barL xs) ∧ Hid (Below W.heap.size W wr)) (fun i _ => n - (intOf i).toNat)
      case atStart => exact ⟨0, Nat.zero_le _, rfl, Lib.hid (by simp), Lib.hid (Below.refl _ _)⟩
      case round =>
        obtain ⟨j, hj, rfl, HS, HBR⟩ := hrel
        have hbw := HB.out.trans (HBR.out.mono HB.out.size)
        have y0 := HX0.out.keep HBR.out HX0.out.lt
        obtain ⟨a0, a1, a2⟩ := y0.three
        have ly := y0.lt
        by_cases hlt : j < n
        · obtain ⟨t, ht⟩ := at_of HN.out hlt
          obtain ⟨b, o, k2, h2, A2, n2, c2', rfl, c0, c1, c2, hr⟩ := (RdAt.keep hbw (HX.out j t ht)).full
          have HC := Lib.hid (IH.out t (List.mem_of_getElem? ht) _ _ hr)
          have hs := HS.out
          rw [drop_at ht, barL] at hs
          have HS2 := Lib.hid hs; clear hs
          generalize barB t = r at *
          clear ht hr
          have hi0 : (0 : Int) ≤ j := by omega
          have hi1 : (j : Int) < n := by omega
          go_wp2_with fail
          refine HC.out.mono ?_
          clear HC
          rintro e w1 ⟨rfl, hb1⟩
          have HB1 := Lib.hid hb1; clear hb1
          cases r
          · go_wp2_with fail
            go_ret
            exact ⟨ret_bool (by simpa using HS2.out), hbw.trans (HB1.out.mono hbw.size)⟩
          · go_wp2_with fail
            go_roundw
            case rel => exact ⟨j + 1, by omega, by go_num, Lib.hid (by simpa using HS2.out), Lib.hid (HBR.out.trans (HB1.out.mono HBR.out.size))⟩
            case measure => simp [intOf]; omega
        · go_wp2_with fail
          go_ret
          exact ⟨ret_bool (by have := HS.out; rw [drop_all HN.out (by omega)] at this; exact this), hbw⟩
end Go.Proofs.Ytaccaamdbfccmaa
