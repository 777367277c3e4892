/-
  The walk of the law OccurScoped.
-/
import Derived.Test.YtehdbjfalpjpeaaOo
namespace Go.Proofs.Ytehdbjfalpjpeaa
open Go.ChangeShapes Go.WideShapes Go.ChangeAt Go.RowKit
set_option linter.unusedVariables false

set_option maxRecDepth 100000 in
set_option maxHeartbeats 8000000 in
theorem occurScopedC (t : T) (vs : Int) (v : Value) (w : World) (hvt : Rd w t v) :
    Calls Try.prog 5 #[v, .int .i64 vs] w fun e w' => e = .returned (.bool true) ∧ Below w.heap.size w w' := by
  obtain ⟨kt, ht, At, nt, ct, rfl⟩ := hvt.full
  have HVt := Lib.hid hvt; clear hvt
  obtain ⟨W0, hW0⟩ : ∃ W0, (w.alloc (.cells #[.int .i64 kt, .int .i64 ht, .slice At nt ct] 24)) = W0 := ⟨_, rfl⟩
  have hb : Below w.heap.size w W0 := by rw [← hW0]; exact ((Below.refl _ _).alloc (Nat.le_refl _) _)
  have bxt : Box W0 (w.heap.size) 24 #[.int .i64 kt, .int .i64 ht, .slice At nt ct] := by rw [← hW0]; exact (Box.new w _ _)
  replace HVt := Lib.hid (Rd.keep hb _ _ HVt.out)
  have HW0 := Lib.hid hW0; clear hW0
  go_enter Try.func5, Try.ntmps5
  go_wp2_with fail
  rw [HW0.out]
  clear HW0
  refine (awakeO _).mono ?_
  rintro e w1 ⟨rfl, hb1⟩
  replace bxt := bxt.keep hb1 bxt.lt
  replace HVt := Lib.hid (Rd.keep hb1 _ _ HVt.out)
  replace hb := hb.trans (hb1.mono hb.size)
  clear hb1
  obtain ⟨bxt0, bxt1, bxt2⟩ := bxt.three
  have bxtl := bxt.lt
  go_wp2_with fail
  refine (refLight t 3000 60 _ _ HVt.out).mono ?_
  have HLt : Hid (ltB t 3000 60 = true → ltB t 3000 60 = true) := Lib.hid fun e => e
  generalize hqt : ltB t 3000 60 = Rt at *
  rintro e w2t ⟨rfl, hb1⟩
  have HQt := Lib.hid hqt; clear hqt HLt
  clear bxt0 bxt1 bxt2 bxtl
  replace bxt := bxt.keep hb1 bxt.lt
  replace HVt := Lib.hid (Rd.keep hb1 _ _ HVt.out)
  replace hb := hb.trans (hb1.mono hb.size)
  clear hb1
  obtain ⟨bxt0, bxt1, bxt2⟩ := bxt.three
  have bxtl := bxt.lt
  cases Rt
  · go_wp2_with fail
    go_ret
    exact ⟨rfl, hb⟩
  go_wp2_with fail
  refine (termMay t _ _ HVt.out).mono ?_
  generalize hqt : mayK (flat t 1 0) = Mt at *
  rintro e w3t ⟨rfl, hb1⟩
  have HMt := Lib.hid hqt; clear hqt
  clear bxt0 bxt1 bxt2 bxtl
  replace bxt := bxt.keep hb1 bxt.lt
  replace HVt := Lib.hid (Rd.keep hb1 _ _ HVt.out)
  replace hb := hb.trans (hb1.mono hb.size)
  clear hb1
  obtain ⟨bxt0, bxt1, bxt2⟩ := bxt.three
  have bxtl := bxt.lt
  cases Mt
  · go_wp2_with fail
    go_ret
    exact ⟨rfl, hb⟩
  have KVt : Hid (Kv t) := Lib.hid (kv_of HQt.out HMt.out); clear HQt HMt
  by_cases x1 : vs < 0
  · have dx1 : decide (vs < 0) = true := by simpa using x1
    go_wp2_with fail
    go_ret
    exact ⟨rfl, hb⟩
  have dx1 : decide (vs < 0) = false := by simpa using x1
  by_cases x2 : 1000 < vs
  · have dx2 : decide (1000 < vs) = true := by simpa using x2
    go_wp2_with fail
    go_ret
    exact ⟨rfl, hb⟩
  have dx2 : decide (1000 < vs) = false := by simpa using x2
  go_wp2_with fail
  refine (oVarsC t _ _ HVt.out (by have := KVt.out.n4; omega)).mono ?_
  rintro e w4 ⟨u1, rfl, hn1, hb1⟩
  clear bxt0 bxt1 bxt2 bxtl
  replace bxt := bxt.keep hb1 bxt.lt
  replace HVt := Lib.hid (Rd.keep hb1 _ _ HVt.out)
  replace hb := hb.trans (hb1.mono hb.size)
  clear hb1
  obtain ⟨bxt0, bxt1, bxt2⟩ := bxt.three
  have bxtl := bxt.lt
  go_wp2_with fail
  refine (oMetasC t _ _ HVt.out (by have := KVt.out.n4; omega)).mono ?_
  rintro e w5 ⟨u2, rfl, hn2, hb1⟩
  replace hn1 := hn1.keep hb1
  clear bxt0 bxt1 bxt2 bxtl
  replace bxt := bxt.keep hb1 bxt.lt
  replace HVt := Lib.hid (Rd.keep hb1 _ _ HVt.out)
  replace hb := hb.trans (hb1.mono hb.size)
  clear hb1
  obtain ⟨bxt0, bxt1, bxt2⟩ := bxt.three
  have bxtl := bxt.lt
  have hrv := top_range KVt.out.vs
  have hrm := top_range KVt.out.ms
  have HSC := Lib.hid fun F M (hF : 0 ≤ F) (hF2 : F ≤ 4398046511104) (hM : 0 ≤ M) => KVt.out.within (F := F) (M := M) hF hF2 hM
  change Ns w5 u1 (VsT t) at hn1
  change Ns w5 u2 (MsT t) at hn2
  have HT := Lib.hid fun F M W (h : Below w5.heap.size w5 W) => termScoped t F M _ W (Rd.keep h _ _ HVt.out)
  generalize VsT t = V at *
  generalize MsT t = Q at *
  obtain ⟨A1, n1, c1, rfl, hl1, hc1, hm1⟩ := hn1.full
  obtain ⟨A2, n2, c2, rfl, hl2, hc2, hm2⟩ := hn2.full
  unfold maxLen at hm1 hm2
  have HN1 := Lib.hid hn1; clear hn1
  have HN2 := Lib.hid hn2; clear hn2
  obtain ⟨F, hF⟩ : ∃ F, F = top V := ⟨_, rfl⟩
  obtain ⟨M, hM⟩ : ∃ M, M = top Q := ⟨_, rfl⟩
  rw [← hF] at hrv HSC
  rw [← hM] at hrm HSC
  obtain ⟨hF0, hF1, _⟩ := hrv
  have hq2 := hrm
  obtain ⟨hM0, hM1, _⟩ := hrm
  have P1 : ∀ W, Below w5.heap.size w5 W → Calls Try.prog 22 #[.agg #[.int .i64 kt, .int .i64 ht, .slice At nt ct], .int .i64 F, .int .i64 M] W fun e w' => e = .returned (.bool true) ∧ Below W.heap.size W w' := fun W h => by
    have := HT.out F M W h
    rwa [HSC.out F M hF0 (by omega) hM0, decide_eq_true (Int.le_refl F), decide_eq_true (Int.le_refl M)] at this
  have P2 : ∀ W, Below w5.heap.size w5 W → Calls Try.prog 22 #[.agg #[.int .i64 kt, .int .i64 ht, .slice At nt ct], .int .i64 vs, .int .i64 M] W fun e w' => e = .returned (.bool (decide (F ≤ vs))) ∧ Below W.heap.size W w' := fun W h => by
    have := HT.out vs M W h
    rwa [HSC.out vs M (by omega) (by omega) hM0, decide_eq_true (Int.le_refl M), Bool.and_true] at this
  have P3 : M ≠ 0 → ∀ W, Below w5.heap.size w5 W → Calls Try.prog 22 #[.agg #[.int .i64 kt, .int .i64 ht, .slice At nt ct], .int .i64 F, .int .i64 (M - 1)] W fun e w' => e = .returned (.bool false) ∧ Below W.heap.size W w' := fun hM9 W h => by
    have := HT.out F (M - 1) W h
    rwa [HSC.out F (M - 1) hF0 (by omega) (by omega), decide_eq_false (show ¬ M ≤ M - 1 by omega), Bool.and_false] at this
  have hP1 := Lib.hid P1; clear P1
  have hP2 := Lib.hid P2; clear P2
  have hP3 := Lib.hid P3; clear P3
  clear HSC HT
  have hFw : IntKind.i64.wrap F = F := by rw [wrapEq]; exact wrap_small (by omega) (by omega)
  have hMw : IntKind.i64.wrap M = M := by rw [wrapEq]; exact wrap_small (by omega) (by omega)
  have hM1w : IntKind.i64.wrap (M - 1) = M - 1 := by rw [wrapEq]; exact wrap_small (by omega) (by omega)
  clear x1 x2 dx1 dx2

  rcases Nat.eq_zero_or_pos n1 with e1 | e1
  · subst e1
    obtain rfl : F = 0 := by rw [hF, List.length_eq_zero_iff.1 hl1]; rfl
    clear hF
    rcases Nat.eq_zero_or_pos n2 with e2 | e2
    · subst e2
      obtain rfl : M = 0 := by rw [hM, List.length_eq_zero_iff.1 hl2]; rfl
      clear hM hP3
      have tok1 : True := trivial
      have tok2 : True := trivial
      go_wp2_with (first
        | (go_at_call 22; have _t := tok1; refine (hP1.out _ (Below.refl _ _)).mono ?_; rintro e w6 ⟨rfl, hb6⟩; have y6 := bxt.keep hb6 bxt.lt; clear bxt0 bxt1 bxt2 tok1; obtain ⟨bxt0, bxt1, bxt2⟩ := y6.three)
        | (go_at_call 22; have _t := tok2; refine (hP2.out _ hb6).mono ?_; rintro e w7 ⟨rfl, hb7⟩; have hb67 := hb6.trans (hb7.mono hb6.size); have y7 := y6.keep hb7 y6.lt; clear bxt0 bxt1 bxt2 tok2; obtain ⟨bxt0, bxt1, bxt2⟩ := y7.three)
        | go_in)
      all_goals (go_ret; exact ⟨ret_bool (by first | rfl | simp), hb.trans (hb67.mono hb.size)⟩)
    · obtain ⟨m2, rfl⟩ : ∃ m, n2 = m + 1 := ⟨n2 - 1, by omega⟩
      obtain ⟨b2, o2, z2, rfl, hz2, d2⟩ := HN2.out.cell (j := m2) (by omega)
      have hMz : M = z2 + 1 := by rw [hM, top_at (z := z2) (by rw [hl2]; exact hz2)]
      have hM9 : M ≠ 0 := by
        have h1 := hq2.2.2 (by intro e; rw [e] at hl2; simp at hl2)
        omega
      have HZ2 := Lib.hid hz2; clear hz2
      obtain rfl : z2 = M - 1 := by omega
      clear hMz hM
      have gm1 : decide ((0 : Int) < ((m2 + 1 : Nat) : Int)) = true := by simp; try omega
      have gm2 : ((m2 + 1 : Nat) : Int) - 1 = (m2 : Int) := by omega
      have gm3 : (M == 0) = false := by simpa using hM9
      have tok1 : True := trivial
      have tok2 : True := trivial
      go_wp2_with (first
        | (go_at_call 22; have _t := tok1; refine (hP1.out _ (Below.refl _ _)).mono ?_; rintro e w6 ⟨rfl, hb6⟩; have y6 := bxt.keep hb6 bxt.lt; clear bxt0 bxt1 bxt2 tok1; obtain ⟨bxt0, bxt1, bxt2⟩ := y6.three)
        | (go_at_call 22; have _t := tok2; refine (hP2.out _ hb6).mono ?_; rintro e w7 ⟨rfl, hb7⟩; have hb67 := hb6.trans (hb7.mono hb6.size); have y7 := y6.keep hb7 y6.lt; clear bxt0 bxt1 bxt2 tok2; obtain ⟨bxt0, bxt1, bxt2⟩ := y7.three)
        | (go_at_call 22; refine (hP3.out hM9 _ hb67).mono ?_; rintro e w8 ⟨rfl, hb8⟩)
        | go_in)
      all_goals (go_ret; exact ⟨ret_bool (by first | rfl | simp), hb.trans ((hb67.trans (hb8.mono hb67.size)).mono hb.size)⟩)
  · obtain ⟨m1, rfl⟩ : ∃ m, n1 = m + 1 := ⟨n1 - 1, by omega⟩
    obtain ⟨b1, o1, z1, rfl, hz1, d1⟩ := HN1.out.cell (j := m1) (by omega)
    have hFz : F = z1 + 1 := by rw [hF, top_at (z := z1) (by rw [hl1]; exact hz1)]
    have HZ := Lib.hid hz1; clear hz1
    obtain rfl : z1 = F - 1 := by omega
    clear hFz hF
    have g1 : decide ((0 : Int) < ((m1 + 1 : Nat) : Int)) = true := by simp; try omega
    have g2 : ((m1 + 1 : Nat) : Int) - 1 = (m1 : Int) := by omega
    rcases Nat.eq_zero_or_pos n2 with e2 | e2
    · subst e2
      obtain rfl : M = 0 := by rw [hM, List.length_eq_zero_iff.1 hl2]; rfl
      clear hM hP3
      have tok1 : True := trivial
      have tok2 : True := trivial
      go_wp2_with (first
        | (go_at_call 22; have _t := tok1; refine (hP1.out _ (Below.refl _ _)).mono ?_; rintro e w6 ⟨rfl, hb6⟩; have y6 := bxt.keep hb6 bxt.lt; clear bxt0 bxt1 bxt2 tok1; obtain ⟨bxt0, bxt1, bxt2⟩ := y6.three)
        | (go_at_call 22; have _t := tok2; refine (hP2.out _ hb6).mono ?_; rintro e w7 ⟨rfl, hb7⟩; have hb67 := hb6.trans (hb7.mono hb6.size); have y7 := y6.keep hb7 y6.lt; clear bxt0 bxt1 bxt2 tok2; obtain ⟨bxt0, bxt1, bxt2⟩ := y7.three)
        | go_in)
      all_goals (go_ret; exact ⟨ret_bool (by first | rfl | simp), hb.trans (hb67.mono hb.size)⟩)
    · obtain ⟨m2, rfl⟩ : ∃ m, n2 = m + 1 := ⟨n2 - 1, by omega⟩
      obtain ⟨b2, o2, z2, rfl, hz2, d2⟩ := HN2.out.cell (j := m2) (by omega)
      have hMz : M = z2 + 1 := by rw [hM, top_at (z := z2) (by rw [hl2]; exact hz2)]
      have hM9 : M ≠ 0 := by
        have h1 := hq2.2.2 (by intro e; rw [e] at hl2; simp at hl2)
        omega
      have HZ2 := Lib.hid hz2; clear hz2
      obtain rfl : z2 = M - 1 := by omega
      clear hMz hM
      have gm1 : decide ((0 : Int) < ((m2 + 1 : Nat) : Int)) = true := by simp; try omega
      have gm2 : ((m2 + 1 : Nat) : Int) - 1 = (m2 : Int) := by omega
      have gm3 : (M == 0) = false := by simpa using hM9
      have tok1 : True := trivial
      have tok2 : True := trivial
      go_wp2_with (first
        | (go_at_call 22; have _t := tok1; refine (hP1.out _ (Below.refl _ _)).mono ?_; rintro e w6 ⟨rfl, hb6⟩; have y6 := bxt.keep hb6 bxt.lt; clear bxt0 bxt1 bxt2 tok1; obtain ⟨bxt0, bxt1, bxt2⟩ := y6.three)
        | (go_at_call 22; have _t := tok2; refine (hP2.out _ hb6).mono ?_; rintro e w7 ⟨rfl, hb7⟩; have hb67 := hb6.trans (hb7.mono hb6.size); have y7 := y6.keep hb7 y6.lt; clear bxt0 bxt1 bxt2 tok2; obtain ⟨bxt0, bxt1, bxt2⟩ := y7.three)
        | (go_at_call 22; refine (hP3.out hM9 _ hb67).mono ?_; rintro e w8 ⟨rfl, hb8⟩)
        | go_in)
      all_goals (go_ret; exact ⟨ret_bool (by first | rfl | simp), hb.trans ((hb67.trans (hb8.mono hb67.size)).mono hb.size)⟩)
end Go.Proofs.Ytehdbjfalpjpeaa
