/-
  The walk of the law TermScopes.
-/
import Derived.Test.YtlcoadbeiaiioaaLa
namespace Go.Proofs.Ytlcoadbeiaiioaa
open Go.ChangeShapes Go.WideShapes Go.ChangeAt Go.RowKit Go.Shelf
set_option linter.unusedVariables false

/-- a term of at most 4000 nodes, if it may be -/
theorem may_nd {t : T} (h : mayK (flat t 1 0) = true) : nd t ≤ 4000 := by
  rw [mayK, flat_len] at h
  simp at h
  exact h.1

mutual
theorem sc_mono : ∀ (t : T) (vars metas vars' metas' : Int), 0 ≤ vars → vars ≤ vars' → metas ≤ metas' → vars' + nd t ≤ 1099511627776 → scB t vars metas = true → scB t vars' metas' = true
  | .node k h xs, vars, metas, vars', metas', h0, hv, hm, hs, h1 => by
    rw [nd] at hs
    rw [scB, Bool.and_eq_true] at h1 ⊢
    refine ⟨?_, scL_mono k _ xs 0 vars metas vars' metas' h0 hv hm (by omega) h1.2⟩
    have := h1.1
    simp only [Bool.not_eq_true', Bool.or_eq_false_iff, Bool.and_eq_false_iff, beq_eq_false_iff_ne, decide_eq_false_iff_not] at this ⊢
    omega
theorem scL_mono (k : Int) (n : Nat) : ∀ (xs : List T) (i : Nat) (vars metas vars' metas' : Int), 0 ≤ vars → vars ≤ vars' → metas ≤ metas' → vars' + 1 + ndL xs ≤ 1099511627776 → scL k n xs i vars metas = true → scL k n xs i vars' metas' = true
  | [], _, _, _, _, _, _, _, _, _, _ => by rw [scL]
  | t :: ts, i, vars, metas, vars', metas', h0, hv, hm, hs, h1 => by
    rw [ndL] at hs
    rw [scL, Bool.and_eq_true] at h1 ⊢
    have hbd : 0 ≤ bd k n i ∧ bd k n i ≤ 1 := by unfold bd; split <;> omega
    have e1 : wrap64 (vars + bd k n i) = vars + bd k n i := wrap_small (by omega) (by omega)
    have e2 : wrap64 (vars' + bd k n i) = vars' + bd k n i := wrap_small (by omega) (by omega)
    refine ⟨?_, scL_mono k n ts (i + 1) vars metas vars' metas' h0 hv hm (by omega) h1.2⟩
    rw [e2]
    refine sc_mono t (vars + bd k n i) metas _ _ (by omega) (by omega) hm (by omega) ?_
    rw [← e1]; exact h1.1
end
theorem scL_at (k : Int) (n : Nat) {t : T} : ∀ (xs : List T) (i j : Nat) (vars metas : Int), scL k n xs i vars metas = true → xs[j]? = some t → scB t (wrap64 (vars + bd k n (i + j))) metas = true
  | x :: xs, i, 0, vars, metas, h, hj => by
    simp only [List.getElem?_cons_zero, Option.some.injEq] at hj
    subst hj
    rw [scL, Bool.and_eq_true] at h
    exact h.1
  | x :: xs, i, j + 1, vars, metas, h, hj => by
    rw [scL, Bool.and_eq_true] at h
    have := scL_at k n xs (i + 1) j vars metas h.2 (by simpa using hj)
    rw [show i + (j + 1) = i + 1 + j by omega]
    exact this

set_option maxRecDepth 100000 in
set_option maxHeartbeats 8000000 in
theorem termScopesC (t : T) (vars metas more : Int) (v : Value) (w : World) (hv : Rd w t v) (hw : wrap64 vars = vars) :
    Calls Try.prog 5 #[v, .int .i64 vars, .int .i64 metas, .int .i64 more] w fun e w' => e = .returned (.bool true) ∧ Below w.heap.size w w' := by
  obtain ⟨k, h, xs⟩ := t
  have hv' := hv
  obtain ⟨A, n, c, rfl, hk, hh, hn, hc, hm, hx⟩ := Rd_node.1 hv
  clear hv
  have HV := Lib.hid hv'; clear hv'
  have HN := Lib.hid hn; clear hn
  have HX := Lib.hid hx; clear hx
  have HW := Lib.hid hw; clear hw
  have HM := Lib.hid hm
  unfold maxLen at hm
  have hb : Below w.heap.size w (w.alloc (.cells #[.int .i64 k, .int .i64 h, .slice A n c] 24)) := (Below.refl _ _).alloc (Nat.le_refl _) _
  have bx := Box.new w 24 #[.int .i64 k, .int .i64 h, .slice A n c]
  go_enter Try.func5, Try.ntmps5
  go_wp2_with fail
  refine (awakeC _).mono ?_
  rintro e w1 ⟨rfl, hb1⟩
  have bx := bx.keep hb1 bx.lt
  have hb := hb.trans (hb1.mono hb.size)
  clear hb1
  obtain ⟨c0, c1, c2⟩ := bx.three
  go_wp2_with fail
  refine (refLight _ 9000 200 _ _ (Rd.keep hb _ _ HV.out)).mono ?_
  rintro e w2 ⟨rfl, hb1⟩
  have bx := bx.keep hb1 bx.lt
  have hb := hb.trans (hb1.mono hb.size)
  clear hb1 c0 c1 c2
  obtain ⟨c0, c1, c2⟩ := bx.three
  generalize ltB (.node k h xs) 9000 200 = R at *
  cases R
  · go_wp2_with fail
    go_ret
    exact ⟨rfl, hb⟩
  go_wp2_with fail
  have hmn : mayK (flat (.node k h xs) 1 0) = true → nd (.node k h xs) ≤ 4000 := may_nd
  have HMN := Lib.hid hmn; clear hmn
  refine (termMay _ _ _ (Rd.keep hb _ _ HV.out)).mono ?_
  generalize mayK (flat (.node k h xs) 1 0) = M at *
  rintro e w3 ⟨rfl, hb1⟩
  have bx := bx.keep hb1 bx.lt
  have hb := hb.trans (hb1.mono hb.size)
  clear hb1 c0 c1 c2
  obtain ⟨c0, c1, c2⟩ := bx.three
  cases M
  · go_wp2_with fail
    go_ret
    exact ⟨rfl, hb⟩
  have hnd : nd (.node k h xs) ≤ 4000 := HMN.out rfl
  clear HMN
  by_cases t1 : vars < 0
  · have d1 : decide (vars < 0) = true := by simpa using t1
    go_wp2_with fail
    go_ret
    exact ⟨rfl, hb⟩
  have d1 : decide (vars < 0) = false := by simpa using t1
  by_cases t2 : 1000 < vars
  · have d2 : decide (1000 < vars) = true := by simpa using t2
    go_wp2_with fail
    go_ret
    exact ⟨rfl, hb⟩
  have d2 : decide (1000 < vars) = false := by simpa using t2
  by_cases t3 : metas < 0
  · have d3 : decide (metas < 0) = true := by simpa using t3
    go_wp2_with fail
    go_ret
    exact ⟨rfl, hb⟩
  have d3 : decide (metas < 0) = false := by simpa using t3
  by_cases t4 : 1000 < metas
  · have d4 : decide (1000 < metas) = true := by simpa using t4
    go_wp2_with fail
    go_ret
    exact ⟨rfl, hb⟩
  have d4 : decide (1000 < metas) = false := by simpa using t4
  by_cases t5 : more < 0
  · have d5 : decide (more < 0) = true := by simpa using t5
    go_wp2_with fail
    go_ret
    exact ⟨rfl, hb⟩
  have d5 : decide (more < 0) = false := by simpa using t5
  by_cases t6 : 1000 < more
  · have d6 : decide (1000 < more) = true := by simpa using t6
    go_wp2_with fail
    go_ret
    exact ⟨rfl, hb⟩
  have d6 : decide (1000 < more) = false := by simpa using t6
  go_wp2_with fail
  refine (scopedC _ vars metas _ _ (Rd.keep hb _ _ HV.out) HW.out).mono ?_
  have hall : scB (.node k h xs) vars metas = true → (scB (.node k h xs) (vars + more) metas = true ∧ scB (.node k h xs) vars (metas + more) = true ∧ ∀ j t, xs[j]? = some t → scB t (wrap64 (vars + bd k n j)) metas = true) := by
    intro hs
    refine ⟨sc_mono _ vars metas _ _ (by omega) (by omega) (by omega) (by omega) hs, sc_mono _ vars metas _ _ (by omega) (by omega) (by omega) (by omega) hs, fun j t ht => ?_⟩
    rw [scB, Bool.and_eq_true, HN.out] at hs
    have := scL_at k n xs 0 j vars metas hs.2 ht
    rwa [Nat.zero_add] at this
  have HA := Lib.hid hall; clear hall
  generalize scB (.node k h xs) vars metas = S at *
  rintro e w4 ⟨rfl, hb1⟩
  have bx := bx.keep hb1 bx.lt
  have hb := hb.trans (hb1.mono hb.size)
  clear hb1 c0 c1 c2
  obtain ⟨c0, c1, c2⟩ := bx.three
  cases S
  · go_wp2_with fail
    go_ret
    exact ⟨rfl, hb⟩
  obtain ⟨ha1, ha2, ha3⟩ := HA.out rfl
  clear HA
  have HA1 := Lib.hid ha1; clear ha1
  have HA2 := Lib.hid ha2; clear ha2
  have HA3 := Lib.hid ha3; clear ha3
  go_wp2_with fail
  go_loopw [11] (fun i wr => ∃ (j : Nat), j ≤ n ∧ i = .int .i64 j ∧ Box wr w.heap.size 24 #[.int .i64 k, .int .i64 h, .slice A n c] ∧ Below w.heap.size w wr) (fun i _ => n - (intOf i).toNat)
  case atStart => exact ⟨0, Nat.zero_le _, rfl, bx, hb⟩
  case round =>
    obtain ⟨j, hj, rfl, hbox, hbr⟩ := hrel
    clear hb c0 c1 c2 bx
    obtain ⟨b0, b1, b2⟩ := hbox.three
    by_cases hlt : j < n
    · obtain ⟨t, ht⟩ := at_of HN.out hlt
      obtain ⟨b, o, v0, v1, v2, rfl, c0, c1, c2, hr⟩ := RdAt.keep hbr (HX.out j t ht)
      have HT := Lib.hid ht; clear ht
      have hst := HA3.out j t HT.out
      have HST := Lib.hid hst; clear hst
      go_wp2_with fail
      have pb0 := Past.cell b0
      have pb1 := Past.cell b1
      have pb2 := Past.cell b2
      have p0 := Past.cell c0
      have p1 := Past.cell c1
      have p2 := Past.cell c2
      have hi0 : (0 : Int) ≤ j := by omega
      have hi1 : (j : Int) < n := by omega
      have HC : Hid (∀ z : Past wr, Calls Try.prog 24 #[.agg #[v0, v1, v2], .int .i64 (wrap64 (vars + bd k n j)), .int .i64 metas] z.wd fun e w' => e = .returned (.bool true) ∧ Below z.wd.heap.size z.wd w') :=
        Lib.hid fun z => by rw [← HST.out]; exact scopedC t _ metas _ _ (Rd.keep z.h _ _ hr) (wrapTwice _)
      refine wp_region_past (by kernel_rfl) (by kernel_rfl) ?_
      repeat (go_big_quiet_step ((first
        | (go_at_call 28; exact calls_past (refBinds _ _ _ _ _ hc HM.out j (by unfold maxLen; omega) _))
        | (go_at_call 24; exact calls_past (HC.out _)))))
      refine wpQuiet_nil ?_
      rintro _ ⟨z, rfl⟩
      clear pb0 pb1 pb2 p0 p1 p2
      obtain ⟨w5, hb1⟩ := z
      go_wp2_with fail
      go_roundw
      case rel => exact ⟨j + 1, by omega, by go_num, hbox.keep hb1 hbox.lt, hbr.trans (hb1.mono hbr.size)⟩
      case measure => simp [intOf]; omega
    · go_wp2_with fail
      refine (scopedC _ (vars + more) metas _ _ (Rd.keep hbr _ _ HV.out) (wrap_small (by omega) (by omega))).mono ?_
      rw [HA1.out]
      rintro e w5 ⟨rfl, hb1⟩
      have hbox := hbox.keep hb1 hbox.lt
      have hbr := hbr.trans (hb1.mono hbr.size)
      clear hb1 b0 b1 b2
      obtain ⟨b0, b1, b2⟩ := hbox.three
      go_wp2_with fail
      refine (scopedC _ vars (metas + more) _ _ (Rd.keep hbr _ _ HV.out) HW.out).mono ?_
      rw [HA2.out]
      rintro e w6 ⟨rfl, hb1⟩
      have hbr := hbr.trans (hb1.mono hbr.size)
      clear hb1
      go_wp2_with fail
      go_ret
      exact ⟨rfl, hbr⟩
end Go.Proofs.Ytlcoadbeiaiioaa
