/-
  The walk of the law ShiftScopes.
-/
import Derived.Test.YtooihffijpndoaaSw
import Derived.Test.YtooihffijpndoaaSn
namespace Go.Proofs.Ytooihffijpndoaa
open Go.ChangeShapes Go.WideShapes Go.ChangeAt Go.RowKit
set_option linter.unusedVariables false

set_option maxRecDepth 100000 in
set_option maxHeartbeats 8000000 in
theorem shiftScopesC (t : T) (b f vr : Int) (v : Value) (w : World) (hv : Rd w t v) :
    Calls Try.prog 5 #[v, .int .i64 b, .int .i64 f, .int .i64 vr] w fun e w' => e = .returned (.bool true) ∧ Below w.heap.size w w' := by
  obtain ⟨k, h, A, n, c, rfl⟩ := hv.full
  have HV := Lib.hid hv; clear hv
  have hb : Below w.heap.size w (w.alloc (.cells #[.int .i64 k, .int .i64 h, .slice A n c] 24)) := (Below.refl _ _).alloc (Nat.le_refl _) _
  have bx := Box.new w 24 #[.int .i64 k, .int .i64 h, .slice A n c]
  replace HV := Lib.hid (Rd.keep hb _ _ HV.out)
  go_enter Try.func5, Try.ntmps5
  go_wp2_with fail
  refine (awakeS _).mono ?_
  rintro e w1 ⟨rfl, hb1⟩
  replace bx := bx.keep hb1 bx.lt
  replace HV := Lib.hid (Rd.keep hb1 _ _ HV.out)
  replace hb := hb.trans (hb1.mono hb.size)
  clear hb1
  obtain ⟨bx0, bx1, bx2⟩ := bx.three
  have bxl := bx.lt
  go_wp2_with fail
  refine (refLight t 9000 200 _ _ HV.out).mono ?_
  have HLT : Hid (ltB t 9000 200 = true → okT 1099511627776 t ∨ mayK (flat t 1 0) = false) := Lib.hid fun e => by
    cases hm : mayK (flat t 1 0)
    · exact .inr rfl
    · exact .inl (okT_small e hm)
  generalize ltB t 9000 200 = R at *
  rintro e w2 ⟨rfl, hb1⟩
  clear bx0 bx1 bx2 bxl
  replace bx := bx.keep hb1 bx.lt
  replace HV := Lib.hid (Rd.keep hb1 _ _ HV.out)
  replace hb := hb.trans (hb1.mono hb.size)
  clear hb1
  obtain ⟨bx0, bx1, bx2⟩ := bx.three
  have bxl := bx.lt
  cases R
  · go_wp2_with fail
    go_ret
    exact ⟨rfl, hb⟩
  replace HLT := Lib.hid (HLT.out rfl)
  go_wp2_with fail
  refine (termMay t _ _ HV.out).mono ?_
  have HMY : Hid (mayK (flat t 1 0) = true → nd t ≤ 1048576 ∧ mayB t = true) := Lib.hid may_small
  generalize mayK (flat t 1 0) = R at *
  rintro e w3 ⟨rfl, hb1⟩
  clear bx0 bx1 bx2 bxl
  replace bx := bx.keep hb1 bx.lt
  replace HV := Lib.hid (Rd.keep hb1 _ _ HV.out)
  replace hb := hb.trans (hb1.mono hb.size)
  clear hb1
  obtain ⟨bx0, bx1, bx2⟩ := bx.three
  have bxl := bx.lt
  cases R
  · go_wp2_with fail
    go_ret
    exact ⟨rfl, hb⟩
  have hok := HLT.out.resolve_right (by simp)
  obtain ⟨hnd, hmay⟩ := HMY.out rfl
  clear HLT HMY
  by_cases x1 : b < 0
  · have dx1 : decide (b < 0) = true := by simpa using x1
    go_wp2_with fail
    go_ret
    exact ⟨rfl, hb⟩
  have dx1 : decide (b < 0) = false := by simpa using x1
  by_cases x2 : 1000 < b
  · have dx2 : decide (1000 < b) = true := by simpa using x2
    go_wp2_with fail
    go_ret
    exact ⟨rfl, hb⟩
  have dx2 : decide (1000 < b) = false := by simpa using x2
  by_cases x3 : f < 0
  · have dx3 : decide (f < 0) = true := by simpa using x3
    go_wp2_with fail
    go_ret
    exact ⟨rfl, hb⟩
  have dx3 : decide (f < 0) = false := by simpa using x3
  by_cases x4 : vr < f
  · have dx4 : decide (vr < f) = true := by simpa using x4
    go_wp2_with fail
    go_ret
    exact ⟨rfl, hb⟩
  have dx4 : decide (vr < f) = false := by simpa using x4
  by_cases x5 : 1000 < vr
  · have dx5 : decide (1000 < vr) = true := by simpa using x5
    go_wp2_with fail
    go_ret
    exact ⟨rfl, hb⟩
  have dx5 : decide (1000 < vr) = false := by simpa using x5
  go_wp2_with fail
  refine (scopedC t vr 1099511627776 _ _ HV.out (wrap_small (by omega) (by omega))).mono ?_
  obtain ⟨f1, f2, f3, f4⟩ := back_facts hok hnd hmay (b := b) (f := f) (by omega) (by omega)
  have HUP := Lib.hid f1; clear f1
  have HDN := Lib.hid f2; clear f2
  have HND := Lib.hid f3; clear f3 f4
  have HSC : Hid (scB t vr 1099511627776 = true → scB (upT b t f) (vr + b) 1099511627776 = true ∧ ∀ u less, f ≤ less → vr - b ≤ less → less ≤ 1000 → dnX t b f = some u → scB u less 1099511627776 = true) :=
    Lib.hid (scopes_facts hok hnd hmay (by omega) (by omega) (by omega))
  generalize scB t vr 1099511627776 = R at *
  rintro e w4 ⟨rfl, hb1⟩
  clear bx0 bx1 bx2 bxl
  replace bx := bx.keep hb1 bx.lt
  replace HV := Lib.hid (Rd.keep hb1 _ _ HV.out)
  replace hb := hb.trans (hb1.mono hb.size)
  clear hb1
  obtain ⟨bx0, bx1, bx2⟩ := bx.three
  have bxl := bx.lt
  cases R
  · go_wp2_with fail
    go_ret
    exact ⟨rfl, hb⟩
  replace HSC := Lib.hid (HSC.out rfl)
  go_wp2_with fail
  refine (upC t b f _ _ HV.out hnd).mono ?_
  rw [HUP.out]
  rintro e w5 ⟨v1, rfl, how, hb1⟩
  obtain ⟨k1, h1, A1, n1, c1, rfl⟩ := how.full
  have HA := Lib.hid (RdF.rd _ _ how.rdF); clear how
  clear bx0 bx1 bx2 bxl
  replace bx := bx.keep hb1 bx.lt
  replace HV := Lib.hid (Rd.keep hb1 _ _ HV.out)
  replace hb := hb.trans (hb1.mono hb.size)
  clear hb1
  obtain ⟨bx0, bx1, bx2⟩ := bx.three
  have bxl := bx.lt
  go_wp2_with fail
  have hbA : Below w5.heap.size w5 (w5.alloc (.cells #[.int .i64 k1, .int .i64 h1, .slice A1 n1 c1] 24)) := (Below.refl _ _).alloc (Nat.le_refl _) _
  have xa := Box.new w5 24 #[.int .i64 k1, .int .i64 h1, .slice A1 n1 c1]
  generalize w5.alloc (.cells #[.int .i64 k1, .int .i64 h1, .slice A1 n1 c1] 24) = W5 at *
  replace bx := bx.keep hbA bx.lt
  replace HV := Lib.hid (Rd.keep hbA _ _ HV.out)
  replace HA := Lib.hid (Rd.keep hbA _ _ HA.out)
  replace hb := hb.trans (hbA.mono hb.size)
  clear hbA
  clear bx0 bx1 bx2 bxl
  refine (downC _ b f _ _ HA.out HND.out).mono ?_
  rw [HDN.out]
  rintro e w6 ⟨hb1, ⟨t', v', ht', rfl, how⟩ | ⟨ht', rfl⟩⟩
  rotate_left 1
  · cases ht'
  cases ht'
  obtain ⟨k2, h2, A2, n2, c2, rfl⟩ := how.full
  have HB := Lib.hid (RdF.rd _ _ how.rdF); clear how
  replace bx := bx.keep hb1 bx.lt
  replace xa := xa.keep hb1 xa.lt
  replace HV := Lib.hid (Rd.keep hb1 _ _ HV.out)
  replace HA := Lib.hid (Rd.keep hb1 _ _ HA.out)
  replace hb := hb.trans (hb1.mono hb.size)
  clear hb1
  obtain ⟨bx0, bx1, bx2⟩ := bx.three
  have bxl := bx.lt
  obtain ⟨xa0, xa1, xa2⟩ := xa.three
  have xal := xa.lt
  go_wp2_with fail
  have hbA : Below w6.heap.size w6 (w6.alloc (.cells #[.int .i64 k2, .int .i64 h2, .slice A2 n2 c2] 24)) := (Below.refl _ _).alloc (Nat.le_refl _) _
  have xb := Box.new w6 24 #[.int .i64 k2, .int .i64 h2, .slice A2 n2 c2]
  generalize w6.alloc (.cells #[.int .i64 k2, .int .i64 h2, .slice A2 n2 c2] 24) = W6 at *
  replace bx := bx.keep hbA bx.lt
  replace xa := xa.keep hbA xa.lt
  replace HV := Lib.hid (Rd.keep hbA _ _ HV.out)
  replace HA := Lib.hid (Rd.keep hbA _ _ HA.out)
  replace HB := Lib.hid (Rd.keep hbA _ _ HB.out)
  replace hb := hb.trans (hbA.mono hb.size)
  clear hbA
  clear bx0 bx1 bx2 bxl xa0 xa1 xa2 xal
  refine (downC t b f _ _ HV.out hnd).mono ?_
  intro e w7 hE
  obtain ⟨k3, h3, A3, n3, c3, bo, rfl, hout, hb1⟩ := hE.uni
  have hw1 : IntKind.i64.wrap (vr - b) = vr - b := by rw [wrapEq]; exact wrap_small (by omega) (by omega)
  have hw2 : IntKind.i64.wrap (vr + b) = vr + b := by rw [wrapEq]; exact wrap_small (by omega) (by omega)
  have HC : Hid (bo = true → ∃ u, dnX t b f = some u ∧ Rd w7 u (.agg #[.int .i64 k3, .int .i64 h3, .slice A3 n3 c3])) := Lib.hid fun e => by
    rcases hout with ⟨u, hu, _, how⟩ | ⟨_, hbo, _⟩
    · exact ⟨u, hu, RdF.rd _ _ how.rdF⟩
    · rw [hbo] at e; cases e
  clear hE hout
  replace bx := bx.keep hb1 bx.lt
  replace xa := xa.keep hb1 xa.lt
  replace xb := xb.keep hb1 xb.lt
  replace HV := Lib.hid (Rd.keep hb1 _ _ HV.out)
  replace HA := Lib.hid (Rd.keep hb1 _ _ HA.out)
  replace HB := Lib.hid (Rd.keep hb1 _ _ HB.out)
  replace hb := hb.trans (hb1.mono hb.size)
  clear hb1
  obtain ⟨bx0, bx1, bx2⟩ := bx.three
  have bxl := bx.lt
  obtain ⟨xa0, xa1, xa2⟩ := xa.three
  have xal := xa.lt
  obtain ⟨xb0, xb1, xb2⟩ := xb.three
  have xbl := xb.lt
  have hbA : Below w7.heap.size w7 (w7.alloc (.cells #[.int .i64 k3, .int .i64 h3, .slice A3 n3 c3] 24)) := (Below.refl _ _).alloc (Nat.le_refl _) _
  replace HC := Lib.hid fun e => (HC.out e).imp fun u hu => (⟨hu.1, Rd.keep hbA _ _ hu.2⟩ : _ ∧ Rd (w7.alloc (.cells #[.int .i64 k3, .int .i64 h3, .slice A3 n3 c3] 24)) u (.agg #[.int .i64 k3, .int .i64 h3, .slice A3 n3 c3]))
  clear hbA
  have HLS : Hid (∀ less, less = (if vr - b < f then f else vr - b) → bo = true → ∃ u, (scB u less 1099511627776 = true ∧ wrap64 less = less) ∧ Rd (w7.alloc (.cells #[.int .i64 k3, .int .i64 h3, .slice A3 n3 c3] 24)) u (.agg #[.int .i64 k3, .int .i64 h3, .slice A3 n3 c3])) := Lib.hid fun less hl e => by
    obtain ⟨u, hu, hr⟩ := HC.out e
    have h1 : f ≤ less ∧ vr - b ≤ less ∧ less ≤ 1000 := by subst hl; split <;> omega
    exact ⟨u, ⟨HSC.out.2 u less h1.1 h1.2.1 h1.2.2 hu, wrap_small (by omega) (by omega)⟩, hr⟩
  clear HC
  by_cases hl : vr - b < f
  · have dl : decide (vr - b < f) = true := by simpa using hl
    replace HLS := Lib.hid (HLS.out f (by rw [if_pos hl]))
    have HL := Lib.hid hl; clear hl
    go_wp2_with fail
    have hbA : Below w7.heap.size w7 (w7.alloc (.cells #[.int .i64 k3, .int .i64 h3, .slice A3 n3 c3] 24)) := (Below.refl _ _).alloc (Nat.le_refl _) _
    have xc := Box.new w7 24 #[.int .i64 k3, .int .i64 h3, .slice A3 n3 c3]
    generalize w7.alloc (.cells #[.int .i64 k3, .int .i64 h3, .slice A3 n3 c3] 24) = W7 at *
    replace bx := bx.keep hbA bx.lt
    replace xa := xa.keep hbA xa.lt
    replace xb := xb.keep hbA xb.lt
    replace HV := Lib.hid (Rd.keep hbA _ _ HV.out)
    replace HA := Lib.hid (Rd.keep hbA _ _ HA.out)
    replace HB := Lib.hid (Rd.keep hbA _ _ HB.out)
    replace hb := hb.trans (hbA.mono hb.size)
    clear hbA
    clear bx0 bx1 bx2 bxl xa0 xa1 xa2 xal xb0 xb1 xb2 xbl
    refine (scopedC _ (vr + b) 1099511627776 _ _ HA.out (wrap_small (by omega) (by omega))).mono ?_
    rw [HSC.out.1]
    rintro e w8 ⟨rfl, hb1⟩
    replace HLS := Lib.hid fun e => (HLS.out e).imp fun u hu => (⟨hu.1, Rd.keep hb1 _ _ hu.2⟩ : _ ∧ Rd w8 u (.agg #[.int .i64 k3, .int .i64 h3, .slice A3 n3 c3]))
    replace bx := bx.keep hb1 bx.lt
    replace xa := xa.keep hb1 xa.lt
    replace xb := xb.keep hb1 xb.lt
    replace xc := xc.keep hb1 xc.lt
    replace HV := Lib.hid (Rd.keep hb1 _ _ HV.out)
    replace HA := Lib.hid (Rd.keep hb1 _ _ HA.out)
    replace HB := Lib.hid (Rd.keep hb1 _ _ HB.out)
    replace hb := hb.trans (hb1.mono hb.size)
    clear hb1
    obtain ⟨bx0, bx1, bx2⟩ := bx.three
    have bxl := bx.lt
    obtain ⟨xa0, xa1, xa2⟩ := xa.three
    have xal := xa.lt
    obtain ⟨xb0, xb1, xb2⟩ := xb.three
    have xbl := xb.lt
    obtain ⟨xc0, xc1, xc2⟩ := xc.three
    have xcl := xc.lt
    go_wp2_with fail
    refine (termSame t t _ _ _ HB.out HV.out).mono ?_
    rw [sam_refl]
    rintro e w9 ⟨rfl, hb1⟩
    replace HLS := Lib.hid fun e => (HLS.out e).imp fun u hu => (⟨hu.1, Rd.keep hb1 _ _ hu.2⟩ : _ ∧ Rd w9 u (.agg #[.int .i64 k3, .int .i64 h3, .slice A3 n3 c3]))
    clear bx0 bx1 bx2 bxl xa0 xa1 xa2 xal xb0 xb1 xb2 xbl xc0 xc1 xc2 xcl
    replace bx := bx.keep hb1 bx.lt
    replace xa := xa.keep hb1 xa.lt
    replace xb := xb.keep hb1 xb.lt
    replace xc := xc.keep hb1 xc.lt
    replace HV := Lib.hid (Rd.keep hb1 _ _ HV.out)
    replace HA := Lib.hid (Rd.keep hb1 _ _ HA.out)
    replace HB := Lib.hid (Rd.keep hb1 _ _ HB.out)
    replace hb := hb.trans (hb1.mono hb.size)
    clear hb1
    obtain ⟨bx0, bx1, bx2⟩ := bx.three
    have bxl := bx.lt
    obtain ⟨xa0, xa1, xa2⟩ := xa.three
    have xal := xa.lt
    obtain ⟨xb0, xb1, xb2⟩ := xb.three
    have xbl := xb.lt
    obtain ⟨xc0, xc1, xc2⟩ := xc.three
    have xcl := xc.lt
    cases bo
    · go_wp2_with fail
      go_ret
      exact ⟨rfl, hb⟩
    obtain ⟨u, ⟨hsc, hwl⟩, hru⟩ := HLS.out rfl
    have HRU := Lib.hid hru; clear hru HLS
    have HWL := Lib.hid hwl; clear hwl
    have HSU := Lib.hid hsc; clear hsc
    go_wp2_with fail
    refine (scopedC u _ 1099511627776 _ _ HRU.out HWL.out).mono ?_
    rw [HSU.out]
    rintro e w10 ⟨rfl, hb1⟩
    clear bx0 bx1 bx2 bxl xa0 xa1 xa2 xal xb0 xb1 xb2 xbl xc0 xc1 xc2 xcl
    replace hb := hb.trans (hb1.mono hb.size)
    clear hb1
    go_wp2_with fail
    go_ret
    exact ⟨rfl, hb⟩
  · have dl : decide (vr - b < f) = false := by simpa using hl
    replace HLS := Lib.hid (HLS.out (vr - b) (by rw [if_neg hl]))
    have HL := Lib.hid hl; clear hl
    go_wp2_with fail
    have hbA : Below w7.heap.size w7 (w7.alloc (.cells #[.int .i64 k3, .int .i64 h3, .slice A3 n3 c3] 24)) := (Below.refl _ _).alloc (Nat.le_refl _) _
    have xc := Box.new w7 24 #[.int .i64 k3, .int .i64 h3, .slice A3 n3 c3]
    generalize w7.alloc (.cells #[.int .i64 k3, .int .i64 h3, .slice A3 n3 c3] 24) = W7 at *
    replace bx := bx.keep hbA bx.lt
    replace xa := xa.keep hbA xa.lt
    replace xb := xb.keep hbA xb.lt
    replace HV := Lib.hid (Rd.keep hbA _ _ HV.out)
    replace HA := Lib.hid (Rd.keep hbA _ _ HA.out)
    replace HB := Lib.hid (Rd.keep hbA _ _ HB.out)
    replace hb := hb.trans (hbA.mono hb.size)
    clear hbA
    clear bx0 bx1 bx2 bxl xa0 xa1 xa2 xal xb0 xb1 xb2 xbl
    refine (scopedC _ (vr + b) 1099511627776 _ _ HA.out (wrap_small (by omega) (by omega))).mono ?_
    rw [HSC.out.1]
    rintro e w8 ⟨rfl, hb1⟩
    replace HLS := Lib.hid fun e => (HLS.out e).imp fun u hu => (⟨hu.1, Rd.keep hb1 _ _ hu.2⟩ : _ ∧ Rd w8 u (.agg #[.int .i64 k3, .int .i64 h3, .slice A3 n3 c3]))
    replace bx := bx.keep hb1 bx.lt
    replace xa := xa.keep hb1 xa.lt
    replace xb := xb.keep hb1 xb.lt
    replace xc := xc.keep hb1 xc.lt
    replace HV := Lib.hid (Rd.keep hb1 _ _ HV.out)
    replace HA := Lib.hid (Rd.keep hb1 _ _ HA.out)
    replace HB := Lib.hid (Rd.keep hb1 _ _ HB.out)
    replace hb := hb.trans (hb1.mono hb.size)
    clear hb1
    obtain ⟨bx0, bx1, bx2⟩ := bx.three
    have bxl := bx.lt
    obtain ⟨xa0, xa1, xa2⟩ := xa.three
    have xal := xa.lt
    obtain ⟨xb0, xb1, xb2⟩ := xb.three
    have xbl := xb.lt
    obtain ⟨xc0, xc1, xc2⟩ := xc.three
    have xcl := xc.lt
    go_wp2_with fail
    refine (termSame t t _ _ _ HB.out HV.out).mono ?_
    rw [sam_refl]
    rintro e w9 ⟨rfl, hb1⟩
    replace HLS := Lib.hid fun e => (HLS.out e).imp fun u hu => (⟨hu.1, Rd.keep hb1 _ _ hu.2⟩ : _ ∧ Rd w9 u (.agg #[.int .i64 k3, .int .i64 h3, .slice A3 n3 c3]))
    clear bx0 bx1 bx2 bxl xa0 xa1 xa2 xal xb0 xb1 xb2 xbl xc0 xc1 xc2 xcl
    replace bx := bx.keep hb1 bx.lt
    replace xa := xa.keep hb1 xa.lt
    replace xb := xb.keep hb1 xb.lt
    replace xc := xc.keep hb1 xc.lt
    replace HV := Lib.hid (Rd.keep hb1 _ _ HV.out)
    replace HA := Lib.hid (Rd.keep hb1 _ _ HA.out)
    replace HB := Lib.hid (Rd.keep hb1 _ _ HB.out)
    replace hb := hb.trans (hb1.mono hb.size)
    clear hb1
    obtain ⟨bx0, bx1, bx2⟩ := bx.three
    have bxl := bx.lt
    obtain ⟨xa0, xa1, xa2⟩ := xa.three
    have xal := xa.lt
    obtain ⟨xb0, xb1, xb2⟩ := xb.three
    have xbl := xb.lt
    obtain ⟨xc0, xc1, xc2⟩ := xc.three
    have xcl := xc.lt
    cases bo
    · go_wp2_with fail
      go_ret
      exact ⟨rfl, hb⟩
    obtain ⟨u, ⟨hsc, hwl⟩, hru⟩ := HLS.out rfl
    have HRU := Lib.hid hru; clear hru HLS
    have HWL := Lib.hid hwl; clear hwl
    have HSU := Lib.hid hsc; clear hsc
    go_wp2_with fail
    refine (scopedC u _ 1099511627776 _ _ HRU.out HWL.out).mono ?_
    rw [HSU.out]
    rintro e w10 ⟨rfl, hb1⟩
    clear bx0 bx1 bx2 bxl xa0 xa1 xa2 xal xb0 xb1 xb2 xbl xc0 xc1 xc2 xcl
    replace hb := hb.trans (hb1.mono hb.size)
    clear hb1
    go_wp2_with fail
    go_ret
    exact ⟨rfl, hb⟩
end Go.Proofs.Ytooihffijpndoaa
