/-
  The walk of the law ShiftFar.
-/
import Derived.Test.YtooihffijpndoaaSw
import Derived.Test.YtooihffijpndoaaSn
namespace Go.Proofs.Ytooihffijpndoaa
open Go.ChangeShapes Go.WideShapes Go.ChangeAt Go.RowKit
set_option linter.unusedVariables false

set_option maxRecDepth 100000 in
set_option maxHeartbeats 8000000 in
theorem shiftFarC (t : T) (b f : Int) (v : Value) (w : World) (hv : Rd w t v) (hwb : wrap64 b = b) (hwf : wrap64 f = f) :
    Calls Try.prog 6 #[v, .int .i64 b, .int .i64 f] w fun e w' => e = .returned (.bool true) ∧ Below w.heap.size w w' := by
  obtain ⟨k, h, A, n, c, rfl⟩ := hv.full
  have HV := Lib.hid hv; clear hv
  have HWF := Lib.hid hwf; clear hwf hwb
  have hb : Below w.heap.size w (w.alloc (.cells #[.int .i64 k, .int .i64 h, .slice A n c] 24)) := (Below.refl _ _).alloc (Nat.le_refl _) _
  have bx := Box.new w 24 #[.int .i64 k, .int .i64 h, .slice A n c]
  replace HV := Lib.hid (Rd.keep hb _ _ HV.out)
  go_enter Try.func6, Try.ntmps6
  go_wp2_with fail
  refine (awakeS _).mono ?_
  rintro e w1 ⟨rfl, hb1⟩
  replace bx := bx.keep hb1 bx.lt
  replace HV := Lib.hid (Rd.keep hb1 _ _ HV.out)
  replace hb := hb.trans (hb1.mono hb.size)
  clear hb1
  obtain ⟨bx0, bx1, bx2⟩ := bx.three
  have bxl := bx.lt
  go_wp2_with fail
  refine (refLight t 3000 60 _ _ HV.out).mono ?_
  have HLT : Hid (ltB t 3000 60 = true → okT 1099511627776 t ∨ mayK (flat t 1 0) = false) := Lib.hid fun e => by
    cases hm : mayK (flat t 1 0)
    · exact .inr rfl
    · exact .inl (okT_small e hm)
  generalize ltB t 3000 60 = R at *
  rintro e w2 ⟨rfl, hb1⟩
  clear bx0 bx1 bx2 bxl
  replace bx := bx.keep hb1 bx.lt
  replace HV := Lib.hid (Rd.keep hb1 _ _ HV.out)
  replace hb := hb.trans (hb1.mono hb.size)
  clear hb1
  obtain ⟨bx0, bx1, bx2⟩ := bx.three
  have bxl := bx.lt
  cases R
  · go_wp2_with fail
    go_ret
    exact ⟨rfl, hb⟩
  replace HLT := Lib.hid (HLT.out rfl)
  go_wp2_with fail
  refine (termMay t _ _ HV.out).mono ?_
  have HMY : Hid (mayK (flat t 1 0) = true → nd t ≤ 1048576 ∧ mayB t = true) := Lib.hid may_small
  generalize mayK (flat t 1 0) = R at *
  rintro e w3 ⟨rfl, hb1⟩
  clear bx0 bx1 bx2 bxl
  replace bx := bx.keep hb1 bx.lt
  replace HV := Lib.hid (Rd.keep hb1 _ _ HV.out)
  replace hb := hb.trans (hb1.mono hb.size)
  clear hb1
  obtain ⟨bx0, bx1, bx2⟩ := bx.three
  have bxl := bx.lt
  cases R
  · go_wp2_with fail
    go_ret
    exact ⟨rfl, hb⟩
  have hok := HLT.out.resolve_right (by simp)
  obtain ⟨hnd, hmay⟩ := HMY.out rfl
  clear HLT HMY
  by_cases x1 : b < 0
  · have dx1 : decide (b < 0) = true := by simpa using x1
    go_wp2_with fail
    go_ret
    exact ⟨rfl, hb⟩
  have dx1 : decide (b < 0) = false := by simpa using x1
  by_cases x2 : 1000 < b
  · have dx2 : decide (1000 < b) = true := by simpa using x2
    go_wp2_with fail
    go_ret
    exact ⟨rfl, hb⟩
  have dx2 : decide (1000 < b) = false := by simpa using x2
  by_cases x3 : f < 0
  · have dx3 : decide (f < 0) = true := by simpa using x3
    go_wp2_with fail
    go_ret
    exact ⟨rfl, hb⟩
  have dx3 : decide (f < 0) = false := by simpa using x3
  by_cases x4 : 1000 < f
  · have dx4 : decide (1000 < f) = true := by simpa using x4
    go_wp2_with fail
    go_ret
    exact ⟨rfl, hb⟩
  have dx4 : decide (1000 < f) = false := by simpa using x4
  go_wp2_with fail
  refine (scopedC t f 1099511627776 _ _ HV.out HWF.out).mono ?_
  have HUP : Hid (scB t f 1099511627776 = true → upX t b f = t) := Lib.hid (upX_far hok hnd hmay (by omega) (by omega))
  have HDN : Hid (scB t f 1099511627776 = true → dnX t b f = some t) := Lib.hid (dnX_far hok hnd hmay (by omega) (by omega))
  generalize scB t f 1099511627776 = R at *
  rintro e w4 ⟨rfl, hb1⟩
  clear bx0 bx1 bx2 bxl
  replace bx := bx.keep hb1 bx.lt
  replace HV := Lib.hid (Rd.keep hb1 _ _ HV.out)
  replace hb := hb.trans (hb1.mono hb.size)
  clear hb1
  obtain ⟨bx0, bx1, bx2⟩ := bx.three
  have bxl := bx.lt
  cases R
  · go_wp2_with fail
    go_ret
    exact ⟨rfl, hb⟩
  replace HUP := Lib.hid (HUP.out rfl)
  replace HDN := Lib.hid (HDN.out rfl)
  go_wp2_with fail
  refine (upC t b f _ _ HV.out hnd).mono ?_
  rw [HUP.out]
  rintro e w5 ⟨v1, rfl, how, hb1⟩
  obtain ⟨k1, h1, A1, n1, c1, rfl⟩ := how.full
  have HA := Lib.hid (RdF.rd _ _ how.rdF); clear how
  clear bx0 bx1 bx2 bxl
  replace bx := bx.keep hb1 bx.lt
  replace HV := Lib.hid (Rd.keep hb1 _ _ HV.out)
  replace hb := hb.trans (hb1.mono hb.size)
  clear hb1
  obtain ⟨bx0, bx1, bx2⟩ := bx.three
  have bxl := bx.lt
  go_wp2_with fail
  have hbA : Below w5.heap.size w5 (w5.alloc (.cells #[.int .i64 k1, .int .i64 h1, .slice A1 n1 c1] 24)) := (Below.refl _ _).alloc (Nat.le_refl _) _
  have xa := Box.new w5 24 #[.int .i64 k1, .int .i64 h1, .slice A1 n1 c1]
  generalize w5.alloc (.cells #[.int .i64 k1, .int .i64 h1, .slice A1 n1 c1] 24) = W5 at *
  replace bx := bx.keep hbA bx.lt
  replace HV := Lib.hid (Rd.keep hbA _ _ HV.out)
  replace HA := Lib.hid (Rd.keep hbA _ _ HA.out)
  replace hb := hb.trans (hbA.mono hb.size)
  clear hbA
  clear bx0 bx1 bx2 bxl
  refine (downC t b f _ _ HV.out hnd).mono ?_
  rw [HDN.out]
  rintro e w6 ⟨hb1, ⟨t', v', ht', rfl, how⟩ | ⟨ht', rfl⟩⟩
  rotate_left 1
  · cases ht'
  cases ht'
  obtain ⟨k2, h2, A2, n2, c2, rfl⟩ := how.full
  have HB := Lib.hid (RdF.rd _ _ how.rdF); clear how
  replace bx := bx.keep hb1 bx.lt
  replace xa := xa.keep hb1 xa.lt
  replace HV := Lib.hid (Rd.keep hb1 _ _ HV.out)
  replace HA := Lib.hid (Rd.keep hb1 _ _ HA.out)
  replace hb := hb.trans (hb1.mono hb.size)
  clear hb1
  obtain ⟨bx0, bx1, bx2⟩ := bx.three
  have bxl := bx.lt
  obtain ⟨xa0, xa1, xa2⟩ := xa.three
  have xal := xa.lt
  go_wp2_with fail
  have hbA : Below w6.heap.size w6 (w6.alloc (.cells #[.int .i64 k2, .int .i64 h2, .slice A2 n2 c2] 24)) := (Below.refl _ _).alloc (Nat.le_refl _) _
  have xb := Box.new w6 24 #[.int .i64 k2, .int .i64 h2, .slice A2 n2 c2]
  generalize w6.alloc (.cells #[.int .i64 k2, .int .i64 h2, .slice A2 n2 c2] 24) = W6 at *
  replace bx := bx.keep hbA bx.lt
  replace xa := xa.keep hbA xa.lt
  replace HV := Lib.hid (Rd.keep hbA _ _ HV.out)
  replace HA := Lib.hid (Rd.keep hbA _ _ HA.out)
  replace HB := Lib.hid (Rd.keep hbA _ _ HB.out)
  replace hb := hb.trans (hbA.mono hb.size)
  clear hbA
  clear bx0 bx1 bx2 bxl xa0 xa1 xa2 xal
  refine (termSame t t _ _ _ HA.out HV.out).mono ?_
  rw [sam_refl]
  rintro e w7 ⟨rfl, hb1⟩
  replace bx := bx.keep hb1 bx.lt
  replace xa := xa.keep hb1 xa.lt
  replace xb := xb.keep hb1 xb.lt
  replace HV := Lib.hid (Rd.keep hb1 _ _ HV.out)
  replace HA := Lib.hid (Rd.keep hb1 _ _ HA.out)
  replace HB := Lib.hid (Rd.keep hb1 _ _ HB.out)
  replace hb := hb.trans (hb1.mono hb.size)
  clear hb1
  obtain ⟨bx0, bx1, bx2⟩ := bx.three
  have bxl := bx.lt
  obtain ⟨xa0, xa1, xa2⟩ := xa.three
  have xal := xa.lt
  obtain ⟨xb0, xb1, xb2⟩ := xb.three
  have xbl := xb.lt
  go_wp2_with fail
  refine (termSame t t _ _ _ HB.out HV.out).mono ?_
  rw [sam_refl]
  rintro e w8 ⟨rfl, hb1⟩
  clear bx0 bx1 bx2 bxl xa0 xa1 xa2 xal xb0 xb1 xb2 xbl
  replace bx := bx.keep hb1 bx.lt
  replace xa := xa.keep hb1 xa.lt
  replace xb := xb.keep hb1 xb.lt
  replace HV := Lib.hid (Rd.keep hb1 _ _ HV.out)
  replace HA := Lib.hid (Rd.keep hb1 _ _ HA.out)
  replace HB := Lib.hid (Rd.keep hb1 _ _ HB.out)
  replace hb := hb.trans (hb1.mono hb.size)
  clear hb1
  go_wp2_with fail
  go_ret
  exact ⟨rfl, hb⟩
end Go.Proofs.Ytooihffijpndoaa
