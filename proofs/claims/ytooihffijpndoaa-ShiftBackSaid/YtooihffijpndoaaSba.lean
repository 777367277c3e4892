/-
  The walk of the law ShiftBack.
-/
import Derived.Test.YtooihffijpndoaaSw
import Derived.Test.YtooihffijpndoaaSn
namespace Go.Proofs.Ytooihffijpndoaa
open Go.ChangeShapes Go.WideShapes Go.ChangeAt Go.RowKit
set_option linter.unusedVariables false

set_option maxRecDepth 100000 in
set_option maxHeartbeats 8000000 in
theorem shiftBackC (t : T) (b m f : Int) (v : Value) (w : World) (hv : Rd w t v) :
    Calls Try.prog 4 #[v, .int .i64 b, .int .i64 m, .int .i64 f] w fun e w' => e = .returned (.bool true) ∧ Below w.heap.size w w' := by
  obtain ⟨k, h, A, n, c, rfl⟩ := hv.full
  have HV := Lib.hid hv; clear hv
  have hb : Below w.heap.size w (w.alloc (.cells #[.int .i64 k, .int .i64 h, .slice A n c] 24)) := (Below.refl _ _).alloc (Nat.le_refl _) _
  have bx := Box.new w 24 #[.int .i64 k, .int .i64 h, .slice A n c]
  replace HV := Lib.hid (Rd.keep hb _ _ HV.out)
  go_enter Try.func4, Try.ntmps4
  go_wp2_with fail
  refine (awakeS _).mono ?_
  rintro e w1 ⟨rfl, hb1⟩
  replace bx := bx.keep hb1 bx.lt
  replace HV := Lib.hid (Rd.keep hb1 _ _ HV.out)
  replace hb := hb.trans (hb1.mono hb.size)
  clear hb1
  obtain ⟨bx0, bx1, bx2⟩ := bx.three
  have bxl := bx.lt
  go_wp2_with fail
  refine (refLight t 9000 200 _ _ HV.out).mono ?_
  have HLT : Hid (ltB t 9000 200 = true → okT 1099511627776 t ∨ mayK (flat t 1 0) = false) := Lib.hid fun e => by
    cases hm : mayK (flat t 1 0)
    · exact .inr rfl
    · exact .inl (okT_small e hm)
  generalize ltB t 9000 200 = R at *
  rintro e w2 ⟨rfl, hb1⟩
  clear bx0 bx1 bx2 bxl
  replace bx := bx.keep hb1 bx.lt
  replace HV := Lib.hid (Rd.keep hb1 _ _ HV.out)
  replace hb := hb.trans (hb1.mono hb.size)
  clear hb1
  obtain ⟨bx0, bx1, bx2⟩ := bx.three
  have bxl := bx.lt
  cases R
  · go_wp2_with fail
    go_ret
    exact ⟨rfl, hb⟩
  replace HLT := Lib.hid (HLT.out rfl)
  go_wp2_with fail
  refine (termMay t _ _ HV.out).mono ?_
  have HMY : Hid (mayK (flat t 1 0) = true → nd t ≤ 1048576 ∧ mayB t = true) := Lib.hid may_small
  generalize mayK (flat t 1 0) = R at *
  rintro e w3 ⟨rfl, hb1⟩
  clear bx0 bx1 bx2 bxl
  replace bx := bx.keep hb1 bx.lt
  replace HV := Lib.hid (Rd.keep hb1 _ _ HV.out)
  replace hb := hb.trans (hb1.mono hb.size)
  clear hb1
  obtain ⟨bx0, bx1, bx2⟩ := bx.three
  have bxl := bx.lt
  cases R
  · go_wp2_with fail
    go_ret
    exact ⟨rfl, hb⟩
  have hok := HLT.out.resolve_right (by simp)
  obtain ⟨hnd, hmay⟩ := HMY.out rfl
  clear HLT HMY
  by_cases x1 : b < 0
  · have dx1 : decide (b < 0) = true := by simpa using x1
    go_wp2_with fail
    go_ret
    exact ⟨rfl, hb⟩
  have dx1 : decide (b < 0) = false := by simpa using x1
  by_cases x2 : 1000 < b
  · have dx2 : decide (1000 < b) = true := by simpa using x2
    go_wp2_with fail
    go_ret
    exact ⟨rfl, hb⟩
  have dx2 : decide (1000 < b) = false := by simpa using x2
  by_cases x3 : m < 0
  · have dx3 : decide (m < 0) = true := by simpa using x3
    go_wp2_with fail
    go_ret
    exact ⟨rfl, hb⟩
  have dx3 : decide (m < 0) = false := by simpa using x3
  by_cases x4 : 1000 < m
  · have dx4 : decide (1000 < m) = true := by simpa using x4
    go_wp2_with fail
    go_ret
    exact ⟨rfl, hb⟩
  have dx4 : decide (1000 < m) = false := by simpa using x4
  by_cases x5 : f < 0
  · have dx5 : decide (f < 0) = true := by simpa using x5
    go_wp2_with fail
    go_ret
    exact ⟨rfl, hb⟩
  have dx5 : decide (f < 0) = false := by simpa using x5
  by_cases x6 : 1000 < f
  · have dx6 : decide (1000 < f) = true := by simpa using x6
    go_wp2_with fail
    go_ret
    exact ⟨rfl, hb⟩
  have dx6 : decide (1000 < f) = false := by simpa using x6
  obtain ⟨f1, f2, f3, f4⟩ := back_facts hok hnd hmay (b := b) (f := f) (by omega) (by omega)
  have HUP := Lib.hid f1; clear f1
  have HDN := Lib.hid f2; clear f2
  have HND := Lib.hid f3; clear f3
  have HSZ := Lib.hid f4; clear f4
  obtain ⟨f1, f2, f3⟩ := twice_facts hok hnd hmay (b := b) (c := m) (f := f) (by omega) (by omega) (by omega)
  have HU2 := Lib.hid f1; clear f1
  have HU3 := Lib.hid f2; clear f2
  have HU0 := Lib.hid f3; clear f3
  go_wp2_with fail
  refine (upC t b f _ _ HV.out hnd).mono ?_
  rw [HUP.out]
  rintro e w5 ⟨v1, rfl, how, hb1⟩
  obtain ⟨k1, h1, A1, n1, c1, rfl⟩ := how.full
  have HA := Lib.hid (RdF.rd _ _ how.rdF); clear how
  clear bx0 bx1 bx2 bxl
  replace bx := bx.keep hb1 bx.lt
  replace HV := Lib.hid (Rd.keep hb1 _ _ HV.out)
  replace hb := hb.trans (hb1.mono hb.size)
  clear hb1
  obtain ⟨bx0, bx1, bx2⟩ := bx.three
  have bxl := bx.lt
  go_wp2_with fail
  have hbA : Below w5.heap.size w5 (w5.alloc (.cells #[.int .i64 k1, .int .i64 h1, .slice A1 n1 c1] 24)) := (Below.refl _ _).alloc (Nat.le_refl _) _
  have xa := Box.new w5 24 #[.int .i64 k1, .int .i64 h1, .slice A1 n1 c1]
  generalize w5.alloc (.cells #[.int .i64 k1, .int .i64 h1, .slice A1 n1 c1] 24) = W5 at *
  replace bx := bx.keep hbA bx.lt
  replace HV := Lib.hid (Rd.keep hbA _ _ HV.out)
  replace HA := Lib.hid (Rd.keep hbA _ _ HA.out)
  replace hb := hb.trans (hbA.mono hb.size)
  clear hbA
  clear bx0 bx1 bx2 bxl
  refine (downC _ b f _ _ HA.out HND.out).mono ?_
  rw [HDN.out]
  rintro e w6 ⟨hb1, ⟨t', v', ht', rfl, how⟩ | ⟨ht', rfl⟩⟩
  rotate_left 1
  · cases ht'
  cases ht'
  obtain ⟨k2, h2, A2, n2, c2, rfl⟩ := how.full
  have HB := Lib.hid (RdF.rd _ _ how.rdF); clear how
  replace bx := bx.keep hb1 bx.lt
  replace xa := xa.keep hb1 xa.lt
  replace HV := Lib.hid (Rd.keep hb1 _ _ HV.out)
  replace HA := Lib.hid (Rd.keep hb1 _ _ HA.out)
  replace hb := hb.trans (hb1.mono hb.size)
  clear hb1
  obtain ⟨bx0, bx1, bx2⟩ := bx.three
  have bxl := bx.lt
  obtain ⟨xa0, xa1, xa2⟩ := xa.three
  have xal := xa.lt
  go_wp2_with fail
  have hbA : Below w6.heap.size w6 (w6.alloc (.cells #[.int .i64 k2, .int .i64 h2, .slice A2 n2 c2] 24)) := (Below.refl _ _).alloc (Nat.le_refl _) _
  have xb := Box.new w6 24 #[.int .i64 k2, .int .i64 h2, .slice A2 n2 c2]
  generalize w6.alloc (.cells #[.int .i64 k2, .int .i64 h2, .slice A2 n2 c2] 24) = W6 at *
  replace bx := bx.keep hbA bx.lt
  replace xa := xa.keep hbA xa.lt
  replace HV := Lib.hid (Rd.keep hbA _ _ HV.out)
  replace HA := Lib.hid (Rd.keep hbA _ _ HA.out)
  replace HB := Lib.hid (Rd.keep hbA _ _ HB.out)
  replace hb := hb.trans (hbA.mono hb.size)
  clear hbA
  clear bx0 bx1 bx2 bxl xa0 xa1 xa2 xal
  refine (upC _ m f _ _ HA.out HND.out).mono ?_
  rw [HU2.out]
  rintro e w7 ⟨v1, rfl, how, hb1⟩
  obtain ⟨k3, h3, A3, n3, c3, rfl⟩ := how.full
  have HC := Lib.hid (RdF.rd _ _ how.rdF); clear how
  replace bx := bx.keep hb1 bx.lt
  replace xa := xa.keep hb1 xa.lt
  replace xb := xb.keep hb1 xb.lt
  replace HV := Lib.hid (Rd.keep hb1 _ _ HV.out)
  replace HA := Lib.hid (Rd.keep hb1 _ _ HA.out)
  replace HB := Lib.hid (Rd.keep hb1 _ _ HB.out)
  replace hb := hb.trans (hb1.mono hb.size)
  clear hb1
  obtain ⟨bx0, bx1, bx2⟩ := bx.three
  have bxl := bx.lt
  obtain ⟨xa0, xa1, xa2⟩ := xa.three
  have xal := xa.lt
  obtain ⟨xb0, xb1, xb2⟩ := xb.three
  have xbl := xb.lt
  go_wp2_with fail
  have hbA : Below w7.heap.size w7 (w7.alloc (.cells #[.int .i64 k3, .int .i64 h3, .slice A3 n3 c3] 24)) := (Below.refl _ _).alloc (Nat.le_refl _) _
  have xc := Box.new w7 24 #[.int .i64 k3, .int .i64 h3, .slice A3 n3 c3]
  generalize w7.alloc (.cells #[.int .i64 k3, .int .i64 h3, .slice A3 n3 c3] 24) = W7 at *
  replace bx := bx.keep hbA bx.lt
  replace xa := xa.keep hbA xa.lt
  replace xb := xb.keep hbA xb.lt
  replace HV := Lib.hid (Rd.keep hbA _ _ HV.out)
  replace HA := Lib.hid (Rd.keep hbA _ _ HA.out)
  replace HB := Lib.hid (Rd.keep hbA _ _ HB.out)
  replace HC := Lib.hid (Rd.keep hbA _ _ HC.out)
  replace hb := hb.trans (hbA.mono hb.size)
  clear hbA
  clear bx0 bx1 bx2 bxl xa0 xa1 xa2 xal xb0 xb1 xb2 xbl
  have hw1 : IntKind.i64.wrap (b + m) = b + m := by rw [wrapEq]; exact wrap_small (by omega) (by omega)
  have HK : Hid (∀ w', Below W7.heap.size W7 w' → (w'.cell? ⟨w.heap.size, 0, none⟩ = some (.int .i64 k) ∧ w'.cell? ⟨w.heap.size, 1, none⟩ = some (.int .i64 h) ∧ w'.cell? ⟨w.heap.size, 2, none⟩ = some (.slice A n c) ∧
      w'.cell? ⟨w5.heap.size, 0, none⟩ = some (.int .i64 k1) ∧ w'.cell? ⟨w5.heap.size, 1, none⟩ = some (.int .i64 h1) ∧ w'.cell? ⟨w5.heap.size, 2, none⟩ = some (.slice A1 n1 c1) ∧
      w'.cell? ⟨w6.heap.size, 0, none⟩ = some (.int .i64 k2) ∧ w'.cell? ⟨w6.heap.size, 1, none⟩ = some (.int .i64 h2) ∧ w'.cell? ⟨w6.heap.size, 2, none⟩ = some (.slice A2 n2 c2) ∧
      w'.cell? ⟨w7.heap.size, 0, none⟩ = some (.int .i64 k3) ∧ w'.cell? ⟨w7.heap.size, 1, none⟩ = some (.int .i64 h3) ∧ w'.cell? ⟨w7.heap.size, 2, none⟩ = some (.slice A3 n3 c3))) := Lib.hid fun w' h => by
    have s1 := bx.keep h bx.lt
    have s2 := xa.keep h xa.lt
    have s3 := xb.keep h xb.lt
    have s4 := xc.keep h xc.lt
    exact ⟨s1.three.1, s1.three.2.1, s1.three.2.2, s2.three.1, s2.three.2.1, s2.three.2.2, s3.three.1, s3.three.2.1, s3.three.2.2, s4.three.1, s4.three.2.1, s4.three.2.2⟩
  have HS1 : Hid (∀ W, Below W7.heap.size W7 W → Calls Try.prog 18 #[.agg #[.int .i64 k2, .int .i64 h2, .slice A2 n2 c2], .agg #[.int .i64 k, .int .i64 h, .slice A n c]] W fun e w' => e = .returned (.bool true) ∧ Below W.heap.size W w') := Lib.hid fun W h => by
    rw [← sam_refl t]; exact termSame t t _ _ _ (Rd.keep h _ _ HB.out) (Rd.keep h _ _ HV.out)
  have HZ1 : Hid (∀ W, Below W7.heap.size W7 W → Calls Try.prog 19 #[.agg #[.int .i64 k1, .int .i64 h1, .slice A1 n1 c1]] W fun e w' => e = .returned (.int .i64 (szW t)) ∧ Below W.heap.size W w') := Lib.hid fun W h => by
    rw [← HSZ.out]; exact sizeC _ _ _ (Rd.keep h _ _ HA.out)
  have HZ2 : Hid (∀ W, Below W7.heap.size W7 W → Calls Try.prog 19 #[.agg #[.int .i64 k, .int .i64 h, .slice A n c]] W fun e w' => e = .returned (.int .i64 (szW t)) ∧ Below W.heap.size W w') := Lib.hid fun W h =>
    sizeC _ _ _ (Rd.keep h _ _ HV.out)
  have HC1 : Hid (∀ W, Below W7.heap.size W7 W → Calls Try.prog 13 #[.agg #[.int .i64 k, .int .i64 h, .slice A n c], .int .i64 (b + m), .int .i64 f] W (OEnd (upT (b + m) t f) W)) := Lib.hid fun W h => by
    rw [← HU3.out]; exact upC t (b + m) f _ _ (Rd.keep h _ _ HV.out) hnd
  have HC2 : Hid (∀ W, Below W7.heap.size W7 W → Calls Try.prog 13 #[.agg #[.int .i64 k, .int .i64 h, .slice A n c], .int .i64 0, .int .i64 f] W (OEnd t W)) := Lib.hid fun W h => by
    have := upC t 0 f _ _ (Rd.keep h _ _ HV.out) hnd
    rwa [HU0.out] at this
  have hcur : Below W7.heap.size W7 W7.drew := (Below.refl _ W7).drew
  clear hok hnd hmay
  go_region_held3 (fun w' => w'.cell? ⟨w.heap.size, 0, none⟩ = some (.int .i64 k) ∧ w'.cell? ⟨w.heap.size, 1, none⟩ = some (.int .i64 h) ∧ w'.cell? ⟨w.heap.size, 2, none⟩ = some (.slice A n c) ∧
      w'.cell? ⟨w5.heap.size, 0, none⟩ = some (.int .i64 k1) ∧ w'.cell? ⟨w5.heap.size, 1, none⟩ = some (.int .i64 h1) ∧ w'.cell? ⟨w5.heap.size, 2, none⟩ = some (.slice A1 n1 c1) ∧
      w'.cell? ⟨w6.heap.size, 0, none⟩ = some (.int .i64 k2) ∧ w'.cell? ⟨w6.heap.size, 1, none⟩ = some (.int .i64 h2) ∧ w'.cell? ⟨w6.heap.size, 2, none⟩ = some (.slice A2 n2 c2) ∧
      w'.cell? ⟨w7.heap.size, 0, none⟩ = some (.int .i64 k3) ∧ w'.cell? ⟨w7.heap.size, 1, none⟩ = some (.int .i64 h3) ∧ w'.cell? ⟨w7.heap.size, 2, none⟩ = some (.slice A3 n3 c3))
    (exact HK.out _ hcur)
    (first
      | (go_at_call 18
         with_reducible refine (HS1.out _ hcur).mono ?_
         rintro e w8 ⟨rfl, hb1⟩
         replace hcur := hcur.trans (hb1.mono hcur.size)
         clear hb1)
      | (go_at_call 19
         with_reducible refine (HZ1.out _ hcur).mono ?_
         rintro e w8 ⟨rfl, hb1⟩
         replace hcur := hcur.trans (hb1.mono hcur.size)
         clear hb1)
      | (go_at_call 19
         with_reducible refine (HZ2.out _ hcur).mono ?_
         rintro e w8 ⟨rfl, hb1⟩
         replace hcur := hcur.trans (hb1.mono hcur.size)
         clear hb1)
      | (go_at_call 13
         with_reducible refine (HC1.out _ hcur).mono ?_
         rintro e w9 ⟨v9, rfl, how, hb1⟩
         obtain ⟨k9, h9, A9, n9, c9, rfl⟩ := how.full
         have HU7 := Lib.hid (RdF.rd _ _ how.rdF); clear how
         replace hcur := hcur.trans (hb1.mono hcur.size)
         clear hb1)
      | (go_at_call 18
         with_reducible refine (termSame (upT (b + m) t f) (upT (b + m) t f) _ _ _ (Rd.keep hcur _ _ HC.out) HU7.out).mono ?_
         rw [sam_refl]
         rintro e w8 ⟨rfl, hb1⟩
         replace hcur := hcur.trans (hb1.mono hcur.size)
         clear hb1)
      | (go_at_call 13
         with_reducible refine (HC2.out _ hcur).mono ?_
         rintro e w9 ⟨v9, rfl, how, hb1⟩
         obtain ⟨k10, h10, A10, n10, c10, rfl⟩ := how.full
         have HU8 := Lib.hid (RdF.rd _ _ how.rdF); clear how
         replace hcur := hcur.trans (hb1.mono hcur.size)
         clear hb1)
      | (go_at_call 18
         with_reducible refine (termSame t t _ _ _ HU8.out (Rd.keep hcur _ _ HV.out)).mono ?_
         rw [sam_refl]
         rintro e w8 ⟨rfl, hb1⟩
         replace hcur := hcur.trans (hb1.mono hcur.size)
         clear hb1))
  all_goals
    go_wp2_with fail
    go_ret
    exact ⟨rfl, hb.trans (hcur.mono hb.size)⟩
end Go.Proofs.Ytooihffijpndoaa
