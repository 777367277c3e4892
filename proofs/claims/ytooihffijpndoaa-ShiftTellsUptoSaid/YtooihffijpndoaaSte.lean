/-
  The walk of the law ShiftTells.
-/
import Derived.Test.YtooihffijpndoaaSw
import Derived.Test.YtooihffijpndoaaRz
namespace Go.Proofs.Ytooihffijpndoaa
open Go.ChangeShapes Go.WideShapes Go.ChangeAt Go.RowKit
set_option linter.unusedVariables false

set_option maxRecDepth 100000 in
set_option maxHeartbeats 8000000 in
theorem shiftTellsC (t : T) (b f : Int) (v : Value) (w : World) (hv : Rd w t v) (hs : nd t ≤ 1048576) :
    Calls Try.prog 3 #[v, .int .i64 b, .int .i64 f] w fun e w' => e = .returned (.bool true) ∧ Below w.heap.size w w' := by
  obtain ⟨k, h, A, n, c, rfl⟩ := hv.full
  have HV := Lib.hid hv; clear hv
  have HEQ : Hid (ltB t 9000 200 = true → rupX t b f = upX t b f ∧ rdnX t b f = dnX t b f) := Lib.hid fun e => ⟨rup_eq HV.out hs e, rdn_eq hs e⟩
  have hb : Below w.heap.size w (w.alloc (.cells #[.int .i64 k, .int .i64 h, .slice A n c] 24)) := (Below.refl _ _).alloc (Nat.le_refl _) _
  have bx := Box.new w 24 #[.int .i64 k, .int .i64 h, .slice A n c]
  replace HV := Lib.hid (Rd.keep hb _ _ HV.out)
  go_enter Try.func3, Try.ntmps3
  go_wp2_with fail
  refine (awakeS _).mono ?_
  rintro e w1 ⟨rfl, hb1⟩
  replace bx := bx.keep hb1 bx.lt
  replace HV := Lib.hid (Rd.keep hb1 _ _ HV.out)
  replace hb := hb.trans (hb1.mono hb.size)
  clear hb1
  obtain ⟨bx0, bx1, bx2⟩ := bx.three
  have bxl := bx.lt
  go_wp2_with fail
  refine (refLight t 9000 200 _ _ HV.out).mono ?_
  generalize ltB t 9000 200 = R at *
  rintro e w2 ⟨rfl, hb1⟩
  clear bx0 bx1 bx2 bxl
  replace bx := bx.keep hb1 bx.lt
  replace HV := Lib.hid (Rd.keep hb1 _ _ HV.out)
  replace hb := hb.trans (hb1.mono hb.size)
  clear hb1
  obtain ⟨bx0, bx1, bx2⟩ := bx.three
  have bxl := bx.lt
  cases R
  · go_wp2_with fail
    go_ret
    exact ⟨rfl, hb⟩
  obtain ⟨hq1, hq2⟩ := HEQ.out (by trivial)
  clear HEQ
  have HQ1 := Lib.hid hq1; clear hq1
  have HQ2 := Lib.hid hq2; clear hq2
  go_wp2_with fail
  have HK : Hid (∀ w', Below w2.heap.size w2 w' → (w'.cell? ⟨w.heap.size, 0, none⟩ = some (.int .i64 k) ∧ w'.cell? ⟨w.heap.size, 1, none⟩ = some (.int .i64 h) ∧ w'.cell? ⟨w.heap.size, 2, none⟩ = some (.slice A n c))) := Lib.hid fun w' h => by
    have s1 := bx.keep h bx.lt
    exact ⟨s1.three.1, s1.three.2.1, s1.three.2.2⟩
  have HC1 : Hid (∀ W, Below w2.heap.size w2 W → Calls Try.prog 13 #[.agg #[.int .i64 k, .int .i64 h, .slice A n c], .int .i64 b, .int .i64 f] W (OEnd (upX t b f) W)) := Lib.hid fun W h =>
    upC t b f _ _ (Rd.keep h _ _ HV.out) hs
  have HC2 : Hid (∀ W, Below w2.heap.size w2 W → Calls Try.prog 14 #[.agg #[.int .i64 k, .int .i64 h, .slice A n c], .int .i64 b, .int .i64 f] W (FEnd (upX t b f) W)) := Lib.hid fun W h => by
    rw [← HQ1.out]; exact refUpC t b f _ _ (Rd.keep h _ _ HV.out) hs
  have hcur : Below w2.heap.size w2 w2.drew := (Below.refl _ w2).drew
  have HA : Hid True := Lib.hid trivial
  have HB : Hid True := Lib.hid trivial
  go_region_held3 (fun w' => w'.cell? ⟨w.heap.size, 0, none⟩ = some (.int .i64 k) ∧ w'.cell? ⟨w.heap.size, 1, none⟩ = some (.int .i64 h) ∧ w'.cell? ⟨w.heap.size, 2, none⟩ = some (.slice A n c))
    (exact HK.out _ hcur)
    (first
      | (go_at_call 13
         with_reducible refine (HC1.out _ hcur).mono ?_
         rintro e w3 ⟨v3, rfl, how, hb1⟩
         obtain ⟨k3, h3, A3, n3, c3, rfl⟩ := how.full
         replace HA := Lib.hid (RdF.rd _ _ how.rdF)
         first | replace HB := Lib.hid (Rd.keep hb1 _ _ HB.out) | skip
         replace hcur := hcur.trans (hb1.mono hcur.size)
         clear hb1 how)
      | (go_at_call 14
         with_reducible refine (HC2.out _ hcur).mono ?_
         rintro e w3 ⟨v3, rfl, how, hb1⟩
         obtain ⟨k4, h4, A4, n4, c4, rfl⟩ := how.full
         replace HB := Lib.hid (RdF.rd _ _ how)
         first | replace HA := Lib.hid (Rd.keep hb1 _ _ HA.out) | skip
         replace hcur := hcur.trans (hb1.mono hcur.size)
         clear hb1 how)
      | (go_at_call 12
         refine (refSame (upX t b f) (upX t b f) _ _ _ HA.out HB.out).mono ?_
         rw [sam_refl]
         rintro e w5 ⟨rfl, hb1⟩
         replace hcur := hcur.trans (hb1.mono hcur.size)
         clear hb1))
  clear bx0 bx1 bx2 bxl
  all_goals
    clear HA HB HC1 HC2 HK
    replace bx := bx.keep hcur bx.lt
    replace HV := Lib.hid (Rd.keep hcur _ _ HV.out)
    replace hb := hb.trans (hcur.mono hb.size)
    clear hcur
    obtain ⟨bx0, bx1, bx2⟩ := bx.three
    have bxl := bx.lt
    go_wp2_with fail
    refine (downC t b f _ _ HV.out hs).mono ?_
    intro e w6 hE
    obtain ⟨k6, h6, A6, n6, c6, rfl, hrd, hb1⟩ := hE.tells
    have HX := Lib.hid hrd; clear hrd hE
    clear bx0 bx1 bx2 bxl
    replace bx := bx.keep hb1 bx.lt
    replace HV := Lib.hid (Rd.keep hb1 _ _ HV.out)
    replace hb := hb.trans (hb1.mono hb.size)
    clear hb1
    obtain ⟨bx0, bx1, bx2⟩ := bx.three
    have bxl := bx.lt
    go_wp2_with fail
    have hbA : Below w6.heap.size w6 (w6.alloc (.cells #[.int .i64 k6, .int .i64 h6, .slice A6 n6 c6] 24)) := (Below.refl _ _).alloc (Nat.le_refl _) _
    have xa := Box.new w6 24 #[.int .i64 k6, .int .i64 h6, .slice A6 n6 c6]
    generalize w6.alloc (.cells #[.int .i64 k6, .int .i64 h6, .slice A6 n6 c6] 24) = W6 at *
    replace bx := bx.keep hbA bx.lt
    replace HV := Lib.hid (Rd.keep hbA _ _ HV.out)
    replace HX := Lib.hid (Rd.keep hbA _ _ HX.out)
    replace hb := hb.trans (hbA.mono hb.size)
    clear hbA
    clear bx0 bx1 bx2 bxl
    have HD2 := Lib.hid (refDownC t b f _ _ HV.out hs)
    rw [HQ2.out] at HD2
    refine (HD2.out).mono ?_
    intro e w7 hE
    obtain ⟨k7, h7, A7, n7, c7, rfl, hrd, hb1⟩ := hE.tells
    have HY := Lib.hid hrd; clear hrd hE
    replace bx := bx.keep hb1 bx.lt
    replace xa := xa.keep hb1 xa.lt
    replace HV := Lib.hid (Rd.keep hb1 _ _ HV.out)
    replace HX := Lib.hid (Rd.keep hb1 _ _ HX.out)
    replace hb := hb.trans (hb1.mono hb.size)
    clear hb1
    obtain ⟨bx0, bx1, bx2⟩ := bx.three
    have bxl := bx.lt
    obtain ⟨xa0, xa1, xa2⟩ := xa.three
    have xal := xa.lt
    go_wp2_with fail
    have hbA : Below w7.heap.size w7 (w7.alloc (.cells #[.int .i64 k7, .int .i64 h7, .slice A7 n7 c7] 24)) := (Below.refl _ _).alloc (Nat.le_refl _) _
    have xb := Box.new w7 24 #[.int .i64 k7, .int .i64 h7, .slice A7 n7 c7]
    generalize w7.alloc (.cells #[.int .i64 k7, .int .i64 h7, .slice A7 n7 c7] 24) = W7 at *
    replace bx := bx.keep hbA bx.lt
    replace xa := xa.keep hbA xa.lt
    replace HV := Lib.hid (Rd.keep hbA _ _ HV.out)
    replace HX := Lib.hid (Rd.keep hbA _ _ HX.out)
    replace HY := Lib.hid (Rd.keep hbA _ _ HY.out)
    replace hb := hb.trans (hbA.mono hb.size)
    clear hbA
    clear bx0 bx1 bx2 bxl xa0 xa1 xa2 xal
    refine (refSame _ _ _ _ _ HX.out HY.out).mono ?_
    rw [sam_refl]
    rintro e w8 ⟨rfl, hb1⟩
    replace bx := bx.keep hb1 bx.lt
    replace xa := xa.keep hb1 xa.lt
    replace xb := xb.keep hb1 xb.lt
    replace HV := Lib.hid (Rd.keep hb1 _ _ HV.out)
    replace HX := Lib.hid (Rd.keep hb1 _ _ HX.out)
    replace HY := Lib.hid (Rd.keep hb1 _ _ HY.out)
    replace hb := hb.trans (hb1.mono hb.size)
    clear hb1
    generalize (dnX t b f).isSome = S at *
    cases S
    all_goals
      go_wp2_with fail
      go_ret
      exact ⟨rfl, hb⟩
end Go.Proofs.Ytooihffijpndoaa
