/-
  The walk of the law SignTells.
-/
import Derived.Test.YtclhllkgamnpoaaQj
import Derived.Test.YtclhllkgamnpoaaQh
import Derived.Test.YtclhllkgamnpoaaLgo
namespace Go.Proofs.Ytclhllkgamnpoaa
open Go.ChangeShapes Go.WideShapes Go.ChangeAt Go.RowKit
set_option linter.unusedVariables false

set_option maxRecDepth 100000 in
set_option maxHeartbeats 8000000 in
theorem signTellsC (t : T) (v : Value) (ds : List T) (A : Option Addr) (n c : Nat) (f : Int) (w : World) (hv : Rd w t v) (hs : nd t ≤ 1048576) (hx : DL w ds A n c) (hsd : ∀ x ∈ ds, nd x ≤ 1048576) :
    Calls Try.prog 3 #[v, .slice A n c, .int .i64 f] w fun e w' => e = .returned (.bool true) ∧ Below w.heap.size w w' := by
  obtain ⟨k, h, A0, n0, c0, rfl⟩ := hv.full
  have hcm := hx.cap
  have hle := hx.le
  unfold maxLen at hcm
  obtain ⟨W, hW⟩ : ∃ W, w.alloc (.cells #[.int .i64 k, .int .i64 h, .slice A0 n0 c0] 24) = W := ⟨_, rfl⟩
  have hb : Below w.heap.size w W := by rw [← hW]; exact (Below.refl _ _).alloc (Nat.le_refl _) _
  have x0 : Box W w.heap.size 24 #[.int .i64 k, .int .i64 h, .slice A0 n0 c0] := by rw [← hW]; exact Box.new _ _ _
  have HX := Lib.hid hx; clear hx
  have HV := Lib.hid hv; clear hv
  have HSD := Lib.hid hsd; clear hsd
  have HB := Lib.hid hb; clear hb
  have HX0 := Lib.hid x0; clear x0
  have HW := Lib.hid hW; clear hW
  go_enter Try.func3, Try.ntmps3
  go_wp2_with fail
  rw [HW.out]
  clear HW
  refine (awakeQ _).mono ?_
  rintro e w1 ⟨rfl, hb1⟩
  have HB1 := Lib.hid (HB.out.trans (hb1.mono HB.out.size))
  have HX1 := Lib.hid (HX0.out.keep hb1 HX0.out.lt)
  obtain ⟨R, hR⟩ : ∃ R, ltB t 1000 80 = R := ⟨_, rfl⟩
  have HLT := Lib.hid (refLight t 1000 80 _ w1 (Rd.keep HB1.out _ _ HV.out))
  rw [hR] at HLT
  obtain ⟨p0, p1, p2⟩ := HX1.out.three
  clear hb1 HB HX0 hR
  go_wp2_with fail
  refine HLT.out.mono ?_
  clear HLT
  rintro e w2 ⟨rfl, hb2⟩
  have HB2 := Lib.hid (HB1.out.trans (hb2.mono HB1.out.size))
  have HX2 := Lib.hid (HX1.out.keep hb2 HX1.out.lt)
  obtain ⟨R2, hR2⟩ : ∃ R, fwQ ds n = R := ⟨_, rfl⟩
  have HFW := Lib.hid (fewC ds A n c w2 (HX.out.keep HB2.out))
  rw [hR2] at HFW
  clear hb2 HB1 HX1 p0 p1 p2
  go_wp2_with fail
  refine HFW.out.mono ?_
  clear HFW
  rintro e w3 ⟨rfl, hb3⟩
  have HB3 := Lib.hid (HB2.out.trans (hb3.mono HB2.out.size))
  have HX3 := Lib.hid (HX2.out.keep hb3 HX2.out.lt)
  clear hb3 HB2 HX2
  cases R
  · go_wp2_with fail
    go_ret
    exact ⟨rfl, HB3.out⟩
  cases R2
  · go_wp2_with fail
    go_ret
    exact ⟨rfl, HB3.out⟩
  have hn30 : n ≤ 30 := by
    rw [fwQ, Bool.and_eq_true, decide_eq_true_eq] at hR2
    exact hR2.1
  clear hR2
  obtain ⟨p0, p1, p2⟩ := HX3.out.three
  have HSP := Lib.hid (splitC t _ w3 (Rd.keep HB3.out _ _ HV.out) hs)
  go_wp2_with fail
  refine HSP.out.mono ?_
  clear HSP
  rintro e w4 ⟨Av, L, cv, k2, h2, A2, n2, c2, rfl, hn, hcv, hcmv, hl, hr2, hb4⟩
  obtain ⟨Wa, hWa⟩ : ∃ Wa, w4.alloc (.cells #[.int .i64 k2, .int .i64 h2, .slice A2 n2 c2] 24) = Wa := ⟨_, rfl⟩
  have hbA : Below w4.heap.size w4 Wa := by rw [← hWa]; exact (Below.refl _ _).alloc (Nat.le_refl _) _
  have zx : Box Wa w4.heap.size 24 #[.int .i64 k2, .int .i64 h2, .slice A2 n2 c2] := by rw [← hWa]; exact Box.new _ _ _
  have z0 := (HX3.out.keep hb4 HX3.out.lt).keep hbA (Nat.lt_of_lt_of_le HX3.out.lt hb4.size)
  have HZX := Lib.hid zx
  have HZ0 := Lib.hid z0
  have HBA := Lib.hid (HB3.out.trans ((hb4.trans (hbA.mono hb4.size)).mono HB3.out.size))
  have HLA : Hid (∀ i u, (spA t)[i]? = some u → RdAt Wa Av i u) := Lib.hid fun i u hu => RdAt.keep hbA (hl i u hu)
  have HRA := Lib.hid (Rd.keep hbA _ _ hr2)
  have HN := Lib.hid hn
  have HSP := Lib.hid (rsplitC t _ Wa (Rd.keep HBA.out _ _ HV.out) hs)
  obtain ⟨q0, q1, q2⟩ := z0.three
  clear hl hr2 hb4 hbA zx z0 hn p0 p1 p2
  subst hWa
  obtain ⟨B1, hB1⟩ : ∃ B, w4.heap.size = B := ⟨_, rfl⟩
  go_wp2_with fail
  refine HSP.out.mono ?_
  clear HSP
  rintro e w5 ⟨Bv, L2, dv, k3, h3, A3, n3, c3, rfl, hn, hdv, hdmv, hl, hr3, hb5⟩
  have HZX5 := Lib.hid (HZX.out.keep hb5 HZX.out.lt)
  have HZ05 := Lib.hid (HZ0.out.keep hb5 HZ0.out.lt)
  have HB5 := Lib.hid (HBA.out.trans (hb5.mono HBA.out.size))
  have HLA5 : Hid (∀ i u, (spA t)[i]? = some u → RdAt w5 Av i u) := Lib.hid fun i u hu => RdAt.keep hb5 (HLA.out i u hu)
  have HRA5 := Lib.hid (Rd.keep hb5 _ _ HRA.out)
  rw [HN.out] at hn
  subst hn
  rw [hB1] at *
  obtain ⟨Wb, hWb⟩ : ∃ Wb, w5.alloc (.cells #[.int .i64 k3, .int .i64 h3, .slice A3 n3 c3] 24) = Wb := ⟨_, rfl⟩
  have hbB : Below w5.heap.size w5 Wb := by rw [← hWb]; exact (Below.refl _ _).alloc (Nat.le_refl _) _
  have HZY := Lib.hid (show Box Wb w5.heap.size 24 #[.int .i64 k3, .int .i64 h3, .slice A3 n3 c3] by rw [← hWb]; exact Box.new _ _ _)
  have HZX6 := Lib.hid (HZX5.out.keep hbB HZX5.out.lt)
  have HZ06 := Lib.hid (HZ05.out.keep hbB HZ05.out.lt)
  have HB6 := Lib.hid (HB5.out.trans (hbB.mono HB5.out.size))
  have HRA6 := Lib.hid (Rd.keep hbB _ _ HRA5.out)
  have HRB6 := Lib.hid (Rd.keep hbB _ _ hr3)
  have HLI := Lib.hid (rlistQ (spA t) Av Bv L cv dv Wb HN.out hcv hcmv hdv (fun i u hu => RdAt.keep hbB (HLA5.out i u hu)) (fun i u hu => RdAt.keep hbB (hl i u hu)))
  clear hl hr3 hb5 hbB q0 q1 q2 HZX HZ0 HBA HLA HRA HZX5 HZ05 HB5 HLA5 HRA5 hcv hdv
  subst hWb
  go_wp2_with fail
  refine HLI.out.mono ?_
  clear HLI
  rintro e w7 ⟨rfl, hb7⟩
  have HZY7 := Lib.hid (HZY.out.keep hb7 HZY.out.lt)
  have HZX7 := Lib.hid (HZX6.out.keep hb7 HZX6.out.lt)
  have HZ07 := Lib.hid (HZ06.out.keep hb7 HZ06.out.lt)
  have HB7 := Lib.hid (HB6.out.trans (hb7.mono HB6.out.size))
  have HSA := Lib.hid (refSame (spR t) (spR t) _ _ w7 (Rd.keep hb7 _ _ HRA6.out) (Rd.keep hb7 _ _ HRB6.out))
  rw [sam_refl] at HSA
  obtain ⟨a0, a1, a2⟩ := HZX7.out.three
  obtain ⟨b0, b1, b2⟩ := HZY7.out.three
  clear hb7 HZY HZX6 HZ06 HB6 HRA6 HRB6
  go_wp2_with fail
  refine HSA.out.mono ?_
  clear HSA
  rintro e w8 ⟨rfl, hb8⟩
  have HZ08 := Lib.hid (HZ07.out.keep hb8 HZ07.out.lt)
  have HB8 := Lib.hid (HB7.out.trans (hb8.mono HB7.out.size))
  have HKI := Lib.hid (rkindC t _ w8 (Rd.keep HB8.out _ _ HV.out) hs)
  obtain ⟨p0, p1, p2⟩ := HZ08.out.three
  clear hb8 a0 a1 a2 b0 b1 b2 HZX7 HZY7 HZ07 HB7
  go_wp2_with fail
  refine HKI.out.mono ?_
  clear HKI
  rintro e w9 ⟨rfl, hb9⟩
  have HZ09 := Lib.hid (HZ08.out.keep hb9 HZ08.out.lt)
  have HB9 := Lib.hid (HB8.out.trans (hb9.mono HB8.out.size))
  have HCO := Lib.hid (constsC ds f A n c w9 (HX.out.keep HB9.out) (by omega))
  clear hb9 p0 p1 p2 HZ08 HB8
  go_wp2_with fail
  refine HCO.out.mono ?_
  clear HCO
  rintro e w10 ⟨Ac, m, cc, rfl, hml, hmc, hcc, hnu, hb10⟩
  have HZ010 := Lib.hid (HZ09.out.keep hb10 HZ09.out.lt)
  have HB10 := Lib.hid (HB9.out.trans (hb10.mono HB9.out.size))
  have HNU := Lib.hid hnu
  have HML := Lib.hid hml
  have hm30 : m ≤ n := by have := cnL_len f ds 0; have := HX.out.len; omega
  have HCO := Lib.hid (rconstsC ds f A n c w10 (HX.out.keep HB10.out) (by omega) HSD.out)
  unfold maxLen at hcc
  clear hb10 HZ09 HB9 hml hnu
  go_wp2_with fail
  refine HCO.out.mono ?_
  clear HCO
  rintro e w11 ⟨Ad, m2, cd, rfl, hml2, hmd, hcd, hnu2, hb11⟩
  have HZ011 := Lib.hid (HZ010.out.keep hb11 HZ010.out.lt)
  have HB11 := Lib.hid (HB10.out.trans (hb11.mono HB10.out.size))
  have HNU1 := Lib.hid (HNU.out.keep hb11)
  have HNU2 := Lib.hid hnu2
  rw [HML.out] at hml2
  subst hml2
  unfold maxLen at hcd
  clear hb11 HZ010 HB10 HNU hnu2
  go_wp2_with fail
  go_loopw [19] (fun i wr => ∃ (q : Nat), q ≤ m ∧ i = .int .i64 q ∧ Hid (Below w11.heap.size w11 wr)) (fun i _ => m - (Go.RowKit.intOf i).toNat)
  case atStart => exact ⟨0, Nat.zero_le _, rfl, Lib.hid (Below.refl _ _)⟩
  case round =>
    obtain ⟨q, hq, rfl, HBr⟩ := hrel
    by_cases hql : q < m
    · obtain ⟨z, hz⟩ := at_of HML.out hql
      obtain ⟨ba, oa, eA, ca⟩ := (HNU1.out.keep HBr.out) q z hz
      obtain ⟨bd, od, eD, cdd⟩ := (HNU2.out.keep HBr.out) q z hz
      subst eA eD
      have hq0 : (0 : Int) ≤ q := by omega
      have hq1 : (q : Int) < m := by omega
      have r0 := Past.cell ca
      have r1 := Past.cell cdd
      clear hz
      go_wp2_with fail
      refine wp_region_past (by kernel_rfl) (by kernel_rfl) ?_
      repeat (go_big_quiet_step (fail))
      refine wpQuiet_nil ?_
      rintro _ ⟨z9, rfl⟩
      obtain ⟨w19, hb19⟩ := z9
      dsimp only
      have HB19 := Lib.hid (HBr.out.trans (hb19.mono HBr.out.size))
      clear r0 r1 ca cdd hb19
      go_wp2_with fail
      go_roundw
      case rel => exact ⟨q + 1, by omega, by go_num, HB19⟩
      case measure => simp [Go.RowKit.intOf]; omega
    · have y0 := HZ011.out.keep HBr.out HZ011.out.lt
      obtain ⟨p0, p1, p2⟩ := y0.three
      have HB12 := Lib.hid (HB11.out.trans (HBr.out.mono HB11.out.size))
      have HVr := Lib.hid (Rd.keep HB12.out _ _ HV.out)
      have r0 := Past.cell p0
      have r1 := Past.cell p1
      have r2 := Past.cell p2
      clear y0
      go_wp2_with fail
      refine wp_region_past (by kernel_rfl) (by kernel_rfl) ?_
      repeat (go_big_quiet_step (first | (go_at_call 18; exact calls_past (kindC t _ _ (Rd.keep (Past.h _) _ _ HVr.out))) | (go_at_call 19; exact calls_past (familyC t _ _ (Rd.keep (Past.h _) _ _ HVr.out))) | (go_at_call 20; exact calls_past (rfamilyC t _ _ (Rd.keep (Past.h _) _ _ HVr.out) hs))))
      refine wpQuiet_nil ?_
      rintro _ ⟨z9, rfl⟩
      obtain ⟨w19, hb19⟩ := z9
      dsimp only
      have HB19 := Lib.hid (HB12.out.trans (hb19.mono HB12.out.size))
      clear r0 r1 r2 p0 p1 p2 hb19
      go_wp2_with fail
      go_ret
      exact ⟨rfl, HB19.out⟩
end Go.Proofs.Ytclhllkgamnpoaa
