/-
  The walk of the law SignPis.
-/
import Derived.Test.YtclhllkgamnpoaaQf
import Derived.Test.YtclhllkgamnpoaaCs
namespace Go.Proofs.Ytclhllkgamnpoaa
open Go.ChangeShapes Go.WideShapes Go.ChangeAt Go.RowKit
set_option linter.unusedVariables false

theorem szW_nd {t : T} (h : nd t ≤ 1048576) : szW t = nd t := by rw [szW_eq, wrap_small (by omega) (by omega)]
mutual
theorem sp_sum : ∀ t : T, nd (spR t) + (spA t).length + ndL (spA t) = nd t
  | .node k h xs => by
    by_cases hk : asB k xs.length = true
    · obtain ⟨rfl, a, b, rfl⟩ := pi_of hk
      have ih := sp_sum b
      rw [spA_pi, spR_pi, nd, ndL, ndL, ndL, ndL, List.length_cons]
      omega
    · have hk : asB k xs.length = false := by simpa using hk
      rw [spA_no hk, spR_no hk, ndL, List.length_nil]
      omega
end
mutual
theorem sp_end : ∀ (t : T) (k h : Int) (xs : List T), spR t = .node k h xs → asB k xs.length = false
  | .node k h xs, k', h', xs', e => by
    by_cases hk : asB k xs.length = true
    · obtain ⟨rfl, a, b, rfl⟩ := pi_of hk
      rw [spR_pi] at e
      exact sp_end b _ _ _ e
    · have hk : asB k xs.length = false := by simpa using hk
      rw [spR_no hk] at e
      cases e
      exact hk
end
/-- what holds at the head of the loop -/
structure GpI (t : T) (w : World) (j : Nat) (wr : World) : Prop where
  below : Below w.heap.size w wr
set_option maxRecDepth 100000 in
set_option maxHeartbeats 4000000 in
theorem signPisC (t : T) (v : Value) (w : World) (hv : Rd w t v) (hs : nd t ≤ 1048576) :
    Calls Try.prog 6 #[v] w fun e w' => e = .returned (.bool true) ∧ Below w.heap.size w w' := by
  obtain ⟨k, h, A, n, c, rfl⟩ := hv.full
  obtain ⟨W, hW⟩ : ∃ W, w.alloc (.cells #[.int .i64 k, .int .i64 h, .slice A n c] 24) = W := ⟨_, rfl⟩
  have hb : Below w.heap.size w W := by rw [← hW]; exact (Below.refl _ _).alloc (Nat.le_refl _) _
  have x0 : Box W w.heap.size 24 #[.int .i64 k, .int .i64 h, .slice A n c] := by rw [← hW]; exact Box.new _ _ _
  have HV := Lib.hid (Rd.keep hb _ _ hv)
  have HB := Lib.hid hb
  have HX := Lib.hid x0
  have HW := Lib.hid hW
  clear hv hb x0 hW
  go_enter Try.func6, Try.ntmps6
  go_wp2_with fail
  rw [HW.out]
  clear HW
  refine (awakeQ _).mono ?_
  rintro e w1 ⟨rfl, hb1⟩
  have y0 := HX.out.keep hb1 HX.out.lt
  have HV1 := Lib.hid (Rd.keep hb1 _ _ HV.out)
  have HB1 := Lib.hid (HB.out.trans (hb1.mono HB.out.size))
  have HX1 := Lib.hid y0
  obtain ⟨p0, p1, p2⟩ := y0.three
  obtain ⟨R, hR⟩ : ∃ R, ltB t 1000 80 = R := ⟨_, rfl⟩
  have HLT := Lib.hid (refLight t 1000 80 _ w1 HV1.out)
  rw [hR] at HLT
  clear y0 hb1 HX HV HB hR
  go_wp2_with fail
  refine HLT.out.mono ?_
  clear HLT
  rintro e w2 ⟨rfl, hb2⟩
  have y0 := HX1.out.keep hb2 HX1.out.lt
  have HV2 := Lib.hid (Rd.keep hb2 _ _ HV1.out)
  have HB2 := Lib.hid (HB1.out.trans (hb2.mono HB1.out.size))
  have HX2 := Lib.hid y0
  clear p0 p1 p2 HX1 HV1 HB1 hb2
  cases R
  · go_wp2_with fail
    go_ret
    exact ⟨rfl, HB2.out⟩
  obtain ⟨p0, p1, p2⟩ := y0.three
  clear y0
  have HSP := Lib.hid (splitC t _ w2 HV2.out hs)
  go_wp2_with fail
  refine HSP.out.mono ?_
  clear HSP
  rintro e w3 ⟨Av, L, cv, k2, h2, A2, n2, c2, rfl, hn, hcv, hcm, hl, hr2, hb3⟩
  have HL := Lib.hid hl
  have HN := Lib.hid hn
  have s3 := hb3.size
  have hbA : Below w3.heap.size w3 (w3.alloc (.cells #[.int .i64 k2, .int .i64 h2, .slice A2 n2 c2] 24)) := (Below.refl _ _).alloc (Nat.le_refl _) _
  obtain ⟨Wa, hWa⟩ : ∃ Wa, w3.alloc (.cells #[.int .i64 k2, .int .i64 h2, .slice A2 n2 c2] 24) = Wa := ⟨_, rfl⟩
  rw [hWa] at hbA
  have z6 : Box Wa w3.heap.size 24 #[.int .i64 k2, .int .i64 h2, .slice A2 n2 c2] := by rw [← hWa]; exact Box.new _ _ _
  have z0 := (HX2.out.keep hb3 HX2.out.lt).keep hbA (Nat.lt_of_lt_of_le HX2.out.lt s3)
  have HZ0 := Lib.hid z0
  have HZ6 := Lib.hid z6
  have HVa := Lib.hid (Rd.keep hbA _ _ (Rd.keep hb3 _ _ HV2.out))
  have HRa := Lib.hid (Rd.keep hbA _ _ hr2)
  have HBa := Lib.hid ((HB2.out.trans (hb3.mono HB2.out.size)).trans (hbA.mono (HB2.out.trans (hb3.mono HB2.out.size)).size))
  have hsum := sp_sum t
  have hLn : (spA t).length = L := hn
  have HSZ := Lib.hid (sizeC (spR t) _ Wa HRa.out)
  rw [szW_nd (by omega)] at HSZ
  have HBA := Lib.hid hbA
  have hw1 : IntKind.i64.wrap ((nd (spR t) : Int) + (L : Int)) = ((nd (spR t) + L : Nat) : Int) := by rw [wrapEq, wrap_small (by omega) (by omega)]; omega
  have hcm' := hcm
  unfold maxLen at hcm'
  clear hl hn hb3 z6 z0 p0 p1 p2 hr2 hbA
  subst hWa
  go_wp2_with fail
  refine HSZ.out.mono ?_
  clear HSZ
  rintro e w4 ⟨rfl, hb4⟩
  have HB4 := Lib.hid (HBa.out.trans (hb4.mono HBa.out.size))
  have HBW := Lib.hid (HBA.out.trans (hb4.mono HBA.out.size))
  have HZ0 := Lib.hid (HZ0.out.keep hb4 HZ0.out.lt)
  have HZ6 := Lib.hid (HZ6.out.keep hb4 HZ6.out.lt)
  have HVa := Lib.hid (Rd.keep hb4 _ _ HVa.out)
  have HRa := Lib.hid (Rd.keep hb4 _ _ HRa.out)
  clear hb4
  go_wp2_with fail
  go_loopw [7, 8] (fun s i wr => ∃ (j q : Nat), j ≤ L ∧ i = .int .i64 j ∧ s = .int .i64 (q : Int) ∧ Hid (q + ndL ((spA t).drop j) = nd t) ∧ Hid (Below w4.heap.size w4 wr)) (fun _ i _ => L - (Go.RowKit.intOf i).toNat)
  case atStart => exact ⟨0, nd (spR t) + L, Nat.zero_le _, rfl, by first | rw [hw1] | (congr 1 <;> omega), Lib.hid (by rw [List.drop_zero]; omega), Lib.hid (Below.refl _ _)⟩
  case round =>
    obtain ⟨j, q, hj, rfl, rfl, HQ, HBr⟩ := hrel
    by_cases hlt : j < L
    · obtain ⟨a, ha⟩ := at_of HN.out hlt
      obtain ⟨b, o, ka, ga, Aa, na, ca, rfl, d0, d1, d2, hra⟩ := (RdAt.keep HBr.out (RdAt.keep HBW.out (HL.out j a ha))).full
      have hq := HQ.out
      rw [drop_at ha, ndL] at hq
      have HQ2 := Lib.hid hq
      have hi0 : (0 : Int) ≤ j := by omega
      have hi1 : (j : Int) < L := by omega
      have HSZ := Lib.hid (sizeC a _ wr hra)
      rw [szW_nd (by omega)] at HSZ
      have hw2 : IntKind.i64.wrap ((q : Int) + (nd a : Int)) = ((q + nd a : Nat) : Int) := by rw [wrapEq, wrap_small (by omega) (by omega)]; omega
      clear hra ha hq
      go_wp2_with fail
      refine HSZ.out.mono ?_
      clear HSZ
      rintro e w5 ⟨rfl, hb5⟩
      have HB5 := Lib.hid (HBr.out.trans (hb5.mono HBr.out.size))
      clear hb5 d0 d1 d2
      go_wp2_with fail
      go_roundw
      case rel => exact ⟨j + 1, q + nd a, by omega, by go_num, by first | rw [hw2] | (congr 1 <;> omega), Lib.hid (by have := HQ2.out; omega), HB5⟩
      case measure => simp [Go.RowKit.intOf]; omega
    · have hq := HQ.out
      rw [drop_all HN.out (by omega), ndL, Nat.add_zero] at hq
      subst hq
      have y0 := HZ0.out.keep HBr.out HZ0.out.lt
      have y6 := HZ6.out.keep HBr.out HZ6.out.lt
      obtain ⟨p0, p1, p2⟩ := y0.three
      have HY6 := Lib.hid y6
      have HSZ := Lib.hid (sizeC t _ wr (Rd.keep HBr.out _ _ HVa.out))
      rw [szW_nd hs] at HSZ
      have hkk : (k2 != 1) = true ∨ (k2 != 1) = false ∧ ((n2 : Int) != 2) = true := by
        have hra := HRa.out
        rcases hq : spR t with ⟨kt, gt, xs⟩
        rw [hq] at hra
        obtain ⟨e1, e2, e3⟩ := rd_lit hra
        have h9 := sp_end t _ _ _ hq
        rw [← e1, ← e3, asB, Bool.and_eq_false_iff, decide_eq_false_iff_not, decide_eq_false_iff_not] at h9
        by_cases h1 : k2 = 1
        · refine .inr ⟨by simp [h1], ?_⟩
          rcases h9 with h9 | h9
          · exact absurd h1 h9
          · simp; omega
        · exact .inl (by simpa using h1)
      clear y0 y6
      go_wp2_with fail
      refine HSZ.out.mono ?_
      clear HSZ
      rintro e w5 ⟨rfl, hb5⟩
      have HB5 := Lib.hid (HB4.out.trans ((HBr.out.trans (hb5.mono HBr.out.size)).mono HB4.out.size))
      have z6 := HY6.out.keep hb5 HY6.out.lt
      obtain ⟨q0, q1, q2⟩ := z6.three
      clear p0 p1 p2 hb5 z6
      rcases hkk with e0 | ⟨e0, e1⟩
      all_goals
        go_wp2_with fail
        go_ret
        exact ⟨rfl, HB5.out⟩
end Go.Proofs.Ytclhllkgamnpoaa
