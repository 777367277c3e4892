/-
  The walk of the law InvertBack.
-/
import Derived.Test.YtdllbljjlaipoaaPkG
import Derived.Test.YtdllbljjlaipoaaIi
import Derived.Test.YtdllbljjlaipoaaSn
import Derived.Test.YtdllbljjlaipoaaSa
namespace Go.Proofs.Ytdllbljjlaipoaa
open Go.ChangeShapes Go.WideShapes Go.ChangeAt Go.RowKit
set_option linter.unusedVariables false

theorem mis_step {vs zs : List Int} {n z : Int} {j : Nat} (h : zs[j]? = some z) : (zs.take (j + 1)).any (misB vs n) = ((zs.take j).any (misB vs n) || !(decide (n ≤ z) || vs.contains z)) := by
  have hj := (List.getElem?_eq_some_iff.1 h).1
  have e := (List.getElem?_eq_some_iff.1 h).2
  rw [List.take_succ_eq_append_getElem hj, e, List.any_append]
  simp [misB]
theorem in_step {vs : List Int} {z v : Int} {m : Nat} (h : vs[m]? = some v) : (vs.take (m + 1)).contains z = ((vs.take m).contains z || (v == z)) := by
  have hj := (List.getElem?_eq_some_iff.1 h).1
  have e := (List.getElem?_eq_some_iff.1 h).2
  rw [List.take_succ_eq_append_getElem hj, e]
  rw [Bool.eq_iff_iff]
  simp
  exact or_congr_right eq_comm
set_option maxRecDepth 100000 in
set_option maxHeartbeats 8000000 in
theorem invertBackC (t : T) (vs : List Int) (V0 : Option Addr) (nv c0v : Nat) (n : Int) (v : Value) (w : World) (hvt : Rd w t v) (hnv : vs.length = nv) (hnc : nv ≤ c0v) (hnm : c0v ≤ maxLen) (hx : ∀ i z, vs[i]? = some z → ∃ b o, V0 = some ⟨b, o, none⟩ ∧ w.cell? ⟨b, o + i, none⟩ = some (.int .i64 z)) :
    Calls Try.prog 4 #[v, .slice V0 nv c0v, .int .i64 n] w fun e w' => e = .returned (.bool true) ∧ Below w.heap.size w w' := by
  have HNV := Lib.hid hnv; clear hnv
  have HNC := Lib.hid hnc
  have HNM := Lib.hid hnm
  have HNX : Hid (∀ W, Below w.heap.size w W → ∀ i z, vs[i]? = some z → ∃ b o, V0 = some ⟨b, o, none⟩ ∧ W.cell? ⟨b, o + i, none⟩ = some (.int .i64 z)) := Lib.hid fun W hb i z hz => by
    obtain ⟨b, o, e, h⟩ := hx i z hz
    exact ⟨b, o, e, (hb.cell (cell_lt h)).trans h⟩
  clear hx
  unfold maxLen at hnm
  obtain ⟨kt, ht, At, nt, ct, rfl⟩ := hvt.full
  have HVt := Lib.hid hvt; clear hvt
  obtain ⟨W0, hW0⟩ : ∃ W0, (w.alloc (.cells #[.int .i64 kt, .int .i64 ht, .slice At nt ct] 24)) = W0 := ⟨_, rfl⟩
  have hb : Below w.heap.size w W0 := by rw [← hW0]; exact ((Below.refl _ _).alloc (Nat.le_refl _) _)
  have bxt : Box W0 (w.heap.size) 24 #[.int .i64 kt, .int .i64 ht, .slice At nt ct] := by rw [← hW0]; exact (Box.new w _ _)
  replace HVt := Lib.hid (Rd.keep hb _ _ HVt.out)
  have HW0 := Lib.hid hW0; clear hW0
  go_enter Try.func4, Try.ntmps4
  go_wp2_with fail
  rw [HW0.out]
  clear HW0
  refine (awakeI _).mono ?_
  rintro e w1 ⟨rfl, hb1⟩
  replace bxt := bxt.keep hb1 bxt.lt
  replace HVt := Lib.hid (Rd.keep hb1 _ _ HVt.out)
  replace hb := hb.trans (hb1.mono hb.size)
  clear hb1
  obtain ⟨bxt0, bxt1, bxt2⟩ := bxt.three
  have bxtl := bxt.lt
  go_wp2_with fail
  refine (refLight t 1000 60 _ _ HVt.out).mono ?_
  have HLt : Hid (ltB t 1000 60 = true → ltB t 1000 60 = true) := Lib.hid fun e => e
  generalize hqt : ltB t 1000 60 = Rt at *
  rintro e w2t ⟨rfl, hb1⟩
  have HQt := Lib.hid hqt; clear hqt HLt
  clear bxt0 bxt1 bxt2 bxtl
  replace bxt := bxt.keep hb1 bxt.lt
  replace HVt := Lib.hid (Rd.keep hb1 _ _ HVt.out)
  replace hb := hb.trans (hb1.mono hb.size)
  clear hb1
  obtain ⟨bxt0, bxt1, bxt2⟩ := bxt.three
  have bxtl := bxt.lt
  cases Rt
  · go_wp2_with fail
    go_ret
    exact ⟨rfl, hb⟩
  by_cases x1 : (20 : Int) < nv
  · have dx1 : decide ((20 : Int) < nv) = true := by simpa using x1
    go_wp2_with fail
    go_ret
    exact ⟨rfl, hb⟩
  have dx1 : decide ((20 : Int) < nv) = false := by simpa using x1
  go_wp2_with fail
  refine (myC t _ _ HVt.out).mono ?_
  generalize hqt : myB t = Mt at *
  rintro e w3t ⟨rfl, hb1⟩
  have HMt := Lib.hid hqt; clear hqt
  clear bxt0 bxt1 bxt2 bxtl
  replace bxt := bxt.keep hb1 bxt.lt
  replace HVt := Lib.hid (Rd.keep hb1 _ _ HVt.out)
  replace hb := hb.trans (hb1.mono hb.size)
  clear hb1
  obtain ⟨bxt0, bxt1, bxt2⟩ := bxt.three
  have bxtl := bxt.lt
  cases Mt
  · go_wp2_with fail
    go_ret
    exact ⟨rfl, hb⟩
  have KNt : Hid (Kn 1000 60 t) := Lib.hid (kn_of HQt.out HMt.out); clear HQt HMt
  have hs : nd t ≤ 1048576 := by have := ((myB_iff t).1 KNt.out.my).2.1; omega
  have HS := Lib.hid hs; clear hs
  go_wp2_with fail
  refine (oMetasC t _ _ HVt.out HS.out).mono ?_
  rintro e w4 ⟨um, rfl, hms, hb1⟩
  obtain ⟨Am, cm, rfl, hcm5, hmm5, hxm5⟩ := hms
  clear hxm5
  generalize (rs ((nds t 0).flatMap mt1)).length = nm at *
  unfold maxLen at hmm5
  clear bxt0 bxt1 bxt2 bxtl
  replace bxt := bxt.keep hb1 bxt.lt
  replace HVt := Lib.hid (Rd.keep hb1 _ _ HVt.out)
  replace hb := hb.trans (hb1.mono hb.size)
  clear hb1
  obtain ⟨bxt0, bxt1, bxt2⟩ := bxt.three
  have bxtl := bxt.lt
  by_cases hz : (0 : Int) < nm
  · have dz : decide ((0 : Int) < nm) = true := by simpa using hz
    go_wp2_with fail
    go_ret
    exact ⟨rfl, hb⟩
  obtain rfl : nm = 0 := by omega
  have hl20 : vs.length ≤ 20 := by have := HNV.out; omega
  have HL20 := Lib.hid hl20
  clear hz x1 hcm5 hmm5
  have HI1 := Lib.hid (InvertC t vs V0 nv c0v n _ w4 HVt.out HS.out HNV.out HNC.out HNM.out (HNX.out _ hb))
  have HCS := Lib.hid (ivR_cases KNt.out vs n (by omega))
  generalize ivR t vs n = R at *
  clear hl20
  go_wp2_with fail
  refine HI1.out.mono ?_
  clear HI1
  rintro e w5 ⟨ka, ha, Aa, na, ca, rfl, hra, hb1⟩
  have HRa := Lib.hid hra; clear hra
  clear bxt0 bxt1 bxt2 bxtl
  replace bxt := bxt.keep hb1 bxt.lt
  replace HVt := Lib.hid (Rd.keep hb1 _ _ HVt.out)
  replace hb := hb.trans (hb1.mono hb.size)
  clear hb1
  have bxa := Box.new w5 24 #[.int .i64 ka, .int .i64 ha, .slice Aa na ca]
  have hbA : Below w5.heap.size w5 (w5.alloc (.cells #[.int .i64 ka, .int .i64 ha, .slice Aa na ca] 24)) := (Below.refl _ _).alloc (Nat.le_refl _) _
  obtain ⟨a0, a1, a2⟩ := bxa.three
  have herr : ∀ x, R = .error x → na = 0 := fun x hx => by have h := HRa.out; rw [hx] at h; exact leaf_len h
  by_cases hR1 : R = .error 1
  · have hbw := hb.trans (hbA.mono hb.size)
    have hz := herr _ hR1
    subst hz
    subst hR1
    clear HRa HCS herr
    simp only [ivE]
    go_wp2_with fail
    go_ret
    exact ⟨rfl, hbw⟩
  have hE1 : (ivE R == 1) = false := by
    rcases HCS.out with ⟨_, _, ⟨u, hR, _⟩ | ⟨hR, _⟩⟩ | hR
    · rw [hR]; rfl
    · rw [hR]; rfl
    · exact absurd hR hR1
  have HCT : Hid ((0 ≤ n ∧ n ≤ 1000) ∧ vB n [] vs = true ∧ ((∃ u, R = .ok u ∧ ivT (igo vs n) t 0 = some u) ∨ (R = .error 7 ∧ ivT (igo vs n) t 0 = none))) := Lib.hid (by
    rcases HCS.out with h | h
    · exact h
    · exact absurd h hR1)
  have HMA : Hid ((rs ((nds t 0).flatMap fv1)).any (misB vs n) = true ↔ ivT (igo vs n) t 0 = none) := Lib.hid (mis_all (M := 1099511627776) (by omega) (okT_of t KNt.out.nod KNt.out.lo) HS.out)
  clear hR1 herr HCS
  have HVV := Lib.hid (oVarsC t _ (w5.alloc (.cells #[.int .i64 ka, .int .i64 ha, .slice Aa na ca] 24)) (Rd.keep hbA _ _ HVt.out) HS.out)
  generalize rs ((nds t 0).flatMap fv1) = zs at *
  obtain ⟨E, hE⟩ : ∃ E, E = ivE R := ⟨_, rfl⟩
  rw [← hE] at hE1
  rw [← hE]
  have HE := Lib.hid hE; clear hE
  obtain ⟨t0, t1, t2⟩ := bxt.three
  have lt := bxt.lt
  go_wp2_with fail
  refine HVV.out.mono ?_
  clear HVV t0 t1 t2 lt a0 a1 a2
  generalize w5.alloc (.cells #[.int .i64 ka, .int .i64 ha, .slice Aa na ca] 24) = W5 at *
  rintro e w6 ⟨uz, rfl, hnz, hb1⟩
  replace bxa := bxa.keep hb1 bxa.lt
  replace hb1 := hbA.trans (hb1.mono hbA.size)
  replace bxt := bxt.keep hb1 bxt.lt
  replace HVt := Lib.hid (Rd.keep hb1 _ _ HVt.out)
  replace HRa := Lib.hid (Rd.keep hb1 _ _ (RdF.rd _ _ HRa.out))
  replace hb := hb.trans (hb1.mono hb.size)
  clear hb1 hbA W5
  obtain ⟨Az, cz, rfl, hcz, hmz, hxz⟩ := hnz
  obtain ⟨nz, hnz⟩ : ∃ nz, zs.length = nz := ⟨_, rfl⟩
  rw [hnz] at hcz ⊢
  have HNZ := Lib.hid hnz; clear hnz
  unfold maxLen at hmz
  have HZX : Hid (∀ W, Below w6.heap.size w6 W → ∀ i z, zs[i]? = some z → ∃ b o, Az = some ⟨b, o, none⟩ ∧ W.cell? ⟨b, o + i, none⟩ = some (.int .i64 z)) := Lib.hid fun W hb i z hz => by
    obtain ⟨b, o, e, h⟩ := hxz i z hz
    exact ⟨b, o, e, (hb.cell (cell_lt h)).trans h⟩
  clear hxz
  go_wp2_with fail
  go_loopw [12, 13] (fun q i wr => ∃ (j : Nat) (M : Bool), j ≤ nz ∧ i = .int .i64 j ∧ q = .bool M ∧ Hid (M = (zs.take j).any (misB vs n)) ∧ Below w6.heap.size w6 wr) (fun _ i _ => nz - (Go.RowKit.intOf i).toNat)
  case atStart => exact ⟨0, false, Nat.zero_le _, rfl, rfl, Lib.hid (by simp), Below.refl _ _⟩
  case round =>
    obtain ⟨j, M, hj, rfl, rfl, HM, hbr⟩ := hrel
    by_cases hlt : j < nz
    · have hi0 : (0 : Int) ≤ j := by omega
      have hi1 : (j : Int) < nz := by omega
      obtain ⟨z, hz⟩ := at_of HNZ.out hlt
      obtain ⟨b, o, rfl, hc0⟩ := HZX.out wr hbr j z hz
      have HZ := Lib.hid hz; clear hz
      obtain ⟨D, hD⟩ : ∃ D, decide (n ≤ z) = D := ⟨_, rfl⟩
      have HD := Lib.hid hD
      clear hD
      have hD := HD.out
      go_wp2_with fail
      clear hD
      obtain ⟨wz, hwz⟩ : ∃ wz, wz = wr := ⟨_, rfl⟩
      rw [← hwz] at hbr hc0 ⊢
      clear hwz wr
      obtain ⟨J, hJ⟩ : ∃ J : Int, (j : Int) = J := ⟨_, rfl⟩
      rw [hJ] at hi0 hi1 ⊢
      have HJ := Lib.hid hJ; clear hJ
      go_loopw [14, 15] (fun q i wr => ∃ (m : Nat) (I : Bool), m ≤ nv ∧ i = .int .i64 m ∧ q = .bool I ∧ Hid (I = (D || (vs.take m).contains z)) ∧ Below wz.heap.size wz wr) (fun _ i _ => nv - (Go.RowKit.intOf i).toNat)
      case atStart => exact ⟨0, D, Nat.zero_le _, rfl, by first | rfl | simp [HD.out], Lib.hid (by simp), Below.refl _ _⟩
      case round =>
        obtain ⟨m, I, hm, rfl, rfl, HI, hbm⟩ := hrel
        by_cases hml : m < nv
        · have hm0 : (0 : Int) ≤ m := by omega
          have hm1 : (m : Int) < nv := by omega
          obtain ⟨y, hy⟩ := at_of HNV.out hml
          obtain ⟨b2, o2, rfl, hcu⟩ := HNX.out wr ((hb.trans (hbr.mono hb.size)).trans (hbm.mono (hb.trans (hbr.mono hb.size)).size)) m y hy
          have hcv : wr.cell? ⟨b, o + J.toNat, none⟩ = some (.int .i64 z) := by
            rw [← HJ.out, Int.toNat_natCast]
            exact (hbm.cell (cell_lt hc0)).trans hc0
          have HY := Lib.hid hy; clear hy
          cases I
          all_goals
            go_wp2_with fail
            have p0 := Past.cell hcu
            have p1 := Past.cell hcv
            refine wp_region_past (by kernel_rfl) (by kernel_rfl) ?_
            repeat (go_big_quiet_step (fail))
            refine wpQuiet_nil ?_
            rintro _ ⟨q, rfl⟩
            clear p0 p1 hcu hcv
            obtain ⟨w7, hb1⟩ := q
            dsimp only
            go_wp2_with fail
            exact ⟨⟨m + 1, _, by omega, by go_num, rfl, Lib.hid (by rw [in_step HY.out, ← Bool.or_assoc, ← HI.out]; simp), hbm.trans (hb1.mono hbm.size)⟩, by simp [Go.RowKit.intOf]; omega⟩
        · obtain rfl : m = nv := by omega
          have hnext : (zs.take (j + 1)).any (misB vs n) = (M || !I) := by
            rw [mis_step HZ.out, ← HM.out, HD.out, HI.out, List.take_of_length_le (by rw [HNV.out]; exact Nat.le_refl _)]
          have HNE := Lib.hid hnext; clear hnext
          have hwJ : IntKind.i64.wrap (J + 1) = J + 1 := by rw [wrapEq]; exact wrap_small (by omega) (by omega)
          cases M
          all_goals
            cases I
            all_goals
              go_wp2_with fail
              go_roundw
              case rel => exact ⟨j + 1, _, by omega, by rw [← HJ.out]; go_num, rfl, Lib.hid (by rw [HNE.out]; rfl), hbr.trans (hbm.mono hbr.size)⟩
              case measure => have := HJ.out; simp [Go.RowKit.intOf]; omega
    · obtain rfl : j = nz := by omega
      have hM := HM.out
      rw [List.take_of_length_le (by rw [HNZ.out]; exact Nat.le_refl _)] at hM
      obtain ⟨W5, rfl⟩ : ∃ W5, W5 = wr := ⟨_, rfl⟩
      replace HVt := Lib.hid (Rd.keep hbr _ _ HVt.out)
      replace HRa := Lib.hid (Rd.keep hbr _ _ HRa.out)
      replace bxt := bxt.keep hbr bxt.lt
      replace bxa := bxa.keep hbr bxa.lt
      replace hb := hb.trans (hbr.mono hb.size)
      clear hbr HM
      rcases HCT.out with ⟨hn, hv, ⟨u, hR, hu⟩ | ⟨hR, hnone⟩⟩
      rotate_left 1
      · have hM1 : M = true := by rw [hM]; exact HMA.out.2 hnone
        have hE7 : E = 7 := by rw [HE.out, hR]; rfl
        subst hM1
        subst hE7
        clear hM hR hnone hn hv HCT
        go_wp2_with fail
        go_ret
        exact ⟨rfl, hb⟩
      have hM0 : M = false := by
        rw [hM]
        cases hq : zs.any (misB vs n) with
        | false => rfl
        | true => rw [HMA.out.1 hq] at hu; cases hu
      have hE0 : E = 0 := by rw [HE.out, hR]; rfl
      subst hM0
      subst hE0
      rw [hR] at HRa
      have HVa : Hid (Rd W5 u (.agg #[.int .i64 ka, .int .i64 ha, .slice Aa na ca])) := HRa
      have hap := iv_apply (M := 1099511627776) hv hn (by have := HL20.out; omega) (okT_of t KNt.out.nod KNt.out.lo) KNt.out.my hu
      have HFI := Lib.hid (fill_back HL20.out hn hv hap.2.2 ⟨hap.1, hap.2.1⟩)
      have HLO := Lib.hid (iv_low KNt.out hn (by have := HL20.out; omega) hu)
      have HLL := Lib.hid (vrs_low hn.2 hv)
      have HWF := Lib.hid (vrs_wf hn.2 hv)
      have hnd := (nd_iv t 0 u hu).1
      have hsz : szW u = szW t := by rw [szW_eq, szW_eq, hnd]
      have HSZ := Lib.hid hsz
      have HN4 : Hid (nv ≤ 20) := Lib.hid (by have := HNV.out; have := HL20.out; omega)
      clear hap hnd hsz hu hn hv hR hM HRa HCT HMA
      have hfd : ∀ (A : Option Addr) (n c : Nat) (W : World), (Instr.field 24 (.agg #[.int .i64 6, .int .i64 0, .slice A n c]) 2).run Try.prog W = .ok (.slice A n c) W := fun A n c W => by kernel_rfl
      have la := bxa.lt
      have lt := bxt.lt
      go_wp2_with fail
      have HMO : Hid (∀ W', Hid (Below W5.heap.size W5 W') → Calls Try.prog 18 #[.slice V0 nv c0v] W' (fun e w' => (∃ A c, e = .returned (.agg #[.int .i64 6, .int .i64 0, .slice A nv c]) ∧ nv ≤ c ∧ c ≤ maxLen ∧ (∀ i t, (vrs vs)[i]? = some t → RdAt w' A i t) ∧ Below W'.heap.size W' w') ∧ Hid (Below W5.heap.size W5 w'))) := Lib.hid fun W' h =>
        (metaOfC vs V0 nv c0v W' HNV.out HNC.out HNM.out (by have := HN4.out; omega) (HNX.out _ (hb.trans (h.out.mono hb.size))) HWF.out).mono fun e w' h' => ⟨h', by obtain ⟨_, _, _, _, _, _, hb'⟩ := h'; exact cur_trans h hb'⟩
      have HK : Hid (∀ w', Hid (Below W5.heap.size W5 w') → (w'.cell? ⟨w5.heap.size, 0, none⟩ = some (.int .i64 ka) ∧ w'.cell? ⟨w5.heap.size, 1, none⟩ = some (.int .i64 ha) ∧ w'.cell? ⟨w5.heap.size, 2, none⟩ = some (.slice Aa na ca) ∧ Hid (Below W5.heap.size W5 w'))) := Lib.hid fun w' h => by
        have s0 := bxa.keep h.out bxa.lt
        exact ⟨s0.three.1, s0.three.2.1, s0.three.2.2, h⟩
      have hcu0 : Hid (Below W5.heap.size W5 W5.drew) := cur_drew
      go_region_held3 (fun w' => w'.cell? ⟨w5.heap.size, 0, none⟩ = some (.int .i64 ka) ∧ w'.cell? ⟨w5.heap.size, 1, none⟩ = some (.int .i64 ha) ∧ w'.cell? ⟨w5.heap.size, 2, none⟩ = some (.slice Aa na ca) ∧ Hid (Below W5.heap.size W5 w'))
        (first | exact HK.out _ (by assumption) | exact HK.out _ (cur_alloc (by assumption) _) | exact HK.out _ (cur_alloc (cur_alloc (by assumption) _) _) | exact HK.out _ (Lib.hid (((Below.refl _ _).alloc (Nat.le_refl _) _).drew)) | exact HK.out _ (Lib.hid ((((Below.refl _ _).alloc (Nat.le_refl _) _).alloc (by simp) _).drew)) | exact HK.out _ (cur_set3 (by assumption) (by omega) _ _ _))
        (first
          | (go_at_call 17
             with_reducible refine Calls.mono (HAP.out _ _ ?hh ?hr) ?_
             case hh => first | exact Below.refl _ w8 | exact (Below.refl _ w8).alloc (Nat.le_refl _) _ | exact ((Below.refl _ w8).alloc (Nat.le_refl _) _).alloc (by simp) _
             case hr => first | exact yP | exact yP.alloc _ | exact (yP.alloc _).alloc _ | exact Box.new _ _ _ | exact (Box.new _ _ _).alloc _ | exact Box.drewI (Box.new _ _ _) | exact Box.drewI ((Box.new _ _ _).alloc _) | exact Box.at1 (Box.new _ _ _) | exact Box.drewI (Box.at1 (Box.new _ _ _))
             rintro e w9 ⟨⟨kq, hq, Aq, nq, cq, rfl, hrd, hb9⟩, hcu9⟩
             first | (have zP := Box.keepC (cs := #[.int .i64 0, .int .i64 0, .slice none 0 0]) (ty := 24) (by first | exact zP | exact zP.alloc _ | exact (zP.alloc _).alloc _ | exact Box.new _ _ _ | exact (Box.new _ _ _).alloc _ | exact Box.drewI (Box.new _ _ _) | exact Box.drewI ((Box.new _ _ _).alloc _)) hb9; (try (with_reducible replace zP := zP.at1)); have lzhb9 := zP.lt) | skip
             have hs9 := hcu9.out.size
             have HRq := Lib.hid hrd
             first | (obtain ⟨z0, z1, z2⟩ := zP.three; have fz0 := zP.frozen 0; have fz1 := zP.frozen 1; have fz2 := zP.frozen 2) | skip
             clear hrd hb9)
          | (go_at_call 18
             with_reducible refine Calls.mono (HMO.out _ ?hh) ?_
             case hh => first | assumption | exact cur_alloc (by assumption) _ | exact cur_alloc (cur_alloc (by assumption) _) _ | exact Lib.hid (((Below.refl _ _).alloc (Nat.le_refl _) _).drew) | exact Lib.hid ((((Below.refl _ _).alloc (Nat.le_refl _) _).alloc (by simp) _).drew)
             rintro e w8 ⟨⟨A8, c8, rfl, hc8, hm8, hx8, hb8⟩, hcu8⟩
             have hs8 := hcu8.out.size
             first | (have zP := Box.keepC (cs := #[.int .i64 0, .int .i64 0, .slice none 0 0]) (ty := 24) (by first | exact zP | exact zP.alloc _ | exact (zP.alloc _).alloc _ | exact Box.new _ _ _ | exact (Box.new _ _ _).alloc _ | exact Box.drewI (Box.new _ _ _) | exact Box.drewI ((Box.new _ _ _).alloc _)) hb8; (try (with_reducible replace zP := zP.at1)); have lzhb8 := zP.lt) | skip
             first | (have yP := Box.keepC (cs := #[.int .i64 ka, .int .i64 ha, .slice Aa na ca]) (ty := 24) (by first | exact yP | exact yP.alloc _ | exact (yP.alloc _).alloc _ | exact Box.new _ _ _ | exact (Box.new _ _ _).alloc _ | exact Box.drewI (Box.new _ _ _) | exact Box.drewI ((Box.new _ _ _).alloc _) | exact Box.at1 (Box.new _ _ _) | exact Box.drewI (Box.at1 (Box.new _ _ _))) hb8; (try (with_reducible replace yP := yP.at1))) | skip
             have HAP : Hid (∀ W' pr, Below w8.heap.size w8 W' → Box W' pr 24 #[.int .i64 ka, .int .i64 ha, .slice Aa na ca] → Calls Try.prog 17 #[.agg #[.int .i64 6, .int .i64 0, .slice A8 nv c8], .slice (some ⟨pr, 0, none⟩) 1 1, .int .i64 n] W' (fun e w' => TEnd t 0 W' e w' ∧ Hid (Below W5.heap.size W5 w'))) := Lib.hid fun W' pr h bx => by
                have := FillC (th := [u]) (t := .node 6 0 (vrs vs)) (n := n) (m := 1) (cL := 1) W' ⟨fun y hy _ => by rw [List.mem_singleton.1 hy]; exact okT_mono (by omega) _ HLO.out, rfl, Nat.le_refl _, by unfold maxLen; omega, rd_one (k := 0) (h := 0) bx (Rd.keep (cur_trans hcu8 h).out _ _ HVa.out)⟩ (Rd_node.2 ⟨A8, nv, c8, rfl, by decide, by decide, (vrs_len vs).trans HNV.out, hc8, hm8, fun i u hu => RdAt.keep h (hx8 i u hu)⟩) (fun _ => ok_node6 fun y hy => okT_mono (by omega) _ (HLL.out y hy))
                rw [HFI.out] at this
                exact this.mono fun e w' h' => ⟨h', cur_trans (cur_trans hcu8 h) h'.below⟩
             clear hx8 hb8))
      all_goals first
        | (obtain ⟨W6, hWf⟩ : ∃ Wf, w9.alloc (.cells #[.int .i64 kq, .int .i64 hq, .slice Aq nq cq] 24) = Wf := ⟨_, rfl⟩
           obtain ⟨pq, hpe⟩ : ∃ p, p = w9.heap.size := ⟨_, rfl⟩
           have xq : Box W6 pq 24 #[.int .i64 kq, .int .i64 hq, .slice Aq nq cq] := by rw [hpe, ← hWf]; exact Box.new _ _ _
           have hbF : Below W5.heap.size W5 W6 := by rw [← hWf]; exact (cur_alloc (by assumption) _).out
           have HVq : Hid (Rd W6 (t) (.agg #[.int .i64 kq, .int .i64 hq, .slice Aq nq cq])) := Lib.hid (by rw [← hWf]; exact rd_alloc HRq.out _)
           rw [hWf, ← hpe]
           clear hWf hpe)
        | (obtain ⟨W6, hWf⟩ : ∃ Wf, ((w9.setCell ⟨w8.heap.size, 0, none⟩ (.int .i64 kq)).setCell ⟨w8.heap.size, 1, none⟩ (.int .i64 hq)).setCell ⟨w8.heap.size, 2, none⟩ (.slice Aq nq cq) = Wf := ⟨_, rfl⟩
           obtain ⟨pq, hpe⟩ : ∃ p, p = w8.heap.size := ⟨_, rfl⟩
           have xq : Box W6 pq 24 #[.int .i64 kq, .int .i64 hq, .slice Aq nq cq] := by rw [hpe, ← hWf]; exact zP.put3 _ _ _
           have hbF : Below W5.heap.size W5 W6 := by rw [← hWf]; exact (cur_set3 (by assumption) (by omega) _ _ _).out
           have HVq : Hid (Rd W6 (t) (.agg #[.int .i64 kq, .int .i64 hq, .slice Aq nq cq])) := Lib.hid (by rw [← hWf]; exact rd_set3 HRq.out (by first | omega | (simp; omega) | simp))
           rw [hWf, ← hpe]
           clear hWf hpe)
        | (obtain ⟨W6, hWf⟩ : ∃ Wf, ((w9.setCell ⟨w8.heap.size + 1, 0, none⟩ (.int .i64 kq)).setCell ⟨w8.heap.size + 1, 1, none⟩ (.int .i64 hq)).setCell ⟨w8.heap.size + 1, 2, none⟩ (.slice Aq nq cq) = Wf := ⟨_, rfl⟩
           obtain ⟨pq, hpe⟩ : ∃ p, p = w8.heap.size + 1 := ⟨_, rfl⟩
           have xq : Box W6 pq 24 #[.int .i64 kq, .int .i64 hq, .slice Aq nq cq] := by rw [hpe, ← hWf]; exact zP.put3 _ _ _
           have hbF : Below W5.heap.size W5 W6 := by rw [← hWf]; exact (cur_set3 (by assumption) (by omega) _ _ _).out
           have HVq : Hid (Rd W6 (t) (.agg #[.int .i64 kq, .int .i64 hq, .slice Aq nq cq])) := Lib.hid (by rw [← hWf]; exact rd_set3 HRq.out (by first | omega | (simp; omega) | simp))
           rw [hWf, ← hpe]
           clear hWf hpe)
        | (obtain ⟨W6, hWf⟩ : ∃ Wf, ((w9.setCell ⟨W5.heap.size, 0, none⟩ (.int .i64 kq)).setCell ⟨W5.heap.size, 1, none⟩ (.int .i64 hq)).setCell ⟨W5.heap.size, 2, none⟩ (.slice Aq nq cq) = Wf := ⟨_, rfl⟩
           obtain ⟨pq, hpe⟩ : ∃ p, p = W5.heap.size := ⟨_, rfl⟩
           have xq : Box W6 pq 24 #[.int .i64 kq, .int .i64 hq, .slice Aq nq cq] := by rw [hpe, ← hWf]; exact zP.put3 _ _ _
           have hbF : Below W5.heap.size W5 W6 := by rw [← hWf]; exact (cur_set3 (by assumption) (by omega) _ _ _).out
           have HVq : Hid (Rd W6 (t) (.agg #[.int .i64 kq, .int .i64 hq, .slice Aq nq cq])) := Lib.hid (by rw [← hWf]; exact rd_set3 HRq.out (by first | omega | (simp; omega) | simp))
           rw [hWf, ← hpe]
           clear hWf hpe)
        | (obtain ⟨W6, hWf⟩ : ∃ Wf, ((w9.setCell ⟨W5.heap.size + 1, 0, none⟩ (.int .i64 kq)).setCell ⟨W5.heap.size + 1, 1, none⟩ (.int .i64 hq)).setCell ⟨W5.heap.size + 1, 2, none⟩ (.slice Aq nq cq) = Wf := ⟨_, rfl⟩
           obtain ⟨pq, hpe⟩ : ∃ p, p = W5.heap.size + 1 := ⟨_, rfl⟩
           have xq : Box W6 pq 24 #[.int .i64 kq, .int .i64 hq, .slice Aq nq cq] := by rw [hpe, ← hWf]; exact zP.put3 _ _ _
           have hbF : Below W5.heap.size W5 W6 := by rw [← hWf]; exact (cur_set3 (by assumption) (by omega) _ _ _).out
           have HVq : Hid (Rd W6 (t) (.agg #[.int .i64 kq, .int .i64 hq, .slice Aq nq cq])) := Lib.hid (by rw [← hWf]; exact rd_set3 HRq.out (by first | omega | (simp; omega) | simp))
           rw [hWf, ← hpe]
           clear hWf hpe)
      all_goals
        replace HVt := Lib.hid (Rd.keep hbF _ _ HVt.out)
        replace HVa := Lib.hid (Rd.keep hbF _ _ HVa.out)
        replace bxt := bxt.keep hbF bxt.lt
        replace bxa := bxa.keep hbF bxa.lt
        replace hb := hb.trans (hbF.mono hb.size)
        obtain ⟨pA, hpA⟩ : ∃ pA, pA = w5.heap.size := ⟨_, rfl⟩
        rw [← hpA] at bxa ⊢
        clear HMO hcu0 hfd hpA
        have HSM : Hid (∀ W', Hid (Below W6.heap.size W6 W') → Calls Try.prog 19 #[.agg #[.int .i64 kq, .int .i64 hq, .slice Aq nq cq], .agg #[.int .i64 kt, .int .i64 ht, .slice At nt ct]] W' (fun e w' => e = .returned (.bool true) ∧ Hid (Below W6.heap.size W6 w'))) := Lib.hid fun W' h =>
          (termSame t t _ _ W' (Rd.keep h.out _ _ HVq.out) (Rd.keep h.out _ _ HVt.out)).mono fun e w' h' => ⟨by rw [h'.1, sam_refl], cur_trans h h'.2⟩
        have HSU : Hid (∀ W', Hid (Below W6.heap.size W6 W') → Calls Try.prog 20 #[.agg #[.int .i64 ka, .int .i64 ha, .slice Aa na ca]] W' (fun e w' => e = .returned (.int .i64 (szW t)) ∧ Hid (Below W6.heap.size W6 w'))) := Lib.hid fun W' h =>
          (sizeC u _ W' (Rd.keep h.out _ _ HVa.out)).mono fun e w' h' => ⟨by rw [h'.1, HSZ.out], cur_trans h h'.2⟩
        have HST : Hid (∀ W', Hid (Below W6.heap.size W6 W') → Calls Try.prog 20 #[.agg #[.int .i64 kt, .int .i64 ht, .slice At nt ct]] W' (fun e w' => e = .returned (.int .i64 (szW t)) ∧ Hid (Below W6.heap.size W6 w'))) := Lib.hid fun W' h =>
          (sizeC t _ W' (Rd.keep h.out _ _ HVt.out)).mono fun e w' h' => ⟨h'.1, cur_trans h h'.2⟩
        generalize szW t = SZ at *
        have hsz : (SZ == SZ) = true := by simp
        clear HVq HVa HFI HLO HLL HWF HNX
        have HK : Hid (∀ w', Hid (Below W6.heap.size W6 w') → (w'.cell? ⟨pq, 0, none⟩ = some (.int .i64 kq) ∧ w'.cell? ⟨pq, 1, none⟩ = some (.int .i64 hq) ∧ w'.cell? ⟨pq, 2, none⟩ = some (.slice Aq nq cq) ∧ w'.cell? ⟨w.heap.size, 0, none⟩ = some (.int .i64 kt) ∧ w'.cell? ⟨w.heap.size, 1, none⟩ = some (.int .i64 ht) ∧ w'.cell? ⟨w.heap.size, 2, none⟩ = some (.slice At nt ct) ∧ w'.cell? ⟨pA, 0, none⟩ = some (.int .i64 ka) ∧ w'.cell? ⟨pA, 1, none⟩ = some (.int .i64 ha) ∧ w'.cell? ⟨pA, 2, none⟩ = some (.slice Aa na ca) ∧ Hid (Below W6.heap.size W6 w'))) := Lib.hid fun w' h => by
          have s0 := xq.keep h.out xq.lt
          have s1 := bxt.keep h.out bxt.lt
          have s2 := bxa.keep h.out bxa.lt
          exact ⟨s0.three.1, s0.three.2.1, s0.three.2.2, s1.three.1, s1.three.2.1, s1.three.2.2, s2.three.1, s2.three.2.1, s2.three.2.2, h⟩
        have hcu6 : Hid (Below W6.heap.size W6 W6.drew) := cur_drew
        clear bxt bxa xq hbF
        go_wp2_with fail
        go_region_held3 (fun w' => w'.cell? ⟨pq, 0, none⟩ = some (.int .i64 kq) ∧ w'.cell? ⟨pq, 1, none⟩ = some (.int .i64 hq) ∧ w'.cell? ⟨pq, 2, none⟩ = some (.slice Aq nq cq) ∧ w'.cell? ⟨w.heap.size, 0, none⟩ = some (.int .i64 kt) ∧ w'.cell? ⟨w.heap.size, 1, none⟩ = some (.int .i64 ht) ∧ w'.cell? ⟨w.heap.size, 2, none⟩ = some (.slice At nt ct) ∧ w'.cell? ⟨pA, 0, none⟩ = some (.int .i64 ka) ∧ w'.cell? ⟨pA, 1, none⟩ = some (.int .i64 ha) ∧ w'.cell? ⟨pA, 2, none⟩ = some (.slice Aa na ca) ∧ Hid (Below W6.heap.size W6 w'))
          (first | exact HK.out _ (by assumption))
          (first
            | (go_at_call 19
               with_reducible refine Calls.mono (HSM.out _ ?hh) ?_
               case hh => assumption
               rintro e w10 ⟨rfl, hcu10⟩)
            | (go_at_call 20
               with_reducible refine Calls.mono (HSU.out _ ?hh) ?_
               case hh => assumption
               rintro e w11 ⟨rfl, hcu11⟩)
            | (go_at_call 20
               with_reducible refine Calls.mono (HST.out _ ?hh) ?_
               case hh => assumption
               rintro e w12 ⟨rfl, hcu12⟩))
        go_wp2_with fail
        go_ret
        exact ⟨rfl, hb.trans (hcu12.out.mono hb.size)⟩
end Go.Proofs.Ytdllbljjlaipoaa
