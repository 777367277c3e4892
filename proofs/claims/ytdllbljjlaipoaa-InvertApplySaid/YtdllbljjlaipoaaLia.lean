/-
  The walk of the law InvertApply.
-/
import Derived.Test.YtdllbljjlaipoaaIk
import Derived.Test.YtdllbljjlaipoaaIi
import Derived.Test.YtdllbljjlaipoaaSn
import Derived.Test.YtdllbljjlaipoaaSa
namespace Go.Proofs.Ytdllbljjlaipoaa
open Go.ChangeShapes Go.WideShapes Go.ChangeAt Go.RowKit
set_option linter.unusedVariables false

set_option maxRecDepth 100000 in
set_option maxHeartbeats 8000000 in
theorem invertApplyC (t : T) (vs : List Int) (V0 : Option Addr) (nv c0v : Nat) (n : Int) (v : Value) (w : World) (hvt : Rd w t v) (hnv : vs.length = nv) (hnc : nv ≤ c0v) (hnm : c0v ≤ maxLen) (hx : ∀ i z, vs[i]? = some z → ∃ b o, V0 = some ⟨b, o, none⟩ ∧ w.cell? ⟨b, o + i, none⟩ = some (.int .i64 z)) :
    Calls Try.prog 8 #[v, .slice V0 nv c0v, .int .i64 n] w fun e w' => e = .returned (.bool true) ∧ Below w.heap.size w w' := by
  have HNV := Lib.hid hnv; clear hnv
  have HNC := Lib.hid hnc
  have HNM := Lib.hid hnm
  have HNX : Hid (∀ W, Below w.heap.size w W → ∀ i z, vs[i]? = some z → ∃ b o, V0 = some ⟨b, o, none⟩ ∧ W.cell? ⟨b, o + i, none⟩ = some (.int .i64 z)) := Lib.hid fun W hb i z hz => by
    obtain ⟨b, o, e, h⟩ := hx i z hz
    exact ⟨b, o, e, (hb.cell (cell_lt h)).trans h⟩
  clear hx
  unfold maxLen at hnm
  obtain ⟨kt, ht, At, nt, ct, rfl⟩ := hvt.full
  have HVt := Lib.hid hvt; clear hvt
  obtain ⟨W0, hW0⟩ : ∃ W0, (w.alloc (.cells #[.int .i64 kt, .int .i64 ht, .slice At nt ct] 24)) = W0 := ⟨_, rfl⟩
  have hb : Below w.heap.size w W0 := by rw [← hW0]; exact ((Below.refl _ _).alloc (Nat.le_refl _) _)
  have bxt : Box W0 (w.heap.size) 24 #[.int .i64 kt, .int .i64 ht, .slice At nt ct] := by rw [← hW0]; exact (Box.new w _ _)
  replace HVt := Lib.hid (Rd.keep hb _ _ HVt.out)
  have HW0 := Lib.hid hW0; clear hW0
  go_enter Try.func8, Try.ntmps8
  go_wp2_with fail
  rw [HW0.out]
  clear HW0
  refine (awakeI _).mono ?_
  rintro e w1 ⟨rfl, hb1⟩
  replace bxt := bxt.keep hb1 bxt.lt
  replace HVt := Lib.hid (Rd.keep hb1 _ _ HVt.out)
  replace hb := hb.trans (hb1.mono hb.size)
  clear hb1
  obtain ⟨bxt0, bxt1, bxt2⟩ := bxt.three
  have bxtl := bxt.lt
  go_wp2_with fail
  refine (refLight t 1000 60 _ _ HVt.out).mono ?_
  have HLt : Hid (ltB t 1000 60 = true → ltB t 1000 60 = true) := Lib.hid fun e => e
  generalize hqt : ltB t 1000 60 = Rt at *
  rintro e w2t ⟨rfl, hb1⟩
  have HQt := Lib.hid hqt; clear hqt HLt
  clear bxt0 bxt1 bxt2 bxtl
  replace bxt := bxt.keep hb1 bxt.lt
  replace HVt := Lib.hid (Rd.keep hb1 _ _ HVt.out)
  replace hb := hb.trans (hb1.mono hb.size)
  clear hb1
  obtain ⟨bxt0, bxt1, bxt2⟩ := bxt.three
  have bxtl := bxt.lt
  cases Rt
  · go_wp2_with fail
    go_ret
    exact ⟨rfl, hb⟩
  go_wp2_with fail
  refine (myC t _ _ HVt.out).mono ?_
  generalize hqt : myB t = Mt at *
  rintro e w3t ⟨rfl, hb1⟩
  have HMt := Lib.hid hqt; clear hqt
  clear bxt0 bxt1 bxt2 bxtl
  replace bxt := bxt.keep hb1 bxt.lt
  replace HVt := Lib.hid (Rd.keep hb1 _ _ HVt.out)
  replace hb := hb.trans (hb1.mono hb.size)
  clear hb1
  obtain ⟨bxt0, bxt1, bxt2⟩ := bxt.three
  have bxtl := bxt.lt
  cases Mt
  · go_wp2_with fail
    go_ret
    exact ⟨rfl, hb⟩
  have KNt : Hid (Kn 1000 60 t) := Lib.hid (kn_of HQt.out HMt.out); clear HQt HMt
  by_cases x1 : (20 : Int) < nv
  · have dx1 : decide ((20 : Int) < nv) = true := by simpa using x1
    go_wp2_with fail
    go_ret
    exact ⟨rfl, hb⟩
  have dx1 : decide ((20 : Int) < nv) = false := by simpa using x1
  have hl20 : nv ≤ 20 := by omega
  have hlv : vs.length ≤ 1000 := by have := HNV.out; omega
  have hs : nd t ≤ 1048576 := by have := ((myB_iff t).1 KNt.out.my).2.1; omega
  have HI1 := Lib.hid (InvertC t vs V0 nv c0v n _ w3t HVt.out hs HNV.out HNC.out HNM.out (HNX.out _ hb))
  have HCS := Lib.hid (ivR_cases KNt.out vs n hlv)
  generalize ivR t vs n = R at *
  clear hs
  go_wp2_with fail
  refine HI1.out.mono ?_
  clear HI1
  rintro e w4 ⟨ka, ha, Aa, na, ca, rfl, hra, hb1⟩
  have HRa := Lib.hid hra; clear hra
  clear bxt0 bxt1 bxt2 bxtl
  replace bxt := bxt.keep hb1 bxt.lt
  replace HVt := Lib.hid (Rd.keep hb1 _ _ HVt.out)
  replace hb := hb.trans (hb1.mono hb.size)
  clear hb1
  have bxa := Box.new w4 24 #[.int .i64 ka, .int .i64 ha, .slice Aa na ca]
  have hbA : Below w4.heap.size w4 (w4.alloc (.cells #[.int .i64 ka, .int .i64 ha, .slice Aa na ca] 24)) := (Below.refl _ _).alloc (Nat.le_refl _) _
  obtain ⟨a0, a1, a2⟩ := bxa.three
  have hbw := hb.trans (hbA.mono hb.size)
  have herr : ∀ x, R = .error x → na = 0 := fun x hx => by have h := HRa.out; rw [hx] at h; exact leaf_len h
  rcases HCS.out with ⟨hn, hv, ⟨u, hR, hu⟩ | ⟨hR, _⟩⟩ | hR
  rotate_left 1
  · have hz := herr _ hR
    subst hz
    subst hR
    clear HRa HCS herr
    simp only [ivE]
    go_wp2_with fail
    go_ret
    exact ⟨rfl, hbw⟩
  · have hz := herr _ hR
    subst hz
    subst hR
    clear HRa HCS herr
    simp only [ivE]
    go_wp2_with fail
    go_ret
    exact ⟨rfl, hbw⟩
  subst hR
  clear herr HCS
  have hap := iv_apply (M := 1099511627776) hv hn (by have := HNV.out; omega) (okT_of t KNt.out.nod KNt.out.lo) KNt.out.my hu
  have hlo := iv_low KNt.out hn hlv hu
  have HAP := Lib.hid hap; clear hap
  have HLO := Lib.hid hlo; clear hlo
  have hlL := vrs_low hn.2 hv
  have HLL := Lib.hid hlL; clear hlL
  have hwf := vrs_wf hn.2 hv
  have HWF := Lib.hid hwf; clear hwf hn hv hu
  have HVa : Hid (Rd w4 u (.agg #[.int .i64 ka, .int .i64 ha, .slice Aa na ca])) := Lib.hid (RdF.rd _ _ HRa.out)
  clear HRa
  replace HVa := Lib.hid (Rd.keep hbA _ _ HVa.out)
  replace HVt := Lib.hid (Rd.keep hbA _ _ HVt.out)
  replace bxt := bxt.keep hbA bxt.lt
  obtain ⟨W5, hW5⟩ : ∃ W5, w4.alloc (.cells #[.int .i64 ka, .int .i64 ha, .slice Aa na ca] 24) = W5 := ⟨_, rfl⟩
  rw [hW5] at hbw HVa HVt bxt bxa hbA a0 a1 a2
  simp only [ivE]
  go_wp2_with fail
  try rw [hW5]
  have hfd : ∀ (A : Option Addr) (n c : Nat) (W : World), (Instr.field 24 (.agg #[.int .i64 6, .int .i64 0, .slice A n c]) 2).run Try.prog W = .ok (.slice A n c) W := fun A n c W => by kernel_rfl
  have s45 := hbA.size
  have la := bxa.lt
  have lt := bxt.lt
  clear hW5 hb a0 a1 a2 hbA
  have HMO : Hid (∀ W', Hid (Below W5.heap.size W5 W') → Calls Try.prog 18 #[.slice V0 nv c0v] W' (fun e w' => (∃ A c, e = .returned (.agg #[.int .i64 6, .int .i64 0, .slice A nv c]) ∧ nv ≤ c ∧ c ≤ maxLen ∧ (∀ i t, (vrs vs)[i]? = some t → RdAt w' A i t) ∧ Below W'.heap.size W' w') ∧ Hid (Below W5.heap.size W5 w'))) := Lib.hid fun W' h =>
    (metaOfC vs V0 nv c0v W' HNV.out HNC.out HNM.out (by omega) (HNX.out _ (hbw.trans (h.out.mono hbw.size))) HWF.out).mono fun e w' h' => ⟨h', by obtain ⟨_, _, _, _, _, _, hb'⟩ := h'; exact cur_trans h hb'⟩
  have HK : Hid (∀ w', Hid (Below W5.heap.size W5 w') → (w'.cell? ⟨w4.heap.size, 0, none⟩ = some (.int .i64 ka) ∧ w'.cell? ⟨w4.heap.size, 1, none⟩ = some (.int .i64 ha) ∧ w'.cell? ⟨w4.heap.size, 2, none⟩ = some (.slice Aa na ca) ∧ Hid (Below W5.heap.size W5 w'))) := Lib.hid fun w' h => by
    have s0 := bxa.keep h.out bxa.lt
    exact ⟨s0.three.1, s0.three.2.1, s0.three.2.2, h⟩
  have hcu0 : Hid (Below W5.heap.size W5 W5.drew) := cur_drew
  go_region_held3 (fun w' => w'.cell? ⟨w4.heap.size, 0, none⟩ = some (.int .i64 ka) ∧ w'.cell? ⟨w4.heap.size, 1, none⟩ = some (.int .i64 ha) ∧ w'.cell? ⟨w4.heap.size, 2, none⟩ = some (.slice Aa na ca) ∧ Hid (Below W5.heap.size W5 w'))
    (first | exact HK.out _ (by assumption) | exact HK.out _ (cur_alloc (by assumption) _) | exact HK.out _ (cur_alloc (cur_alloc (by assumption) _) _) | exact HK.out _ (Lib.hid (((Below.refl _ _).alloc (Nat.le_refl _) _).drew)) | exact HK.out _ (Lib.hid ((((Below.refl _ _).alloc (Nat.le_refl _) _).alloc (by simp) _).drew)) | exact HK.out _ (cur_set3 (by assumption) (by omega) _ _ _))
    (first
      | (go_at_call 23
         with_reducible refine Calls.mono (HAC.out _ ?hh) ?_
         case hh => first | exact Below.refl _ w8 | exact (Below.refl _ w8).alloc (Nat.le_refl _) _ | exact ((Below.refl _ w8).alloc (Nat.le_refl _) _).alloc (by simp) _
         rintro e w9 ⟨⟨kq, hq, Aq, nq, cq, rfl, hrd, hb9⟩, hcu9⟩
         first | (have zP := Box.keepC (cs := #[.int .i64 0, .int .i64 0, .slice none 0 0]) (ty := 24) (by first | exact zP | exact zP.alloc _ | exact (zP.alloc _).alloc _ | exact Box.new _ _ _ | exact (Box.new _ _ _).alloc _ | exact Box.drewI (Box.new _ _ _) | exact Box.drewI ((Box.new _ _ _).alloc _)) hb9; (try (with_reducible replace zP := zP.at1)); have lzhb9 := zP.lt) | skip
         have hs9 := hcu9.out.size
         have HRq := Lib.hid hrd
         first | (obtain ⟨z0, z1, z2⟩ := zP.three; have fz0 := zP.frozen 0; have fz1 := zP.frozen 1; have fz2 := zP.frozen 2) | skip
         clear hrd hb9)
      | (go_at_call 18
         with_reducible refine Calls.mono (HMO.out _ ?hh) ?_
         case hh => first | assumption | exact cur_alloc (by assumption) _ | exact cur_alloc (cur_alloc (by assumption) _) _ | exact Lib.hid (((Below.refl _ _).alloc (Nat.le_refl _) _).drew) | exact Lib.hid ((((Below.refl _ _).alloc (Nat.le_refl _) _).alloc (by simp) _).drew)
         rintro e w8 ⟨⟨A8, c8, rfl, hc8, hm8, hx8, hb8⟩, hcu8⟩
         have hs8 := hcu8.out.size
         first | (have zP := Box.keepC (cs := #[.int .i64 0, .int .i64 0, .slice none 0 0]) (ty := 24) (by first | exact zP | exact zP.alloc _ | exact (zP.alloc _).alloc _ | exact Box.new _ _ _ | exact (Box.new _ _ _).alloc _ | exact Box.drewI (Box.new _ _ _) | exact Box.drewI ((Box.new _ _ _).alloc _)) hb8; (try (with_reducible replace zP := zP.at1)); have lzhb8 := zP.lt) | skip
         have HAC : Hid (∀ W', Below w8.heap.size w8 W' → Calls Try.prog 23 #[.agg #[.int .i64 ka, .int .i64 ha, .slice Aa na ca], .agg #[.slice A8 nv c8, .int .i64 n]] W' (fun e w' => TEnd t 0 W' e w' ∧ Hid (Below W5.heap.size W5 w'))) := Lib.hid fun W' h => by
            have := ApplyC (w := W') (t := u) (L := vrs vs) (sh := n) (Rd.keep (cur_trans hcu8 h).out _ _ HVa.out) ((vrs_len vs).trans HNV.out) hc8 hm8 (fun i x hx => RdAt.keep h (hx8 i x hx)) (fun _ => okT_mono (by omega) _ HLO.out) (fun x hx _ => okT_mono (by omega) _ (HLL.out x hx))
            rw [HAP.out.1, HAP.out.2.1] at this
            exact this.mono fun e w' h' => ⟨h', by obtain ⟨_, _, _, _, _, _, _, hb'⟩ := h'; exact cur_trans (cur_trans hcu8 h) hb'⟩
         clear hx8 hb8))
  all_goals first
    | (obtain ⟨W6, hWf⟩ : ∃ Wf, w9.alloc (.cells #[.int .i64 kq, .int .i64 hq, .slice Aq nq cq] 24) = Wf := ⟨_, rfl⟩
       obtain ⟨pq, hpe⟩ : ∃ p, p = w9.heap.size := ⟨_, rfl⟩
       have xq : Box W6 pq 24 #[.int .i64 kq, .int .i64 hq, .slice Aq nq cq] := by rw [hpe, ← hWf]; exact Box.new _ _ _
       have hbF : Below W5.heap.size W5 W6 := by rw [← hWf]; exact (cur_alloc (by assumption) _).out
       have HVq : Hid (Rd W6 (t) (.agg #[.int .i64 kq, .int .i64 hq, .slice Aq nq cq])) := Lib.hid (by rw [← hWf]; exact rd_alloc HRq.out _)
       rw [hWf, ← hpe]
       clear hWf hpe)
    | (obtain ⟨W6, hWf⟩ : ∃ Wf, ((w9.setCell ⟨w8.heap.size, 0, none⟩ (.int .i64 kq)).setCell ⟨w8.heap.size, 1, none⟩ (.int .i64 hq)).setCell ⟨w8.heap.size, 2, none⟩ (.slice Aq nq cq) = Wf := ⟨_, rfl⟩
       obtain ⟨pq, hpe⟩ : ∃ p, p = w8.heap.size := ⟨_, rfl⟩
       have xq : Box W6 pq 24 #[.int .i64 kq, .int .i64 hq, .slice Aq nq cq] := by rw [hpe, ← hWf]; exact zP.put3 _ _ _
       have hbF : Below W5.heap.size W5 W6 := by rw [← hWf]; exact (cur_set3 (by assumption) (by omega) _ _ _).out
       have HVq : Hid (Rd W6 (t) (.agg #[.int .i64 kq, .int .i64 hq, .slice Aq nq cq])) := Lib.hid (by rw [← hWf]; exact rd_set3 HRq.out (by first | omega | (simp; omega) | simp))
       rw [hWf, ← hpe]
       clear hWf hpe)
    | (obtain ⟨W6, hWf⟩ : ∃ Wf, ((w9.setCell ⟨W5.heap.size, 0, none⟩ (.int .i64 kq)).setCell ⟨W5.heap.size, 1, none⟩ (.int .i64 hq)).setCell ⟨W5.heap.size, 2, none⟩ (.slice Aq nq cq) = Wf := ⟨_, rfl⟩
       obtain ⟨pq, hpe⟩ : ∃ p, p = W5.heap.size := ⟨_, rfl⟩
       have xq : Box W6 pq 24 #[.int .i64 kq, .int .i64 hq, .slice Aq nq cq] := by rw [hpe, ← hWf]; exact zP.put3 _ _ _
       have hbF : Below W5.heap.size W5 W6 := by rw [← hWf]; exact (cur_set3 (by assumption) (by omega) _ _ _).out
       have HVq : Hid (Rd W6 (t) (.agg #[.int .i64 kq, .int .i64 hq, .slice Aq nq cq])) := Lib.hid (by rw [← hWf]; exact rd_set3 HRq.out (by first | omega | (simp; omega) | simp))
       rw [hWf, ← hpe]
       clear hWf hpe)
  all_goals
    replace HVt := Lib.hid (Rd.keep hbF _ _ HVt.out)
    replace bxt := bxt.keep hbF bxt.lt
    replace hbw := hbw.trans (hbF.mono hbw.size)
    obtain ⟨q0, q1, q2⟩ := xq.three
    obtain ⟨t0, t1, t2⟩ := bxt.three
    clear hfd HMO hcu0
    go_wp2_with fail
    with_reducible refine (termSame t t _ _ _ HVq.out HVt.out).mono ?_
    rw [sam_refl]
    rintro e u1 ⟨rfl, hb1⟩
    go_wp2_with fail
    go_ret
    exact ⟨rfl, hbw.trans (hb1.mono hbw.size)⟩
end Go.Proofs.Ytdllbljjlaipoaa
