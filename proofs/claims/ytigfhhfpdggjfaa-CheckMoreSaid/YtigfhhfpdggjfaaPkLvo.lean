/-
  The walk of the law CheckOne.
-/
import Derived.Test.YtigfhhfpdggjfaaPkVr
import Derived.Test.YtigfhhfpdggjfaaPkVs
namespace Go.Proofs.Ytigfhhfpdggjfaa
open Go.ChangeShapes Go.WideShapes Go.ChangeAt Go.RowKit
set_option linter.unusedVariables false

mutual
theorem sam_eqV : ∀ (t u : T), samB t u = true → t = u
  | .node k h xs, .node k' h' ys, e => by
    rw [samB] at e
    simp only [Bool.and_eq_true, beq_iff_eq] at e
    obtain ⟨⟨⟨rfl, rfl⟩, hl⟩, hs⟩ := e
    rw [sam_eqLV xs ys hl hs]
theorem sam_eqLV : ∀ (xs ys : List T), xs.length = ys.length → samL xs ys = true → xs = ys
  | [], [], _, _ => rfl
  | x :: xs, y :: ys, hl, e => by
    rw [samL, Bool.and_eq_true] at e
    rw [sam_eqV x y e.1, sam_eqLV xs ys (by simpa using hl) e.2]
end
theorem ck_ok {W : WV} {cx : List T} {m a : T} (h : ckT W cx m a = 0) : mayV W cx [m, a] = true ∧ tmV W m cx a = 0 := by
  unfold ckT at h
  split at h
  · rename_i h1; exact ⟨h1, h⟩
  · cases h
theorem ck_scoped {W : WV} {cx : List T} {m a : T} {metas : Int} (h : ckT W cx m a = 0) (hm : metas = W.ms.length) : scB m cx.length metas = true := by
  obtain ⟨h1, h2⟩ := ck_ok h
  obtain ⟨y1, y2, y3, y4, y5⟩ := (mayV_iff W cx [m, a]).1 h1
  have ym := (myB_iff m).1 (y3 m (by simp))
  subst hm
  exact (scB_iff _ m _ (by omega) (by omega)).2 (tm_scoped m cx a ym.1 h2)
theorem ck_same {W : WV} {cx : List T} {m a b : T} (ha : kdQ a = 2) (hb : kdQ b = 2) (h : ckT W cx m a = 0) (h' : ckT W cx m b = 0) : samB a b = true := by
  obtain ⟨_, h2⟩ := ck_ok h
  obtain ⟨_, h3⟩ := ck_ok h'
  obtain ⟨k, hd, xs⟩ := m
  by_cases hk : k = 3
  · subst hk
    rw [tmV, if_pos rfl, if_neg (by rw [ha]; omega)] at h2
    cases h2
  · obtain ⟨_, t, hc, hs⟩ := tm_neu_ok hk h2
    obtain ⟨_, t', hc', hs'⟩ := tm_neu_ok hk h3
    rw [hc] at hc'
    cases hc'
    rw [← sam_eqV t a hs, ← sam_eqV t b hs']
    exact sam_refl t
set_option maxRecDepth 100000 in
set_option maxHeartbeats 16000000 in
theorem checkOneC (W : WV) (cx : List T) (m a b : T) (As : Option Addr) (ns cs : Nat) (Am : Option Addr) (nm cm : Nat) (Ac : Option Addr) (nc cc : Nat) (vm va vb : Value) (w : World) (hk : CkV w W cx As ns cs Am nm cm Ac nc cc) (hvp : Rd w m vm) (hvq : Rd w a va) (hvr : Rd w b vb) :
    Calls Try.prog 5 #[.slice As ns cs, .slice Am nm cm, .slice Ac nc cc, vm, va, vb] w fun e w' => e = .returned (.bool true) ∧ Below w.heap.size w w' := by
  have hcl := hk.cx.len
  have hml := hk.ms.len
  obtain ⟨rF, hrF⟩ : ∃ r, fwV W cx ns nm = r := ⟨_, rfl⟩
  obtain ⟨rm, hrm⟩ : ∃ r, ltB m 500 80 = r := ⟨_, rfl⟩
  obtain ⟨ra, hra⟩ : ∃ r, ltB a 500 80 = r := ⟨_, rfl⟩
  obtain ⟨rb, hrb⟩ : ∃ r, ltB b 500 80 = r := ⟨_, rfl⟩
  have HRF := Lib.hid hrF; clear hrF
  have HRm := Lib.hid hrm; clear hrm
  have HRa := Lib.hid hra; clear hra
  have HRb := Lib.hid hrb; clear hrb
  obtain ⟨kp, hp, Ap, np, cp, rfl⟩ := hvp.full
  have HVp := Lib.hid hvp; clear hvp
  obtain ⟨kq, hq, Aq, nq, cq, rfl⟩ := hvq.full
  have HVq := Lib.hid hvq; clear hvq
  obtain ⟨kr, hr, Ar, nr, cr, rfl⟩ := hvr.full
  have HVr := Lib.hid hvr; clear hvr
  have HK := Lib.hid hk; clear hk
  obtain ⟨w0, hW⟩ : ∃ w0, (((w.alloc (.cells #[.int .i64 kp, .int .i64 hp, .slice Ap np cp] 26)).alloc (.cells #[.int .i64 kq, .int .i64 hq, .slice Aq nq cq] 26)).alloc (.cells #[.int .i64 kr, .int .i64 hr, .slice Ar nr cr] 26)) = w0 := ⟨_, rfl⟩
  have hb0 : Below w.heap.size w w0 := by rw [← hW]; exact ((((Below.refl _ _).alloc (by exact Nat.le_refl _) _).alloc (by simp) _).alloc (by simp; omega) _)
  have Xp := Lib.hid (show Box w0 (w.heap.size) 26 #[.int .i64 kp, .int .i64 hp, .slice Ap np cp] by rw [← hW]; exact (((Box.new w _ _).alloc _).alloc _))
  have Xq := Lib.hid (show Box w0 (w.heap.size + 1) 26 #[.int .i64 kq, .int .i64 hq, .slice Aq nq cq] by rw [← hW]; exact (((Box.new (w.alloc _) _ _).at (by simp)).alloc _))
  have Xr := Lib.hid (show Box w0 (w.heap.size + 1 + 1) 26 #[.int .i64 kr, .int .i64 hr, .slice Ar nr cr] by rw [← hW]; exact ((Box.new ((w.alloc _).alloc _) _ _).at (by simp)))
  have HB := Lib.hid hb0; clear hb0
  go_enter Try.func5, Try.ntmps5
  go_wp2_with fail
  clear hW
  refine (vAwakeC _).mono ?_
  rintro e w1 ⟨rfl, hb1⟩
  replace Xp := Lib.hid (Xp.out.keep hb1 Xp.out.lt)
  replace Xq := Lib.hid (Xq.out.keep hb1 Xq.out.lt)
  replace Xr := Lib.hid (Xr.out.keep hb1 Xr.out.lt)
  replace HB := Lib.hid (HB.out.trans (hb1.mono HB.out.size))
  clear hb1
  obtain ⟨bp0, bp1, bp2⟩ := Xp.out.three
  obtain ⟨bq0, bq1, bq2⟩ := Xq.out.three
  obtain ⟨br0, br1, br2⟩ := Xr.out.three
  go_wp2_with fail
  clear bp0 bp1 bp2
  clear bq0 bq1 bq2
  clear br0 br1 br2
  have HC := Lib.hid (vFewC W cx As Am Ac ns cs nm cm nc cc _ (HK.out.keep HB.out))
  rw [HRF.out] at HC
  refine (HC.out).mono ?_
  rintro e w2 ⟨rfl, hb1⟩
  replace Xp := Lib.hid (Xp.out.keep hb1 Xp.out.lt)
  replace Xq := Lib.hid (Xq.out.keep hb1 Xq.out.lt)
  replace Xr := Lib.hid (Xr.out.keep hb1 Xr.out.lt)
  replace HB := Lib.hid (HB.out.trans (hb1.mono HB.out.size))
  clear hb1
  clear HC
  obtain ⟨bp0, bp1, bp2⟩ := Xp.out.three
  obtain ⟨bq0, bq1, bq2⟩ := Xq.out.three
  obtain ⟨br0, br1, br2⟩ := Xr.out.three
  go_wp2_with fail
  clear bp0 bp1 bp2
  clear bq0 bq1 bq2
  clear br0 br1 br2
  have HC := Lib.hid (refLight m 500 80 _ _ (Rd.keep HB.out _ _ HVp.out))
  rw [HRm.out] at HC
  refine (HC.out).mono ?_
  rintro e w3 ⟨rfl, hb1⟩
  replace Xp := Lib.hid (Xp.out.keep hb1 Xp.out.lt)
  replace Xq := Lib.hid (Xq.out.keep hb1 Xq.out.lt)
  replace Xr := Lib.hid (Xr.out.keep hb1 Xr.out.lt)
  replace HB := Lib.hid (HB.out.trans (hb1.mono HB.out.size))
  clear hb1
  clear HC
  obtain ⟨bp0, bp1, bp2⟩ := Xp.out.three
  obtain ⟨bq0, bq1, bq2⟩ := Xq.out.three
  obtain ⟨br0, br1, br2⟩ := Xr.out.three
  go_wp2_with fail
  clear bp0 bp1 bp2
  clear bq0 bq1 bq2
  clear br0 br1 br2
  have HC := Lib.hid (refLight a 500 80 _ _ (Rd.keep HB.out _ _ HVq.out))
  rw [HRa.out] at HC
  refine (HC.out).mono ?_
  rintro e w4 ⟨rfl, hb1⟩
  replace Xp := Lib.hid (Xp.out.keep hb1 Xp.out.lt)
  replace Xq := Lib.hid (Xq.out.keep hb1 Xq.out.lt)
  replace Xr := Lib.hid (Xr.out.keep hb1 Xr.out.lt)
  replace HB := Lib.hid (HB.out.trans (hb1.mono HB.out.size))
  clear hb1
  clear HC
  obtain ⟨bp0, bp1, bp2⟩ := Xp.out.three
  obtain ⟨bq0, bq1, bq2⟩ := Xq.out.three
  obtain ⟨br0, br1, br2⟩ := Xr.out.three
  go_wp2_with fail
  clear bp0 bp1 bp2
  clear bq0 bq1 bq2
  clear br0 br1 br2
  have HC := Lib.hid (refLight b 500 80 _ _ (Rd.keep HB.out _ _ HVr.out))
  rw [HRb.out] at HC
  refine (HC.out).mono ?_
  rintro e w5 ⟨rfl, hb1⟩
  replace Xp := Lib.hid (Xp.out.keep hb1 Xp.out.lt)
  replace Xq := Lib.hid (Xq.out.keep hb1 Xq.out.lt)
  replace Xr := Lib.hid (Xr.out.keep hb1 Xr.out.lt)
  replace HB := Lib.hid (HB.out.trans (hb1.mono HB.out.size))
  clear hb1
  clear HC
  obtain ⟨bp0, bp1, bp2⟩ := Xp.out.three
  obtain ⟨bq0, bq1, bq2⟩ := Xq.out.three
  obtain ⟨br0, br1, br2⟩ := Xr.out.three
  cases rF
  · go_wp2_with fail
    go_ret
    exact ⟨rfl, HB.out⟩
  clear bp0 bp1 bp2
  clear bq0 bq1 bq2
  clear br0 br1 br2
  obtain ⟨bp0, bp1, bp2⟩ := Xp.out.three
  obtain ⟨bq0, bq1, bq2⟩ := Xq.out.three
  obtain ⟨br0, br1, br2⟩ := Xr.out.three
  cases rm
  · go_wp2_with fail
    go_ret
    exact ⟨rfl, HB.out⟩
  clear bp0 bp1 bp2
  clear bq0 bq1 bq2
  clear br0 br1 br2
  obtain ⟨bp0, bp1, bp2⟩ := Xp.out.three
  obtain ⟨bq0, bq1, bq2⟩ := Xq.out.three
  obtain ⟨br0, br1, br2⟩ := Xr.out.three
  cases ra
  · go_wp2_with fail
    go_ret
    exact ⟨rfl, HB.out⟩
  clear bp0 bp1 bp2
  clear bq0 bq1 bq2
  clear br0 br1 br2
  obtain ⟨bp0, bp1, bp2⟩ := Xp.out.three
  obtain ⟨bq0, bq1, bq2⟩ := Xq.out.three
  obtain ⟨br0, br1, br2⟩ := Xr.out.three
  cases rb
  · go_wp2_with fail
    go_ret
    exact ⟨rfl, HB.out⟩
  clear bp0 bp1 bp2
  clear bq0 bq1 bq2
  clear br0 br1 br2
  have hlo := loV_of HRF.out
  have HLO := Lib.hid hlo; clear hlo
  obtain ⟨e1, he1⟩ : ∃ e, ckT W cx m a = e := ⟨_, rfl⟩
  have HC := Lib.hid (vCheckTermC W cx m a As ns cs Am nm cm Ac nc cc _ _ _ (HK.out.keep HB.out) (Rd.keep HB.out _ _ HVp.out) (Rd.keep HB.out _ _ HVq.out) HLO.out (lo_lt HRm.out) (lo_lt HRa.out))
  rw [he1] at HC
  have HE1 := Lib.hid he1; clear he1
  obtain ⟨bp0, bp1, bp2⟩ := Xp.out.three
  obtain ⟨bq0, bq1, bq2⟩ := Xq.out.three
  obtain ⟨br0, br1, br2⟩ := Xr.out.three
  go_wp2_with fail
  clear bp0 bp1 bp2
  clear bq0 bq1 bq2
  clear br0 br1 br2
  refine (HC.out).mono ?_
  rintro e w6 ⟨rfl, hb1⟩
  replace Xp := Lib.hid (Xp.out.keep hb1 Xp.out.lt)
  replace Xq := Lib.hid (Xq.out.keep hb1 Xq.out.lt)
  replace Xr := Lib.hid (Xr.out.keep hb1 Xr.out.lt)
  replace HB := Lib.hid (HB.out.trans (hb1.mono HB.out.size))
  clear hb1
  clear HC
  by_cases hz : e1 = 0
  case' neg =>
    have hd : (e1 != 0) = true := by simpa using hz
    go_wp2_with fail
    go_ret
    exact ⟨rfl, HB.out⟩
  subst hz
  have HSC := Lib.hid (ck_scoped HE1.out (metas := nm) (by omega))
  rw [hcl] at HSC
  have hnc := (few_len HRF.out).2.2
  have hwn : wrap64 (nc : Int) = (nc : Int) := wrap_small (by omega) (by omega)
  have hka := (rdF_kind HVq.out).1
  have hkb := (rdF_kind HVr.out).1
  by_cases hf : kq = 2 ∧ kr = 2
  case' neg =>
    have hsp : kq ≠ 2 ∨ (kq = 2 ∧ kr ≠ 2) := by omega
    rcases hsp with h2 | ⟨h2, h3⟩
    · have hd2 : (kq == 2) = false := by simpa using h2
      obtain ⟨bp0, bp1, bp2⟩ := Xp.out.three
      obtain ⟨bq0, bq1, bq2⟩ := Xq.out.three
      obtain ⟨br0, br1, br2⟩ := Xr.out.three
      go_wp2_with fail
      clear bp0 bp1 bp2
      clear bq0 bq1 bq2
      clear br0 br1 br2
      have HC := Lib.hid (scopedC m (nc : Int) (nm : Int) _ _ (Rd.keep HB.out _ _ HVp.out) hwn)
      rw [HSC.out] at HC
      refine (HC.out).mono ?_
      rintro e w9 ⟨rfl, hb1⟩
      replace Xp := Lib.hid (Xp.out.keep hb1 Xp.out.lt)
      replace Xq := Lib.hid (Xq.out.keep hb1 Xq.out.lt)
      replace Xr := Lib.hid (Xr.out.keep hb1 Xr.out.lt)
      replace HB := Lib.hid (HB.out.trans (hb1.mono HB.out.size))
      clear hb1
      clear HC
      go_wp2_with fail
      go_ret
      exact ⟨rfl, HB.out⟩
    · subst h2
      have hd2 : (kr == 2) = false := by simpa using h3
      obtain ⟨bp0, bp1, bp2⟩ := Xp.out.three
      obtain ⟨bq0, bq1, bq2⟩ := Xq.out.three
      obtain ⟨br0, br1, br2⟩ := Xr.out.three
      go_wp2_with fail
      clear bp0 bp1 bp2
      clear bq0 bq1 bq2
      clear br0 br1 br2
      have HC := Lib.hid (scopedC m (nc : Int) (nm : Int) _ _ (Rd.keep HB.out _ _ HVp.out) hwn)
      rw [HSC.out] at HC
      refine (HC.out).mono ?_
      rintro e w9 ⟨rfl, hb1⟩
      replace Xp := Lib.hid (Xp.out.keep hb1 Xp.out.lt)
      replace Xq := Lib.hid (Xq.out.keep hb1 Xq.out.lt)
      replace Xr := Lib.hid (Xr.out.keep hb1 Xr.out.lt)
      replace HB := Lib.hid (HB.out.trans (hb1.mono HB.out.size))
      clear hb1
      clear HC
      go_wp2_with fail
      go_ret
      exact ⟨rfl, HB.out⟩
  obtain ⟨rfl, rfl⟩ := hf
  obtain ⟨e2, he2⟩ : ∃ e, ckT W cx m b = e := ⟨_, rfl⟩
  have HC := Lib.hid (vCheckTermC W cx m b As ns cs Am nm cm Ac nc cc _ _ _ (HK.out.keep HB.out) (Rd.keep HB.out _ _ HVp.out) (Rd.keep HB.out _ _ HVr.out) HLO.out (lo_lt HRm.out) (lo_lt HRb.out))
  rw [he2] at HC
  have HE2 := Lib.hid he2; clear he2
  obtain ⟨bp0, bp1, bp2⟩ := Xp.out.three
  obtain ⟨bq0, bq1, bq2⟩ := Xq.out.three
  obtain ⟨br0, br1, br2⟩ := Xr.out.three
  go_wp2_with fail
  clear bp0 bp1 bp2
  clear bq0 bq1 bq2
  clear br0 br1 br2
  refine (HC.out).mono ?_
  rintro e w7 ⟨rfl, hb1⟩
  replace Xp := Lib.hid (Xp.out.keep hb1 Xp.out.lt)
  replace Xq := Lib.hid (Xq.out.keep hb1 Xq.out.lt)
  replace Xr := Lib.hid (Xr.out.keep hb1 Xr.out.lt)
  replace HB := Lib.hid (HB.out.trans (hb1.mono HB.out.size))
  clear hb1
  clear HC
  by_cases hz2 : e2 = 0
  case' neg =>
    have hd : (e2 == 0) = false := by simpa using hz2
    obtain ⟨bp0, bp1, bp2⟩ := Xp.out.three
    obtain ⟨bq0, bq1, bq2⟩ := Xq.out.three
    obtain ⟨br0, br1, br2⟩ := Xr.out.three
    go_wp2_with fail
    clear bp0 bp1 bp2
    clear bq0 bq1 bq2
    clear br0 br1 br2
    have HC := Lib.hid (scopedC m (nc : Int) (nm : Int) _ _ (Rd.keep HB.out _ _ HVp.out) hwn)
    rw [HSC.out] at HC
    refine (HC.out).mono ?_
    rintro e w10 ⟨rfl, hb1⟩
    replace Xp := Lib.hid (Xp.out.keep hb1 Xp.out.lt)
    replace Xq := Lib.hid (Xq.out.keep hb1 Xq.out.lt)
    replace Xr := Lib.hid (Xr.out.keep hb1 Xr.out.lt)
    replace HB := Lib.hid (HB.out.trans (hb1.mono HB.out.size))
    clear hb1
    clear HC
    go_wp2_with fail
    go_ret
    exact ⟨rfl, HB.out⟩
  subst hz2
  have HSM := Lib.hid (ck_same hka hkb HE1.out HE2.out)
  obtain ⟨bp0, bp1, bp2⟩ := Xp.out.three
  obtain ⟨bq0, bq1, bq2⟩ := Xq.out.three
  obtain ⟨br0, br1, br2⟩ := Xr.out.three
  go_wp2_with fail
  clear bp0 bp1 bp2
  clear bq0 bq1 bq2
  clear br0 br1 br2
  have HC := Lib.hid (scopedC m (nc : Int) (nm : Int) _ _ (Rd.keep HB.out _ _ HVp.out) hwn)
  rw [HSC.out] at HC
  refine (HC.out).mono ?_
  rintro e w8 ⟨rfl, hb1⟩
  replace Xp := Lib.hid (Xp.out.keep hb1 Xp.out.lt)
  replace Xq := Lib.hid (Xq.out.keep hb1 Xq.out.lt)
  replace Xr := Lib.hid (Xr.out.keep hb1 Xr.out.lt)
  replace HB := Lib.hid (HB.out.trans (hb1.mono HB.out.size))
  clear hb1
  clear HC
  obtain ⟨bp0, bp1, bp2⟩ := Xp.out.three
  obtain ⟨bq0, bq1, bq2⟩ := Xq.out.three
  obtain ⟨br0, br1, br2⟩ := Xr.out.three
  go_wp2_with fail
  clear bp0 bp1 bp2
  clear bq0 bq1 bq2
  clear br0 br1 br2
  have HC := Lib.hid (termSame a b _ _ _ (Rd.keep HB.out _ _ HVq.out) (Rd.keep HB.out _ _ HVr.out))
  rw [HSM.out] at HC
  refine (HC.out).mono ?_
  rintro e w9 ⟨rfl, hb1⟩
  replace Xp := Lib.hid (Xp.out.keep hb1 Xp.out.lt)
  replace Xq := Lib.hid (Xq.out.keep hb1 Xq.out.lt)
  replace Xr := Lib.hid (Xr.out.keep hb1 Xr.out.lt)
  replace HB := Lib.hid (HB.out.trans (hb1.mono HB.out.size))
  clear hb1
  clear HC
  go_wp2_with fail
  go_ret
  exact ⟨rfl, HB.out⟩

end Go.Proofs.Ytigfhhfpdggjfaa
