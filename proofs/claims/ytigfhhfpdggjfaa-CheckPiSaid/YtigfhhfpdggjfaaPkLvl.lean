/-
  The walk of the law CheckLam.
-/
import Derived.Test.YtigfhhfpdggjfaaPkLvf
import Derived.Test.YtigfhhfpdggjfaaPkVt
namespace Go.Proofs.Ytigfhhfpdggjfaa
open Go.ChangeShapes Go.WideShapes Go.ChangeAt Go.RowKit
set_option linter.unusedVariables false

theorem my_lamV {m : T} (hm : myB m = true) (hn : nd m ≤ 400) (hd : dp m ≤ 55) : myB (.node 3 0 [m]) = true := by
  have h1 := ((myB_iff m).1 hm).1
  refine (myB_iff _).2 ⟨by simp [nodB, nodL, okN, h1], by simp only [nd, ndL]; omega, by simp only [dp, dpL]; omega⟩
theorem my_piV {a b : T} (ha : myB a = true) (hb : myB b = true) (hn : nd a ≤ 400) (hd : dp a ≤ 55) (hn2 : nd b ≤ 400) (hd2 : dp b ≤ 55) : myB (.node 1 0 [a, b]) = true := by
  have h1 := ((myB_iff a).1 ha).1
  have h2 := ((myB_iff b).1 hb).1
  refine (myB_iff _).2 ⟨by simp [nodB, nodL, okN, h1, h2], by simp only [nd, ndL]; omega, by simp only [dp, dpL]; omega⟩
theorem lt_nd {t : T} {s d : Nat} (h : ltB t s d = true) (hm : myB t = true) : nd t ≤ s ∧ dp t ≤ d := by
  have h4 := ((myB_iff t).1 hm).2.1
  rw [ltB, szW_small (by omega), dpW_eq t (by omega)] at h
  simp only [Bool.and_eq_true, decide_eq_true_eq] at h
  omega
theorem may_more {W : WV} {cx : List T} {a : T} {l l2 : List T} (ha : myB a = true) (hl : cx.length ≤ 60) (h2 : l.all myB = l2.all myB) : mayV W cx l = mayV W (cx ++ [a]) l2 := by
  unfold mayV
  rw [List.length_append, List.length_singleton, decide_eq_true (by omega), decide_eq_true (by omega), List.all_append, h2]
  simp [ha]
theorem ck_lam {W : WV} {cx : List T} {m a b : T} (hm : myB m = true) (ha : myB a = true) (hb : myB b = true) (km : nd m ≤ 400 ∧ dp m ≤ 55) (ka : nd a ≤ 400 ∧ dp a ≤ 55) (kb : nd b ≤ 400 ∧ dp b ≤ 55) (hl : cx.length ≤ 60) :
    ckT W cx (.node 3 0 [m]) (.node 1 0 [a, b]) = ckT W (cx ++ [a]) m b := by
  unfold ckT
  rw [may_more (W := W) (a := a) (l2 := [m, b]) ha hl (by simp [my_lamV hm km.1 km.2, my_piV ha hb ka.1 ka.2 kb.1 kb.2, hm, hb]), tm_lam]
  rfl
theorem ck_lam_no {W : WV} {cx : List T} {m a : T} (h : ckT W cx (.node 3 0 [m]) a = 0) : kdQ a = 1 := by
  obtain ⟨_, h2⟩ := ck_ok h
  rw [tm_lam] at h2
  by_cases hk : kdQ a = 1
  · exact hk
  · rw [if_neg hk] at h2; cases h2
theorem lo_lamV {m : T} (h : okT loV m) : okT loV (.node 3 0 [m]) := by rw [okT, okL, okL]; exact ⟨fun e => by omega, h, trivial⟩
theorem lo_piV {a b : T} (h : okT loV a) (h2 : okT loV b) : okT loV (.node 1 0 [a, b]) := by rw [okT, okL, okL, okL]; exact ⟨fun e => by omega, h, h2, trivial⟩
theorem loV_more {W : WV} {cx : List T} {a : T} (L : LoV W cx) (ha : okT loV a) : LoV W (cx ++ [a]) := ⟨L.sg, L.ms, fun t ht hm => by
  rcases List.mem_append.1 ht with ht | ht
  · exact L.cx t ht hm
  · rw [List.mem_singleton.1 ht]; exact ha⟩
set_option maxRecDepth 100000 in
set_option maxHeartbeats 16000000 in
theorem checkLamC (sg cx : List T) (m a b : T) (As : Option Addr) (ns cs : Nat) (Ac : Option Addr) (nc cc : Nat) (vm va vb : Value) (w : World) (hk : CkV w ⟨sg, []⟩ cx As ns cs none 0 0 Ac nc cc) (hvp : Rd w m vm) (hvq : Rd w a va) (hvr : Rd w b vb) :
    Calls Try.prog 8 #[.slice As ns cs, .slice Ac nc cc, vm, va, vb] w fun e w' => e = .returned (.bool true) ∧ Below w.heap.size w w' := by
  have hcl := hk.cx.len
  obtain ⟨rF, hrF⟩ : ∃ r, fwV ⟨sg, []⟩ cx ns 0 = r := ⟨_, rfl⟩
  obtain ⟨rm, hrm⟩ : ∃ r, ltB m 400 55 = r := ⟨_, rfl⟩
  obtain ⟨ra, hra⟩ : ∃ r, ltB a 400 55 = r := ⟨_, rfl⟩
  obtain ⟨rb, hrb⟩ : ∃ r, ltB b 400 55 = r := ⟨_, rfl⟩
  have HRF := Lib.hid hrF; clear hrF
  have HRm := Lib.hid hrm; clear hrm
  have HRa := Lib.hid hra; clear hra
  have HRb := Lib.hid hrb; clear hrb
  obtain ⟨kp, hp, Ap, np, cp, rfl⟩ := hvp.full
  have HVp := Lib.hid hvp; clear hvp
  obtain ⟨kq, hq, Aq, nq, cq, rfl⟩ := hvq.full
  have HVq := Lib.hid hvq; clear hvq
  obtain ⟨kr, hr, Ar, nr, cr, rfl⟩ := hvr.full
  have HVr := Lib.hid hvr; clear hvr
  have HK := Lib.hid hk; clear hk
  obtain ⟨w0, hW⟩ : ∃ w0, (((w.alloc (.cells #[.int .i64 kp, .int .i64 hp, .slice Ap np cp] 26)).alloc (.cells #[.int .i64 kq, .int .i64 hq, .slice Aq nq cq] 26)).alloc (.cells #[.int .i64 kr, .int .i64 hr, .slice Ar nr cr] 26)) = w0 := ⟨_, rfl⟩
  have hb0 : Below w.heap.size w w0 := by rw [← hW]; exact ((((Below.refl _ _).alloc (by exact Nat.le_refl _) _).alloc (by simp) _).alloc (by simp; omega) _)
  have Xp := Lib.hid (show Box w0 (w.heap.size) 26 #[.int .i64 kp, .int .i64 hp, .slice Ap np cp] by rw [← hW]; exact (((Box.new w _ _).alloc _).alloc _))
  have Xq := Lib.hid (show Box w0 (w.heap.size + 1) 26 #[.int .i64 kq, .int .i64 hq, .slice Aq nq cq] by rw [← hW]; exact (((Box.new (w.alloc _) _ _).at (by simp)).alloc _))
  have Xr := Lib.hid (show Box w0 (w.heap.size + 1 + 1) 26 #[.int .i64 kr, .int .i64 hr, .slice Ar nr cr] by rw [← hW]; exact ((Box.new ((w.alloc _).alloc _) _ _).at (by simp)))
  have HB := Lib.hid hb0; clear hb0
  go_enter Try.func8, Try.ntmps8
  go_wp2_with fail
  clear hW
  refine (vAwakeC _).mono ?_
  rintro e w1 ⟨rfl, hb1⟩
  replace Xp := Lib.hid (Xp.out.keep hb1 Xp.out.lt)
  replace Xq := Lib.hid (Xq.out.keep hb1 Xq.out.lt)
  replace Xr := Lib.hid (Xr.out.keep hb1 Xr.out.lt)
  replace HB := Lib.hid (HB.out.trans (hb1.mono HB.out.size))
  clear hb1
  obtain ⟨bp0, bp1, bp2⟩ := Xp.out.three
  obtain ⟨bq0, bq1, bq2⟩ := Xq.out.three
  obtain ⟨br0, br1, br2⟩ := Xr.out.three
  go_wp2_with fail
  clear bp0 bp1 bp2
  clear bq0 bq1 bq2
  clear br0 br1 br2
  have HC := Lib.hid (vFewC ⟨sg, []⟩ cx As none Ac ns cs 0 0 nc cc _ (HK.out.keep HB.out))
  rw [HRF.out] at HC
  refine (HC.out).mono ?_
  rintro e w2 ⟨rfl, hb1⟩
  replace Xp := Lib.hid (Xp.out.keep hb1 Xp.out.lt)
  replace Xq := Lib.hid (Xq.out.keep hb1 Xq.out.lt)
  replace Xr := Lib.hid (Xr.out.keep hb1 Xr.out.lt)
  replace HB := Lib.hid (HB.out.trans (hb1.mono HB.out.size))
  clear hb1
  clear HC
  obtain ⟨bp0, bp1, bp2⟩ := Xp.out.three
  obtain ⟨bq0, bq1, bq2⟩ := Xq.out.three
  obtain ⟨br0, br1, br2⟩ := Xr.out.three
  go_wp2_with fail
  clear bp0 bp1 bp2
  clear bq0 bq1 bq2
  clear br0 br1 br2
  have HC := Lib.hid (refLight m 400 55 _ _ (Rd.keep HB.out _ _ HVp.out))
  rw [HRm.out] at HC
  refine (HC.out).mono ?_
  rintro e w3 ⟨rfl, hb1⟩
  replace Xp := Lib.hid (Xp.out.keep hb1 Xp.out.lt)
  replace Xq := Lib.hid (Xq.out.keep hb1 Xq.out.lt)
  replace Xr := Lib.hid (Xr.out.keep hb1 Xr.out.lt)
  replace HB := Lib.hid (HB.out.trans (hb1.mono HB.out.size))
  clear hb1
  clear HC
  obtain ⟨bp0, bp1, bp2⟩ := Xp.out.three
  obtain ⟨bq0, bq1, bq2⟩ := Xq.out.three
  obtain ⟨br0, br1, br2⟩ := Xr.out.three
  go_wp2_with fail
  clear bp0 bp1 bp2
  clear bq0 bq1 bq2
  clear br0 br1 br2
  have HC := Lib.hid (refLight a 400 55 _ _ (Rd.keep HB.out _ _ HVq.out))
  rw [HRa.out] at HC
  refine (HC.out).mono ?_
  rintro e w4 ⟨rfl, hb1⟩
  replace Xp := Lib.hid (Xp.out.keep hb1 Xp.out.lt)
  replace Xq := Lib.hid (Xq.out.keep hb1 Xq.out.lt)
  replace Xr := Lib.hid (Xr.out.keep hb1 Xr.out.lt)
  replace HB := Lib.hid (HB.out.trans (hb1.mono HB.out.size))
  clear hb1
  clear HC
  obtain ⟨bp0, bp1, bp2⟩ := Xp.out.three
  obtain ⟨bq0, bq1, bq2⟩ := Xq.out.three
  obtain ⟨br0, br1, br2⟩ := Xr.out.three
  go_wp2_with fail
  clear bp0 bp1 bp2
  clear bq0 bq1 bq2
  clear br0 br1 br2
  have HC := Lib.hid (refLight b 400 55 _ _ (Rd.keep HB.out _ _ HVr.out))
  rw [HRb.out] at HC
  refine (HC.out).mono ?_
  rintro e w5 ⟨rfl, hb1⟩
  replace Xp := Lib.hid (Xp.out.keep hb1 Xp.out.lt)
  replace Xq := Lib.hid (Xq.out.keep hb1 Xq.out.lt)
  replace Xr := Lib.hid (Xr.out.keep hb1 Xr.out.lt)
  replace HB := Lib.hid (HB.out.trans (hb1.mono HB.out.size))
  clear hb1
  clear HC
  obtain ⟨bp0, bp1, bp2⟩ := Xp.out.three
  obtain ⟨bq0, bq1, bq2⟩ := Xq.out.three
  obtain ⟨br0, br1, br2⟩ := Xr.out.three
  cases rF
  · go_wp2_with fail
    go_ret
    exact ⟨rfl, HB.out⟩
  clear bp0 bp1 bp2
  clear bq0 bq1 bq2
  clear br0 br1 br2
  obtain ⟨bp0, bp1, bp2⟩ := Xp.out.three
  obtain ⟨bq0, bq1, bq2⟩ := Xq.out.three
  obtain ⟨br0, br1, br2⟩ := Xr.out.three
  cases rm
  · go_wp2_with fail
    go_ret
    exact ⟨rfl, HB.out⟩
  clear bp0 bp1 bp2
  clear bq0 bq1 bq2
  clear br0 br1 br2
  obtain ⟨bp0, bp1, bp2⟩ := Xp.out.three
  obtain ⟨bq0, bq1, bq2⟩ := Xq.out.three
  obtain ⟨br0, br1, br2⟩ := Xr.out.three
  cases ra
  · go_wp2_with fail
    go_ret
    exact ⟨rfl, HB.out⟩
  clear bp0 bp1 bp2
  clear bq0 bq1 bq2
  clear br0 br1 br2
  obtain ⟨bp0, bp1, bp2⟩ := Xp.out.three
  obtain ⟨bq0, bq1, bq2⟩ := Xq.out.three
  obtain ⟨br0, br1, br2⟩ := Xr.out.three
  cases rb
  · go_wp2_with fail
    go_ret
    exact ⟨rfl, HB.out⟩
  clear bp0 bp1 bp2
  clear bq0 bq1 bq2
  clear br0 br1 br2
  have HLO := Lib.hid (loV_of HRF.out)
  have hnc := (few_len HRF.out).2.2
  obtain ⟨bp0, bp1, bp2⟩ := Xp.out.three
  obtain ⟨bq0, bq1, bq2⟩ := Xq.out.three
  obtain ⟨br0, br1, br2⟩ := Xr.out.three
  go_wp2_with fail
  clear bp0 bp1 bp2
  clear bq0 bq1 bq2
  clear br0 br1 br2
  obtain ⟨ya, hya⟩ : ∃ r, myB a = r := ⟨_, rfl⟩
  have HC := Lib.hid (myC a _ _ (Rd.keep HB.out _ _ HVq.out))
  rw [hya] at HC
  have HYa := Lib.hid hya; clear hya
  refine (HC.out).mono ?_
  rintro e w6 ⟨rfl, hb1⟩
  replace Xp := Lib.hid (Xp.out.keep hb1 Xp.out.lt)
  replace Xq := Lib.hid (Xq.out.keep hb1 Xq.out.lt)
  replace Xr := Lib.hid (Xr.out.keep hb1 Xr.out.lt)
  replace HB := Lib.hid (HB.out.trans (hb1.mono HB.out.size))
  clear hb1
  clear HC
  obtain ⟨bp0, bp1, bp2⟩ := Xp.out.three
  obtain ⟨bq0, bq1, bq2⟩ := Xq.out.three
  obtain ⟨br0, br1, br2⟩ := Xr.out.three
  cases ya
  · go_wp2_with fail
    go_ret
    exact ⟨rfl, HB.out⟩
  clear bp0 bp1 bp2
  clear bq0 bq1 bq2
  clear br0 br1 br2
  obtain ⟨bp0, bp1, bp2⟩ := Xp.out.three
  obtain ⟨bq0, bq1, bq2⟩ := Xq.out.three
  obtain ⟨br0, br1, br2⟩ := Xr.out.three
  go_wp2_with fail
  clear bp0 bp1 bp2
  clear bq0 bq1 bq2
  clear br0 br1 br2
  obtain ⟨yb, hyb⟩ : ∃ r, myB b = r := ⟨_, rfl⟩
  have HC := Lib.hid (myC b _ _ (Rd.keep HB.out _ _ HVr.out))
  rw [hyb] at HC
  have HYb := Lib.hid hyb; clear hyb
  refine (HC.out).mono ?_
  rintro e w7 ⟨rfl, hb1⟩
  replace Xp := Lib.hid (Xp.out.keep hb1 Xp.out.lt)
  replace Xq := Lib.hid (Xq.out.keep hb1 Xq.out.lt)
  replace Xr := Lib.hid (Xr.out.keep hb1 Xr.out.lt)
  replace HB := Lib.hid (HB.out.trans (hb1.mono HB.out.size))
  clear hb1
  clear HC
  obtain ⟨bp0, bp1, bp2⟩ := Xp.out.three
  obtain ⟨bq0, bq1, bq2⟩ := Xq.out.three
  obtain ⟨br0, br1, br2⟩ := Xr.out.three
  cases yb
  · go_wp2_with fail
    go_ret
    exact ⟨rfl, HB.out⟩
  clear bp0 bp1 bp2
  clear bq0 bq1 bq2
  clear br0 br1 br2
  obtain ⟨bp0, bp1, bp2⟩ := Xp.out.three
  obtain ⟨bq0, bq1, bq2⟩ := Xq.out.three
  obtain ⟨br0, br1, br2⟩ := Xr.out.three
  go_wp2_with fail
  clear bp0 bp1 bp2
  clear bq0 bq1 bq2
  clear br0 br1 br2
  obtain ⟨ym, hym⟩ : ∃ r, myB m = r := ⟨_, rfl⟩
  have HC := Lib.hid (myC m _ _ (Rd.keep HB.out _ _ HVp.out))
  rw [hym] at HC
  have HYm := Lib.hid hym; clear hym
  refine (HC.out).mono ?_
  rintro e w8 ⟨rfl, hb1⟩
  replace Xp := Lib.hid (Xp.out.keep hb1 Xp.out.lt)
  replace Xq := Lib.hid (Xq.out.keep hb1 Xq.out.lt)
  replace Xr := Lib.hid (Xr.out.keep hb1 Xr.out.lt)
  replace HB := Lib.hid (HB.out.trans (hb1.mono HB.out.size))
  clear hb1
  clear HC
  obtain ⟨bp0, bp1, bp2⟩ := Xp.out.three
  obtain ⟨bq0, bq1, bq2⟩ := Xq.out.three
  obtain ⟨br0, br1, br2⟩ := Xr.out.three
  cases ym
  · go_wp2_with fail
    go_ret
    exact ⟨rfl, HB.out⟩
  clear bp0 bp1 bp2
  clear bq0 bq1 bq2
  clear br0 br1 br2
  have KM := Lib.hid (lt_nd HRm.out HYm.out)
  have KA := Lib.hid (lt_nd HRa.out HYa.out)
  have KB := Lib.hid (lt_nd HRb.out HYb.out)

  obtain ⟨v1, hv1⟩ : ∃ x, w8.alloc (.cells #[.int .i64 kp, .int .i64 hp, .slice Ap np cp] 26) = x := ⟨_, rfl⟩
  have hbv1 : Below w8.heap.size w8 v1 := by rw [← hv1]; exact (Below.refl _ _).alloc (Nat.le_refl _) _
  have z1 : Box v1 w8.heap.size 26 #[.int .i64 kp, .int .i64 hp, .slice Ap np cp] := by rw [← hv1]; exact Box.new _ _ _
  obtain ⟨v2, hv2⟩ : ∃ x, v1.alloc (.cells #[.int .i64 3, .int .i64 0, .slice (some ⟨w8.heap.size, 0, none⟩) 1 1] 26) = x := ⟨_, rfl⟩
  have hbv2 : Below v1.heap.size v1 v2 := by rw [← hv2]; exact (Below.refl _ _).alloc (Nat.le_refl _) _
  have z2 : Box v2 v1.heap.size 26 #[.int .i64 3, .int .i64 0, .slice (some ⟨w8.heap.size, 0, none⟩) 1 1] := by rw [← hv2]; exact Box.new _ _ _
  obtain ⟨v3, hv3⟩ : ∃ x, v2.alloc (.cells #[.int .i64 kq, .int .i64 hq, .slice Aq nq cq, .int .i64 kr, .int .i64 hr, .slice Ar nr cr] 26) = x := ⟨_, rfl⟩
  have hbv3 : Below v2.heap.size v2 v3 := by rw [← hv3]; exact (Below.refl _ _).alloc (Nat.le_refl _) _
  have z3 : Box v3 v2.heap.size 26 #[.int .i64 kq, .int .i64 hq, .slice Aq nq cq, .int .i64 kr, .int .i64 hr, .slice Ar nr cr] := by rw [← hv3]; exact Box.new _ _ _
  obtain ⟨v4, hv4⟩ : ∃ x, v3.alloc (.cells #[.int .i64 1, .int .i64 0, .slice (some ⟨w8.heap.size + 1 + 1, 0, none⟩) 2 2] 26) = x := ⟨_, rfl⟩
  have hbv4 : Below v3.heap.size v3 v4 := by rw [← hv4]; exact (Below.refl _ _).alloc (Nat.le_refl _) _
  have z4 : Box v4 v3.heap.size 26 #[.int .i64 1, .int .i64 0, .slice (some ⟨w8.heap.size + 1 + 1, 0, none⟩) 2 2] := by rw [← hv4]; exact Box.new _ _ _
  have hb24 := hbv3.trans (hbv4.mono hbv3.size)
  have hb14 := hbv2.trans (hb24.mono hbv2.size)
  have hb04 := hbv1.trans (hb14.mono hbv1.size)
  have sz1 : v1.heap.size = w8.heap.size + 1 := by rw [← hv1]; simp
  have sz2 : v2.heap.size = w8.heap.size + 1 + 1 := by rw [← hv2]; simp [sz1]
  have sz3 : v3.heap.size = w8.heap.size + 1 + 1 + 1 := by rw [← hv3]; simp [sz2]
  obtain ⟨bp0, bp1, bp2⟩ := Xp.out.three
  have Xq1 := Xq.out.keep hbv1 Xq.out.lt
  have Xr1 := Xr.out.keep hbv1 Xr.out.lt
  have Xq2 := Xq1.keep hbv2 Xq1.lt
  have Xr2 := Xr1.keep hbv2 Xr1.lt
  obtain ⟨bq0, bq1, bq2⟩ := Xq2.three
  obtain ⟨br0, br1, br2⟩ := Xr2.three
  have Y1 := z1.keep hb14 z1.lt
  have Y2 := (z2.keep hb24 z2.lt).at sz1
  have Y3 := (z3.keep hbv4 z3.lt).at sz2
  have Y4 := z4.at sz3
  have HBm := Lib.hid (HB.out.trans (hb04.mono HB.out.size))
  have HRL := Lib.hid (rd_node1 Y1 (Rd.keep HBm.out _ _ HVp.out) (wfV (by omega) (by omega)) (wfV (by omega) (by omega)) : Rd v4 (.node 3 0 [m]) (.agg #[.int .i64 3, .int .i64 0, .slice (some ⟨w8.heap.size, 0, none⟩) 1 1]))
  have HRP := Lib.hid (Rd_node.2 ⟨_, _, _, rfl, wfV (by omega) (by omega), wfV (by omega) (by omega), rfl, Nat.le_refl _, by unfold maxLen; omega, rd_two Y3 (Rd.keep HBm.out _ _ HVq.out) (Rd.keep HBm.out _ _ HVr.out)⟩ : Rd v4 (.node 1 0 [a, b]) (.agg #[.int .i64 1, .int .i64 0, .slice (some ⟨w8.heap.size + 1 + 1, 0, none⟩) 2 2]))
  have HY2 := Lib.hid Y2
  have HZ4 := Lib.hid Y4
  replace Xp := Lib.hid (Xp.out.keep hb04 Xp.out.lt)
  replace Xq := Lib.hid (Xq2.keep hb24 Xq2.lt)
  replace Xr := Lib.hid (Xr2.keep hb24 Xr2.lt)
  clear z1 z2 z3 z4 Y1 Y2 Y3 Xq1 Xr1 Xq2 Xr2 hbv1 hbv2 hbv3 hbv4 hb24 hb14 hb04
  go_wp2_with fail
  clear hv1 hv2 hv3 hv4 bp0 bp1 bp2 bq0 bq1 bq2 br0 br1 br2
  obtain ⟨bp0, bp1, bp2⟩ := Xp.out.three
  obtain ⟨bq0, bq1, bq2⟩ := Xq.out.three
  obtain ⟨br0, br1, br2⟩ := Xr.out.three
  obtain ⟨lp0, lp1, lp2⟩ := HY2.out.three
  obtain ⟨pp0, pp1, pp2⟩ := HZ4.out.three
  have HCL := Lib.hid (HK.out.keep HBm.out).cx
  have HRA := Lib.hid (Rd.keep HBm.out _ _ HVq.out)
  have HRB := Lib.hid (Rd.keep HBm.out _ _ HVr.out)
  have HRM := Lib.hid (Rd.keep HBm.out _ _ HVp.out)
  have hnc2 : nc ≤ 60 := by omega
  clear sz1 sz2 sz3
  have HKS : Hid (∀ w' : World, Below v4.heap.size v4 w' → (fun w' => w'.cell? ⟨w.heap.size, 0, none⟩ = some (.int .i64 kp) ∧ w'.cell? ⟨w.heap.size, 1, none⟩ = some (.int .i64 hp) ∧ w'.cell? ⟨w.heap.size, 2, none⟩ = some (.slice Ap np cp) ∧ w'.cell? ⟨w.heap.size + 1, 0, none⟩ = some (.int .i64 kq) ∧ w'.cell? ⟨w.heap.size + 1, 1, none⟩ = some (.int .i64 hq) ∧ w'.cell? ⟨w.heap.size + 1, 2, none⟩ = some (.slice Aq nq cq) ∧ w'.cell? ⟨w.heap.size + 1 + 1, 0, none⟩ = some (.int .i64 kr) ∧ w'.cell? ⟨w.heap.size + 1 + 1, 1, none⟩ = some (.int .i64 hr) ∧ w'.cell? ⟨w.heap.size + 1 + 1, 2, none⟩ = some (.slice Ar nr cr) ∧ w'.cell? ⟨w8.heap.size + 1, 0, none⟩ = some (.int .i64 3) ∧ w'.cell? ⟨w8.heap.size + 1, 1, none⟩ = some (.int .i64 0) ∧ w'.cell? ⟨w8.heap.size + 1, 2, none⟩ = some (.slice (some ⟨w8.heap.size, 0, none⟩) 1 1) ∧ w'.cell? ⟨w8.heap.size + 1 + 1 + 1, 0, none⟩ = some (.int .i64 1) ∧ w'.cell? ⟨w8.heap.size + 1 + 1 + 1, 1, none⟩ = some (.int .i64 0) ∧ w'.cell? ⟨w8.heap.size + 1 + 1 + 1, 2, none⟩ = some (.slice (some ⟨w8.heap.size + 1 + 1, 0, none⟩) 2 2)) w') := Lib.hid fun w' h => ⟨(h.cell (cell_lt bp0)).trans bp0, (h.cell (cell_lt bp1)).trans bp1, (h.cell (cell_lt bp2)).trans bp2, (h.cell (cell_lt bq0)).trans bq0, (h.cell (cell_lt bq1)).trans bq1, (h.cell (cell_lt bq2)).trans bq2, (h.cell (cell_lt br0)).trans br0, (h.cell (cell_lt br1)).trans br1, (h.cell (cell_lt br2)).trans br2, (h.cell (cell_lt lp0)).trans lp0, (h.cell (cell_lt lp1)).trans lp1, (h.cell (cell_lt lp2)).trans lp2, (h.cell (cell_lt pp0)).trans pp0, (h.cell (cell_lt pp1)).trans pp1, (h.cell (cell_lt pp2)).trans pp2⟩
  have hbd : Below v4.heap.size v4 v4.drew := (Below.refl _ v4).drew
  refine wp_region_held_drew (S := fun w' => w'.cell? ⟨w.heap.size, 0, none⟩ = some (.int .i64 kp) ∧ w'.cell? ⟨w.heap.size, 1, none⟩ = some (.int .i64 hp) ∧ w'.cell? ⟨w.heap.size, 2, none⟩ = some (.slice Ap np cp) ∧ w'.cell? ⟨w.heap.size + 1, 0, none⟩ = some (.int .i64 kq) ∧ w'.cell? ⟨w.heap.size + 1, 1, none⟩ = some (.int .i64 hq) ∧ w'.cell? ⟨w.heap.size + 1, 2, none⟩ = some (.slice Aq nq cq) ∧ w'.cell? ⟨w.heap.size + 1 + 1, 0, none⟩ = some (.int .i64 kr) ∧ w'.cell? ⟨w.heap.size + 1 + 1, 1, none⟩ = some (.int .i64 hr) ∧ w'.cell? ⟨w.heap.size + 1 + 1, 2, none⟩ = some (.slice Ar nr cr) ∧ w'.cell? ⟨w8.heap.size + 1, 0, none⟩ = some (.int .i64 3) ∧ w'.cell? ⟨w8.heap.size + 1, 1, none⟩ = some (.int .i64 0) ∧ w'.cell? ⟨w8.heap.size + 1, 2, none⟩ = some (.slice (some ⟨w8.heap.size, 0, none⟩) 1 1) ∧ w'.cell? ⟨w8.heap.size + 1 + 1 + 1, 0, none⟩ = some (.int .i64 1) ∧ w'.cell? ⟨w8.heap.size + 1 + 1 + 1, 1, none⟩ = some (.int .i64 0) ∧ w'.cell? ⟨w8.heap.size + 1 + 1 + 1, 2, none⟩ = some (.slice (some ⟨w8.heap.size + 1 + 1, 0, none⟩) 2 2)) (by kernel_rfl) (HKS.out _ hbd) (fun hS => ?_)
  simp only [List.size_toArray, List.length_cons, List.length_nil, Nat.reduceAdd]
  refine wpAnyH_take (i := 0) (v := .slice Ac nc cc) rfl (by kernel_rfl) (by kernel_rfl) (by kernel_rfl) (fun _ _ _ h => h) (Or.inl ⟨by kernel_rfl, ?_⟩) hS ?_
  · intro w' hSw
    obtain ⟨s0, s1, s2, s3, s4, s5, s6, s7, s8, s9, s10, s11, s12, s13, s14⟩ := hSw
    go_simp
  try simp only [Act.put, List.setIfInBounds_toArray]
  refine wpAnyH_take (i := 2) (v := .agg #[.int .i64 kq, .int .i64 hq, .slice Aq nq cq]) rfl (by kernel_rfl) (by kernel_rfl) (by kernel_rfl) (fun _ _ _ h => h) (Or.inl ⟨by kernel_rfl, ?_⟩) hS ?_
  · intro w' hSw
    obtain ⟨s0, s1, s2, s3, s4, s5, s6, s7, s8, s9, s10, s11, s12, s13, s14⟩ := hSw
    go_simp
  try simp only [Act.put]
  refine wpAnyH_ready (rs := [1, 3]) (by kernel_rfl) (by simp) ?_
  refine AllReadyH.cons rfl (fun KN hK => ?_) (AllReadyH.cons rfl (fun KN hK => ?_) AllReadyH.nil)
  · obtain ⟨A5, c5, w55, olds5, hrun5, hrow5, hb5⟩ := termApp1V HCL.out (by omega) hbd
    have hb5' := hbd.trans (hb5.mono hbd.size)
    refine Lib.wp_append_run _ (.const (.slice none 0 0)) (.tmp 70) 24 24 rfl _ _ rfl rfl _ _ hrun5 ?_
    refine hK.out _ _ (HKS.out _ hb5') (fun hS => ?_)
    clear hK KN
    try simp only [Act.put]
    refine wpAnyH_ready (rs := [3]) (by kernel_rfl) (by simp) ?_
    refine AllReadyH.cons rfl (fun KN hK => ?_) AllReadyH.nil
    go_simp
    have hbB : Below v4.heap.size v4 (w55.alloc (.cells #[.int .i64 kq, .int .i64 hq, .slice Aq nq cq] 26)) := hb5'.alloc hb5'.size _
    refine hK.out _ _ (HKS.out _ hbB) (fun hS => ?_)
    clear hK KN
    try simp only [Act.put, List.setIfInBounds_toArray, List.set_cons_zero, List.set_cons_succ]
    have hrowB := hrow5.kept (show Below w55.heap.size w55 (w55.alloc (.cells #[.int .i64 kq, .int .i64 hq, .slice Aq nq cq] 26)) from (Below.refl _ _).alloc (Nat.le_refl _) _)
    have hPB := heap_alloc_new w55 (.cells #[.int .i64 kq, .int .i64 hq, .slice Aq nq cq] 26)
    clear hrow5 hb5 hb5' hrun5
    generalize w55.alloc (.cells #[.int .i64 kq, .int .i64 hq, .slice Aq nq cq] 26) = w66 at *
    generalize w55.heap.size = P6 at *
    refine wpAnyH_ready (rs := [4]) (by kernel_rfl) (by simp) ?_
    refine AllReadyH.cons rfl (fun KN hK => ?_) AllReadyH.nil
    obtain ⟨g7, cap7, w77, hrun7, hcl7, hb7⟩ := termApp2V HCL.out (by omega) hbB hrowB hPB HRA.out
    refine Lib.wp_append_run _ (.tmp 71) (.tmp 73) 24 24 rfl _ _ rfl rfl _ _ hrun7 ?_
    refine hK.out _ _ (HKS.out _ hb7) (fun hS => ?_)
    clear hK KN
    try simp only [Act.put, List.setIfInBounds_toArray]
    clear hbB hrowB hPB hrun7
    refine wpAnyH_take (i := 5) (v := .slice (some ⟨g7, 0, none⟩) (nc + 1) cap7) rfl (by kernel_rfl) (by kernel_rfl) (by kernel_rfl) (fun _ _ _ h => h) (Or.inl ⟨by kernel_rfl, ?_⟩) hS ?_
    · intro w' hSw
      obtain ⟨s0, s1, s2, s3, s4, s5, s6, s7, s8, s9, s10, s11, s12, s13, s14⟩ := hSw
      go_simp
    try simp only [Act.put]
    refine wpAnyH_done (by kernel_rfl) ?_ _
    try simp only [List.setIfInBounds_toArray]
    try simp only [List.getElem_toArray, List.getElem_cons_succ, List.getElem_cons_zero, List.setIfInBounds_toArray, List.set_cons_zero, List.set_cons_succ]
    have HB7 := Lib.hid (HBm.out.trans (hb7.mono HBm.out.size))
    replace bp0 := (hb7.cell (cell_lt bp0)).trans bp0
    replace bp1 := (hb7.cell (cell_lt bp1)).trans bp1
    replace bp2 := (hb7.cell (cell_lt bp2)).trans bp2
    replace bq0 := (hb7.cell (cell_lt bq0)).trans bq0
    replace bq1 := (hb7.cell (cell_lt bq1)).trans bq1
    replace bq2 := (hb7.cell (cell_lt bq2)).trans bq2
    replace br0 := (hb7.cell (cell_lt br0)).trans br0
    replace br1 := (hb7.cell (cell_lt br1)).trans br1
    replace br2 := (hb7.cell (cell_lt br2)).trans br2
    replace lp0 := (hb7.cell (cell_lt lp0)).trans lp0
    replace lp1 := (hb7.cell (cell_lt lp1)).trans lp1
    replace lp2 := (hb7.cell (cell_lt lp2)).trans lp2
    replace pp0 := (hb7.cell (cell_lt pp0)).trans pp0
    replace pp1 := (hb7.cell (cell_lt pp1)).trans pp1
    replace pp2 := (hb7.cell (cell_lt pp2)).trans pp2
    have hck := HK.out.keep HB7.out
    have HT1 : Hid (∀ W' : World, Below w77.heap.size w77 W' → Calls Try.prog 15 #[.slice As ns cs, .slice none 0 0, .slice Ac nc cc, .agg #[.int .i64 3, .int .i64 0, .slice (some ⟨w8.heap.size, 0, none⟩) 1 1], .agg #[.int .i64 1, .int .i64 0, .slice (some ⟨w8.heap.size + 1 + 1, 0, none⟩) 2 2]] W' fun e w' => e = .returned (.int .i64 (ckT ⟨sg, []⟩ (cx ++ [a]) m b)) ∧ Below W'.heap.size W' w') := Lib.hid fun W' h' => by
      rw [← ck_lam HYm.out HYa.out HYb.out KM.out KA.out KB.out (by omega)]
      exact vCheckTermC ⟨sg, []⟩ cx _ _ As ns cs none 0 0 Ac nc cc _ _ W' (hck.keep h') (Rd.keep (hb7.trans (h'.mono hb7.size)) _ _ HRL.out) (Rd.keep (hb7.trans (h'.mono hb7.size)) _ _ HRP.out) HLO.out (fun _ => lo_lamV (lo_lt HRm.out HYm.out)) (fun _ => lo_piV (lo_lt HRa.out HYa.out) (lo_lt HRb.out HYb.out))
    have HT2 : Hid (∀ W' : World, Below w77.heap.size w77 W' → Calls Try.prog 15 #[.slice As ns cs, .slice none 0 0, .slice (some ⟨g7, 0, none⟩) (nc + 1) cap7, .agg #[.int .i64 kp, .int .i64 hp, .slice Ap np cp], .agg #[.int .i64 kr, .int .i64 hr, .slice Ar nr cr]] W' fun e w' => e = .returned (.int .i64 (ckT ⟨sg, []⟩ (cx ++ [a]) m b)) ∧ Below W'.heap.size W' w') := Lib.hid fun W' h' =>
      vCheckTermC ⟨sg, []⟩ (cx ++ [a]) _ _ As ns cs none 0 0 _ _ _ _ _ W' ⟨(hck.keep h').sg, (hck.keep h').ms, hcl7.keep h'⟩ (Rd.keep (hb7.trans (h'.mono hb7.size)) _ _ HRM.out) (Rd.keep (hb7.trans (h'.mono hb7.size)) _ _ HRB.out) (loV_more HLO.out (lo_lt HRa.out HYa.out)) (fun _ => lo_lt HRm.out HYm.out) (fun _ => lo_lt HRb.out HYb.out)
    obtain ⟨e3, he3⟩ : ∃ e, ckT ⟨sg, []⟩ cx (.node 3 0 [m]) a = e := ⟨_, rfl⟩
    have HT3 : Hid (∀ W' : World, Below w77.heap.size w77 W' → Calls Try.prog 15 #[.slice As ns cs, .slice none 0 0, .slice Ac nc cc, .agg #[.int .i64 3, .int .i64 0, .slice (some ⟨w8.heap.size, 0, none⟩) 1 1], .agg #[.int .i64 kq, .int .i64 hq, .slice Aq nq cq]] W' fun e w' => e = .returned (.int .i64 e3) ∧ Below W'.heap.size W' w') := Lib.hid fun W' h' => by
      rw [← he3]
      exact vCheckTermC ⟨sg, []⟩ cx _ _ As ns cs none 0 0 Ac nc cc _ _ W' (hck.keep h') (Rd.keep (hb7.trans (h'.mono hb7.size)) _ _ HRL.out) (Rd.keep (hb7.trans (h'.mono hb7.size)) _ _ HRA.out) HLO.out (fun _ => lo_lamV (lo_lt HRm.out HYm.out)) (fun _ => lo_lt HRa.out HYa.out)
    have hkq := (rdF_kind HVq.out).1
    have HE3 := Lib.hid he3
    clear he3 hck hb7 hcl7 hS HKS hbd
    generalize ckT ⟨sg, []⟩ (cx ++ [a]) m b = ee at *
    go_wp2_with fail
    by_cases hz : e3 = 0
    case' neg =>
      have hd3 : (e3 != 0) = true := by simpa using hz
      have HKS : Hid (∀ w' : World, Below w77.heap.size w77 w' → (fun w' => w'.cell? ⟨w.heap.size, 0, none⟩ = some (.int .i64 kp) ∧ w'.cell? ⟨w.heap.size, 1, none⟩ = some (.int .i64 hp) ∧ w'.cell? ⟨w.heap.size, 2, none⟩ = some (.slice Ap np cp) ∧ w'.cell? ⟨w.heap.size + 1, 0, none⟩ = some (.int .i64 kq) ∧ w'.cell? ⟨w.heap.size + 1, 1, none⟩ = some (.int .i64 hq) ∧ w'.cell? ⟨w.heap.size + 1, 2, none⟩ = some (.slice Aq nq cq) ∧ w'.cell? ⟨w.heap.size + 1 + 1, 0, none⟩ = some (.int .i64 kr) ∧ w'.cell? ⟨w.heap.size + 1 + 1, 1, none⟩ = some (.int .i64 hr) ∧ w'.cell? ⟨w.heap.size + 1 + 1, 2, none⟩ = some (.slice Ar nr cr) ∧ w'.cell? ⟨w8.heap.size + 1, 0, none⟩ = some (.int .i64 3) ∧ w'.cell? ⟨w8.heap.size + 1, 1, none⟩ = some (.int .i64 0) ∧ w'.cell? ⟨w8.heap.size + 1, 2, none⟩ = some (.slice (some ⟨w8.heap.size, 0, none⟩) 1 1) ∧ w'.cell? ⟨w8.heap.size + 1 + 1 + 1, 0, none⟩ = some (.int .i64 1) ∧ w'.cell? ⟨w8.heap.size + 1 + 1 + 1, 1, none⟩ = some (.int .i64 0) ∧ w'.cell? ⟨w8.heap.size + 1 + 1 + 1, 2, none⟩ = some (.slice (some ⟨w8.heap.size + 1 + 1, 0, none⟩) 2 2)) w') := Lib.hid fun w' h => ⟨(h.cell (cell_lt bp0)).trans bp0, (h.cell (cell_lt bp1)).trans bp1, (h.cell (cell_lt bp2)).trans bp2, (h.cell (cell_lt bq0)).trans bq0, (h.cell (cell_lt bq1)).trans bq1, (h.cell (cell_lt bq2)).trans bq2, (h.cell (cell_lt br0)).trans br0, (h.cell (cell_lt br1)).trans br1, (h.cell (cell_lt br2)).trans br2, (h.cell (cell_lt lp0)).trans lp0, (h.cell (cell_lt lp1)).trans lp1, (h.cell (cell_lt lp2)).trans lp2, (h.cell (cell_lt pp0)).trans pp0, (h.cell (cell_lt pp1)).trans pp1, (h.cell (cell_lt pp2)).trans pp2⟩
      have hbd : Below w77.heap.size w77 w77.drew := (Below.refl _ w77).drew
      refine wp_region_held_drew (S := fun w' => w'.cell? ⟨w.heap.size, 0, none⟩ = some (.int .i64 kp) ∧ w'.cell? ⟨w.heap.size, 1, none⟩ = some (.int .i64 hp) ∧ w'.cell? ⟨w.heap.size, 2, none⟩ = some (.slice Ap np cp) ∧ w'.cell? ⟨w.heap.size + 1, 0, none⟩ = some (.int .i64 kq) ∧ w'.cell? ⟨w.heap.size + 1, 1, none⟩ = some (.int .i64 hq) ∧ w'.cell? ⟨w.heap.size + 1, 2, none⟩ = some (.slice Aq nq cq) ∧ w'.cell? ⟨w.heap.size + 1 + 1, 0, none⟩ = some (.int .i64 kr) ∧ w'.cell? ⟨w.heap.size + 1 + 1, 1, none⟩ = some (.int .i64 hr) ∧ w'.cell? ⟨w.heap.size + 1 + 1, 2, none⟩ = some (.slice Ar nr cr) ∧ w'.cell? ⟨w8.heap.size + 1, 0, none⟩ = some (.int .i64 3) ∧ w'.cell? ⟨w8.heap.size + 1, 1, none⟩ = some (.int .i64 0) ∧ w'.cell? ⟨w8.heap.size + 1, 2, none⟩ = some (.slice (some ⟨w8.heap.size, 0, none⟩) 1 1) ∧ w'.cell? ⟨w8.heap.size + 1 + 1 + 1, 0, none⟩ = some (.int .i64 1) ∧ w'.cell? ⟨w8.heap.size + 1 + 1 + 1, 1, none⟩ = some (.int .i64 0) ∧ w'.cell? ⟨w8.heap.size + 1 + 1 + 1, 2, none⟩ = some (.slice (some ⟨w8.heap.size + 1 + 1, 0, none⟩) 2 2)) (by kernel_rfl) (HKS.out _ hbd) (fun hS => ?_)
      simp only [List.size_toArray, List.length_cons, List.length_nil, Nat.reduceAdd]
      refine wpAnyH_take (i := 0) (v := .slice As ns cs) rfl (by kernel_rfl) (by kernel_rfl) (by kernel_rfl) (fun _ _ _ h => h) (Or.inl ⟨by kernel_rfl, ?_⟩) hS ?_
      · intro w' hSw
        obtain ⟨s0, s1, s2, s3, s4, s5, s6, s7, s8, s9, s10, s11, s12, s13, s14⟩ := hSw
        go_simp
      try simp only [Act.put, List.setIfInBounds_toArray]
      refine wpAnyH_take (i := 1) (v := .slice Ac nc cc) rfl (by kernel_rfl) (by kernel_rfl) (by kernel_rfl) (fun _ _ _ h => h) (Or.inl ⟨by kernel_rfl, ?_⟩) hS ?_
      · intro w' hSw
        obtain ⟨s0, s1, s2, s3, s4, s5, s6, s7, s8, s9, s10, s11, s12, s13, s14⟩ := hSw
        go_simp
      try simp only [Act.put]
      refine wpAnyH_take (i := 2) (v := .agg #[.int .i64 3, .int .i64 0, .slice (some ⟨w8.heap.size, 0, none⟩) 1 1]) rfl (by kernel_rfl) (by kernel_rfl) (by kernel_rfl) (fun _ _ _ h => h) (Or.inl ⟨by kernel_rfl, ?_⟩) hS ?_
      · intro w' hSw
        obtain ⟨s0, s1, s2, s3, s4, s5, s6, s7, s8, s9, s10, s11, s12, s13, s14⟩ := hSw
        go_simp
      try simp only [Act.put]
      refine wpAnyH_take (i := 3) (v := .agg #[.int .i64 1, .int .i64 0, .slice (some ⟨w8.heap.size + 1 + 1, 0, none⟩) 2 2]) rfl (by kernel_rfl) (by kernel_rfl) (by kernel_rfl) (fun _ _ _ h => h) (Or.inl ⟨by kernel_rfl, ?_⟩) hS ?_
      · intro w' hSw
        obtain ⟨s0, s1, s2, s3, s4, s5, s6, s7, s8, s9, s10, s11, s12, s13, s14⟩ := hSw
        go_simp
      try simp only [Act.put]
      refine wpAnyH_take (i := 5) (v := .slice As ns cs) rfl (by kernel_rfl) (by kernel_rfl) (by kernel_rfl) (fun _ _ _ h => h) (Or.inl ⟨by kernel_rfl, ?_⟩) hS ?_
      · intro w' hSw
        obtain ⟨s0, s1, s2, s3, s4, s5, s6, s7, s8, s9, s10, s11, s12, s13, s14⟩ := hSw
        go_simp
      try simp only [Act.put]
      refine wpAnyH_take (i := 6) (v := .slice (some ⟨g7, 0, none⟩) (nc + 1) cap7) rfl (by kernel_rfl) (by kernel_rfl) (by kernel_rfl) (fun _ _ _ h => h) (Or.inl ⟨by kernel_rfl, ?_⟩) hS ?_
      · intro w' hSw
        obtain ⟨s0, s1, s2, s3, s4, s5, s6, s7, s8, s9, s10, s11, s12, s13, s14⟩ := hSw
        go_simp
      try simp only [Act.put]
      refine wpAnyH_take (i := 7) (v := .agg #[.int .i64 kp, .int .i64 hp, .slice Ap np cp]) rfl (by kernel_rfl) (by kernel_rfl) (by kernel_rfl) (fun _ _ _ h => h) (Or.inl ⟨by kernel_rfl, ?_⟩) hS ?_
      · intro w' hSw
        obtain ⟨s0, s1, s2, s3, s4, s5, s6, s7, s8, s9, s10, s11, s12, s13, s14⟩ := hSw
        go_simp
      try simp only [Act.put]
      refine wpAnyH_take (i := 8) (v := .agg #[.int .i64 kr, .int .i64 hr, .slice Ar nr cr]) rfl (by kernel_rfl) (by kernel_rfl) (by kernel_rfl) (fun _ _ _ h => h) (Or.inl ⟨by kernel_rfl, ?_⟩) hS ?_
      · intro w' hSw
        obtain ⟨s0, s1, s2, s3, s4, s5, s6, s7, s8, s9, s10, s11, s12, s13, s14⟩ := hSw
        go_simp
      try simp only [Act.put]
      refine wpAnyH_ready (rs := [4]) (by kernel_rfl) (by simp) ?_
      refine AllReadyH.cons rfl (fun KN hK => ?_) AllReadyH.nil
      go_simp
      refine (HT1.out _ hbd).mono ?_
      rintro e x1 ⟨rfl, hnx1⟩
      have hbx1 := hbd.trans (hnx1.mono hbd.size)
      refine hK.out _ _ (HKS.out _ hbx1) (fun hS => ?_)
      clear hK KN
      try simp only [Act.put, List.setIfInBounds_toArray, List.set_cons_zero, List.set_cons_succ]
      refine wpAnyH_ready (rs := [9]) (by kernel_rfl) (by simp) ?_
      refine AllReadyH.cons rfl (fun KN hK => ?_) AllReadyH.nil
      go_simp
      refine (HT2.out _ hbx1).mono ?_
      rintro e x2 ⟨rfl, hnx2⟩
      have hbx2 := hbx1.trans (hnx2.mono hbx1.size)
      refine hK.out _ _ (HKS.out _ hbx2) (fun hS => ?_)
      clear hK KN
      try simp only [Act.put, List.setIfInBounds_toArray, List.set_cons_zero, List.set_cons_succ]
      refine wpAnyH_take (i := 10) (v := .bool true) rfl (by kernel_rfl) (by kernel_rfl) (by kernel_rfl) (fun _ _ _ h => h) (Or.inl ⟨by kernel_rfl, ?_⟩) hS ?_
      · intro w' hSw
        obtain ⟨s0, s1, s2, s3, s4, s5, s6, s7, s8, s9, s10, s11, s12, s13, s14⟩ := hSw
        go_simp
      try simp only [Act.put, List.setIfInBounds_toArray]
      refine wpAnyH_take (i := 11) (v := .bool true) rfl (by kernel_rfl) (by kernel_rfl) (by kernel_rfl) (fun _ _ _ h => h) (Or.inl ⟨by kernel_rfl, ?_⟩) hS ?_
      · intro w' hSw
        obtain ⟨s0, s1, s2, s3, s4, s5, s6, s7, s8, s9, s10, s11, s12, s13, s14⟩ := hSw
        go_simp
      try simp only [Act.put]
      refine wpAnyH_take (i := 12) (v := .slice As ns cs) rfl (by kernel_rfl) (by kernel_rfl) (by kernel_rfl) (fun _ _ _ h => h) (Or.inl ⟨by kernel_rfl, ?_⟩) hS ?_
      · intro w' hSw
        obtain ⟨s0, s1, s2, s3, s4, s5, s6, s7, s8, s9, s10, s11, s12, s13, s14⟩ := hSw
        go_simp
      try simp only [Act.put]
      refine wpAnyH_take (i := 13) (v := .slice Ac nc cc) rfl (by kernel_rfl) (by kernel_rfl) (by kernel_rfl) (fun _ _ _ h => h) (Or.inl ⟨by kernel_rfl, ?_⟩) hS ?_
      · intro w' hSw
        obtain ⟨s0, s1, s2, s3, s4, s5, s6, s7, s8, s9, s10, s11, s12, s13, s14⟩ := hSw
        go_simp
      try simp only [Act.put]
      refine wpAnyH_take (i := 14) (v := .agg #[.int .i64 3, .int .i64 0, .slice (some ⟨w8.heap.size, 0, none⟩) 1 1]) rfl (by kernel_rfl) (by kernel_rfl) (by kernel_rfl) (fun _ _ _ h => h) (Or.inl ⟨by kernel_rfl, ?_⟩) hS ?_
      · intro w' hSw
        obtain ⟨s0, s1, s2, s3, s4, s5, s6, s7, s8, s9, s10, s11, s12, s13, s14⟩ := hSw
        go_simp
      try simp only [Act.put]
      refine wpAnyH_take (i := 15) (v := .agg #[.int .i64 kq, .int .i64 hq, .slice Aq nq cq]) rfl (by kernel_rfl) (by kernel_rfl) (by kernel_rfl) (fun _ _ _ h => h) (Or.inl ⟨by kernel_rfl, ?_⟩) hS ?_
      · intro w' hSw
        obtain ⟨s0, s1, s2, s3, s4, s5, s6, s7, s8, s9, s10, s11, s12, s13, s14⟩ := hSw
        go_simp
      try simp only [Act.put]
      refine wpAnyH_ready (rs := [16]) (by kernel_rfl) (by simp) ?_
      refine AllReadyH.cons rfl (fun KN hK => ?_) AllReadyH.nil
      go_simp
      refine (HT3.out _ hbx2).mono ?_
      rintro e x3 ⟨rfl, hnx3⟩
      have hbx3 := hbx2.trans (hnx3.mono hbx2.size)
      refine hK.out _ _ (HKS.out _ hbx3) (fun hS => ?_)
      clear hK KN
      try simp only [Act.put, List.setIfInBounds_toArray, List.set_cons_zero, List.set_cons_succ]
      refine wpAnyH_take (i := 17) (v := .bool true) rfl (by kernel_rfl) (by kernel_rfl) (by kernel_rfl) (fun _ _ _ h => h) (Or.inl ⟨by kernel_rfl, ?_⟩) hS ?_
      · intro w' hSw
        obtain ⟨s0, s1, s2, s3, s4, s5, s6, s7, s8, s9, s10, s11, s12, s13, s14⟩ := hSw
        go_simp
      try simp only [Act.put, List.setIfInBounds_toArray]
      refine wpAnyH_take (i := 18) (v := .bool true) rfl (by kernel_rfl) (by kernel_rfl) (by kernel_rfl) (fun _ _ _ h => h) (Or.inl ⟨by kernel_rfl, ?_⟩) hS ?_
      · intro w' hSw
        obtain ⟨s0, s1, s2, s3, s4, s5, s6, s7, s8, s9, s10, s11, s12, s13, s14⟩ := hSw
        go_simp
      try simp only [Act.put]
      refine wpAnyH_take (i := 19) (v := undef) rfl (by kernel_rfl) (by kernel_rfl) (by kernel_rfl) (fun _ _ _ h => h) (Or.inr ⟨by kernel_rfl, rfl⟩) hS ?_
      try simp only [Act.put]
      refine wpAnyH_take (i := 20) (v := undef) rfl (by kernel_rfl) (by kernel_rfl) (by kernel_rfl) (fun _ _ _ h => h) (Or.inr ⟨by kernel_rfl, rfl⟩) hS ?_
      try simp only [Act.put]
      refine wpAnyH_take (i := 21) (v := undef) rfl (by kernel_rfl) (by kernel_rfl) (by kernel_rfl) (fun _ _ _ h => h) (Or.inr ⟨by kernel_rfl, rfl⟩) hS ?_
      try simp only [Act.put]
      refine wpAnyH_take (i := 22) (v := .bool true) rfl (by kernel_rfl) (by kernel_rfl) (by kernel_rfl) (fun _ _ _ h => h) (Or.inl ⟨by kernel_rfl, ?_⟩) hS ?_
      · intro w' hSw
        obtain ⟨s0, s1, s2, s3, s4, s5, s6, s7, s8, s9, s10, s11, s12, s13, s14⟩ := hSw
        go_simp
      try simp only [Act.put]
      refine wpAnyH_take (i := 23) (v := .bool true) rfl (by kernel_rfl) (by kernel_rfl) (by kernel_rfl) (fun _ _ _ h => h) (Or.inl ⟨by kernel_rfl, ?_⟩) hS ?_
      · intro w' hSw
        obtain ⟨s0, s1, s2, s3, s4, s5, s6, s7, s8, s9, s10, s11, s12, s13, s14⟩ := hSw
        go_simp
      try simp only [Act.put]
      refine wpAnyH_take (i := 24) (v := .bool true) rfl (by kernel_rfl) (by kernel_rfl) (by kernel_rfl) (fun _ _ _ h => h) (Or.inl ⟨by kernel_rfl, ?_⟩) hS ?_
      · intro w' hSw
        obtain ⟨s0, s1, s2, s3, s4, s5, s6, s7, s8, s9, s10, s11, s12, s13, s14⟩ := hSw
        go_simp
      try simp only [Act.put]
      refine wpAnyH_done (by kernel_rfl) ?_ _
      try simp only [List.setIfInBounds_toArray]
      try simp only [List.getElem_toArray, List.getElem_cons_succ, List.getElem_cons_zero, List.setIfInBounds_toArray, List.set_cons_zero, List.set_cons_succ]
      have HBF := Lib.hid (HB7.out.trans (hbx3.mono HB7.out.size))
      clear hS HKS hbd hbx1 hbx2 hbx3 hnx1 hnx2 hnx3
      go_wp2_with fail
      refine bodyPost_ret (v := .bool true) (by simp [results, Try.results8, go_sem]) rfl ?_
      exact ⟨rfl, HBF.out⟩
    subst hz
    have hk1 := ck_lam_no HE3.out
    rw [hkq] at hk1
    subst hk1
    have HKS : Hid (∀ w' : World, Below w77.heap.size w77 w' → (fun w' => w'.cell? ⟨w.heap.size, 0, none⟩ = some (.int .i64 kp) ∧ w'.cell? ⟨w.heap.size, 1, none⟩ = some (.int .i64 hp) ∧ w'.cell? ⟨w.heap.size, 2, none⟩ = some (.slice Ap np cp) ∧ w'.cell? ⟨w.heap.size + 1, 0, none⟩ = some (.int .i64 1) ∧ w'.cell? ⟨w.heap.size + 1, 1, none⟩ = some (.int .i64 hq) ∧ w'.cell? ⟨w.heap.size + 1, 2, none⟩ = some (.slice Aq nq cq) ∧ w'.cell? ⟨w.heap.size + 1 + 1, 0, none⟩ = some (.int .i64 kr) ∧ w'.cell? ⟨w.heap.size + 1 + 1, 1, none⟩ = some (.int .i64 hr) ∧ w'.cell? ⟨w.heap.size + 1 + 1, 2, none⟩ = some (.slice Ar nr cr) ∧ w'.cell? ⟨w8.heap.size + 1, 0, none⟩ = some (.int .i64 3) ∧ w'.cell? ⟨w8.heap.size + 1, 1, none⟩ = some (.int .i64 0) ∧ w'.cell? ⟨w8.heap.size + 1, 2, none⟩ = some (.slice (some ⟨w8.heap.size, 0, none⟩) 1 1) ∧ w'.cell? ⟨w8.heap.size + 1 + 1 + 1, 0, none⟩ = some (.int .i64 1) ∧ w'.cell? ⟨w8.heap.size + 1 + 1 + 1, 1, none⟩ = some (.int .i64 0) ∧ w'.cell? ⟨w8.heap.size + 1 + 1 + 1, 2, none⟩ = some (.slice (some ⟨w8.heap.size + 1 + 1, 0, none⟩) 2 2)) w') := Lib.hid fun w' h => ⟨(h.cell (cell_lt bp0)).trans bp0, (h.cell (cell_lt bp1)).trans bp1, (h.cell (cell_lt bp2)).trans bp2, (h.cell (cell_lt bq0)).trans bq0, (h.cell (cell_lt bq1)).trans bq1, (h.cell (cell_lt bq2)).trans bq2, (h.cell (cell_lt br0)).trans br0, (h.cell (cell_lt br1)).trans br1, (h.cell (cell_lt br2)).trans br2, (h.cell (cell_lt lp0)).trans lp0, (h.cell (cell_lt lp1)).trans lp1, (h.cell (cell_lt lp2)).trans lp2, (h.cell (cell_lt pp0)).trans pp0, (h.cell (cell_lt pp1)).trans pp1, (h.cell (cell_lt pp2)).trans pp2⟩
    have hbd : Below w77.heap.size w77 w77.drew := (Below.refl _ w77).drew
    refine wp_region_held_drew (S := fun w' => w'.cell? ⟨w.heap.size, 0, none⟩ = some (.int .i64 kp) ∧ w'.cell? ⟨w.heap.size, 1, none⟩ = some (.int .i64 hp) ∧ w'.cell? ⟨w.heap.size, 2, none⟩ = some (.slice Ap np cp) ∧ w'.cell? ⟨w.heap.size + 1, 0, none⟩ = some (.int .i64 1) ∧ w'.cell? ⟨w.heap.size + 1, 1, none⟩ = some (.int .i64 hq) ∧ w'.cell? ⟨w.heap.size + 1, 2, none⟩ = some (.slice Aq nq cq) ∧ w'.cell? ⟨w.heap.size + 1 + 1, 0, none⟩ = some (.int .i64 kr) ∧ w'.cell? ⟨w.heap.size + 1 + 1, 1, none⟩ = some (.int .i64 hr) ∧ w'.cell? ⟨w.heap.size + 1 + 1, 2, none⟩ = some (.slice Ar nr cr) ∧ w'.cell? ⟨w8.heap.size + 1, 0, none⟩ = some (.int .i64 3) ∧ w'.cell? ⟨w8.heap.size + 1, 1, none⟩ = some (.int .i64 0) ∧ w'.cell? ⟨w8.heap.size + 1, 2, none⟩ = some (.slice (some ⟨w8.heap.size, 0, none⟩) 1 1) ∧ w'.cell? ⟨w8.heap.size + 1 + 1 + 1, 0, none⟩ = some (.int .i64 1) ∧ w'.cell? ⟨w8.heap.size + 1 + 1 + 1, 1, none⟩ = some (.int .i64 0) ∧ w'.cell? ⟨w8.heap.size + 1 + 1 + 1, 2, none⟩ = some (.slice (some ⟨w8.heap.size + 1 + 1, 0, none⟩) 2 2)) (by kernel_rfl) (HKS.out _ hbd) (fun hS => ?_)
    simp only [List.size_toArray, List.length_cons, List.length_nil, Nat.reduceAdd]
    refine wpAnyH_take (i := 0) (v := .slice As ns cs) rfl (by kernel_rfl) (by kernel_rfl) (by kernel_rfl) (fun _ _ _ h => h) (Or.inl ⟨by kernel_rfl, ?_⟩) hS ?_
    · intro w' hSw
      obtain ⟨s0, s1, s2, s3, s4, s5, s6, s7, s8, s9, s10, s11, s12, s13, s14⟩ := hSw
      go_simp
    try simp only [Act.put, List.setIfInBounds_toArray]
    refine wpAnyH_take (i := 1) (v := .slice Ac nc cc) rfl (by kernel_rfl) (by kernel_rfl) (by kernel_rfl) (fun _ _ _ h => h) (Or.inl ⟨by kernel_rfl, ?_⟩) hS ?_
    · intro w' hSw
      obtain ⟨s0, s1, s2, s3, s4, s5, s6, s7, s8, s9, s10, s11, s12, s13, s14⟩ := hSw
      go_simp
    try simp only [Act.put]
    refine wpAnyH_take (i := 2) (v := .agg #[.int .i64 3, .int .i64 0, .slice (some ⟨w8.heap.size, 0, none⟩) 1 1]) rfl (by kernel_rfl) (by kernel_rfl) (by kernel_rfl) (fun _ _ _ h => h) (Or.inl ⟨by kernel_rfl, ?_⟩) hS ?_
    · intro w' hSw
      obtain ⟨s0, s1, s2, s3, s4, s5, s6, s7, s8, s9, s10, s11, s12, s13, s14⟩ := hSw
      go_simp
    try simp only [Act.put]
    refine wpAnyH_take (i := 3) (v := .agg #[.int .i64 1, .int .i64 0, .slice (some ⟨w8.heap.size + 1 + 1, 0, none⟩) 2 2]) rfl (by kernel_rfl) (by kernel_rfl) (by kernel_rfl) (fun _ _ _ h => h) (Or.inl ⟨by kernel_rfl, ?_⟩) hS ?_
    · intro w' hSw
      obtain ⟨s0, s1, s2, s3, s4, s5, s6, s7, s8, s9, s10, s11, s12, s13, s14⟩ := hSw
      go_simp
    try simp only [Act.put]
    refine wpAnyH_take (i := 5) (v := .slice As ns cs) rfl (by kernel_rfl) (by kernel_rfl) (by kernel_rfl) (fun _ _ _ h => h) (Or.inl ⟨by kernel_rfl, ?_⟩) hS ?_
    · intro w' hSw
      obtain ⟨s0, s1, s2, s3, s4, s5, s6, s7, s8, s9, s10, s11, s12, s13, s14⟩ := hSw
      go_simp
    try simp only [Act.put]
    refine wpAnyH_take (i := 6) (v := .slice (some ⟨g7, 0, none⟩) (nc + 1) cap7) rfl (by kernel_rfl) (by kernel_rfl) (by kernel_rfl) (fun _ _ _ h => h) (Or.inl ⟨by kernel_rfl, ?_⟩) hS ?_
    · intro w' hSw
      obtain ⟨s0, s1, s2, s3, s4, s5, s6, s7, s8, s9, s10, s11, s12, s13, s14⟩ := hSw
      go_simp
    try simp only [Act.put]
    refine wpAnyH_take (i := 7) (v := .agg #[.int .i64 kp, .int .i64 hp, .slice Ap np cp]) rfl (by kernel_rfl) (by kernel_rfl) (by kernel_rfl) (fun _ _ _ h => h) (Or.inl ⟨by kernel_rfl, ?_⟩) hS ?_
    · intro w' hSw
      obtain ⟨s0, s1, s2, s3, s4, s5, s6, s7, s8, s9, s10, s11, s12, s13, s14⟩ := hSw
      go_simp
    try simp only [Act.put]
    refine wpAnyH_take (i := 8) (v := .agg #[.int .i64 kr, .int .i64 hr, .slice Ar nr cr]) rfl (by kernel_rfl) (by kernel_rfl) (by kernel_rfl) (fun _ _ _ h => h) (Or.inl ⟨by kernel_rfl, ?_⟩) hS ?_
    · intro w' hSw
      obtain ⟨s0, s1, s2, s3, s4, s5, s6, s7, s8, s9, s10, s11, s12, s13, s14⟩ := hSw
      go_simp
    try simp only [Act.put]
    refine wpAnyH_ready (rs := [4]) (by kernel_rfl) (by simp) ?_
    refine AllReadyH.cons rfl (fun KN hK => ?_) AllReadyH.nil
    go_simp
    refine (HT1.out _ hbd).mono ?_
    rintro e x1 ⟨rfl, hnx1⟩
    have hbx1 := hbd.trans (hnx1.mono hbd.size)
    refine hK.out _ _ (HKS.out _ hbx1) (fun hS => ?_)
    clear hK KN
    try simp only [Act.put, List.setIfInBounds_toArray, List.set_cons_zero, List.set_cons_succ]
    refine wpAnyH_ready (rs := [9]) (by kernel_rfl) (by simp) ?_
    refine AllReadyH.cons rfl (fun KN hK => ?_) AllReadyH.nil
    go_simp
    refine (HT2.out _ hbx1).mono ?_
    rintro e x2 ⟨rfl, hnx2⟩
    have hbx2 := hbx1.trans (hnx2.mono hbx1.size)
    refine hK.out _ _ (HKS.out _ hbx2) (fun hS => ?_)
    clear hK KN
    try simp only [Act.put, List.setIfInBounds_toArray, List.set_cons_zero, List.set_cons_succ]
    refine wpAnyH_take (i := 10) (v := .bool true) rfl (by kernel_rfl) (by kernel_rfl) (by kernel_rfl) (fun _ _ _ h => h) (Or.inl ⟨by kernel_rfl, ?_⟩) hS ?_
    · intro w' hSw
      obtain ⟨s0, s1, s2, s3, s4, s5, s6, s7, s8, s9, s10, s11, s12, s13, s14⟩ := hSw
      go_simp
    try simp only [Act.put, List.setIfInBounds_toArray]
    refine wpAnyH_take (i := 11) (v := .bool true) rfl (by kernel_rfl) (by kernel_rfl) (by kernel_rfl) (fun _ _ _ h => h) (Or.inl ⟨by kernel_rfl, ?_⟩) hS ?_
    · intro w' hSw
      obtain ⟨s0, s1, s2, s3, s4, s5, s6, s7, s8, s9, s10, s11, s12, s13, s14⟩ := hSw
      go_simp
    try simp only [Act.put]
    refine wpAnyH_take (i := 12) (v := .slice As ns cs) rfl (by kernel_rfl) (by kernel_rfl) (by kernel_rfl) (fun _ _ _ h => h) (Or.inl ⟨by kernel_rfl, ?_⟩) hS ?_
    · intro w' hSw
      obtain ⟨s0, s1, s2, s3, s4, s5, s6, s7, s8, s9, s10, s11, s12, s13, s14⟩ := hSw
      go_simp
    try simp only [Act.put]
    refine wpAnyH_take (i := 13) (v := .slice Ac nc cc) rfl (by kernel_rfl) (by kernel_rfl) (by kernel_rfl) (fun _ _ _ h => h) (Or.inl ⟨by kernel_rfl, ?_⟩) hS ?_
    · intro w' hSw
      obtain ⟨s0, s1, s2, s3, s4, s5, s6, s7, s8, s9, s10, s11, s12, s13, s14⟩ := hSw
      go_simp
    try simp only [Act.put]
    refine wpAnyH_take (i := 14) (v := .agg #[.int .i64 3, .int .i64 0, .slice (some ⟨w8.heap.size, 0, none⟩) 1 1]) rfl (by kernel_rfl) (by kernel_rfl) (by kernel_rfl) (fun _ _ _ h => h) (Or.inl ⟨by kernel_rfl, ?_⟩) hS ?_
    · intro w' hSw
      obtain ⟨s0, s1, s2, s3, s4, s5, s6, s7, s8, s9, s10, s11, s12, s13, s14⟩ := hSw
      go_simp
    try simp only [Act.put]
    refine wpAnyH_take (i := 15) (v := .agg #[.int .i64 1, .int .i64 hq, .slice Aq nq cq]) rfl (by kernel_rfl) (by kernel_rfl) (by kernel_rfl) (fun _ _ _ h => h) (Or.inl ⟨by kernel_rfl, ?_⟩) hS ?_
    · intro w' hSw
      obtain ⟨s0, s1, s2, s3, s4, s5, s6, s7, s8, s9, s10, s11, s12, s13, s14⟩ := hSw
      go_simp
    try simp only [Act.put]
    refine wpAnyH_ready (rs := [16]) (by kernel_rfl) (by simp) ?_
    refine AllReadyH.cons rfl (fun KN hK => ?_) AllReadyH.nil
    go_simp
    refine (HT3.out _ hbx2).mono ?_
    rintro e x3 ⟨rfl, hnx3⟩
    have hbx3 := hbx2.trans (hnx3.mono hbx2.size)
    refine hK.out _ _ (HKS.out _ hbx3) (fun hS => ?_)
    clear hK KN
    try simp only [Act.put, List.setIfInBounds_toArray, List.set_cons_zero, List.set_cons_succ]
    refine wpAnyH_take (i := 17) (v := .bool false) rfl (by kernel_rfl) (by kernel_rfl) (by kernel_rfl) (fun _ _ _ h => h) (Or.inl ⟨by kernel_rfl, ?_⟩) hS ?_
    · intro w' hSw
      obtain ⟨s0, s1, s2, s3, s4, s5, s6, s7, s8, s9, s10, s11, s12, s13, s14⟩ := hSw
      go_simp
    try simp only [Act.put, List.setIfInBounds_toArray]
    refine wpAnyH_take (i := 18) (v := .bool false) rfl (by kernel_rfl) (by kernel_rfl) (by kernel_rfl) (fun _ _ _ h => h) (Or.inl ⟨by kernel_rfl, ?_⟩) hS ?_
    · intro w' hSw
      obtain ⟨s0, s1, s2, s3, s4, s5, s6, s7, s8, s9, s10, s11, s12, s13, s14⟩ := hSw
      go_simp
    try simp only [Act.put]
    refine wpAnyH_take (i := 19) (v := .pointer (some ⟨w.heap.size + 1, 0, none⟩)) rfl (by kernel_rfl) (by kernel_rfl) (by kernel_rfl) (fun _ _ _ h => h) (Or.inl ⟨by kernel_rfl, ?_⟩) hS ?_
    · intro w' hSw
      obtain ⟨s0, s1, s2, s3, s4, s5, s6, s7, s8, s9, s10, s11, s12, s13, s14⟩ := hSw
      go_simp
    try simp only [Act.put]
    refine wpAnyH_take (i := 20) (v := .int .i64 1) rfl (by kernel_rfl) (by kernel_rfl) (by kernel_rfl) (fun _ _ _ h => h) (Or.inl ⟨by kernel_rfl, ?_⟩) hS ?_
    · intro w' hSw
      obtain ⟨s0, s1, s2, s3, s4, s5, s6, s7, s8, s9, s10, s11, s12, s13, s14⟩ := hSw
      go_simp
    try simp only [Act.put]
    refine wpAnyH_take (i := 21) (v := .bool true) rfl (by kernel_rfl) (by kernel_rfl) (by kernel_rfl) (fun _ _ _ h => h) (Or.inl ⟨by kernel_rfl, ?_⟩) hS ?_
    · intro w' hSw
      obtain ⟨s0, s1, s2, s3, s4, s5, s6, s7, s8, s9, s10, s11, s12, s13, s14⟩ := hSw
      go_simp
    try simp only [Act.put]
    refine wpAnyH_take (i := 22) (v := .bool true) rfl (by kernel_rfl) (by kernel_rfl) (by kernel_rfl) (fun _ _ _ h => h) (Or.inl ⟨by kernel_rfl, ?_⟩) hS ?_
    · intro w' hSw
      obtain ⟨s0, s1, s2, s3, s4, s5, s6, s7, s8, s9, s10, s11, s12, s13, s14⟩ := hSw
      go_simp
    try simp only [Act.put]
    refine wpAnyH_take (i := 23) (v := .bool true) rfl (by kernel_rfl) (by kernel_rfl) (by kernel_rfl) (fun _ _ _ h => h) (Or.inl ⟨by kernel_rfl, ?_⟩) hS ?_
    · intro w' hSw
      obtain ⟨s0, s1, s2, s3, s4, s5, s6, s7, s8, s9, s10, s11, s12, s13, s14⟩ := hSw
      go_simp
    try simp only [Act.put]
    refine wpAnyH_take (i := 24) (v := .bool true) rfl (by kernel_rfl) (by kernel_rfl) (by kernel_rfl) (fun _ _ _ h => h) (Or.inl ⟨by kernel_rfl, ?_⟩) hS ?_
    · intro w' hSw
      obtain ⟨s0, s1, s2, s3, s4, s5, s6, s7, s8, s9, s10, s11, s12, s13, s14⟩ := hSw
      go_simp
    try simp only [Act.put]
    refine wpAnyH_done (by kernel_rfl) ?_ _
    try simp only [List.setIfInBounds_toArray]
    try simp only [List.getElem_toArray, List.getElem_cons_succ, List.getElem_cons_zero, List.setIfInBounds_toArray, List.set_cons_zero, List.set_cons_succ]
    have HBF := Lib.hid (HB7.out.trans (hbx3.mono HB7.out.size))
    clear hS HKS hbd hbx1 hbx2 hbx3 hnx1 hnx2 hnx3
    go_wp2_with fail
    refine bodyPost_ret (v := .bool true) (by simp [results, Try.results8, go_sem]) rfl ?_
    exact ⟨rfl, HBF.out⟩
  · go_simp
    have hb5 : Below v4.heap.size v4 (v4.alloc (.cells #[.int .i64 kq, .int .i64 hq, .slice Aq nq cq] 26)).drew := ((Below.refl _ v4).alloc (Nat.le_refl _) _).drew
    refine hK.out _ _ (HKS.out _ hb5) (fun hS => ?_)
    clear hK KN
    try simp only [Act.put, List.setIfInBounds_toArray, List.set_cons_zero, List.set_cons_succ]
    have hP5 : (v4.alloc (.cells #[.int .i64 kq, .int .i64 hq, .slice Aq nq cq] 26)).drew.heap[v4.heap.size]? = some (.cells #[.int .i64 kq, .int .i64 hq, .slice Aq nq cq] 26 (0, 0)) := heap_alloc_new v4 _
    have hl5 : v4.heap.size < (v4.alloc (.cells #[.int .i64 kq, .int .i64 hq, .slice Aq nq cq] 26)).drew.heap.size := (Array.getElem?_eq_some_iff.1 hP5).1
    obtain ⟨P6, hP6⟩ : ∃ p, v4.heap.size = p := ⟨_, rfl⟩
    rw [hP6] at hP5 hl5
    try rw [hP6]
    clear hP6
    generalize (v4.alloc (.cells #[.int .i64 kq, .int .i64 hq, .slice Aq nq cq] 26)).drew = w55 at *
    refine wpAnyH_ready (rs := [1]) (by kernel_rfl) (by simp) ?_
    refine AllReadyH.cons rfl (fun KN hK => ?_) AllReadyH.nil
    obtain ⟨A5, c5, w66, olds5, hrun5, hrowB, hb6⟩ := termApp1V HCL.out (by omega) hb5
    have hbB := hb5.trans (hb6.mono hb5.size)
    refine Lib.wp_append_run _ (.const (.slice none 0 0)) (.tmp 70) 24 24 rfl _ _ rfl rfl _ _ hrun5 ?_
    refine hK.out _ _ (HKS.out _ hbB) (fun hS => ?_)
    clear hK KN
    try simp only [Act.put, List.setIfInBounds_toArray]
    have hPB := (hb6.block P6 hl5).trans hP5
    clear hb5 hP5 hl5 hb6 hrun5
    refine wpAnyH_ready (rs := [4]) (by kernel_rfl) (by simp) ?_
    refine AllReadyH.cons rfl (fun KN hK => ?_) AllReadyH.nil
    obtain ⟨g7, cap7, w77, hrun7, hcl7, hb7⟩ := termApp2V HCL.out (by omega) hbB hrowB hPB HRA.out
    refine Lib.wp_append_run _ (.tmp 71) (.tmp 73) 24 24 rfl _ _ rfl rfl _ _ hrun7 ?_
    refine hK.out _ _ (HKS.out _ hb7) (fun hS => ?_)
    clear hK KN
    try simp only [Act.put]
    clear hbB hrowB hPB hrun7
    refine wpAnyH_take (i := 5) (v := .slice (some ⟨g7, 0, none⟩) (nc + 1) cap7) rfl (by kernel_rfl) (by kernel_rfl) (by kernel_rfl) (fun _ _ _ h => h) (Or.inl ⟨by kernel_rfl, ?_⟩) hS ?_
    · intro w' hSw
      obtain ⟨s0, s1, s2, s3, s4, s5, s6, s7, s8, s9, s10, s11, s12, s13, s14⟩ := hSw
      go_simp
    try simp only [Act.put]
    refine wpAnyH_done (by kernel_rfl) ?_ _
    try simp only [List.setIfInBounds_toArray]
    try simp only [List.getElem_toArray, List.getElem_cons_succ, List.getElem_cons_zero, List.setIfInBounds_toArray, List.set_cons_zero, List.set_cons_succ]
    have HB7 := Lib.hid (HBm.out.trans (hb7.mono HBm.out.size))
    replace bp0 := (hb7.cell (cell_lt bp0)).trans bp0
    replace bp1 := (hb7.cell (cell_lt bp1)).trans bp1
    replace bp2 := (hb7.cell (cell_lt bp2)).trans bp2
    replace bq0 := (hb7.cell (cell_lt bq0)).trans bq0
    replace bq1 := (hb7.cell (cell_lt bq1)).trans bq1
    replace bq2 := (hb7.cell (cell_lt bq2)).trans bq2
    replace br0 := (hb7.cell (cell_lt br0)).trans br0
    replace br1 := (hb7.cell (cell_lt br1)).trans br1
    replace br2 := (hb7.cell (cell_lt br2)).trans br2
    replace lp0 := (hb7.cell (cell_lt lp0)).trans lp0
    replace lp1 := (hb7.cell (cell_lt lp1)).trans lp1
    replace lp2 := (hb7.cell (cell_lt lp2)).trans lp2
    replace pp0 := (hb7.cell (cell_lt pp0)).trans pp0
    replace pp1 := (hb7.cell (cell_lt pp1)).trans pp1
    replace pp2 := (hb7.cell (cell_lt pp2)).trans pp2
    have hck := HK.out.keep HB7.out
    have HT1 : Hid (∀ W' : World, Below w77.heap.size w77 W' → Calls Try.prog 15 #[.slice As ns cs, .slice none 0 0, .slice Ac nc cc, .agg #[.int .i64 3, .int .i64 0, .slice (some ⟨w8.heap.size, 0, none⟩) 1 1], .agg #[.int .i64 1, .int .i64 0, .slice (some ⟨w8.heap.size + 1 + 1, 0, none⟩) 2 2]] W' fun e w' => e = .returned (.int .i64 (ckT ⟨sg, []⟩ (cx ++ [a]) m b)) ∧ Below W'.heap.size W' w') := Lib.hid fun W' h' => by
      rw [← ck_lam HYm.out HYa.out HYb.out KM.out KA.out KB.out (by omega)]
      exact vCheckTermC ⟨sg, []⟩ cx _ _ As ns cs none 0 0 Ac nc cc _ _ W' (hck.keep h') (Rd.keep (hb7.trans (h'.mono hb7.size)) _ _ HRL.out) (Rd.keep (hb7.trans (h'.mono hb7.size)) _ _ HRP.out) HLO.out (fun _ => lo_lamV (lo_lt HRm.out HYm.out)) (fun _ => lo_piV (lo_lt HRa.out HYa.out) (lo_lt HRb.out HYb.out))
    have HT2 : Hid (∀ W' : World, Below w77.heap.size w77 W' → Calls Try.prog 15 #[.slice As ns cs, .slice none 0 0, .slice (some ⟨g7, 0, none⟩) (nc + 1) cap7, .agg #[.int .i64 kp, .int .i64 hp, .slice Ap np cp], .agg #[.int .i64 kr, .int .i64 hr, .slice Ar nr cr]] W' fun e w' => e = .returned (.int .i64 (ckT ⟨sg, []⟩ (cx ++ [a]) m b)) ∧ Below W'.heap.size W' w') := Lib.hid fun W' h' =>
      vCheckTermC ⟨sg, []⟩ (cx ++ [a]) _ _ As ns cs none 0 0 _ _ _ _ _ W' ⟨(hck.keep h').sg, (hck.keep h').ms, hcl7.keep h'⟩ (Rd.keep (hb7.trans (h'.mono hb7.size)) _ _ HRM.out) (Rd.keep (hb7.trans (h'.mono hb7.size)) _ _ HRB.out) (loV_more HLO.out (lo_lt HRa.out HYa.out)) (fun _ => lo_lt HRm.out HYm.out) (fun _ => lo_lt HRb.out HYb.out)
    obtain ⟨e3, he3⟩ : ∃ e, ckT ⟨sg, []⟩ cx (.node 3 0 [m]) a = e := ⟨_, rfl⟩
    have HT3 : Hid (∀ W' : World, Below w77.heap.size w77 W' → Calls Try.prog 15 #[.slice As ns cs, .slice none 0 0, .slice Ac nc cc, .agg #[.int .i64 3, .int .i64 0, .slice (some ⟨w8.heap.size, 0, none⟩) 1 1], .agg #[.int .i64 kq, .int .i64 hq, .slice Aq nq cq]] W' fun e w' => e = .returned (.int .i64 e3) ∧ Below W'.heap.size W' w') := Lib.hid fun W' h' => by
      rw [← he3]
      exact vCheckTermC ⟨sg, []⟩ cx _ _ As ns cs none 0 0 Ac nc cc _ _ W' (hck.keep h') (Rd.keep (hb7.trans (h'.mono hb7.size)) _ _ HRL.out) (Rd.keep (hb7.trans (h'.mono hb7.size)) _ _ HRA.out) HLO.out (fun _ => lo_lamV (lo_lt HRm.out HYm.out)) (fun _ => lo_lt HRa.out HYa.out)
    have hkq := (rdF_kind HVq.out).1
    have HE3 := Lib.hid he3
    clear he3 hck hb7 hcl7 hS HKS hbd
    generalize ckT ⟨sg, []⟩ (cx ++ [a]) m b = ee at *
    go_wp2_with fail
    by_cases hz : e3 = 0
    case' neg =>
      have hd3 : (e3 != 0) = true := by simpa using hz
      have HKS : Hid (∀ w' : World, Below w77.heap.size w77 w' → (fun w' => w'.cell? ⟨w.heap.size, 0, none⟩ = some (.int .i64 kp) ∧ w'.cell? ⟨w.heap.size, 1, none⟩ = some (.int .i64 hp) ∧ w'.cell? ⟨w.heap.size, 2, none⟩ = some (.slice Ap np cp) ∧ w'.cell? ⟨w.heap.size + 1, 0, none⟩ = some (.int .i64 kq) ∧ w'.cell? ⟨w.heap.size + 1, 1, none⟩ = some (.int .i64 hq) ∧ w'.cell? ⟨w.heap.size + 1, 2, none⟩ = some (.slice Aq nq cq) ∧ w'.cell? ⟨w.heap.size + 1 + 1, 0, none⟩ = some (.int .i64 kr) ∧ w'.cell? ⟨w.heap.size + 1 + 1, 1, none⟩ = some (.int .i64 hr) ∧ w'.cell? ⟨w.heap.size + 1 + 1, 2, none⟩ = some (.slice Ar nr cr) ∧ w'.cell? ⟨w8.heap.size + 1, 0, none⟩ = some (.int .i64 3) ∧ w'.cell? ⟨w8.heap.size + 1, 1, none⟩ = some (.int .i64 0) ∧ w'.cell? ⟨w8.heap.size + 1, 2, none⟩ = some (.slice (some ⟨w8.heap.size, 0, none⟩) 1 1) ∧ w'.cell? ⟨w8.heap.size + 1 + 1 + 1, 0, none⟩ = some (.int .i64 1) ∧ w'.cell? ⟨w8.heap.size + 1 + 1 + 1, 1, none⟩ = some (.int .i64 0) ∧ w'.cell? ⟨w8.heap.size + 1 + 1 + 1, 2, none⟩ = some (.slice (some ⟨w8.heap.size + 1 + 1, 0, none⟩) 2 2)) w') := Lib.hid fun w' h => ⟨(h.cell (cell_lt bp0)).trans bp0, (h.cell (cell_lt bp1)).trans bp1, (h.cell (cell_lt bp2)).trans bp2, (h.cell (cell_lt bq0)).trans bq0, (h.cell (cell_lt bq1)).trans bq1, (h.cell (cell_lt bq2)).trans bq2, (h.cell (cell_lt br0)).trans br0, (h.cell (cell_lt br1)).trans br1, (h.cell (cell_lt br2)).trans br2, (h.cell (cell_lt lp0)).trans lp0, (h.cell (cell_lt lp1)).trans lp1, (h.cell (cell_lt lp2)).trans lp2, (h.cell (cell_lt pp0)).trans pp0, (h.cell (cell_lt pp1)).trans pp1, (h.cell (cell_lt pp2)).trans pp2⟩
      have hbd : Below w77.heap.size w77 w77.drew := (Below.refl _ w77).drew
      refine wp_region_held_drew (S := fun w' => w'.cell? ⟨w.heap.size, 0, none⟩ = some (.int .i64 kp) ∧ w'.cell? ⟨w.heap.size, 1, none⟩ = some (.int .i64 hp) ∧ w'.cell? ⟨w.heap.size, 2, none⟩ = some (.slice Ap np cp) ∧ w'.cell? ⟨w.heap.size + 1, 0, none⟩ = some (.int .i64 kq) ∧ w'.cell? ⟨w.heap.size + 1, 1, none⟩ = some (.int .i64 hq) ∧ w'.cell? ⟨w.heap.size + 1, 2, none⟩ = some (.slice Aq nq cq) ∧ w'.cell? ⟨w.heap.size + 1 + 1, 0, none⟩ = some (.int .i64 kr) ∧ w'.cell? ⟨w.heap.size + 1 + 1, 1, none⟩ = some (.int .i64 hr) ∧ w'.cell? ⟨w.heap.size + 1 + 1, 2, none⟩ = some (.slice Ar nr cr) ∧ w'.cell? ⟨w8.heap.size + 1, 0, none⟩ = some (.int .i64 3) ∧ w'.cell? ⟨w8.heap.size + 1, 1, none⟩ = some (.int .i64 0) ∧ w'.cell? ⟨w8.heap.size + 1, 2, none⟩ = some (.slice (some ⟨w8.heap.size, 0, none⟩) 1 1) ∧ w'.cell? ⟨w8.heap.size + 1 + 1 + 1, 0, none⟩ = some (.int .i64 1) ∧ w'.cell? ⟨w8.heap.size + 1 + 1 + 1, 1, none⟩ = some (.int .i64 0) ∧ w'.cell? ⟨w8.heap.size + 1 + 1 + 1, 2, none⟩ = some (.slice (some ⟨w8.heap.size + 1 + 1, 0, none⟩) 2 2)) (by kernel_rfl) (HKS.out _ hbd) (fun hS => ?_)
      simp only [List.size_toArray, List.length_cons, List.length_nil, Nat.reduceAdd]
      refine wpAnyH_take (i := 0) (v := .slice As ns cs) rfl (by kernel_rfl) (by kernel_rfl) (by kernel_rfl) (fun _ _ _ h => h) (Or.inl ⟨by kernel_rfl, ?_⟩) hS ?_
      · intro w' hSw
        obtain ⟨s0, s1, s2, s3, s4, s5, s6, s7, s8, s9, s10, s11, s12, s13, s14⟩ := hSw
        go_simp
      try simp only [Act.put, List.setIfInBounds_toArray]
      refine wpAnyH_take (i := 1) (v := .slice Ac nc cc) rfl (by kernel_rfl) (by kernel_rfl) (by kernel_rfl) (fun _ _ _ h => h) (Or.inl ⟨by kernel_rfl, ?_⟩) hS ?_
      · intro w' hSw
        obtain ⟨s0, s1, s2, s3, s4, s5, s6, s7, s8, s9, s10, s11, s12, s13, s14⟩ := hSw
        go_simp
      try simp only [Act.put]
      refine wpAnyH_take (i := 2) (v := .agg #[.int .i64 3, .int .i64 0, .slice (some ⟨w8.heap.size, 0, none⟩) 1 1]) rfl (by kernel_rfl) (by kernel_rfl) (by kernel_rfl) (fun _ _ _ h => h) (Or.inl ⟨by kernel_rfl, ?_⟩) hS ?_
      · intro w' hSw
        obtain ⟨s0, s1, s2, s3, s4, s5, s6, s7, s8, s9, s10, s11, s12, s13, s14⟩ := hSw
        go_simp
      try simp only [Act.put]
      refine wpAnyH_take (i := 3) (v := .agg #[.int .i64 1, .int .i64 0, .slice (some ⟨w8.heap.size + 1 + 1, 0, none⟩) 2 2]) rfl (by kernel_rfl) (by kernel_rfl) (by kernel_rfl) (fun _ _ _ h => h) (Or.inl ⟨by kernel_rfl, ?_⟩) hS ?_
      · intro w' hSw
        obtain ⟨s0, s1, s2, s3, s4, s5, s6, s7, s8, s9, s10, s11, s12, s13, s14⟩ := hSw
        go_simp
      try simp only [Act.put]
      refine wpAnyH_take (i := 5) (v := .slice As ns cs) rfl (by kernel_rfl) (by kernel_rfl) (by kernel_rfl) (fun _ _ _ h => h) (Or.inl ⟨by kernel_rfl, ?_⟩) hS ?_
      · intro w' hSw
        obtain ⟨s0, s1, s2, s3, s4, s5, s6, s7, s8, s9, s10, s11, s12, s13, s14⟩ := hSw
        go_simp
      try simp only [Act.put]
      refine wpAnyH_take (i := 6) (v := .slice (some ⟨g7, 0, none⟩) (nc + 1) cap7) rfl (by kernel_rfl) (by kernel_rfl) (by kernel_rfl) (fun _ _ _ h => h) (Or.inl ⟨by kernel_rfl, ?_⟩) hS ?_
      · intro w' hSw
        obtain ⟨s0, s1, s2, s3, s4, s5, s6, s7, s8, s9, s10, s11, s12, s13, s14⟩ := hSw
        go_simp
      try simp only [Act.put]
      refine wpAnyH_take (i := 7) (v := .agg #[.int .i64 kp, .int .i64 hp, .slice Ap np cp]) rfl (by kernel_rfl) (by kernel_rfl) (by kernel_rfl) (fun _ _ _ h => h) (Or.inl ⟨by kernel_rfl, ?_⟩) hS ?_
      · intro w' hSw
        obtain ⟨s0, s1, s2, s3, s4, s5, s6, s7, s8, s9, s10, s11, s12, s13, s14⟩ := hSw
        go_simp
      try simp only [Act.put]
      refine wpAnyH_take (i := 8) (v := .agg #[.int .i64 kr, .int .i64 hr, .slice Ar nr cr]) rfl (by kernel_rfl) (by kernel_rfl) (by kernel_rfl) (fun _ _ _ h => h) (Or.inl ⟨by kernel_rfl, ?_⟩) hS ?_
      · intro w' hSw
        obtain ⟨s0, s1, s2, s3, s4, s5, s6, s7, s8, s9, s10, s11, s12, s13, s14⟩ := hSw
        go_simp
      try simp only [Act.put]
      refine wpAnyH_ready (rs := [4]) (by kernel_rfl) (by simp) ?_
      refine AllReadyH.cons rfl (fun KN hK => ?_) AllReadyH.nil
      go_simp
      refine (HT1.out _ hbd).mono ?_
      rintro e x1 ⟨rfl, hnx1⟩
      have hbx1 := hbd.trans (hnx1.mono hbd.size)
      refine hK.out _ _ (HKS.out _ hbx1) (fun hS => ?_)
      clear hK KN
      try simp only [Act.put, List.setIfInBounds_toArray, List.set_cons_zero, List.set_cons_succ]
      refine wpAnyH_ready (rs := [9]) (by kernel_rfl) (by simp) ?_
      refine AllReadyH.cons rfl (fun KN hK => ?_) AllReadyH.nil
      go_simp
      refine (HT2.out _ hbx1).mono ?_
      rintro e x2 ⟨rfl, hnx2⟩
      have hbx2 := hbx1.trans (hnx2.mono hbx1.size)
      refine hK.out _ _ (HKS.out _ hbx2) (fun hS => ?_)
      clear hK KN
      try simp only [Act.put, List.setIfInBounds_toArray, List.set_cons_zero, List.set_cons_succ]
      refine wpAnyH_take (i := 10) (v := .bool true) rfl (by kernel_rfl) (by kernel_rfl) (by kernel_rfl) (fun _ _ _ h => h) (Or.inl ⟨by kernel_rfl, ?_⟩) hS ?_
      · intro w' hSw
        obtain ⟨s0, s1, s2, s3, s4, s5, s6, s7, s8, s9, s10, s11, s12, s13, s14⟩ := hSw
        go_simp
      try simp only [Act.put, List.setIfInBounds_toArray]
      refine wpAnyH_take (i := 11) (v := .bool true) rfl (by kernel_rfl) (by kernel_rfl) (by kernel_rfl) (fun _ _ _ h => h) (Or.inl ⟨by kernel_rfl, ?_⟩) hS ?_
      · intro w' hSw
        obtain ⟨s0, s1, s2, s3, s4, s5, s6, s7, s8, s9, s10, s11, s12, s13, s14⟩ := hSw
        go_simp
      try simp only [Act.put]
      refine wpAnyH_take (i := 12) (v := .slice As ns cs) rfl (by kernel_rfl) (by kernel_rfl) (by kernel_rfl) (fun _ _ _ h => h) (Or.inl ⟨by kernel_rfl, ?_⟩) hS ?_
      · intro w' hSw
        obtain ⟨s0, s1, s2, s3, s4, s5, s6, s7, s8, s9, s10, s11, s12, s13, s14⟩ := hSw
        go_simp
      try simp only [Act.put]
      refine wpAnyH_take (i := 13) (v := .slice Ac nc cc) rfl (by kernel_rfl) (by kernel_rfl) (by kernel_rfl) (fun _ _ _ h => h) (Or.inl ⟨by kernel_rfl, ?_⟩) hS ?_
      · intro w' hSw
        obtain ⟨s0, s1, s2, s3, s4, s5, s6, s7, s8, s9, s10, s11, s12, s13, s14⟩ := hSw
        go_simp
      try simp only [Act.put]
      refine wpAnyH_take (i := 14) (v := .agg #[.int .i64 3, .int .i64 0, .slice (some ⟨w8.heap.size, 0, none⟩) 1 1]) rfl (by kernel_rfl) (by kernel_rfl) (by kernel_rfl) (fun _ _ _ h => h) (Or.inl ⟨by kernel_rfl, ?_⟩) hS ?_
      · intro w' hSw
        obtain ⟨s0, s1, s2, s3, s4, s5, s6, s7, s8, s9, s10, s11, s12, s13, s14⟩ := hSw
        go_simp
      try simp only [Act.put]
      refine wpAnyH_take (i := 15) (v := .agg #[.int .i64 kq, .int .i64 hq, .slice Aq nq cq]) rfl (by kernel_rfl) (by kernel_rfl) (by kernel_rfl) (fun _ _ _ h => h) (Or.inl ⟨by kernel_rfl, ?_⟩) hS ?_
      · intro w' hSw
        obtain ⟨s0, s1, s2, s3, s4, s5, s6, s7, s8, s9, s10, s11, s12, s13, s14⟩ := hSw
        go_simp
      try simp only [Act.put]
      refine wpAnyH_ready (rs := [16]) (by kernel_rfl) (by simp) ?_
      refine AllReadyH.cons rfl (fun KN hK => ?_) AllReadyH.nil
      go_simp
      refine (HT3.out _ hbx2).mono ?_
      rintro e x3 ⟨rfl, hnx3⟩
      have hbx3 := hbx2.trans (hnx3.mono hbx2.size)
      refine hK.out _ _ (HKS.out _ hbx3) (fun hS => ?_)
      clear hK KN
      try simp only [Act.put, List.setIfInBounds_toArray, List.set_cons_zero, List.set_cons_succ]
      refine wpAnyH_take (i := 17) (v := .bool true) rfl (by kernel_rfl) (by kernel_rfl) (by kernel_rfl) (fun _ _ _ h => h) (Or.inl ⟨by kernel_rfl, ?_⟩) hS ?_
      · intro w' hSw
        obtain ⟨s0, s1, s2, s3, s4, s5, s6, s7, s8, s9, s10, s11, s12, s13, s14⟩ := hSw
        go_simp
      try simp only [Act.put, List.setIfInBounds_toArray]
      refine wpAnyH_take (i := 18) (v := .bool true) rfl (by kernel_rfl) (by kernel_rfl) (by kernel_rfl) (fun _ _ _ h => h) (Or.inl ⟨by kernel_rfl, ?_⟩) hS ?_
      · intro w' hSw
        obtain ⟨s0, s1, s2, s3, s4, s5, s6, s7, s8, s9, s10, s11, s12, s13, s14⟩ := hSw
        go_simp
      try simp only [Act.put]
      refine wpAnyH_take (i := 19) (v := undef) rfl (by kernel_rfl) (by kernel_rfl) (by kernel_rfl) (fun _ _ _ h => h) (Or.inr ⟨by kernel_rfl, rfl⟩) hS ?_
      try simp only [Act.put]
      refine wpAnyH_take (i := 20) (v := undef) rfl (by kernel_rfl) (by kernel_rfl) (by kernel_rfl) (fun _ _ _ h => h) (Or.inr ⟨by kernel_rfl, rfl⟩) hS ?_
      try simp only [Act.put]
      refine wpAnyH_take (i := 21) (v := undef) rfl (by kernel_rfl) (by kernel_rfl) (by kernel_rfl) (fun _ _ _ h => h) (Or.inr ⟨by kernel_rfl, rfl⟩) hS ?_
      try simp only [Act.put]
      refine wpAnyH_take (i := 22) (v := .bool true) rfl (by kernel_rfl) (by kernel_rfl) (by kernel_rfl) (fun _ _ _ h => h) (Or.inl ⟨by kernel_rfl, ?_⟩) hS ?_
      · intro w' hSw
        obtain ⟨s0, s1, s2, s3, s4, s5, s6, s7, s8, s9, s10, s11, s12, s13, s14⟩ := hSw
        go_simp
      try simp only [Act.put]
      refine wpAnyH_take (i := 23) (v := .bool true) rfl (by kernel_rfl) (by kernel_rfl) (by kernel_rfl) (fun _ _ _ h => h) (Or.inl ⟨by kernel_rfl, ?_⟩) hS ?_
      · intro w' hSw
        obtain ⟨s0, s1, s2, s3, s4, s5, s6, s7, s8, s9, s10, s11, s12, s13, s14⟩ := hSw
        go_simp
      try simp only [Act.put]
      refine wpAnyH_take (i := 24) (v := .bool true) rfl (by kernel_rfl) (by kernel_rfl) (by kernel_rfl) (fun _ _ _ h => h) (Or.inl ⟨by kernel_rfl, ?_⟩) hS ?_
      · intro w' hSw
        obtain ⟨s0, s1, s2, s3, s4, s5, s6, s7, s8, s9, s10, s11, s12, s13, s14⟩ := hSw
        go_simp
      try simp only [Act.put]
      refine wpAnyH_done (by kernel_rfl) ?_ _
      try simp only [List.setIfInBounds_toArray]
      try simp only [List.getElem_toArray, List.getElem_cons_succ, List.getElem_cons_zero, List.setIfInBounds_toArray, List.set_cons_zero, List.set_cons_succ]
      have HBF := Lib.hid (HB7.out.trans (hbx3.mono HB7.out.size))
      clear hS HKS hbd hbx1 hbx2 hbx3 hnx1 hnx2 hnx3
      go_wp2_with fail
      refine bodyPost_ret (v := .bool true) (by simp [results, Try.results8, go_sem]) rfl ?_
      exact ⟨rfl, HBF.out⟩
    subst hz
    have hk1 := ck_lam_no HE3.out
    rw [hkq] at hk1
    subst hk1
    have HKS : Hid (∀ w' : World, Below w77.heap.size w77 w' → (fun w' => w'.cell? ⟨w.heap.size, 0, none⟩ = some (.int .i64 kp) ∧ w'.cell? ⟨w.heap.size, 1, none⟩ = some (.int .i64 hp) ∧ w'.cell? ⟨w.heap.size, 2, none⟩ = some (.slice Ap np cp) ∧ w'.cell? ⟨w.heap.size + 1, 0, none⟩ = some (.int .i64 1) ∧ w'.cell? ⟨w.heap.size + 1, 1, none⟩ = some (.int .i64 hq) ∧ w'.cell? ⟨w.heap.size + 1, 2, none⟩ = some (.slice Aq nq cq) ∧ w'.cell? ⟨w.heap.size + 1 + 1, 0, none⟩ = some (.int .i64 kr) ∧ w'.cell? ⟨w.heap.size + 1 + 1, 1, none⟩ = some (.int .i64 hr) ∧ w'.cell? ⟨w.heap.size + 1 + 1, 2, none⟩ = some (.slice Ar nr cr) ∧ w'.cell? ⟨w8.heap.size + 1, 0, none⟩ = some (.int .i64 3) ∧ w'.cell? ⟨w8.heap.size + 1, 1, none⟩ = some (.int .i64 0) ∧ w'.cell? ⟨w8.heap.size + 1, 2, none⟩ = some (.slice (some ⟨w8.heap.size, 0, none⟩) 1 1) ∧ w'.cell? ⟨w8.heap.size + 1 + 1 + 1, 0, none⟩ = some (.int .i64 1) ∧ w'.cell? ⟨w8.heap.size + 1 + 1 + 1, 1, none⟩ = some (.int .i64 0) ∧ w'.cell? ⟨w8.heap.size + 1 + 1 + 1, 2, none⟩ = some (.slice (some ⟨w8.heap.size + 1 + 1, 0, none⟩) 2 2)) w') := Lib.hid fun w' h => ⟨(h.cell (cell_lt bp0)).trans bp0, (h.cell (cell_lt bp1)).trans bp1, (h.cell (cell_lt bp2)).trans bp2, (h.cell (cell_lt bq0)).trans bq0, (h.cell (cell_lt bq1)).trans bq1, (h.cell (cell_lt bq2)).trans bq2, (h.cell (cell_lt br0)).trans br0, (h.cell (cell_lt br1)).trans br1, (h.cell (cell_lt br2)).trans br2, (h.cell (cell_lt lp0)).trans lp0, (h.cell (cell_lt lp1)).trans lp1, (h.cell (cell_lt lp2)).trans lp2, (h.cell (cell_lt pp0)).trans pp0, (h.cell (cell_lt pp1)).trans pp1, (h.cell (cell_lt pp2)).trans pp2⟩
    have hbd : Below w77.heap.size w77 w77.drew := (Below.refl _ w77).drew
    refine wp_region_held_drew (S := fun w' => w'.cell? ⟨w.heap.size, 0, none⟩ = some (.int .i64 kp) ∧ w'.cell? ⟨w.heap.size, 1, none⟩ = some (.int .i64 hp) ∧ w'.cell? ⟨w.heap.size, 2, none⟩ = some (.slice Ap np cp) ∧ w'.cell? ⟨w.heap.size + 1, 0, none⟩ = some (.int .i64 1) ∧ w'.cell? ⟨w.heap.size + 1, 1, none⟩ = some (.int .i64 hq) ∧ w'.cell? ⟨w.heap.size + 1, 2, none⟩ = some (.slice Aq nq cq) ∧ w'.cell? ⟨w.heap.size + 1 + 1, 0, none⟩ = some (.int .i64 kr) ∧ w'.cell? ⟨w.heap.size + 1 + 1, 1, none⟩ = some (.int .i64 hr) ∧ w'.cell? ⟨w.heap.size + 1 + 1, 2, none⟩ = some (.slice Ar nr cr) ∧ w'.cell? ⟨w8.heap.size + 1, 0, none⟩ = some (.int .i64 3) ∧ w'.cell? ⟨w8.heap.size + 1, 1, none⟩ = some (.int .i64 0) ∧ w'.cell? ⟨w8.heap.size + 1, 2, none⟩ = some (.slice (some ⟨w8.heap.size, 0, none⟩) 1 1) ∧ w'.cell? ⟨w8.heap.size + 1 + 1 + 1, 0, none⟩ = some (.int .i64 1) ∧ w'.cell? ⟨w8.heap.size + 1 + 1 + 1, 1, none⟩ = some (.int .i64 0) ∧ w'.cell? ⟨w8.heap.size + 1 + 1 + 1, 2, none⟩ = some (.slice (some ⟨w8.heap.size + 1 + 1, 0, none⟩) 2 2)) (by kernel_rfl) (HKS.out _ hbd) (fun hS => ?_)
    simp only [List.size_toArray, List.length_cons, List.length_nil, Nat.reduceAdd]
    refine wpAnyH_take (i := 0) (v := .slice As ns cs) rfl (by kernel_rfl) (by kernel_rfl) (by kernel_rfl) (fun _ _ _ h => h) (Or.inl ⟨by kernel_rfl, ?_⟩) hS ?_
    · intro w' hSw
      obtain ⟨s0, s1, s2, s3, s4, s5, s6, s7, s8, s9, s10, s11, s12, s13, s14⟩ := hSw
      go_simp
    try simp only [Act.put, List.setIfInBounds_toArray]
    refine wpAnyH_take (i := 1) (v := .slice Ac nc cc) rfl (by kernel_rfl) (by kernel_rfl) (by kernel_rfl) (fun _ _ _ h => h) (Or.inl ⟨by kernel_rfl, ?_⟩) hS ?_
    · intro w' hSw
      obtain ⟨s0, s1, s2, s3, s4, s5, s6, s7, s8, s9, s10, s11, s12, s13, s14⟩ := hSw
      go_simp
    try simp only [Act.put]
    refine wpAnyH_take (i := 2) (v := .agg #[.int .i64 3, .int .i64 0, .slice (some ⟨w8.heap.size, 0, none⟩) 1 1]) rfl (by kernel_rfl) (by kernel_rfl) (by kernel_rfl) (fun _ _ _ h => h) (Or.inl ⟨by kernel_rfl, ?_⟩) hS ?_
    · intro w' hSw
      obtain ⟨s0, s1, s2, s3, s4, s5, s6, s7, s8, s9, s10, s11, s12, s13, s14⟩ := hSw
      go_simp
    try simp only [Act.put]
    refine wpAnyH_take (i := 3) (v := .agg #[.int .i64 1, .int .i64 0, .slice (some ⟨w8.heap.size + 1 + 1, 0, none⟩) 2 2]) rfl (by kernel_rfl) (by kernel_rfl) (by kernel_rfl) (fun _ _ _ h => h) (Or.inl ⟨by kernel_rfl, ?_⟩) hS ?_
    · intro w' hSw
      obtain ⟨s0, s1, s2, s3, s4, s5, s6, s7, s8, s9, s10, s11, s12, s13, s14⟩ := hSw
      go_simp
    try simp only [Act.put]
    refine wpAnyH_take (i := 5) (v := .slice As ns cs) rfl (by kernel_rfl) (by kernel_rfl) (by kernel_rfl) (fun _ _ _ h => h) (Or.inl ⟨by kernel_rfl, ?_⟩) hS ?_
    · intro w' hSw
      obtain ⟨s0, s1, s2, s3, s4, s5, s6, s7, s8, s9, s10, s11, s12, s13, s14⟩ := hSw
      go_simp
    try simp only [Act.put]
    refine wpAnyH_take (i := 6) (v := .slice (some ⟨g7, 0, none⟩) (nc + 1) cap7) rfl (by kernel_rfl) (by kernel_rfl) (by kernel_rfl) (fun _ _ _ h => h) (Or.inl ⟨by kernel_rfl, ?_⟩) hS ?_
    · intro w' hSw
      obtain ⟨s0, s1, s2, s3, s4, s5, s6, s7, s8, s9, s10, s11, s12, s13, s14⟩ := hSw
      go_simp
    try simp only [Act.put]
    refine wpAnyH_take (i := 7) (v := .agg #[.int .i64 kp, .int .i64 hp, .slice Ap np cp]) rfl (by kernel_rfl) (by kernel_rfl) (by kernel_rfl) (fun _ _ _ h => h) (Or.inl ⟨by kernel_rfl, ?_⟩) hS ?_
    · intro w' hSw
      obtain ⟨s0, s1, s2, s3, s4, s5, s6, s7, s8, s9, s10, s11, s12, s13, s14⟩ := hSw
      go_simp
    try simp only [Act.put]
    refine wpAnyH_take (i := 8) (v := .agg #[.int .i64 kr, .int .i64 hr, .slice Ar nr cr]) rfl (by kernel_rfl) (by kernel_rfl) (by kernel_rfl) (fun _ _ _ h => h) (Or.inl ⟨by kernel_rfl, ?_⟩) hS ?_
    · intro w' hSw
      obtain ⟨s0, s1, s2, s3, s4, s5, s6, s7, s8, s9, s10, s11, s12, s13, s14⟩ := hSw
      go_simp
    try simp only [Act.put]
    refine wpAnyH_ready (rs := [4]) (by kernel_rfl) (by simp) ?_
    refine AllReadyH.cons rfl (fun KN hK => ?_) AllReadyH.nil
    go_simp
    refine (HT1.out _ hbd).mono ?_
    rintro e x1 ⟨rfl, hnx1⟩
    have hbx1 := hbd.trans (hnx1.mono hbd.size)
    refine hK.out _ _ (HKS.out _ hbx1) (fun hS => ?_)
    clear hK KN
    try simp only [Act.put, List.setIfInBounds_toArray, List.set_cons_zero, List.set_cons_succ]
    refine wpAnyH_ready (rs := [9]) (by kernel_rfl) (by simp) ?_
    refine AllReadyH.cons rfl (fun KN hK => ?_) AllReadyH.nil
    go_simp
    refine (HT2.out _ hbx1).mono ?_
    rintro e x2 ⟨rfl, hnx2⟩
    have hbx2 := hbx1.trans (hnx2.mono hbx1.size)
    refine hK.out _ _ (HKS.out _ hbx2) (fun hS => ?_)
    clear hK KN
    try simp only [Act.put, List.setIfInBounds_toArray, List.set_cons_zero, List.set_cons_succ]
    refine wpAnyH_take (i := 10) (v := .bool true) rfl (by kernel_rfl) (by kernel_rfl) (by kernel_rfl) (fun _ _ _ h => h) (Or.inl ⟨by kernel_rfl, ?_⟩) hS ?_
    · intro w' hSw
      obtain ⟨s0, s1, s2, s3, s4, s5, s6, s7, s8, s9, s10, s11, s12, s13, s14⟩ := hSw
      go_simp
    try simp only [Act.put, List.setIfInBounds_toArray]
    refine wpAnyH_take (i := 11) (v := .bool true) rfl (by kernel_rfl) (by kernel_rfl) (by kernel_rfl) (fun _ _ _ h => h) (Or.inl ⟨by kernel_rfl, ?_⟩) hS ?_
    · intro w' hSw
      obtain ⟨s0, s1, s2, s3, s4, s5, s6, s7, s8, s9, s10, s11, s12, s13, s14⟩ := hSw
      go_simp
    try simp only [Act.put]
    refine wpAnyH_take (i := 12) (v := .slice As ns cs) rfl (by kernel_rfl) (by kernel_rfl) (by kernel_rfl) (fun _ _ _ h => h) (Or.inl ⟨by kernel_rfl, ?_⟩) hS ?_
    · intro w' hSw
      obtain ⟨s0, s1, s2, s3, s4, s5, s6, s7, s8, s9, s10, s11, s12, s13, s14⟩ := hSw
      go_simp
    try simp only [Act.put]
    refine wpAnyH_take (i := 13) (v := .slice Ac nc cc) rfl (by kernel_rfl) (by kernel_rfl) (by kernel_rfl) (fun _ _ _ h => h) (Or.inl ⟨by kernel_rfl, ?_⟩) hS ?_
    · intro w' hSw
      obtain ⟨s0, s1, s2, s3, s4, s5, s6, s7, s8, s9, s10, s11, s12, s13, s14⟩ := hSw
      go_simp
    try simp only [Act.put]
    refine wpAnyH_take (i := 14) (v := .agg #[.int .i64 3, .int .i64 0, .slice (some ⟨w8.heap.size, 0, none⟩) 1 1]) rfl (by kernel_rfl) (by kernel_rfl) (by kernel_rfl) (fun _ _ _ h => h) (Or.inl ⟨by kernel_rfl, ?_⟩) hS ?_
    · intro w' hSw
      obtain ⟨s0, s1, s2, s3, s4, s5, s6, s7, s8, s9, s10, s11, s12, s13, s14⟩ := hSw
      go_simp
    try simp only [Act.put]
    refine wpAnyH_take (i := 15) (v := .agg #[.int .i64 1, .int .i64 hq, .slice Aq nq cq]) rfl (by kernel_rfl) (by kernel_rfl) (by kernel_rfl) (fun _ _ _ h => h) (Or.inl ⟨by kernel_rfl, ?_⟩) hS ?_
    · intro w' hSw
      obtain ⟨s0, s1, s2, s3, s4, s5, s6, s7, s8, s9, s10, s11, s12, s13, s14⟩ := hSw
      go_simp
    try simp only [Act.put]
    refine wpAnyH_ready (rs := [16]) (by kernel_rfl) (by simp) ?_
    refine AllReadyH.cons rfl (fun KN hK => ?_) AllReadyH.nil
    go_simp
    refine (HT3.out _ hbx2).mono ?_
    rintro e x3 ⟨rfl, hnx3⟩
    have hbx3 := hbx2.trans (hnx3.mono hbx2.size)
    refine hK.out _ _ (HKS.out _ hbx3) (fun hS => ?_)
    clear hK KN
    try simp only [Act.put, List.setIfInBounds_toArray, List.set_cons_zero, List.set_cons_succ]
    refine wpAnyH_take (i := 17) (v := .bool false) rfl (by kernel_rfl) (by kernel_rfl) (by kernel_rfl) (fun _ _ _ h => h) (Or.inl ⟨by kernel_rfl, ?_⟩) hS ?_
    · intro w' hSw
      obtain ⟨s0, s1, s2, s3, s4, s5, s6, s7, s8, s9, s10, s11, s12, s13, s14⟩ := hSw
      go_simp
    try simp only [Act.put, List.setIfInBounds_toArray]
    refine wpAnyH_take (i := 18) (v := .bool false) rfl (by kernel_rfl) (by kernel_rfl) (by kernel_rfl) (fun _ _ _ h => h) (Or.inl ⟨by kernel_rfl, ?_⟩) hS ?_
    · intro w' hSw
      obtain ⟨s0, s1, s2, s3, s4, s5, s6, s7, s8, s9, s10, s11, s12, s13, s14⟩ := hSw
      go_simp
    try simp only [Act.put]
    refine wpAnyH_take (i := 19) (v := .pointer (some ⟨w.heap.size + 1, 0, none⟩)) rfl (by kernel_rfl) (by kernel_rfl) (by kernel_rfl) (fun _ _ _ h => h) (Or.inl ⟨by kernel_rfl, ?_⟩) hS ?_
    · intro w' hSw
      obtain ⟨s0, s1, s2, s3, s4, s5, s6, s7, s8, s9, s10, s11, s12, s13, s14⟩ := hSw
      go_simp
    try simp only [Act.put]
    refine wpAnyH_take (i := 20) (v := .int .i64 1) rfl (by kernel_rfl) (by kernel_rfl) (by kernel_rfl) (fun _ _ _ h => h) (Or.inl ⟨by kernel_rfl, ?_⟩) hS ?_
    · intro w' hSw
      obtain ⟨s0, s1, s2, s3, s4, s5, s6, s7, s8, s9, s10, s11, s12, s13, s14⟩ := hSw
      go_simp
    try simp only [Act.put]
    refine wpAnyH_take (i := 21) (v := .bool true) rfl (by kernel_rfl) (by kernel_rfl) (by kernel_rfl) (fun _ _ _ h => h) (Or.inl ⟨by kernel_rfl, ?_⟩) hS ?_
    · intro w' hSw
      obtain ⟨s0, s1, s2, s3, s4, s5, s6, s7, s8, s9, s10, s11, s12, s13, s14⟩ := hSw
      go_simp
    try simp only [Act.put]
    refine wpAnyH_take (i := 22) (v := .bool true) rfl (by kernel_rfl) (by kernel_rfl) (by kernel_rfl) (fun _ _ _ h => h) (Or.inl ⟨by kernel_rfl, ?_⟩) hS ?_
    · intro w' hSw
      obtain ⟨s0, s1, s2, s3, s4, s5, s6, s7, s8, s9, s10, s11, s12, s13, s14⟩ := hSw
      go_simp
    try simp only [Act.put]
    refine wpAnyH_take (i := 23) (v := .bool true) rfl (by kernel_rfl) (by kernel_rfl) (by kernel_rfl) (fun _ _ _ h => h) (Or.inl ⟨by kernel_rfl, ?_⟩) hS ?_
    · intro w' hSw
      obtain ⟨s0, s1, s2, s3, s4, s5, s6, s7, s8, s9, s10, s11, s12, s13, s14⟩ := hSw
      go_simp
    try simp only [Act.put]
    refine wpAnyH_take (i := 24) (v := .bool true) rfl (by kernel_rfl) (by kernel_rfl) (by kernel_rfl) (fun _ _ _ h => h) (Or.inl ⟨by kernel_rfl, ?_⟩) hS ?_
    · intro w' hSw
      obtain ⟨s0, s1, s2, s3, s4, s5, s6, s7, s8, s9, s10, s11, s12, s13, s14⟩ := hSw
      go_simp
    try simp only [Act.put]
    refine wpAnyH_done (by kernel_rfl) ?_ _
    try simp only [List.setIfInBounds_toArray]
    try simp only [List.getElem_toArray, List.getElem_cons_succ, List.getElem_cons_zero, List.setIfInBounds_toArray, List.set_cons_zero, List.set_cons_succ]
    have HBF := Lib.hid (HB7.out.trans (hbx3.mono HB7.out.size))
    clear hS HKS hbd hbx1 hbx2 hbx3 hnx1 hnx2 hnx3
    go_wp2_with fail
    refine bodyPost_ret (v := .bool true) (by simp [results, Try.results8, go_sem]) rfl ?_
    exact ⟨rfl, HBF.out⟩

end Go.Proofs.Ytigfhhfpdggjfaa
