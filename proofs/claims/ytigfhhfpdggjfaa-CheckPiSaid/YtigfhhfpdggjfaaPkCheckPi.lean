/-
  The law CheckPi: its walk, and the law, proved whole, for every input.
-/
import Derived.Test.YtigfhhfpdggjfaaPkLvl
import Derived.Test.YtigfhhfpdggjfaaPkVs
import Derived.SizedLaws

/-
  The walk of the law CheckPi.
-/
namespace Go.Proofs.Ytigfhhfpdggjfaa
open Go.ChangeShapes Go.WideShapes Go.ChangeAt Go.RowKit
set_option linter.unusedVariables false

theorem ty_ki {W : WV} (a : T) : ∀ (cx : List T), nodB a = true → tyV W a cx = 0 → kiV W a cx ≠ 0 := by
  induction a using T.ind with
  | step k h xs ih =>
    intro cx hn ht
    by_cases h1 : k = 1
    · subst h1
      obtain ⟨rfl, x, y, rfl, hx, hy⟩ := piV hn
      rw [ty_pi] at ht
      rw [ki_pi]
      by_cases h2 : tyV W x cx = 0
      · rw [if_pos h2] at ht ⊢
        exact ih y (by simp) _ hy ht
      · rw [if_neg h2] at ht; exact absurd ht h2
    · by_cases h2 : k = 2
      · subst h2
        rw [ki_no W (by omega) (by omega)]; omega
      · rw [ty_no W h1 h2] at ht; cases ht
theorem ck_pi {W : WV} {cx : List T} {a b : T} (ha : myB a = true) (hb : myB b = true) (ka : nd a ≤ 400 ∧ dp a ≤ 55) (kb : nd b ≤ 400 ∧ dp b ≤ 55) (hl : cx.length ≤ 60) :
    ckTy W cx (.node 1 0 [a, b]) = if ckTy W cx a = 0 then ckTy W (cx ++ [a]) b else ckTy W cx a := by
  have e1 : mayV W cx [.node 1 0 [a, b]] = mayV W (cx ++ [a]) [b] := may_more ha hl (by simp [my_piV ha hb ka.1 ka.2 kb.1 kb.2, hb])
  have e2 : mayV W cx [a] = mayV W (cx ++ [a]) [b] := may_more ha hl (by simp [ha, hb])
  unfold ckTy
  rw [e1, e2]
  by_cases hm : mayV W (cx ++ [a]) [b] = true
  · rw [if_pos hm, if_pos hm, if_pos hm, ty_pi]
  · rw [if_neg hm, if_neg hm, if_neg (by omega)]
theorem ck_ki {W : WV} {cx : List T} {a : T} (h : ckTy W cx a = 0) : ckKi W cx a ≠ 0 := by
  unfold ckTy at h
  unfold ckKi
  by_cases hm : mayV W cx [a] = true
  · rw [if_pos hm] at h ⊢
    obtain ⟨y1, y2, y3, y4, y5⟩ := (mayV_iff W cx [a]).1 hm
    exact ty_ki a cx ((myB_iff a).1 (y3 a (by simp))).1 h
  · rw [if_neg hm] at h; cases h
set_option maxRecDepth 100000 in
set_option maxHeartbeats 16000000 in
theorem checkPiC (sg cx : List T) (a b : T) (As : Option Addr) (ns cs : Nat) (Ac : Option Addr) (nc cc : Nat) (va vb : Value) (w : World) (hk : CkV w ⟨sg, []⟩ cx As ns cs none 0 0 Ac nc cc) (hvq : Rd w a va) (hvr : Rd w b vb) :
    Calls Try.prog 9 #[.slice As ns cs, .slice Ac nc cc, va, vb] w fun e w' => e = .returned (.bool true) ∧ Below w.heap.size w w' := by
  have hcl := hk.cx.len
  obtain ⟨rF, hrF⟩ : ∃ r, fwV ⟨sg, []⟩ cx ns 0 = r := ⟨_, rfl⟩
  obtain ⟨ra, hra⟩ : ∃ r, ltB a 400 55 = r := ⟨_, rfl⟩
  obtain ⟨rb, hrb⟩ : ∃ r, ltB b 400 55 = r := ⟨_, rfl⟩
  have HRF := Lib.hid hrF; clear hrF
  have HRa := Lib.hid hra; clear hra
  have HRb := Lib.hid hrb; clear hrb
  obtain ⟨kq, hq, Aq, nq, cq, rfl⟩ := hvq.full
  have HVq := Lib.hid hvq; clear hvq
  obtain ⟨kr, hr, Ar, nr, cr, rfl⟩ := hvr.full
  have HVr := Lib.hid hvr; clear hvr
  have HK := Lib.hid hk; clear hk
  obtain ⟨w0, hW⟩ : ∃ w0, ((w.alloc (.cells #[.int .i64 kq, .int .i64 hq, .slice Aq nq cq] 26)).alloc (.cells #[.int .i64 kr, .int .i64 hr, .slice Ar nr cr] 26)) = w0 := ⟨_, rfl⟩
  have hb0 : Below w.heap.size w w0 := by rw [← hW]; exact (((Below.refl _ _).alloc (by exact Nat.le_refl _) _).alloc (by simp) _)
  have Xq := Lib.hid (show Box w0 (w.heap.size) 26 #[.int .i64 kq, .int .i64 hq, .slice Aq nq cq] by rw [← hW]; exact ((Box.new w _ _).alloc _))
  have Xr := Lib.hid (show Box w0 (w.heap.size + 1) 26 #[.int .i64 kr, .int .i64 hr, .slice Ar nr cr] by rw [← hW]; exact ((Box.new (w.alloc _) _ _).at (by simp)))
  have HB := Lib.hid hb0; clear hb0
  go_enter Try.func9, Try.ntmps9
  go_wp2_with fail
  clear hW
  refine (vAwakeC _).mono ?_
  rintro e w1 ⟨rfl, hb1⟩
  replace Xq := Lib.hid (Xq.out.keep hb1 Xq.out.lt)
  replace Xr := Lib.hid (Xr.out.keep hb1 Xr.out.lt)
  replace HB := Lib.hid (HB.out.trans (hb1.mono HB.out.size))
  clear hb1
  obtain ⟨bq0, bq1, bq2⟩ := Xq.out.three
  obtain ⟨br0, br1, br2⟩ := Xr.out.three
  go_wp2_with fail
  clear bq0 bq1 bq2
  clear br0 br1 br2
  have HC := Lib.hid (vFewC ⟨sg, []⟩ cx As none Ac ns cs 0 0 nc cc _ (HK.out.keep HB.out))
  rw [HRF.out] at HC
  refine (HC.out).mono ?_
  rintro e w2 ⟨rfl, hb1⟩
  replace Xq := Lib.hid (Xq.out.keep hb1 Xq.out.lt)
  replace Xr := Lib.hid (Xr.out.keep hb1 Xr.out.lt)
  replace HB := Lib.hid (HB.out.trans (hb1.mono HB.out.size))
  clear hb1
  clear HC
  obtain ⟨bq0, bq1, bq2⟩ := Xq.out.three
  obtain ⟨br0, br1, br2⟩ := Xr.out.three
  go_wp2_with fail
  clear bq0 bq1 bq2
  clear br0 br1 br2
  have HC := Lib.hid (refLight a 400 55 _ _ (Rd.keep HB.out _ _ HVq.out))
  rw [HRa.out] at HC
  refine (HC.out).mono ?_
  rintro e w3 ⟨rfl, hb1⟩
  replace Xq := Lib.hid (Xq.out.keep hb1 Xq.out.lt)
  replace Xr := Lib.hid (Xr.out.keep hb1 Xr.out.lt)
  replace HB := Lib.hid (HB.out.trans (hb1.mono HB.out.size))
  clear hb1
  clear HC
  obtain ⟨bq0, bq1, bq2⟩ := Xq.out.three
  obtain ⟨br0, br1, br2⟩ := Xr.out.three
  go_wp2_with fail
  clear bq0 bq1 bq2
  clear br0 br1 br2
  have HC := Lib.hid (refLight b 400 55 _ _ (Rd.keep HB.out _ _ HVr.out))
  rw [HRb.out] at HC
  refine (HC.out).mono ?_
  rintro e w4 ⟨rfl, hb1⟩
  replace Xq := Lib.hid (Xq.out.keep hb1 Xq.out.lt)
  replace Xr := Lib.hid (Xr.out.keep hb1 Xr.out.lt)
  replace HB := Lib.hid (HB.out.trans (hb1.mono HB.out.size))
  clear hb1
  clear HC
  obtain ⟨bq0, bq1, bq2⟩ := Xq.out.three
  obtain ⟨br0, br1, br2⟩ := Xr.out.three
  cases rF
  · go_wp2_with fail
    go_ret
    exact ⟨rfl, HB.out⟩
  clear bq0 bq1 bq2
  clear br0 br1 br2
  obtain ⟨bq0, bq1, bq2⟩ := Xq.out.three
  obtain ⟨br0, br1, br2⟩ := Xr.out.three
  cases ra
  · go_wp2_with fail
    go_ret
    exact ⟨rfl, HB.out⟩
  clear bq0 bq1 bq2
  clear br0 br1 br2
  obtain ⟨bq0, bq1, bq2⟩ := Xq.out.three
  obtain ⟨br0, br1, br2⟩ := Xr.out.three
  cases rb
  · go_wp2_with fail
    go_ret
    exact ⟨rfl, HB.out⟩
  clear bq0 bq1 bq2
  clear br0 br1 br2
  have HLO := Lib.hid (loV_of HRF.out)
  have hnc := (few_len HRF.out).2.2
  obtain ⟨bq0, bq1, bq2⟩ := Xq.out.three
  obtain ⟨br0, br1, br2⟩ := Xr.out.three
  go_wp2_with fail
  clear bq0 bq1 bq2
  clear br0 br1 br2
  obtain ⟨ya, hya⟩ : ∃ r, myB a = r := ⟨_, rfl⟩
  have HC := Lib.hid (myC a _ _ (Rd.keep HB.out _ _ HVq.out))
  rw [hya] at HC
  have HYa := Lib.hid hya; clear hya
  refine (HC.out).mono ?_
  rintro e w5 ⟨rfl, hb1⟩
  replace Xq := Lib.hid (Xq.out.keep hb1 Xq.out.lt)
  replace Xr := Lib.hid (Xr.out.keep hb1 Xr.out.lt)
  replace HB := Lib.hid (HB.out.trans (hb1.mono HB.out.size))
  clear hb1
  clear HC
  obtain ⟨bq0, bq1, bq2⟩ := Xq.out.three
  obtain ⟨br0, br1, br2⟩ := Xr.out.three
  cases ya
  · go_wp2_with fail
    go_ret
    exact ⟨rfl, HB.out⟩
  clear bq0 bq1 bq2
  clear br0 br1 br2
  obtain ⟨bq0, bq1, bq2⟩ := Xq.out.three
  obtain ⟨br0, br1, br2⟩ := Xr.out.three
  go_wp2_with fail
  clear bq0 bq1 bq2
  clear br0 br1 br2
  obtain ⟨yb, hyb⟩ : ∃ r, myB b = r := ⟨_, rfl⟩
  have HC := Lib.hid (myC b _ _ (Rd.keep HB.out _ _ HVr.out))
  rw [hyb] at HC
  have HYb := Lib.hid hyb; clear hyb
  refine (HC.out).mono ?_
  rintro e w6 ⟨rfl, hb1⟩
  replace Xq := Lib.hid (Xq.out.keep hb1 Xq.out.lt)
  replace Xr := Lib.hid (Xr.out.keep hb1 Xr.out.lt)
  replace HB := Lib.hid (HB.out.trans (hb1.mono HB.out.size))
  clear hb1
  clear HC
  obtain ⟨bq0, bq1, bq2⟩ := Xq.out.three
  obtain ⟨br0, br1, br2⟩ := Xr.out.three
  cases yb
  · go_wp2_with fail
    go_ret
    exact ⟨rfl, HB.out⟩
  clear bq0 bq1 bq2
  clear br0 br1 br2
  have KA := Lib.hid (lt_nd HRa.out HYa.out)
  have KB := Lib.hid (lt_nd HRb.out HYb.out)
  obtain ⟨v1, hv1⟩ : ∃ x, w6.alloc (.cells #[.int .i64 kq, .int .i64 hq, .slice Aq nq cq, .int .i64 kr, .int .i64 hr, .slice Ar nr cr] 26) = x := ⟨_, rfl⟩
  have hbv1 : Below w6.heap.size w6 v1 := by rw [← hv1]; exact (Below.refl _ _).alloc (Nat.le_refl _) _
  have z1 : Box v1 w6.heap.size 26 #[.int .i64 kq, .int .i64 hq, .slice Aq nq cq, .int .i64 kr, .int .i64 hr, .slice Ar nr cr] := by rw [← hv1]; exact Box.new _ _ _
  obtain ⟨v2, hv2⟩ : ∃ x, v1.alloc (.cells #[.int .i64 1, .int .i64 0, .slice (some ⟨w6.heap.size, 0, none⟩) 2 2] 26) = x := ⟨_, rfl⟩
  have hbv2 : Below v1.heap.size v1 v2 := by rw [← hv2]; exact (Below.refl _ _).alloc (Nat.le_refl _) _
  have z2 : Box v2 v1.heap.size 26 #[.int .i64 1, .int .i64 0, .slice (some ⟨w6.heap.size, 0, none⟩) 2 2] := by rw [← hv2]; exact Box.new _ _ _
  have hb04 := hbv1.trans (hbv2.mono hbv1.size)
  have sz1 : v1.heap.size = w6.heap.size + 1 := by rw [← hv1]; simp
  obtain ⟨bq0, bq1, bq2⟩ := Xq.out.three
  obtain ⟨br0, br1, br2⟩ := Xr.out.three
  have Y1 := z1.keep hbv2 z1.lt
  have HBm := Lib.hid (HB.out.trans (hb04.mono HB.out.size))
  have HRP := Lib.hid (Rd_node.2 ⟨_, _, _, rfl, wfV (by omega) (by omega), wfV (by omega) (by omega), rfl, Nat.le_refl _, by unfold maxLen; omega, rd_two Y1 (Rd.keep HBm.out _ _ HVq.out) (Rd.keep HBm.out _ _ HVr.out)⟩ : Rd v2 (.node 1 0 [a, b]) (.agg #[.int .i64 1, .int .i64 0, .slice (some ⟨w6.heap.size, 0, none⟩) 2 2]))
  have HZ4 := Lib.hid (z2.at sz1)
  replace Xq := Lib.hid (Xq.out.keep hb04 Xq.out.lt)
  replace Xr := Lib.hid (Xr.out.keep hb04 Xr.out.lt)
  clear z1 z2 Y1 hbv1 hbv2 hb04
  go_wp2_with fail
  clear hv1 hv2 bq0 bq1 bq2 br0 br1 br2
  obtain ⟨bq0, bq1, bq2⟩ := Xq.out.three
  obtain ⟨br0, br1, br2⟩ := Xr.out.three
  obtain ⟨pp0, pp1, pp2⟩ := HZ4.out.three
  have HCL := Lib.hid (HK.out.keep HBm.out).cx
  have HRA := Lib.hid (Rd.keep HBm.out _ _ HVq.out)
  have HRB := Lib.hid (Rd.keep HBm.out _ _ HVr.out)
  have hnc2 : nc ≤ 60 := by omega
  clear sz1
  have HKS : Hid (∀ w' : World, Below v2.heap.size v2 w' → (fun w' => w'.cell? ⟨w.heap.size, 0, none⟩ = some (.int .i64 kq) ∧ w'.cell? ⟨w.heap.size, 1, none⟩ = some (.int .i64 hq) ∧ w'.cell? ⟨w.heap.size, 2, none⟩ = some (.slice Aq nq cq) ∧ w'.cell? ⟨w.heap.size + 1, 0, none⟩ = some (.int .i64 kr) ∧ w'.cell? ⟨w.heap.size + 1, 1, none⟩ = some (.int .i64 hr) ∧ w'.cell? ⟨w.heap.size + 1, 2, none⟩ = some (.slice Ar nr cr) ∧ w'.cell? ⟨w6.heap.size + 1, 0, none⟩ = some (.int .i64 1) ∧ w'.cell? ⟨w6.heap.size + 1, 1, none⟩ = some (.int .i64 0) ∧ w'.cell? ⟨w6.heap.size + 1, 2, none⟩ = some (.slice (some ⟨w6.heap.size, 0, none⟩) 2 2)) w') := Lib.hid fun w' h => ⟨(h.cell (cell_lt bq0)).trans bq0, (h.cell (cell_lt bq1)).trans bq1, (h.cell (cell_lt bq2)).trans bq2, (h.cell (cell_lt br0)).trans br0, (h.cell (cell_lt br1)).trans br1, (h.cell (cell_lt br2)).trans br2, (h.cell (cell_lt pp0)).trans pp0, (h.cell (cell_lt pp1)).trans pp1, (h.cell (cell_lt pp2)).trans pp2⟩
  have hbd : Below v2.heap.size v2 v2.drew := (Below.refl _ v2).drew
  refine wp_region_held_drew (S := fun w' => w'.cell? ⟨w.heap.size, 0, none⟩ = some (.int .i64 kq) ∧ w'.cell? ⟨w.heap.size, 1, none⟩ = some (.int .i64 hq) ∧ w'.cell? ⟨w.heap.size, 2, none⟩ = some (.slice Aq nq cq) ∧ w'.cell? ⟨w.heap.size + 1, 0, none⟩ = some (.int .i64 kr) ∧ w'.cell? ⟨w.heap.size + 1, 1, none⟩ = some (.int .i64 hr) ∧ w'.cell? ⟨w.heap.size + 1, 2, none⟩ = some (.slice Ar nr cr) ∧ w'.cell? ⟨w6.heap.size + 1, 0, none⟩ = some (.int .i64 1) ∧ w'.cell? ⟨w6.heap.size + 1, 1, none⟩ = some (.int .i64 0) ∧ w'.cell? ⟨w6.heap.size + 1, 2, none⟩ = some (.slice (some ⟨w6.heap.size, 0, none⟩) 2 2)) (by kernel_rfl) (HKS.out _ hbd) (fun hS => ?_)
  simp only [List.size_toArray, List.length_cons, List.length_nil, Nat.reduceAdd]
  refine wpAnyH_take (i := 0) (v := .slice Ac nc cc) rfl (by kernel_rfl) (by kernel_rfl) (by kernel_rfl) (fun _ _ _ h => h) (Or.inl ⟨by kernel_rfl, ?_⟩) hS ?_
  · intro w' hSw
    obtain ⟨s0, s1, s2, s3, s4, s5, s6, s7, s8⟩ := hSw
    go_simp
  try simp only [Act.put, List.setIfInBounds_toArray]
  refine wpAnyH_take (i := 2) (v := .agg #[.int .i64 kq, .int .i64 hq, .slice Aq nq cq]) rfl (by kernel_rfl) (by kernel_rfl) (by kernel_rfl) (fun _ _ _ h => h) (Or.inl ⟨by kernel_rfl, ?_⟩) hS ?_
  · intro w' hSw
    obtain ⟨s0, s1, s2, s3, s4, s5, s6, s7, s8⟩ := hSw
    go_simp
  try simp only [Act.put]
  refine wpAnyH_ready (rs := [1, 3]) (by kernel_rfl) (by simp) ?_
  refine AllReadyH.cons rfl (fun KN hK => ?_) (AllReadyH.cons rfl (fun KN hK => ?_) AllReadyH.nil)
  · obtain ⟨A5, c5, w55, olds5, hrun5, hrow5, hb5⟩ := termApp1V HCL.out (by omega) hbd
    have hb5' := hbd.trans (hb5.mono hbd.size)
    refine Lib.wp_append_run _ (.const (.slice none 0 0)) (.tmp 54) 24 24 rfl _ _ rfl rfl _ _ hrun5 ?_
    refine hK.out _ _ (HKS.out _ hb5') (fun hS => ?_)
    clear hK KN
    try simp only [Act.put]
    refine wpAnyH_ready (rs := [3]) (by kernel_rfl) (by simp) ?_
    refine AllReadyH.cons rfl (fun KN hK => ?_) AllReadyH.nil
    go_simp
    have hbB : Below v2.heap.size v2 (w55.alloc (.cells #[.int .i64 kq, .int .i64 hq, .slice Aq nq cq] 26)) := hb5'.alloc hb5'.size _
    refine hK.out _ _ (HKS.out _ hbB) (fun hS => ?_)
    clear hK KN
    try simp only [Act.put, List.setIfInBounds_toArray, List.set_cons_zero, List.set_cons_succ]
    have hrowB := hrow5.kept (show Below w55.heap.size w55 (w55.alloc (.cells #[.int .i64 kq, .int .i64 hq, .slice Aq nq cq] 26)) from (Below.refl _ _).alloc (Nat.le_refl _) _)
    have hPB := heap_alloc_new w55 (.cells #[.int .i64 kq, .int .i64 hq, .slice Aq nq cq] 26)
    clear hrow5 hb5 hb5' hrun5
    generalize w55.alloc (.cells #[.int .i64 kq, .int .i64 hq, .slice Aq nq cq] 26) = w66 at *
    generalize w55.heap.size = P6 at *
    refine wpAnyH_ready (rs := [4]) (by kernel_rfl) (by simp) ?_
    refine AllReadyH.cons rfl (fun KN hK => ?_) AllReadyH.nil
    obtain ⟨g7, cap7, w77, hrun7, hcl7, hb7⟩ := termApp2V HCL.out (by omega) hbB hrowB hPB HRA.out
    refine Lib.wp_append_run _ (.tmp 55) (.tmp 57) 24 24 rfl _ _ rfl rfl _ _ hrun7 ?_
    refine hK.out _ _ (HKS.out _ hb7) (fun hS => ?_)
    clear hK KN
    try simp only [Act.put, List.setIfInBounds_toArray]
    clear hbB hrowB hPB hrun7
    refine wpAnyH_take (i := 5) (v := .slice (some ⟨g7, 0, none⟩) (nc + 1) cap7) rfl (by kernel_rfl) (by kernel_rfl) (by kernel_rfl) (fun _ _ _ h => h) (Or.inl ⟨by kernel_rfl, ?_⟩) hS ?_
    · intro w' hSw
      obtain ⟨s0, s1, s2, s3, s4, s5, s6, s7, s8⟩ := hSw
      go_simp
    try simp only [Act.put]
    refine wpAnyH_done (by kernel_rfl) ?_ _
    try simp only [List.setIfInBounds_toArray]
    try simp only [List.getElem_toArray, List.getElem_cons_succ, List.getElem_cons_zero, List.setIfInBounds_toArray, List.set_cons_zero, List.set_cons_succ]
    have HB7 := Lib.hid (HBm.out.trans (hb7.mono HBm.out.size))
    replace bq0 := (hb7.cell (cell_lt bq0)).trans bq0
    replace bq1 := (hb7.cell (cell_lt bq1)).trans bq1
    replace bq2 := (hb7.cell (cell_lt bq2)).trans bq2
    replace br0 := (hb7.cell (cell_lt br0)).trans br0
    replace br1 := (hb7.cell (cell_lt br1)).trans br1
    replace br2 := (hb7.cell (cell_lt br2)).trans br2
    replace pp0 := (hb7.cell (cell_lt pp0)).trans pp0
    replace pp1 := (hb7.cell (cell_lt pp1)).trans pp1
    replace pp2 := (hb7.cell (cell_lt pp2)).trans pp2
    have hck := HK.out.keep HB7.out
    obtain ⟨e1, he1⟩ : ∃ e, ckTy ⟨sg, []⟩ cx a = e := ⟨_, rfl⟩
    obtain ⟨e2, he2⟩ : ∃ e, ckTy ⟨sg, []⟩ (cx ++ [a]) b = e := ⟨_, rfl⟩
    obtain ⟨e4, he4⟩ : ∃ e, ckKi ⟨sg, []⟩ cx a = e := ⟨_, rfl⟩
    have he0 := ck_pi (W := ⟨sg, []⟩) (cx := cx) HYa.out HYb.out KA.out KB.out (by omega)
    rw [he1, he2] at he0
    have HT0 : Hid (∀ W' : World, Below w77.heap.size w77 W' → Calls Try.prog 17 #[.slice As ns cs, .slice none 0 0, .slice Ac nc cc, .agg #[.int .i64 1, .int .i64 0, .slice (some ⟨w6.heap.size, 0, none⟩) 2 2]] W' fun e w' => e = .returned (.int .i64 (ckTy ⟨sg, []⟩ cx (.node 1 0 [a, b]))) ∧ Below W'.heap.size W' w') := Lib.hid fun W' h' =>
      vCheckTypeC ⟨sg, []⟩ cx _ As ns cs none 0 0 _ _ _ _ W' ⟨(hck.keep h').sg, (hck.keep h').ms, (hck.keep h').cx⟩ (Rd.keep (hb7.trans (h'.mono hb7.size)) _ _ HRP.out) HLO.out (fun _ => lo_piV (lo_lt HRa.out HYa.out) (lo_lt HRb.out HYb.out))
    have HTA : Hid (∀ W' : World, Below w77.heap.size w77 W' → Calls Try.prog 17 #[.slice As ns cs, .slice none 0 0, .slice Ac nc cc, .agg #[.int .i64 kq, .int .i64 hq, .slice Aq nq cq]] W' fun e w' => e = .returned (.int .i64 (ckTy ⟨sg, []⟩ cx a)) ∧ Below W'.heap.size W' w') := Lib.hid fun W' h' =>
      vCheckTypeC ⟨sg, []⟩ cx _ As ns cs none 0 0 _ _ _ _ W' ⟨(hck.keep h').sg, (hck.keep h').ms, (hck.keep h').cx⟩ (Rd.keep (hb7.trans (h'.mono hb7.size)) _ _ HRA.out) HLO.out (fun _ => lo_lt HRa.out HYa.out)
    have HTB : Hid (∀ W' : World, Below w77.heap.size w77 W' → Calls Try.prog 17 #[.slice As ns cs, .slice none 0 0, .slice (some ⟨g7, 0, none⟩) (nc + 1) cap7, .agg #[.int .i64 kr, .int .i64 hr, .slice Ar nr cr]] W' fun e w' => e = .returned (.int .i64 (ckTy ⟨sg, []⟩ (cx ++ [a]) b)) ∧ Below W'.heap.size W' w') := Lib.hid fun W' h' =>
      vCheckTypeC ⟨sg, []⟩ (cx ++ [a]) _ As ns cs none 0 0 _ _ _ _ W' ⟨(hck.keep h').sg, (hck.keep h').ms, hcl7.keep h'⟩ (Rd.keep (hb7.trans (h'.mono hb7.size)) _ _ HRB.out) (loV_more HLO.out (lo_lt HRa.out HYa.out)) (fun _ => lo_lt HRb.out HYb.out)
    have HKA : Hid (∀ W' : World, Below w77.heap.size w77 W' → Calls Try.prog 19 #[.slice As ns cs, .slice none 0 0, .slice Ac nc cc, .agg #[.int .i64 kq, .int .i64 hq, .slice Aq nq cq]] W' fun e w' => e = .returned (.int .i64 (ckKi ⟨sg, []⟩ cx a)) ∧ Below W'.heap.size W' w') := Lib.hid fun W' h' =>
      vCheckKindC ⟨sg, []⟩ cx _ As ns cs none 0 0 _ _ _ _ W' ⟨(hck.keep h').sg, (hck.keep h').ms, (hck.keep h').cx⟩ (Rd.keep (hb7.trans (h'.mono hb7.size)) _ _ HRA.out) HLO.out (fun _ => lo_lt HRa.out HYa.out)
    have hki : e1 = 0 → e4 ≠ 0 := fun h0 => by rw [← he4]; exact ck_ki (he1.trans h0)
    rw [he0] at HT0
    rw [he1] at HTA
    rw [he2] at HTB
    rw [he4] at HKA
    clear hck hb7 hcl7 hS HKS hbd he0 he1 he2 he4
    have hbc : Below w77.heap.size w77 w77 := Below.refl _ _
    go_wp2_with fail
    by_cases hz1 : e1 = 0
    case' neg =>
      rw [if_neg hz1] at HT0
      have d1 : (e1 == 0) = false := by simpa using hz1
      have d2 : (e1 != 0) = true := by simpa using hz1
      refine (HT0.out _ hbc).mono ?_
      rintro e x1 ⟨rfl, hn1⟩
      replace hbc := hbc.trans (hn1.mono hbc.size)
      replace bq0 := (hn1.cell (cell_lt bq0)).trans bq0
      replace bq1 := (hn1.cell (cell_lt bq1)).trans bq1
      replace bq2 := (hn1.cell (cell_lt bq2)).trans bq2
      replace br0 := (hn1.cell (cell_lt br0)).trans br0
      replace br1 := (hn1.cell (cell_lt br1)).trans br1
      replace br2 := (hn1.cell (cell_lt br2)).trans br2
      replace pp0 := (hn1.cell (cell_lt pp0)).trans pp0
      replace pp1 := (hn1.cell (cell_lt pp1)).trans pp1
      replace pp2 := (hn1.cell (cell_lt pp2)).trans pp2
      clear hn1
      go_wp2_with fail
      refine (HTA.out _ hbc).mono ?_
      rintro e x2 ⟨rfl, hn2⟩
      replace hbc := hbc.trans (hn2.mono hbc.size)
      replace bq0 := (hn2.cell (cell_lt bq0)).trans bq0
      replace bq1 := (hn2.cell (cell_lt bq1)).trans bq1
      replace bq2 := (hn2.cell (cell_lt bq2)).trans bq2
      replace br0 := (hn2.cell (cell_lt br0)).trans br0
      replace br1 := (hn2.cell (cell_lt br1)).trans br1
      replace br2 := (hn2.cell (cell_lt br2)).trans br2
      replace pp0 := (hn2.cell (cell_lt pp0)).trans pp0
      replace pp1 := (hn2.cell (cell_lt pp1)).trans pp1
      replace pp2 := (hn2.cell (cell_lt pp2)).trans pp2
      clear hn2
      go_wp2_with fail
      refine (HTA.out _ hbc).mono ?_
      rintro e x3 ⟨rfl, hn3⟩
      replace hbc := hbc.trans (hn3.mono hbc.size)
      replace bq0 := (hn3.cell (cell_lt bq0)).trans bq0
      replace bq1 := (hn3.cell (cell_lt bq1)).trans bq1
      replace bq2 := (hn3.cell (cell_lt bq2)).trans bq2
      replace br0 := (hn3.cell (cell_lt br0)).trans br0
      replace br1 := (hn3.cell (cell_lt br1)).trans br1
      replace br2 := (hn3.cell (cell_lt br2)).trans br2
      replace pp0 := (hn3.cell (cell_lt pp0)).trans pp0
      replace pp1 := (hn3.cell (cell_lt pp1)).trans pp1
      replace pp2 := (hn3.cell (cell_lt pp2)).trans pp2
      clear hn3
      have HBF := Lib.hid (HB7.out.trans (hbc.mono HB7.out.size))
      clear hbc
      go_wp2_with fail
      go_ret
      exact ⟨rfl, HBF.out⟩
    rw [if_pos hz1] at HT0
    have h4 := hki hz1
    have d4 : (e4 != 0) = true := by simpa using h4
    subst hz1
    by_cases hz2 : e2 = 0
    case' neg =>
      have d1 : (e2 == 0) = false := by simpa using hz2
      refine (HT0.out _ hbc).mono ?_
      rintro e x1 ⟨rfl, hn1⟩
      replace hbc := hbc.trans (hn1.mono hbc.size)
      replace bq0 := (hn1.cell (cell_lt bq0)).trans bq0
      replace bq1 := (hn1.cell (cell_lt bq1)).trans bq1
      replace bq2 := (hn1.cell (cell_lt bq2)).trans bq2
      replace br0 := (hn1.cell (cell_lt br0)).trans br0
      replace br1 := (hn1.cell (cell_lt br1)).trans br1
      replace br2 := (hn1.cell (cell_lt br2)).trans br2
      replace pp0 := (hn1.cell (cell_lt pp0)).trans pp0
      replace pp1 := (hn1.cell (cell_lt pp1)).trans pp1
      replace pp2 := (hn1.cell (cell_lt pp2)).trans pp2
      clear hn1
      go_wp2_with fail
      refine (HTA.out _ hbc).mono ?_
      rintro e x2 ⟨rfl, hn2⟩
      replace hbc := hbc.trans (hn2.mono hbc.size)
      replace bq0 := (hn2.cell (cell_lt bq0)).trans bq0
      replace bq1 := (hn2.cell (cell_lt bq1)).trans bq1
      replace bq2 := (hn2.cell (cell_lt bq2)).trans bq2
      replace br0 := (hn2.cell (cell_lt br0)).trans br0
      replace br1 := (hn2.cell (cell_lt br1)).trans br1
      replace br2 := (hn2.cell (cell_lt br2)).trans br2
      replace pp0 := (hn2.cell (cell_lt pp0)).trans pp0
      replace pp1 := (hn2.cell (cell_lt pp1)).trans pp1
      replace pp2 := (hn2.cell (cell_lt pp2)).trans pp2
      clear hn2
      go_wp2_with fail
      refine (HTB.out _ hbc).mono ?_
      rintro e x3 ⟨rfl, hn3⟩
      replace hbc := hbc.trans (hn3.mono hbc.size)
      replace bq0 := (hn3.cell (cell_lt bq0)).trans bq0
      replace bq1 := (hn3.cell (cell_lt bq1)).trans bq1
      replace bq2 := (hn3.cell (cell_lt bq2)).trans bq2
      replace br0 := (hn3.cell (cell_lt br0)).trans br0
      replace br1 := (hn3.cell (cell_lt br1)).trans br1
      replace br2 := (hn3.cell (cell_lt br2)).trans br2
      replace pp0 := (hn3.cell (cell_lt pp0)).trans pp0
      replace pp1 := (hn3.cell (cell_lt pp1)).trans pp1
      replace pp2 := (hn3.cell (cell_lt pp2)).trans pp2
      clear hn3
      go_wp2_with fail
      refine (HTA.out _ hbc).mono ?_
      rintro e x4 ⟨rfl, hn4⟩
      replace hbc := hbc.trans (hn4.mono hbc.size)
      replace bq0 := (hn4.cell (cell_lt bq0)).trans bq0
      replace bq1 := (hn4.cell (cell_lt bq1)).trans bq1
      replace bq2 := (hn4.cell (cell_lt bq2)).trans bq2
      replace br0 := (hn4.cell (cell_lt br0)).trans br0
      replace br1 := (hn4.cell (cell_lt br1)).trans br1
      replace br2 := (hn4.cell (cell_lt br2)).trans br2
      replace pp0 := (hn4.cell (cell_lt pp0)).trans pp0
      replace pp1 := (hn4.cell (cell_lt pp1)).trans pp1
      replace pp2 := (hn4.cell (cell_lt pp2)).trans pp2
      clear hn4
      go_wp2_with fail
      refine (HKA.out _ hbc).mono ?_
      rintro e x5 ⟨rfl, hn5⟩
      replace hbc := hbc.trans (hn5.mono hbc.size)
      replace bq0 := (hn5.cell (cell_lt bq0)).trans bq0
      replace bq1 := (hn5.cell (cell_lt bq1)).trans bq1
      replace bq2 := (hn5.cell (cell_lt bq2)).trans bq2
      replace br0 := (hn5.cell (cell_lt br0)).trans br0
      replace br1 := (hn5.cell (cell_lt br1)).trans br1
      replace br2 := (hn5.cell (cell_lt br2)).trans br2
      replace pp0 := (hn5.cell (cell_lt pp0)).trans pp0
      replace pp1 := (hn5.cell (cell_lt pp1)).trans pp1
      replace pp2 := (hn5.cell (cell_lt pp2)).trans pp2
      clear hn5
      have HBF := Lib.hid (HB7.out.trans (hbc.mono HB7.out.size))
      clear hbc
      go_wp2_with fail
      go_ret
      exact ⟨rfl, HBF.out⟩
    subst hz2
    refine (HT0.out _ hbc).mono ?_
    rintro e x1 ⟨rfl, hn1⟩
    replace hbc := hbc.trans (hn1.mono hbc.size)
    replace bq0 := (hn1.cell (cell_lt bq0)).trans bq0
    replace bq1 := (hn1.cell (cell_lt bq1)).trans bq1
    replace bq2 := (hn1.cell (cell_lt bq2)).trans bq2
    replace br0 := (hn1.cell (cell_lt br0)).trans br0
    replace br1 := (hn1.cell (cell_lt br1)).trans br1
    replace br2 := (hn1.cell (cell_lt br2)).trans br2
    replace pp0 := (hn1.cell (cell_lt pp0)).trans pp0
    replace pp1 := (hn1.cell (cell_lt pp1)).trans pp1
    replace pp2 := (hn1.cell (cell_lt pp2)).trans pp2
    clear hn1
    go_wp2_with fail
    refine (HTA.out _ hbc).mono ?_
    rintro e x2 ⟨rfl, hn2⟩
    replace hbc := hbc.trans (hn2.mono hbc.size)
    replace bq0 := (hn2.cell (cell_lt bq0)).trans bq0
    replace bq1 := (hn2.cell (cell_lt bq1)).trans bq1
    replace bq2 := (hn2.cell (cell_lt bq2)).trans bq2
    replace br0 := (hn2.cell (cell_lt br0)).trans br0
    replace br1 := (hn2.cell (cell_lt br1)).trans br1
    replace br2 := (hn2.cell (cell_lt br2)).trans br2
    replace pp0 := (hn2.cell (cell_lt pp0)).trans pp0
    replace pp1 := (hn2.cell (cell_lt pp1)).trans pp1
    replace pp2 := (hn2.cell (cell_lt pp2)).trans pp2
    clear hn2
    go_wp2_with fail
    refine (HTB.out _ hbc).mono ?_
    rintro e x3 ⟨rfl, hn3⟩
    replace hbc := hbc.trans (hn3.mono hbc.size)
    replace bq0 := (hn3.cell (cell_lt bq0)).trans bq0
    replace bq1 := (hn3.cell (cell_lt bq1)).trans bq1
    replace bq2 := (hn3.cell (cell_lt bq2)).trans bq2
    replace br0 := (hn3.cell (cell_lt br0)).trans br0
    replace br1 := (hn3.cell (cell_lt br1)).trans br1
    replace br2 := (hn3.cell (cell_lt br2)).trans br2
    replace pp0 := (hn3.cell (cell_lt pp0)).trans pp0
    replace pp1 := (hn3.cell (cell_lt pp1)).trans pp1
    replace pp2 := (hn3.cell (cell_lt pp2)).trans pp2
    clear hn3
    go_wp2_with fail
    refine (HTA.out _ hbc).mono ?_
    rintro e x4 ⟨rfl, hn4⟩
    replace hbc := hbc.trans (hn4.mono hbc.size)
    replace bq0 := (hn4.cell (cell_lt bq0)).trans bq0
    replace bq1 := (hn4.cell (cell_lt bq1)).trans bq1
    replace bq2 := (hn4.cell (cell_lt bq2)).trans bq2
    replace br0 := (hn4.cell (cell_lt br0)).trans br0
    replace br1 := (hn4.cell (cell_lt br1)).trans br1
    replace br2 := (hn4.cell (cell_lt br2)).trans br2
    replace pp0 := (hn4.cell (cell_lt pp0)).trans pp0
    replace pp1 := (hn4.cell (cell_lt pp1)).trans pp1
    replace pp2 := (hn4.cell (cell_lt pp2)).trans pp2
    clear hn4
    go_wp2_with fail
    refine (HKA.out _ hbc).mono ?_
    rintro e x5 ⟨rfl, hn5⟩
    replace hbc := hbc.trans (hn5.mono hbc.size)
    replace bq0 := (hn5.cell (cell_lt bq0)).trans bq0
    replace bq1 := (hn5.cell (cell_lt bq1)).trans bq1
    replace bq2 := (hn5.cell (cell_lt bq2)).trans bq2
    replace br0 := (hn5.cell (cell_lt br0)).trans br0
    replace br1 := (hn5.cell (cell_lt br1)).trans br1
    replace br2 := (hn5.cell (cell_lt br2)).trans br2
    replace pp0 := (hn5.cell (cell_lt pp0)).trans pp0
    replace pp1 := (hn5.cell (cell_lt pp1)).trans pp1
    replace pp2 := (hn5.cell (cell_lt pp2)).trans pp2
    clear hn5
    have HBF := Lib.hid (HB7.out.trans (hbc.mono HB7.out.size))
    clear hbc
    go_wp2_with fail
    go_ret
    exact ⟨rfl, HBF.out⟩
  · go_simp
    have hb5 : Below v2.heap.size v2 (v2.alloc (.cells #[.int .i64 kq, .int .i64 hq, .slice Aq nq cq] 26)).drew := ((Below.refl _ v2).alloc (Nat.le_refl _) _).drew
    refine hK.out _ _ (HKS.out _ hb5) (fun hS => ?_)
    clear hK KN
    try simp only [Act.put, List.setIfInBounds_toArray, List.set_cons_zero, List.set_cons_succ]
    have hP5 : (v2.alloc (.cells #[.int .i64 kq, .int .i64 hq, .slice Aq nq cq] 26)).drew.heap[v2.heap.size]? = some (.cells #[.int .i64 kq, .int .i64 hq, .slice Aq nq cq] 26 (0, 0)) := heap_alloc_new v2 _
    have hl5 : v2.heap.size < (v2.alloc (.cells #[.int .i64 kq, .int .i64 hq, .slice Aq nq cq] 26)).drew.heap.size := (Array.getElem?_eq_some_iff.1 hP5).1
    obtain ⟨P6, hP6⟩ : ∃ p, v2.heap.size = p := ⟨_, rfl⟩
    rw [hP6] at hP5 hl5
    try rw [hP6]
    clear hP6
    generalize (v2.alloc (.cells #[.int .i64 kq, .int .i64 hq, .slice Aq nq cq] 26)).drew = w55 at *
    refine wpAnyH_ready (rs := [1]) (by kernel_rfl) (by simp) ?_
    refine AllReadyH.cons rfl (fun KN hK => ?_) AllReadyH.nil
    obtain ⟨A5, c5, w66, olds5, hrun5, hrowB, hb6⟩ := termApp1V HCL.out (by omega) hb5
    have hbB := hb5.trans (hb6.mono hb5.size)
    refine Lib.wp_append_run _ (.const (.slice none 0 0)) (.tmp 54) 24 24 rfl _ _ rfl rfl _ _ hrun5 ?_
    refine hK.out _ _ (HKS.out _ hbB) (fun hS => ?_)
    clear hK KN
    try simp only [Act.put, List.setIfInBounds_toArray]
    have hPB := (hb6.block P6 hl5).trans hP5
    clear hb5 hP5 hl5 hb6 hrun5
    refine wpAnyH_ready (rs := [4]) (by kernel_rfl) (by simp) ?_
    refine AllReadyH.cons rfl (fun KN hK => ?_) AllReadyH.nil
    obtain ⟨g7, cap7, w77, hrun7, hcl7, hb7⟩ := termApp2V HCL.out (by omega) hbB hrowB hPB HRA.out
    refine Lib.wp_append_run _ (.tmp 55) (.tmp 57) 24 24 rfl _ _ rfl rfl _ _ hrun7 ?_
    refine hK.out _ _ (HKS.out _ hb7) (fun hS => ?_)
    clear hK KN
    try simp only [Act.put]
    clear hbB hrowB hPB hrun7
    refine wpAnyH_take (i := 5) (v := .slice (some ⟨g7, 0, none⟩) (nc + 1) cap7) rfl (by kernel_rfl) (by kernel_rfl) (by kernel_rfl) (fun _ _ _ h => h) (Or.inl ⟨by kernel_rfl, ?_⟩) hS ?_
    · intro w' hSw
      obtain ⟨s0, s1, s2, s3, s4, s5, s6, s7, s8⟩ := hSw
      go_simp
    try simp only [Act.put]
    refine wpAnyH_done (by kernel_rfl) ?_ _
    try simp only [List.setIfInBounds_toArray]
    try simp only [List.getElem_toArray, List.getElem_cons_succ, List.getElem_cons_zero, List.setIfInBounds_toArray, List.set_cons_zero, List.set_cons_succ]
    have HB7 := Lib.hid (HBm.out.trans (hb7.mono HBm.out.size))
    replace bq0 := (hb7.cell (cell_lt bq0)).trans bq0
    replace bq1 := (hb7.cell (cell_lt bq1)).trans bq1
    replace bq2 := (hb7.cell (cell_lt bq2)).trans bq2
    replace br0 := (hb7.cell (cell_lt br0)).trans br0
    replace br1 := (hb7.cell (cell_lt br1)).trans br1
    replace br2 := (hb7.cell (cell_lt br2)).trans br2
    replace pp0 := (hb7.cell (cell_lt pp0)).trans pp0
    replace pp1 := (hb7.cell (cell_lt pp1)).trans pp1
    replace pp2 := (hb7.cell (cell_lt pp2)).trans pp2
    have hck := HK.out.keep HB7.out
    obtain ⟨e1, he1⟩ : ∃ e, ckTy ⟨sg, []⟩ cx a = e := ⟨_, rfl⟩
    obtain ⟨e2, he2⟩ : ∃ e, ckTy ⟨sg, []⟩ (cx ++ [a]) b = e := ⟨_, rfl⟩
    obtain ⟨e4, he4⟩ : ∃ e, ckKi ⟨sg, []⟩ cx a = e := ⟨_, rfl⟩
    have he0 := ck_pi (W := ⟨sg, []⟩) (cx := cx) HYa.out HYb.out KA.out KB.out (by omega)
    rw [he1, he2] at he0
    have HT0 : Hid (∀ W' : World, Below w77.heap.size w77 W' → Calls Try.prog 17 #[.slice As ns cs, .slice none 0 0, .slice Ac nc cc, .agg #[.int .i64 1, .int .i64 0, .slice (some ⟨w6.heap.size, 0, none⟩) 2 2]] W' fun e w' => e = .returned (.int .i64 (ckTy ⟨sg, []⟩ cx (.node 1 0 [a, b]))) ∧ Below W'.heap.size W' w') := Lib.hid fun W' h' =>
      vCheckTypeC ⟨sg, []⟩ cx _ As ns cs none 0 0 _ _ _ _ W' ⟨(hck.keep h').sg, (hck.keep h').ms, (hck.keep h').cx⟩ (Rd.keep (hb7.trans (h'.mono hb7.size)) _ _ HRP.out) HLO.out (fun _ => lo_piV (lo_lt HRa.out HYa.out) (lo_lt HRb.out HYb.out))
    have HTA : Hid (∀ W' : World, Below w77.heap.size w77 W' → Calls Try.prog 17 #[.slice As ns cs, .slice none 0 0, .slice Ac nc cc, .agg #[.int .i64 kq, .int .i64 hq, .slice Aq nq cq]] W' fun e w' => e = .returned (.int .i64 (ckTy ⟨sg, []⟩ cx a)) ∧ Below W'.heap.size W' w') := Lib.hid fun W' h' =>
      vCheckTypeC ⟨sg, []⟩ cx _ As ns cs none 0 0 _ _ _ _ W' ⟨(hck.keep h').sg, (hck.keep h').ms, (hck.keep h').cx⟩ (Rd.keep (hb7.trans (h'.mono hb7.size)) _ _ HRA.out) HLO.out (fun _ => lo_lt HRa.out HYa.out)
    have HTB : Hid (∀ W' : World, Below w77.heap.size w77 W' → Calls Try.prog 17 #[.slice As ns cs, .slice none 0 0, .slice (some ⟨g7, 0, none⟩) (nc + 1) cap7, .agg #[.int .i64 kr, .int .i64 hr, .slice Ar nr cr]] W' fun e w' => e = .returned (.int .i64 (ckTy ⟨sg, []⟩ (cx ++ [a]) b)) ∧ Below W'.heap.size W' w') := Lib.hid fun W' h' =>
      vCheckTypeC ⟨sg, []⟩ (cx ++ [a]) _ As ns cs none 0 0 _ _ _ _ W' ⟨(hck.keep h').sg, (hck.keep h').ms, hcl7.keep h'⟩ (Rd.keep (hb7.trans (h'.mono hb7.size)) _ _ HRB.out) (loV_more HLO.out (lo_lt HRa.out HYa.out)) (fun _ => lo_lt HRb.out HYb.out)
    have HKA : Hid (∀ W' : World, Below w77.heap.size w77 W' → Calls Try.prog 19 #[.slice As ns cs, .slice none 0 0, .slice Ac nc cc, .agg #[.int .i64 kq, .int .i64 hq, .slice Aq nq cq]] W' fun e w' => e = .returned (.int .i64 (ckKi ⟨sg, []⟩ cx a)) ∧ Below W'.heap.size W' w') := Lib.hid fun W' h' =>
      vCheckKindC ⟨sg, []⟩ cx _ As ns cs none 0 0 _ _ _ _ W' ⟨(hck.keep h').sg, (hck.keep h').ms, (hck.keep h').cx⟩ (Rd.keep (hb7.trans (h'.mono hb7.size)) _ _ HRA.out) HLO.out (fun _ => lo_lt HRa.out HYa.out)
    have hki : e1 = 0 → e4 ≠ 0 := fun h0 => by rw [← he4]; exact ck_ki (he1.trans h0)
    rw [he0] at HT0
    rw [he1] at HTA
    rw [he2] at HTB
    rw [he4] at HKA
    clear hck hb7 hcl7 hS HKS hbd he0 he1 he2 he4
    have hbc : Below w77.heap.size w77 w77 := Below.refl _ _
    go_wp2_with fail
    by_cases hz1 : e1 = 0
    case' neg =>
      rw [if_neg hz1] at HT0
      have d1 : (e1 == 0) = false := by simpa using hz1
      have d2 : (e1 != 0) = true := by simpa using hz1
      refine (HT0.out _ hbc).mono ?_
      rintro e x1 ⟨rfl, hn1⟩
      replace hbc := hbc.trans (hn1.mono hbc.size)
      replace bq0 := (hn1.cell (cell_lt bq0)).trans bq0
      replace bq1 := (hn1.cell (cell_lt bq1)).trans bq1
      replace bq2 := (hn1.cell (cell_lt bq2)).trans bq2
      replace br0 := (hn1.cell (cell_lt br0)).trans br0
      replace br1 := (hn1.cell (cell_lt br1)).trans br1
      replace br2 := (hn1.cell (cell_lt br2)).trans br2
      replace pp0 := (hn1.cell (cell_lt pp0)).trans pp0
      replace pp1 := (hn1.cell (cell_lt pp1)).trans pp1
      replace pp2 := (hn1.cell (cell_lt pp2)).trans pp2
      clear hn1
      go_wp2_with fail
      refine (HTA.out _ hbc).mono ?_
      rintro e x2 ⟨rfl, hn2⟩
      replace hbc := hbc.trans (hn2.mono hbc.size)
      replace bq0 := (hn2.cell (cell_lt bq0)).trans bq0
      replace bq1 := (hn2.cell (cell_lt bq1)).trans bq1
      replace bq2 := (hn2.cell (cell_lt bq2)).trans bq2
      replace br0 := (hn2.cell (cell_lt br0)).trans br0
      replace br1 := (hn2.cell (cell_lt br1)).trans br1
      replace br2 := (hn2.cell (cell_lt br2)).trans br2
      replace pp0 := (hn2.cell (cell_lt pp0)).trans pp0
      replace pp1 := (hn2.cell (cell_lt pp1)).trans pp1
      replace pp2 := (hn2.cell (cell_lt pp2)).trans pp2
      clear hn2
      go_wp2_with fail
      refine (HTA.out _ hbc).mono ?_
      rintro e x3 ⟨rfl, hn3⟩
      replace hbc := hbc.trans (hn3.mono hbc.size)
      replace bq0 := (hn3.cell (cell_lt bq0)).trans bq0
      replace bq1 := (hn3.cell (cell_lt bq1)).trans bq1
      replace bq2 := (hn3.cell (cell_lt bq2)).trans bq2
      replace br0 := (hn3.cell (cell_lt br0)).trans br0
      replace br1 := (hn3.cell (cell_lt br1)).trans br1
      replace br2 := (hn3.cell (cell_lt br2)).trans br2
      replace pp0 := (hn3.cell (cell_lt pp0)).trans pp0
      replace pp1 := (hn3.cell (cell_lt pp1)).trans pp1
      replace pp2 := (hn3.cell (cell_lt pp2)).trans pp2
      clear hn3
      have HBF := Lib.hid (HB7.out.trans (hbc.mono HB7.out.size))
      clear hbc
      go_wp2_with fail
      go_ret
      exact ⟨rfl, HBF.out⟩
    rw [if_pos hz1] at HT0
    have h4 := hki hz1
    have d4 : (e4 != 0) = true := by simpa using h4
    subst hz1
    by_cases hz2 : e2 = 0
    case' neg =>
      have d1 : (e2 == 0) = false := by simpa using hz2
      refine (HT0.out _ hbc).mono ?_
      rintro e x1 ⟨rfl, hn1⟩
      replace hbc := hbc.trans (hn1.mono hbc.size)
      replace bq0 := (hn1.cell (cell_lt bq0)).trans bq0
      replace bq1 := (hn1.cell (cell_lt bq1)).trans bq1
      replace bq2 := (hn1.cell (cell_lt bq2)).trans bq2
      replace br0 := (hn1.cell (cell_lt br0)).trans br0
      replace br1 := (hn1.cell (cell_lt br1)).trans br1
      replace br2 := (hn1.cell (cell_lt br2)).trans br2
      replace pp0 := (hn1.cell (cell_lt pp0)).trans pp0
      replace pp1 := (hn1.cell (cell_lt pp1)).trans pp1
      replace pp2 := (hn1.cell (cell_lt pp2)).trans pp2
      clear hn1
      go_wp2_with fail
      refine (HTA.out _ hbc).mono ?_
      rintro e x2 ⟨rfl, hn2⟩
      replace hbc := hbc.trans (hn2.mono hbc.size)
      replace bq0 := (hn2.cell (cell_lt bq0)).trans bq0
      replace bq1 := (hn2.cell (cell_lt bq1)).trans bq1
      replace bq2 := (hn2.cell (cell_lt bq2)).trans bq2
      replace br0 := (hn2.cell (cell_lt br0)).trans br0
      replace br1 := (hn2.cell (cell_lt br1)).trans br1
      replace br2 := (hn2.cell (cell_lt br2)).trans br2
      replace pp0 := (hn2.cell (cell_lt pp0)).trans pp0
      replace pp1 := (hn2.cell (cell_lt pp1)).trans pp1
      replace pp2 := (hn2.cell (cell_lt pp2)).trans pp2
      clear hn2
      go_wp2_with fail
      refine (HTB.out _ hbc).mono ?_
      rintro e x3 ⟨rfl, hn3⟩
      replace hbc := hbc.trans (hn3.mono hbc.size)
      replace bq0 := (hn3.cell (cell_lt bq0)).trans bq0
      replace bq1 := (hn3.cell (cell_lt bq1)).trans bq1
      replace bq2 := (hn3.cell (cell_lt bq2)).trans bq2
      replace br0 := (hn3.cell (cell_lt br0)).trans br0
      replace br1 := (hn3.cell (cell_lt br1)).trans br1
      replace br2 := (hn3.cell (cell_lt br2)).trans br2
      replace pp0 := (hn3.cell (cell_lt pp0)).trans pp0
      replace pp1 := (hn3.cell (cell_lt pp1)).trans pp1
      replace pp2 := (hn3.cell (cell_lt pp2)).trans pp2
      clear hn3
      go_wp2_with fail
      refine (HTA.out _ hbc).mono ?_
      rintro e x4 ⟨rfl, hn4⟩
      replace hbc := hbc.trans (hn4.mono hbc.size)
      replace bq0 := (hn4.cell (cell_lt bq0)).trans bq0
      replace bq1 := (hn4.cell (cell_lt bq1)).trans bq1
      replace bq2 := (hn4.cell (cell_lt bq2)).trans bq2
      replace br0 := (hn4.cell (cell_lt br0)).trans br0
      replace br1 := (hn4.cell (cell_lt br1)).trans br1
      replace br2 := (hn4.cell (cell_lt br2)).trans br2
      replace pp0 := (hn4.cell (cell_lt pp0)).trans pp0
      replace pp1 := (hn4.cell (cell_lt pp1)).trans pp1
      replace pp2 := (hn4.cell (cell_lt pp2)).trans pp2
      clear hn4
      go_wp2_with fail
      refine (HKA.out _ hbc).mono ?_
      rintro e x5 ⟨rfl, hn5⟩
      replace hbc := hbc.trans (hn5.mono hbc.size)
      replace bq0 := (hn5.cell (cell_lt bq0)).trans bq0
      replace bq1 := (hn5.cell (cell_lt bq1)).trans bq1
      replace bq2 := (hn5.cell (cell_lt bq2)).trans bq2
      replace br0 := (hn5.cell (cell_lt br0)).trans br0
      replace br1 := (hn5.cell (cell_lt br1)).trans br1
      replace br2 := (hn5.cell (cell_lt br2)).trans br2
      replace pp0 := (hn5.cell (cell_lt pp0)).trans pp0
      replace pp1 := (hn5.cell (cell_lt pp1)).trans pp1
      replace pp2 := (hn5.cell (cell_lt pp2)).trans pp2
      clear hn5
      have HBF := Lib.hid (HB7.out.trans (hbc.mono HB7.out.size))
      clear hbc
      go_wp2_with fail
      go_ret
      exact ⟨rfl, HBF.out⟩
    subst hz2
    refine (HT0.out _ hbc).mono ?_
    rintro e x1 ⟨rfl, hn1⟩
    replace hbc := hbc.trans (hn1.mono hbc.size)
    replace bq0 := (hn1.cell (cell_lt bq0)).trans bq0
    replace bq1 := (hn1.cell (cell_lt bq1)).trans bq1
    replace bq2 := (hn1.cell (cell_lt bq2)).trans bq2
    replace br0 := (hn1.cell (cell_lt br0)).trans br0
    replace br1 := (hn1.cell (cell_lt br1)).trans br1
    replace br2 := (hn1.cell (cell_lt br2)).trans br2
    replace pp0 := (hn1.cell (cell_lt pp0)).trans pp0
    replace pp1 := (hn1.cell (cell_lt pp1)).trans pp1
    replace pp2 := (hn1.cell (cell_lt pp2)).trans pp2
    clear hn1
    go_wp2_with fail
    refine (HTA.out _ hbc).mono ?_
    rintro e x2 ⟨rfl, hn2⟩
    replace hbc := hbc.trans (hn2.mono hbc.size)
    replace bq0 := (hn2.cell (cell_lt bq0)).trans bq0
    replace bq1 := (hn2.cell (cell_lt bq1)).trans bq1
    replace bq2 := (hn2.cell (cell_lt bq2)).trans bq2
    replace br0 := (hn2.cell (cell_lt br0)).trans br0
    replace br1 := (hn2.cell (cell_lt br1)).trans br1
    replace br2 := (hn2.cell (cell_lt br2)).trans br2
    replace pp0 := (hn2.cell (cell_lt pp0)).trans pp0
    replace pp1 := (hn2.cell (cell_lt pp1)).trans pp1
    replace pp2 := (hn2.cell (cell_lt pp2)).trans pp2
    clear hn2
    go_wp2_with fail
    refine (HTB.out _ hbc).mono ?_
    rintro e x3 ⟨rfl, hn3⟩
    replace hbc := hbc.trans (hn3.mono hbc.size)
    replace bq0 := (hn3.cell (cell_lt bq0)).trans bq0
    replace bq1 := (hn3.cell (cell_lt bq1)).trans bq1
    replace bq2 := (hn3.cell (cell_lt bq2)).trans bq2
    replace br0 := (hn3.cell (cell_lt br0)).trans br0
    replace br1 := (hn3.cell (cell_lt br1)).trans br1
    replace br2 := (hn3.cell (cell_lt br2)).trans br2
    replace pp0 := (hn3.cell (cell_lt pp0)).trans pp0
    replace pp1 := (hn3.cell (cell_lt pp1)).trans pp1
    replace pp2 := (hn3.cell (cell_lt pp2)).trans pp2
    clear hn3
    go_wp2_with fail
    refine (HTA.out _ hbc).mono ?_
    rintro e x4 ⟨rfl, hn4⟩
    replace hbc := hbc.trans (hn4.mono hbc.size)
    replace bq0 := (hn4.cell (cell_lt bq0)).trans bq0
    replace bq1 := (hn4.cell (cell_lt bq1)).trans bq1
    replace bq2 := (hn4.cell (cell_lt bq2)).trans bq2
    replace br0 := (hn4.cell (cell_lt br0)).trans br0
    replace br1 := (hn4.cell (cell_lt br1)).trans br1
    replace br2 := (hn4.cell (cell_lt br2)).trans br2
    replace pp0 := (hn4.cell (cell_lt pp0)).trans pp0
    replace pp1 := (hn4.cell (cell_lt pp1)).trans pp1
    replace pp2 := (hn4.cell (cell_lt pp2)).trans pp2
    clear hn4
    go_wp2_with fail
    refine (HKA.out _ hbc).mono ?_
    rintro e x5 ⟨rfl, hn5⟩
    replace hbc := hbc.trans (hn5.mono hbc.size)
    replace bq0 := (hn5.cell (cell_lt bq0)).trans bq0
    replace bq1 := (hn5.cell (cell_lt bq1)).trans bq1
    replace bq2 := (hn5.cell (cell_lt bq2)).trans bq2
    replace br0 := (hn5.cell (cell_lt br0)).trans br0
    replace br1 := (hn5.cell (cell_lt br1)).trans br1
    replace br2 := (hn5.cell (cell_lt br2)).trans br2
    replace pp0 := (hn5.cell (cell_lt pp0)).trans pp0
    replace pp1 := (hn5.cell (cell_lt pp1)).trans pp1
    replace pp2 := (hn5.cell (cell_lt pp2)).trans pp2
    clear hn5
    have HBF := Lib.hid (HB7.out.trans (hbc.mono HB7.out.size))
    clear hbc
    go_wp2_with fail
    go_ret
    exact ⟨rfl, HBF.out⟩

end Go.Proofs.Ytigfhhfpdggjfaa

/-
  The law CheckPi: a Pi is a type just if both its parts are, the second one with the first one as an entry more; no type is a kind, and no kind a type. Proved whole, for every input.
-/
namespace Go.Proofs.Ytigfhhfpdggjfaa.checkPi
open Go.ChangeShapes Go.WideShapes Go.ChangeAt Go.RowKit
set_option linter.unusedVariables false

/-- a word -/
def isWord (w : List Char) : Bool := w.all fun c => !(c == Char.ofNat 32)
theorem words_word : ∀ (w r : List Char), isWord w = true → wordsSigns (w ++ Char.ofNat 32 :: r) = w :: wordsSigns r
  | [], r, _ => rfl
  | c :: w, r, h => by
    rw [isWord, List.all_cons, Bool.and_eq_true] at h
    have ih := words_word w r h.2
    have hc : c ≠ Char.ofNat 32 := by simpa using h.1
    rw [List.cons_append]
    conv => lhs; unfold wordsSigns
    split
    · rename_i e; cases e
    · rename_i e
      injection e with e1 e2
      exact absurd e1 hc
    · rename_i c' r' _ e
      injection e with e1 e2
      subst e1; subst e2
      rw [ih]
theorem toList_of {s : String} {l : List Char} (h : s = String.ofList l) : s.toList = l := by rw [h]; exact String.toList_ofList
def sign0 : List Char := ([104,97,114,110,101,115,115] : List Nat).map Char.ofNat
def sign1 : List Char := ([55,56,101,49,55,48,50,102,97,50,56,57,49,97,50,56,99,57,48,51,99,55,101,101,97,56,50,54,99,98,49,49,100,57,57,99,49,101,49,102,51,56,49,101,54,54,52,52,57,57,52,52,97,56,51,102,97,55,51,98,56,50,100,100] : List Nat).map Char.ofNat
def sign2 : List Char := ([99,117,116] : List Nat).map Char.ofNat
def signs : List Char := ([97,116,32,97,109,97,110,117,101,110,115,105,115,47,97,109,97,110,117,101,110,115,105,115,108,97,119,49,48,46,67,104,101,99,107,84,101,114,109,115,32,97,109,97,110,117,101,110,115,105,115,47,97,109,97,110,117,101,110,115,105,115,108,97,119,49,48,46,67,104,101,99,107,84,121,112,101,115,32,97,109,97,110,117,101,110,115,105,115,47,97,109,97,110,117,101,110,115,105,115,108,97,119,49,48,46,67,104,101,99,107,79,110,101,32,97,109,97,110,117,101,110,115,105,115,47,97,109,97,110,117,101,110,115,105,115,108,97,119,49,48,46,67,104,101,99,107,70,114,111,110,116,32,97,109,97,110,117,101,110,115,105,115,47,97,109,97,110,117,101,110,115,105,115,108,97,119,49,48,46,67,104,101,99,107,83,117,98,115,116,32,97,109,97,110,117,101,110,115,105,115,47,97,109,97,110,117,101,110,115,105,115,108,97,119,49,48,46,67,104,101,99,107,76,97,109,32,97,109,97,110,117,101,110,115,105,115,47,97,109,97,110,117,101,110,115,105,115,108,97,119,49,48,46,67,104,101,99,107,80,105,32,97,109,97,110,117,101,110,115,105,115,47,97,109,97,110,117,101,110,115,105,115,108,97,119,49,48,46,67,104,101,99,107,77,111,114,101,32,97,109,97,110,117,101,110,115,105,115,47,97,109,97,110,117,101,110,115,105,115,108,97,119,49,48,46,67,104,101,99,107,70,101,119] : List Nat).map Char.ofNat
set_option maxRecDepth 100000 in
theorem headLine : Try.prog.initOrder.toList = sign0 ++ Char.ofNat 32 :: (sign1 ++ Char.ofNat 32 :: (sign2 ++ Char.ofNat 32 :: signs)) := toList_of (by kernel_rfl)
theorem headWords : ∃ R, behindMainWord (wordsSigns Try.prog.initOrder.toList) = "cut".toList :: R := by
  refine ⟨wordsSigns signs, ?_⟩
  rw [headLine, words_word _ _ (by kernel_rfl), words_word _ _ (by kernel_rfl), words_word _ _ (by kernel_rfl)]
  generalize wordsSigns signs = R
  kernel_rfl
theorem strip_cut (R : List (List Char)) : stripLifts liftWords ("cut".toList :: R) = ([], "cut".toList :: R) := by kernel_rfl
theorem lifts_gen {P : Program} {R : List (List Char)} (h : behindMainWord (wordsSigns P.initOrder.toList) = "cut".toList :: R) : P.headLifts = [] := by
  unfold Program.headLifts
  rw [h, strip_cut]
  kernel_rfl
theorem make_gen {P : Program} {R : List (List Char)} (h : behindMainWord (wordsSigns P.initOrder.toList) = "cut".toList :: R) : P.make = some Make.cut := by
  unfold Program.make
  rw [h]
  kernel_rfl
theorem final_gen {P : Program} {R : List (List Char)} (h : behindMainWord (wordsSigns P.initOrder.toList) = "cut".toList :: R) : P.liftsFinal = false := by
  unfold Program.liftsFinal
  rw [lifts_gen h, h]
  kernel_rfl
theorem enter_gen {P : Program} {R : List (List Char)} (h : behindMainWord (wordsSigns P.initOrder.toList) = "cut".toList :: R) (h2 : P.laysLater = false) (h3 : P.bearsReflect = false) (h4 : P.doorFits [] = true) : P.mayEnter = true := by
  unfold Program.mayEnter
  rw [h]
  dsimp only
  rw [strip_cut, h2, h3]
  dsimp only
  rw [h4]
  kernel_rfl
theorem isLays : Try.prog.laysLater = false := by kernel_rfl
theorem isBears : Try.prog.bearsReflect = false := by kernel_rfl
theorem isDoor : Try.prog.doorFits [] = true := by kernel_rfl
theorem isMake : Try.prog.make = some Make.cut := by
  obtain ⟨R, h⟩ := headWords
  exact make_gen h
theorem isFinal : Try.prog.liftsFinal = false := by
  obtain ⟨R, h⟩ := headWords
  exact final_gen h
theorem isEnter : Try.prog.mayEnter = true := by
  obtain ⟨R, h⟩ := headWords
  exact enter_gen h isLays isBears isDoor

theorem own : ownKnob Try.prog.godebug = none := by kernel_rfl
theorem laidOut : laidOutB Try.prog = true := by kernel_rfl

set_option maxRecDepth 100000 in
theorem contract (H : Type) (enc : TypeId × Value → H) (W : World) (base : Nat) (args : Array Value) (ds gs : List (DataW H)) (before : List MemPlace)
    (hval : ∀ (j : Nat) t v, Try.f9.params[j]? = some t → args[j]? = some v → Value.okWide Try.prog W .any base t v)
    (hW : DataW.Whole enc Try.prog Try.f9.params.toList Rows.checkPiSpec.vars false W args.toList ds gs before) (hsz : (DataW.weightsEach Try.prog (Try.f9.params.toList ++ Rows.checkPiSpec.plain.varTypes Try.prog) (ds ++ gs)).all (· ≤ reachBytes) = true) :
    Calls Try.prog 9 args W fun e W' => ∃ v, e = .returned v ∧ Rows.checkPiSpec.post enc Try.prog Try.f9 false true false false W args v W' := by
  have hW' := hW
  obtain ⟨p, q, hA0, hV, rfl, hfz, hnd⟩ := hW
  have hA : DataW.TrodAll enc Try.prog W 0 (fun _ => true) true Try.f9.params.toList args.toList ds p := hA0
  rw [Try.params9] at hA hval hsz
  obtain ⟨v0, v1, v2, v3, d0, d1, d2, d3, p0, p1, p2, p3, rfl, rfl, rfl, h0, h1, h2, h3⟩ := trodAll_four hA
  obtain ⟨rfl, rfl⟩ := trodVars_none hV
  obtain ⟨t2, r2, le2, wt2⟩ := open_term (hval 2 26 v2 rfl rfl) h2
  obtain ⟨t3, r3, le3, wt3⟩ := open_term (hval 3 26 v3 rfl rfl) h3
  obtain ⟨t0, A0, n0, c0, rfl, r0, b0⟩ := open_decls (hval 0 22 v0 rfl rfl) h0
  obtain ⟨t1, A1, n1, c1, rfl, r1, b1⟩ := open_clv (hval 1 24 v1 rfl rfl) h1
  have hsz' : ∀ n ∈ DataW.weightsEach Try.prog ([22, 24, 26, 26] ++ Rows.checkPiSpec.plain.varTypes Try.prog) ([d0, d1, d2, d3] ++ []), n ≤ reachBytes := fun n hn => of_decide_eq_true (List.all_eq_true.1 hsz n hn)
  simp only [List.cons_append, List.nil_append, DataW.weightsEach, List.mem_append] at hsz'
  have s2 : wd t2 ≤ 3518437208780 := wt2 fun n hn => hsz' n (by simp [hn])
  have s3 : wd t3 ≤ 3518437208780 := wt3 fun n hn => hsz' n (by simp [hn])
  clear hA0 hsz
  simp only [List.append_nil] at hW'
  have lt0 : ∀ x ∈ p0, x.block < W.heap.size := fun x hx => by simpa using hW'.lt x (by simp [hx])
  have lt1 : ∀ x ∈ p1, x.block < W.heap.size := fun x hx => by simpa using hW'.lt x (by simp [hx])
  have lt2 : ∀ x ∈ p2, x.block < W.heap.size := fun x hx => by simpa using hW'.lt x (by simp [hx])
  have lt3 : ∀ x ∈ p3, x.block < W.heap.size := fun x hx => by simpa using hW'.lt x (by simp [hx])
  refine (checkPiC t0 t1 t2 t3 A0 n0 c0 A1 n1 c1 _ _ _ ⟨r0, ⟨rfl, Nat.le_refl _, Nat.zero_le _, fun i x hx => by simp at hx⟩, r1⟩ r2 r3).mono fun e W' ⟨he, hb⟩ => ?_
  subst he
  exact ⟨_, rfl, _, _, _, [], _, [], hW', trodAll_cons_mk (shut_bool Try.underlying4 _) trodAll_mk0,
    trodAll_mk4 (Below.trod laidOut (by kernel_rfl) (of_decide_eq_true (by kernel_rfl)) h0 hb lt0) (Below.trod laidOut (by kernel_rfl) (of_decide_eq_true (by kernel_rfl)) h1 hb lt1) (Below.trod laidOut (by kernel_rfl) (of_decide_eq_true (by kernel_rfl)) h2 hb lt2) (Below.trod laidOut (by kernel_rfl) (of_decide_eq_true (by kernel_rfl)) h3 hb lt3), rfl, hb.frame _, fun h => by cases h⟩

set_option maxRecDepth 100000 in
theorem lifted (os : Os) (started : os.Started) (H : Type) (enc : TypeId × Value → H) :
    ReturnsInHanded {} Try.checked os 9 .any (Rows.checkPiSpec.pre6 enc Try.prog Try.f9 Rows.checkPiRow.domain false) (Rows.checkPiSpec.post enc Try.prog Try.f9 false true false false) := by
  refine returnsInHanded_of_change_sized (C := Try.checked) own started (by kernel_rfl) Try.func9
    (ChangeSpec.witness6 (enc := enc) (C := Try.checked) false ⟨#[], #[.slice none 0 0, .slice none 0 0, .agg #[.int .i64 0, .int .i64 0, .slice none 0 0], .agg #[.int .i64 0, .int .i64 0, .slice none 0 0]], []⟩ 8 (by kernel_rfl) (by kernel_rfl) (by kernel_rfl) (by kernel_rfl)) ?_
  intro W base args ds gs before hval hW _ hsz _
  exact contract H enc W base args ds gs before hval hW hsz

theorem closed : joinedFacts Try.prog 9 Try.f9 Rows.checkPiSpec Rows.checkPiRow = true := by
  unfold joinedFacts
  rw [isEnter, isFinal, isMake]
  kernel_rfl

theorem over : Rows.checkPiRow.holds Try.pinned (OpenSpec.ofChange Rows.checkPiSpec) :=
  OpenClaim.holds_of_wide 9 Try.f9 rfl rfl rfl rfl rfl rfl rfl ⟨rfl, rfl, rfl, rfl, rfl⟩ rfl rfl rfl rfl rfl (by kernel_rfl) Try.func9 closed
    (of_decide_eq_true (by kernel_rfl)) (by unfold Func.isWrapper; first | (rw [if_pos (by decide +kernel)]; kernel_rfl) | (rw [if_neg (by decide +kernel)]; exact ⟨rfl, rfl⟩))
    (fun os started H enc _ => lifted os started H enc)

theorem proved : Rows.CheckPiSaid :=
  over
#print axioms proved
end Go.Proofs.Ytigfhhfpdggjfaa.checkPi
