/-
  The walk of the law CheckFew.
-/
import Derived.Test.YtigfhhfpdggjfaaPkLvo
namespace Go.Proofs.Ytigfhhfpdggjfaa
open Go.ChangeShapes Go.WideShapes Go.ChangeAt Go.RowKit
set_option linter.unusedVariables false

theorem clv_drop {w : World} {xs : List T} {A : Option Addr} {n c q : Nat} (h : CLV w xs A n c) (hq : q ≤ n) : CLV w (xs.drop q) (if c = q then A else A.map fun a => a.add (q * 3)) (n - q) (c - q) := by
  refine ⟨by rw [List.length_drop, h.len], by have := h.le; omega, by have := h.cap; omega, fun i x hx => ?_⟩
  rw [List.getElem?_drop] at hx
  obtain ⟨b, o, k, g, A', n', c', rfl, c0, c1, c2, hr⟩ := (h.at_ _ x hx).full
  have hl := (List.getElem?_eq_some_iff.1 hx).1
  rw [if_neg (by have := h.le; have := h.len; omega)]
  refine ⟨b, o + q * 3, _, _, _, by rw [Option.map_some, addr_add], ?_, ?_, ?_, hr⟩
  · rw [show o + q * 3 + i * 3 = o + (q + i) * 3 by omega]; exact c0
  · rw [show o + q * 3 + i * 3 + 1 = o + (q + i) * 3 + 1 by omega]; exact c1
  · rw [show o + q * 3 + i * 3 + 2 = o + (q + i) * 3 + 2 by omega]; exact c2
set_option maxRecDepth 100000 in
set_option maxHeartbeats 16000000 in
theorem checkFewC (W : WV) (cx : List T) (m a : T) (z : Int) (As : Option Addr) (ns cs : Nat) (Am : Option Addr) (nm cm : Nat) (Ac : Option Addr) (nc cc : Nat) (vm va : Value) (w : World) (hk : CkV w W cx As ns cs Am nm cm Ac nc cc) (hvp : Rd w m vm) (hvq : Rd w a va) (hwz : wrap64 z = z) :
    Calls Try.prog 11 #[.slice As ns cs, .slice Am nm cm, .slice Ac nc cc, vm, va, .int .i64 z] w fun e w' => e = .returned (.bool true) ∧ Below w.heap.size w w' := by
  have hcl := hk.cx.len
  have hml := hk.ms.len
  have hcap := hk.cx.cap
  have hle := hk.cx.le
  unfold maxLen at hcap
  obtain ⟨rF, hrF⟩ : ∃ r, fwV W cx ns nm = r := ⟨_, rfl⟩
  obtain ⟨rm, hrm⟩ : ∃ r, ltB m 400 60 = r := ⟨_, rfl⟩
  obtain ⟨ra, hra⟩ : ∃ r, ltB a 400 60 = r := ⟨_, rfl⟩
  have HRF := Lib.hid hrF; clear hrF
  have HRm := Lib.hid hrm; clear hrm
  have HRa := Lib.hid hra; clear hra
  obtain ⟨kp, hp, Ap, np, cp, rfl⟩ := hvp.full
  have HVp := Lib.hid hvp; clear hvp
  obtain ⟨kq, hq, Aq, nq, cq, rfl⟩ := hvq.full
  have HVq := Lib.hid hvq; clear hvq
  have HK := Lib.hid hk; clear hk
  obtain ⟨w0, hW⟩ : ∃ w0, ((w.alloc (.cells #[.int .i64 kp, .int .i64 hp, .slice Ap np cp] 26)).alloc (.cells #[.int .i64 kq, .int .i64 hq, .slice Aq nq cq] 26)) = w0 := ⟨_, rfl⟩
  have hb0 : Below w.heap.size w w0 := by rw [← hW]; exact (((Below.refl _ _).alloc (by exact Nat.le_refl _) _).alloc (by simp) _)
  have Xp := Lib.hid (show Box w0 (w.heap.size) 26 #[.int .i64 kp, .int .i64 hp, .slice Ap np cp] by rw [← hW]; exact ((Box.new w _ _).alloc _))
  have Xq := Lib.hid (show Box w0 (w.heap.size + 1) 26 #[.int .i64 kq, .int .i64 hq, .slice Aq nq cq] by rw [← hW]; exact ((Box.new (w.alloc _) _ _).at (by simp)))
  have HB := Lib.hid hb0; clear hb0
  go_enter Try.func11, Try.ntmps11
  go_wp2_with fail
  clear hW
  refine (vAwakeC _).mono ?_
  rintro e w1 ⟨rfl, hb1⟩
  replace Xp := Lib.hid (Xp.out.keep hb1 Xp.out.lt)
  replace Xq := Lib.hid (Xq.out.keep hb1 Xq.out.lt)
  replace HB := Lib.hid (HB.out.trans (hb1.mono HB.out.size))
  clear hb1
  obtain ⟨bp0, bp1, bp2⟩ := Xp.out.three
  obtain ⟨bq0, bq1, bq2⟩ := Xq.out.three
  go_wp2_with fail
  clear bp0 bp1 bp2
  clear bq0 bq1 bq2
  have HC := Lib.hid (vFewC W cx As Am Ac ns cs nm cm nc cc _ (HK.out.keep HB.out))
  rw [HRF.out] at HC
  refine (HC.out).mono ?_
  rintro e w2 ⟨rfl, hb1⟩
  replace Xp := Lib.hid (Xp.out.keep hb1 Xp.out.lt)
  replace Xq := Lib.hid (Xq.out.keep hb1 Xq.out.lt)
  replace HB := Lib.hid (HB.out.trans (hb1.mono HB.out.size))
  clear hb1
  clear HC
  obtain ⟨bp0, bp1, bp2⟩ := Xp.out.three
  obtain ⟨bq0, bq1, bq2⟩ := Xq.out.three
  go_wp2_with fail
  clear bp0 bp1 bp2
  clear bq0 bq1 bq2
  have HC := Lib.hid (refLight m 400 60 _ _ (Rd.keep HB.out _ _ HVp.out))
  rw [HRm.out] at HC
  refine (HC.out).mono ?_
  rintro e w3 ⟨rfl, hb1⟩
  replace Xp := Lib.hid (Xp.out.keep hb1 Xp.out.lt)
  replace Xq := Lib.hid (Xq.out.keep hb1 Xq.out.lt)
  replace HB := Lib.hid (HB.out.trans (hb1.mono HB.out.size))
  clear hb1
  clear HC
  obtain ⟨bp0, bp1, bp2⟩ := Xp.out.three
  obtain ⟨bq0, bq1, bq2⟩ := Xq.out.three
  go_wp2_with fail
  clear bp0 bp1 bp2
  clear bq0 bq1 bq2
  have HC := Lib.hid (refLight a 400 60 _ _ (Rd.keep HB.out _ _ HVq.out))
  rw [HRa.out] at HC
  refine (HC.out).mono ?_
  rintro e w4 ⟨rfl, hb1⟩
  replace Xp := Lib.hid (Xp.out.keep hb1 Xp.out.lt)
  replace Xq := Lib.hid (Xq.out.keep hb1 Xq.out.lt)
  replace HB := Lib.hid (HB.out.trans (hb1.mono HB.out.size))
  clear hb1
  clear HC
  obtain ⟨bp0, bp1, bp2⟩ := Xp.out.three
  obtain ⟨bq0, bq1, bq2⟩ := Xq.out.three
  cases rF
  · go_wp2_with fail
    go_ret
    exact ⟨rfl, HB.out⟩
  clear bp0 bp1 bp2
  clear bq0 bq1 bq2
  obtain ⟨bp0, bp1, bp2⟩ := Xp.out.three
  obtain ⟨bq0, bq1, bq2⟩ := Xq.out.three
  cases rm
  · go_wp2_with fail
    go_ret
    exact ⟨rfl, HB.out⟩
  clear bp0 bp1 bp2
  clear bq0 bq1 bq2
  obtain ⟨bp0, bp1, bp2⟩ := Xp.out.three
  obtain ⟨bq0, bq1, bq2⟩ := Xq.out.three
  cases ra
  · go_wp2_with fail
    go_ret
    exact ⟨rfl, HB.out⟩
  clear bp0 bp1 bp2
  clear bq0 bq1 bq2
  by_cases hz0 : z < 0
  · have hd : decide (z < 0) = true := by simpa using hz0
    go_wp2_with fail
    go_ret
    exact ⟨rfl, HB.out⟩
  have hd0 : decide (z < 0) = false := by simpa using hz0
  by_cases hz1 : (nc : Int) < z
  · have hd : decide (z > (nc : Int)) = true := by simpa using hz1
    go_wp2_with fail
    go_ret
    exact ⟨rfl, HB.out⟩
  have hd1 : decide (z > (nc : Int)) = false := by simpa using hz1
  have hnc := (few_len HRF.out).2.2
  obtain ⟨rs, hrs⟩ : ∃ r, scB m z nm = r := ⟨_, rfl⟩
  have HC := Lib.hid (scopedC m z (nm : Int) _ _ (Rd.keep HB.out _ _ HVp.out) hwz)
  rw [hrs] at HC
  have HRS := Lib.hid hrs; clear hrs
  obtain ⟨bp0, bp1, bp2⟩ := Xp.out.three
  obtain ⟨bq0, bq1, bq2⟩ := Xq.out.three
  go_wp2_with fail
  clear bp0 bp1 bp2
  clear bq0 bq1 bq2
  refine (HC.out).mono ?_
  rintro e w5 ⟨rfl, hb1⟩
  replace Xp := Lib.hid (Xp.out.keep hb1 Xp.out.lt)
  replace Xq := Lib.hid (Xq.out.keep hb1 Xq.out.lt)
  replace HB := Lib.hid (HB.out.trans (hb1.mono HB.out.size))
  clear hb1
  clear HC
  obtain ⟨bp0, bp1, bp2⟩ := Xp.out.three
  obtain ⟨bq0, bq1, bq2⟩ := Xq.out.three
  cases rs
  case' true =>
    go_wp2_with fail
    go_ret
    exact ⟨rfl, HB.out⟩
  obtain ⟨j, rfl⟩ : ∃ j : Nat, z = (j : Int) := ⟨z.toNat, by omega⟩
  have hlo := loV_of HRF.out
  obtain ⟨e1, he1⟩ : ∃ e, ckT W (cx.drop (nc - j)) m a = e := ⟨_, rfl⟩
  have hne : e1 ≠ 0 := fun h0 => by
    have h1 := ck_scoped (he1.trans h0) (metas := nm) (by omega)
    rw [List.length_drop, hcl, show nc - (nc - j) = j by omega] at h1
    have h2 := HRS.out
    rw [h1] at h2
    cases h2
  have hdn : (e1 != 0) = true := by simpa using hne
  have hw1 : IntKind.i64.wrap ((nc : Int) - (j : Int)) = ((nc - j : Nat) : Int) := by rw [wrapEq, wrap_small (by omega) (by omega)]; omega
  obtain ⟨q0, hq0⟩ : ∃ q, nc - j = q := ⟨_, rfl⟩
  rw [hq0] at hw1 he1
  have hqn : q0 ≤ nc := by omega
  have hjn : nc - q0 = j := by omega
  have hq1 : (0 : Int) ≤ (q0 : Int) := by omega
  have hq2 : (q0 : Int) ≤ (nc : Int) := by omega
  have HJ := Lib.hid hjn
  have HC := Lib.hid (fun W' (h' : Below w5.heap.size w5 W') => clv_drop (HK.out.keep (HB.out.trans (h'.mono HB.out.size))).cx hqn)
  obtain ⟨AA, hAA⟩ : ∃ AA, (if cc = q0 then Ac else Ac.map fun a => a.add (q0 * 3)) = AA := ⟨_, rfl⟩
  rw [hAA] at HC
  have HLO := Lib.hid hlo
  have HE1 := Lib.hid he1
  clear hlo he1 hjn hq0
  go_wp2_with fail
  have HKS : Hid (∀ w' : World, Below w5.heap.size w5 w' → (fun w' => w'.cell? ⟨w.heap.size, 0, none⟩ = some (.int .i64 kp) ∧ w'.cell? ⟨w.heap.size, 1, none⟩ = some (.int .i64 hp) ∧ w'.cell? ⟨w.heap.size, 2, none⟩ = some (.slice Ap np cp) ∧ w'.cell? ⟨w.heap.size + 1, 0, none⟩ = some (.int .i64 kq) ∧ w'.cell? ⟨w.heap.size + 1, 1, none⟩ = some (.int .i64 hq) ∧ w'.cell? ⟨w.heap.size + 1, 2, none⟩ = some (.slice Aq nq cq)) w') := Lib.hid fun w' h => ⟨(h.cell (cell_lt bp0)).trans bp0, (h.cell (cell_lt bp1)).trans bp1, (h.cell (cell_lt bp2)).trans bp2, (h.cell (cell_lt bq0)).trans bq0, (h.cell (cell_lt bq1)).trans bq1, (h.cell (cell_lt bq2)).trans bq2⟩
  have hbd : Below w5.heap.size w5 w5.drew := (Below.refl _ w5).drew
  refine wp_region_held_drew (S := fun w' => w'.cell? ⟨w.heap.size, 0, none⟩ = some (.int .i64 kp) ∧ w'.cell? ⟨w.heap.size, 1, none⟩ = some (.int .i64 hp) ∧ w'.cell? ⟨w.heap.size, 2, none⟩ = some (.slice Ap np cp) ∧ w'.cell? ⟨w.heap.size + 1, 0, none⟩ = some (.int .i64 kq) ∧ w'.cell? ⟨w.heap.size + 1, 1, none⟩ = some (.int .i64 hq) ∧ w'.cell? ⟨w.heap.size + 1, 2, none⟩ = some (.slice Aq nq cq)) (by kernel_rfl) (HKS.out _ hbd) (fun hS => ?_)
  simp only [List.size_toArray, List.length_cons, List.length_nil, Nat.reduceAdd]
  refine wpAnyH_take (i := 0) (v := .slice As ns cs) rfl (by kernel_rfl) (by kernel_rfl) (by kernel_rfl) (fun _ _ _ h => h) (Or.inl ⟨by rfl, ?_⟩) hS ?_
  · intro w' hSw
    obtain ⟨s0, s1, s2, s3, s4, s5⟩ := hSw
    go_simp
  try simp only [Act.put, List.setIfInBounds_toArray]
  refine wpAnyH_take (i := 1) (v := .slice Am nm cm) rfl (by kernel_rfl) (by kernel_rfl) (by kernel_rfl) (fun _ _ _ h => h) (Or.inl ⟨by rfl, ?_⟩) hS ?_
  · intro w' hSw
    obtain ⟨s0, s1, s2, s3, s4, s5⟩ := hSw
    go_simp
  try simp only [Act.put]
  refine wpAnyH_take (i := 2) (v := .slice Ac nc cc) rfl (by kernel_rfl) (by kernel_rfl) (by kernel_rfl) (fun _ _ _ h => h) (Or.inl ⟨by rfl, ?_⟩) hS ?_
  · intro w' hSw
    obtain ⟨s0, s1, s2, s3, s4, s5⟩ := hSw
    go_simp
  try simp only [Act.put]
  refine wpAnyH_take (i := 3) (v := .slice Ac nc cc) rfl (by kernel_rfl) (by kernel_rfl) (by kernel_rfl) (fun _ _ _ h => h) (Or.inl ⟨by rfl, ?_⟩) hS ?_
  · intro w' hSw
    obtain ⟨s0, s1, s2, s3, s4, s5⟩ := hSw
    go_simp
  try simp only [Act.put]
  refine wpAnyH_take (i := 4) (v := .int .i64 nc) rfl (by kernel_rfl) (by kernel_rfl) (by kernel_rfl) (fun _ _ _ h => h) (Or.inl ⟨by rfl, ?_⟩) hS ?_
  · intro w' hSw
    obtain ⟨s0, s1, s2, s3, s4, s5⟩ := hSw
    go_simp
  try simp only [Act.put]
  refine wpAnyH_take (i := 5) (v := .int .i64 j) rfl (by kernel_rfl) (by kernel_rfl) (by kernel_rfl) (fun _ _ _ h => h) (Or.inl ⟨by rfl, ?_⟩) hS ?_
  · intro w' hSw
    obtain ⟨s0, s1, s2, s3, s4, s5⟩ := hSw
    go_simp
  try simp only [Act.put]
  refine wpAnyH_take (i := 6) (v := .int .i64 q0) rfl (by kernel_rfl) (by kernel_rfl) (by kernel_rfl) (fun _ _ _ h => h) (Or.inl ⟨by rfl, ?_⟩) hS ?_
  · intro w' hSw
    obtain ⟨s0, s1, s2, s3, s4, s5⟩ := hSw
    go_simp
  try simp only [Act.put]
  refine wpAnyH_take (i := 7) (v := .slice AA (nc - q0) (cc - q0)) rfl (by kernel_rfl) (by kernel_rfl) (by kernel_rfl) (fun _ _ _ h => h) (Or.inl ⟨by rfl, ?_⟩) hS ?_
  · intro w' hSw
    obtain ⟨s0, s1, s2, s3, s4, s5⟩ := hSw
    go_simp
  try simp only [Act.put]
  refine wpAnyH_take (i := 8) (v := .agg #[.int .i64 kp, .int .i64 hp, .slice Ap np cp]) rfl (by kernel_rfl) (by kernel_rfl) (by kernel_rfl) (fun _ _ _ h => h) (Or.inl ⟨by rfl, ?_⟩) hS ?_
  · intro w' hSw
    obtain ⟨s0, s1, s2, s3, s4, s5⟩ := hSw
    go_simp
  try simp only [Act.put]
  refine wpAnyH_take (i := 9) (v := .agg #[.int .i64 kq, .int .i64 hq, .slice Aq nq cq]) rfl (by kernel_rfl) (by kernel_rfl) (by kernel_rfl) (fun _ _ _ h => h) (Or.inl ⟨by rfl, ?_⟩) hS ?_
  · intro w' hSw
    obtain ⟨s0, s1, s2, s3, s4, s5⟩ := hSw
    go_simp
  try simp only [Act.put]
  refine wpAnyH_ready (rs := [10]) (by kernel_rfl) (by simp) ?_
  refine AllReadyH.cons rfl (fun KN hK => ?_) AllReadyH.nil
  go_simp
  have hcd := HC.out _ hbd
  have hkd : CkV _ W (cx.drop q0) As ns cs Am nm cm _ (nc - q0) (cc - q0) := ⟨(HK.out.keep (HB.out.trans (hbd.mono HB.out.size))).sg, (HK.out.keep (HB.out.trans (hbd.mono HB.out.size))).ms, hcd⟩
  have hct := vCheckTermC W (cx.drop q0) m a As ns cs Am nm cm _ (nc - q0) (cc - q0) _ _ _ hkd (Rd.keep (HB.out.trans (hbd.mono HB.out.size)) _ _ HVp.out) (Rd.keep (HB.out.trans (hbd.mono HB.out.size)) _ _ HVq.out) ⟨HLO.out.sg, HLO.out.ms, fun t ht => HLO.out.cx t (List.mem_of_mem_drop ht)⟩ (lo_lt HRm.out) (lo_lt HRa.out)
  rw [HE1.out] at hct
  refine hct.mono ?_
  rintro e w20 ⟨rfl, hb20⟩
  have hb21 : Below w5.heap.size w5 w20 := hbd.trans (hb20.mono hbd.size)
  refine hK.out _ _ (HKS.out _ hb21) (fun hS => ?_)
  clear hK KN
  try simp only [Act.put, List.setIfInBounds_toArray, List.set_cons_zero, List.set_cons_succ]
  refine wpAnyH_take (i := 11) (v := .bool true) rfl (by kernel_rfl) (by kernel_rfl) (by kernel_rfl) (fun _ _ _ h => h) (Or.inl ⟨by rfl, ?_⟩) hS ?_
  · intro w' hSw
    obtain ⟨s0, s1, s2, s3, s4, s5⟩ := hSw
    go_simp
  try simp only [Act.put, List.setIfInBounds_toArray]
  refine wpAnyH_take (i := 12) (v := .bool true) rfl (by kernel_rfl) (by kernel_rfl) (by kernel_rfl) (fun _ _ _ h => h) (Or.inl ⟨by rfl, ?_⟩) hS ?_
  · intro w' hSw
    obtain ⟨s0, s1, s2, s3, s4, s5⟩ := hSw
    go_simp
  try simp only [Act.put]
  refine wpAnyH_done (by kernel_rfl) ?_ _
  try simp only [List.setIfInBounds_toArray]
  try simp only [List.getElem_toArray, List.getElem_cons_succ, List.getElem_cons_zero, List.setIfInBounds_toArray, List.set_cons_zero, List.set_cons_succ]
  have HBF := Lib.hid (HB.out.trans (hb21.mono HB.out.size))
  clear hS HKS hbd hb21 hb20 hct hkd hcd hAA HC
  go_wp2_with fail
  refine bodyPost_ret (v := .bool true) (by simp [results, Try.results11, go_sem]) rfl ?_
  exact ⟨rfl, HBF.out⟩

end Go.Proofs.Ytigfhhfpdggjfaa
