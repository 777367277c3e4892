/-
  The walk of the law WorldConforms.
-/
import Derived.Test.YtpigmefjcklpkaaPkY
namespace Go.Proofs.Ytpigmefjcklpkaa
open Go.ChangeShapes Go.WideShapes Go.ChangeAt Go.RowKit
set_option linter.unusedVariables false

set_option maxRecDepth 100000 in
set_option maxHeartbeats 16000000 in
theorem worldConformsC (sg sc cx : List T) (a : T) (As : Option Addr) (ns cs : Nat) (A1 : Option Addr) (n1 c1 : Nat) (Ac : Option Addr) (nc cc : Nat) (va : Value) (w : World) (hs : DL w sg As ns cs) (h1 : CLV w sc A1 n1 c1) (hx : CLV w cx Ac nc cc) (hva : Rd w a va) :
    Calls Try.prog 4 #[.slice As ns cs, .slice A1 n1 c1, .slice Ac nc cc, va] w fun e w' => e = .returned (.bool true) ∧ Below w.heap.size w w' := by
  obtain ⟨ka, ha, Aa, na, ca, rfl⟩ := hva.full
  have hcl := hx.len
  have hsl := h1.len
  have HSG := Lib.hid hs; clear hs
  have HSC := Lib.hid h1; clear h1
  have HX := Lib.hid hx; clear hx
  have HVA := Lib.hid hva; clear hva
  obtain ⟨w0, hW⟩ : ∃ w0, w.alloc (.cells #[.int .i64 ka, .int .i64 ha, .slice Aa na ca] 32) = w0 := ⟨_, rfl⟩
  have hb0 : Below w.heap.size w w0 := by rw [← hW]; exact (Below.refl _ _).alloc (Nat.le_refl _) _
  have XT := Lib.hid (show Box w0 w.heap.size 32 #[.int .i64 ka, .int .i64 ha, .slice Aa na ca] by rw [← hW]; exact Box.new w _ _)
  have HB := Lib.hid hb0; clear hb0
  obtain ⟨rf, hrf⟩ : ∃ r, fwV ⟨sg, []⟩ cx ns 0 = r := ⟨_, rfl⟩
  have HRF := Lib.hid hrf; clear hrf
  obtain ⟨rs, hrs⟩ : ∃ r, lsB sc 500 80 = r := ⟨_, rfl⟩
  have HRS := Lib.hid hrs; clear hrs
  obtain ⟨rc, hrc⟩ : ∃ r, cfV sc cx = r := ⟨_, rfl⟩
  have HRC := Lib.hid hrc; clear hrc
  go_enter Try.func4, Try.ntmps4
  go_wp2_with fail
  clear hW
  have HC := Lib.hid (yAwakeC w0)
  refine HC.out.mono ?_
  rintro e w1 ⟨rfl, hb1⟩
  replace XT := Lib.hid (XT.out.keep hb1 XT.out.lt)
  replace HB := Lib.hid (HB.out.trans (hb1.mono HB.out.size))
  clear hb1 HC
  have b0 : w1.cell? ⟨w.heap.size, 0, none⟩ = some (.int .i64 ka) := XT.out.cell 0
  have b1 : w1.cell? ⟨w.heap.size, 1, none⟩ = some (.int .i64 ha) := XT.out.cell 1
  have b2 : w1.cell? ⟨w.heap.size, 2, none⟩ = some (.slice Aa na ca) := XT.out.cell 2
  go_wp2_with fail
  clear b0 b1 b2
  have HC := Lib.hid (vFewC ⟨sg, []⟩ cx As none Ac ns cs 0 0 nc cc w1 ⟨HSG.out.keep HB.out, ml_nil _, HX.out.keep HB.out⟩)
  rw [HRF.out] at HC
  refine HC.out.mono ?_
  rintro e w2 ⟨rfl, hb1⟩
  replace XT := Lib.hid (XT.out.keep hb1 XT.out.lt)
  replace HB := Lib.hid (HB.out.trans (hb1.mono HB.out.size))
  clear hb1 HC
  have b0 : w2.cell? ⟨w.heap.size, 0, none⟩ = some (.int .i64 ka) := XT.out.cell 0
  have b1 : w2.cell? ⟨w.heap.size, 1, none⟩ = some (.int .i64 ha) := XT.out.cell 1
  have b2 : w2.cell? ⟨w.heap.size, 2, none⟩ = some (.slice Aa na ca) := XT.out.cell 2
  go_wp2_with fail
  clear b0 b1 b2
  have HC := Lib.hid (lightsC sc A1 n1 c1 500 80 w2 HSC.out.len HSC.out.le HSC.out.cap (HSC.out.keep HB.out).at_)
  rw [HRS.out] at HC
  refine HC.out.mono ?_
  rintro e w3 ⟨rfl, hb1⟩
  replace XT := Lib.hid (XT.out.keep hb1 XT.out.lt)
  replace HB := Lib.hid (HB.out.trans (hb1.mono HB.out.size))
  clear hb1 HC
  have b0 : w3.cell? ⟨w.heap.size, 0, none⟩ = some (.int .i64 ka) := XT.out.cell 0
  have b1 : w3.cell? ⟨w.heap.size, 1, none⟩ = some (.int .i64 ha) := XT.out.cell 1
  have b2 : w3.cell? ⟨w.heap.size, 2, none⟩ = some (.slice Aa na ca) := XT.out.cell 2
  cases rf
  · go_wp2_with fail
    go_ret
    exact ⟨rfl, HB.out⟩
  clear b0 b1 b2
  have b0 : w3.cell? ⟨w.heap.size, 0, none⟩ = some (.int .i64 ka) := XT.out.cell 0
  have b1 : w3.cell? ⟨w.heap.size, 1, none⟩ = some (.int .i64 ha) := XT.out.cell 1
  have b2 : w3.cell? ⟨w.heap.size, 2, none⟩ = some (.slice Aa na ca) := XT.out.cell 2
  cases rs
  · go_wp2_with fail
    go_ret
    exact ⟨rfl, HB.out⟩
  clear b0 b1 b2
  have HLO := Lib.hid (loV_of HRF.out)
  have hfl := few_len HRF.out
  have hls : sc.length ≤ 60 ∧ LwV sc := ⟨(by have := HRS.out; rw [lsB, Bool.and_eq_true, decide_eq_true_eq] at this; exact this.1), fun t ht hm => lo_lt ((List.all_eq_true.1 (by have := HRS.out; rw [lsB, Bool.and_eq_true] at this; exact this.2)) t ht) hm⟩
  have HLS := Lib.hid hls.2
  have hsn := hls.1
  clear hls
  have b0 : w3.cell? ⟨w.heap.size, 0, none⟩ = some (.int .i64 ka) := XT.out.cell 0
  have b1 : w3.cell? ⟨w.heap.size, 1, none⟩ = some (.int .i64 ha) := XT.out.cell 1
  have b2 : w3.cell? ⟨w.heap.size, 2, none⟩ = some (.slice Aa na ca) := XT.out.cell 2
  by_cases hq : 40 < nc
  · have d1 : decide ((40 : Int) < (nc : Int)) = true := by simp; omega
    go_wp2_with fail
    go_ret
    exact ⟨rfl, HB.out⟩
  clear b0 b1 b2
  have d1 : decide ((40 : Int) < (nc : Int)) = false := by simp; omega
  have b0 : w3.cell? ⟨w.heap.size, 0, none⟩ = some (.int .i64 ka) := XT.out.cell 0
  have b1 : w3.cell? ⟨w.heap.size, 1, none⟩ = some (.int .i64 ha) := XT.out.cell 1
  have b2 : w3.cell? ⟨w.heap.size, 2, none⟩ = some (.slice Aa na ca) := XT.out.cell 2
  go_wp2_with fail
  clear b0 b1 b2
  have HC := Lib.hid (yConformsC sc cx A1 Ac n1 c1 nc cc w3 (HSC.out.keep HB.out) (HX.out.keep HB.out))
  rw [HRC.out] at HC
  refine HC.out.mono ?_
  rintro e w4 ⟨rfl, hb1⟩
  replace XT := Lib.hid (XT.out.keep hb1 XT.out.lt)
  replace HB := Lib.hid (HB.out.trans (hb1.mono HB.out.size))
  clear hb1 HC
  have b0 : w4.cell? ⟨w.heap.size, 0, none⟩ = some (.int .i64 ka) := XT.out.cell 0
  have b1 : w4.cell? ⟨w.heap.size, 1, none⟩ = some (.int .i64 ha) := XT.out.cell 1
  have b2 : w4.cell? ⟨w.heap.size, 2, none⟩ = some (.slice Aa na ca) := XT.out.cell 2
  cases rc
  · go_wp2_with fail
    go_ret
    exact ⟨rfl, HB.out⟩
  clear b0 b1 b2
  obtain ⟨e1, he1⟩ : ∃ e, schV sg sc = e := ⟨_, rfl⟩
  have HE1 := Lib.hid he1; clear he1
  have b0 : w4.cell? ⟨w.heap.size, 0, none⟩ = some (.int .i64 ka) := XT.out.cell 0
  have b1 : w4.cell? ⟨w.heap.size, 1, none⟩ = some (.int .i64 ha) := XT.out.cell 1
  have b2 : w4.cell? ⟨w.heap.size, 2, none⟩ = some (.slice Aa na ca) := XT.out.cell 2
  go_wp2_with fail
  clear b0 b1 b2
  have HC := Lib.hid (ySchemaC sg sc As ns cs A1 n1 c1 w4 (HSG.out.keep HB.out) (HSC.out.keep HB.out) HLO.out.sg HLS.out)
  rw [HE1.out] at HC
  refine HC.out.mono ?_
  rintro e w5 ⟨rfl, hb1⟩
  replace XT := Lib.hid (XT.out.keep hb1 XT.out.lt)
  replace HB := Lib.hid (HB.out.trans (hb1.mono HB.out.size))
  clear hb1 HC
  have b0 : w5.cell? ⟨w.heap.size, 0, none⟩ = some (.int .i64 ka) := XT.out.cell 0
  have b1 : w5.cell? ⟨w.heap.size, 1, none⟩ = some (.int .i64 ha) := XT.out.cell 1
  have b2 : w5.cell? ⟨w.heap.size, 2, none⟩ = some (.slice Aa na ca) := XT.out.cell 2
  by_cases hq : e1 ≠ 0
  · have d2 : (e1 != 0) = true := by simpa using hq
    go_wp2_with fail
    go_ret
    exact ⟨rfl, HB.out⟩
  clear b0 b1 b2
  obtain rfl : e1 = 0 := Decidable.not_not.1 hq
  clear hq
  have HCT := Lib.hid (cf_ctx HRC.out HE1.out (by omega))
  have HCF := Lib.hid (cf_more (b := a) HRC.out)
  have HLC := Lib.hid (show LoV ⟨sg, []⟩ ([] ++ cx) from HLO.out)
  have HSCW := Lib.hid (HSC.out.keep HB.out)
  have HRW := Lib.hid (Rd.keep HB.out _ _ HVA.out)
  clear d1
  have b0 : w5.cell? ⟨w.heap.size, 0, none⟩ = some (.int .i64 ka) := XT.out.cell 0
  have b1 : w5.cell? ⟨w.heap.size, 1, none⟩ = some (.int .i64 ha) := XT.out.cell 1
  have b2 : w5.cell? ⟨w.heap.size, 2, none⟩ = some (.slice Aa na ca) := XT.out.cell 2
  go_wp2_with fail
  clear b0 b1 b2
  have b0 : w5.cell? ⟨w.heap.size, 0, none⟩ = some (.int .i64 ka) := XT.out.cell 0
  have b1 : w5.cell? ⟨w.heap.size, 1, none⟩ = some (.int .i64 ha) := XT.out.cell 1
  have b2 : w5.cell? ⟨w.heap.size, 2, none⟩ = some (.slice Aa na ca) := XT.out.cell 2
  by_cases hz : nc = 0
  · have HKS : Hid (∀ w' : World, Below w5.heap.size w5 w' → (fun w' => w'.cell? ⟨w.heap.size, 0, none⟩ = some (.int .i64 ka) ∧ w'.cell? ⟨w.heap.size, 1, none⟩ = some (.int .i64 ha) ∧ w'.cell? ⟨w.heap.size, 2, none⟩ = some (.slice Aa na ca)) w') := Lib.hid fun w' h => ⟨(h.cell (cell_lt b0)).trans b0, (h.cell (cell_lt b1)).trans b1, (h.cell (cell_lt b2)).trans b2⟩
    have hbd : Below w5.heap.size w5 w5.drew := (Below.refl _ w5).drew
    refine wp_region_held_drew (S := fun w' => w'.cell? ⟨w.heap.size, 0, none⟩ = some (.int .i64 ka) ∧ w'.cell? ⟨w.heap.size, 1, none⟩ = some (.int .i64 ha) ∧ w'.cell? ⟨w.heap.size, 2, none⟩ = some (.slice Aa na ca)) (by kernel_rfl) (HKS.out _ hbd) (fun hS => ?_)
    simp only [List.size_toArray, List.length_cons, List.length_nil, Nat.reduceAdd]
    refine wpAnyH_take (i := 0) (v := .slice Ac nc cc) rfl (by kernel_rfl) (by kernel_rfl) (by kernel_rfl) (fun _ _ _ h => h) (Or.inl ⟨by kernel_rfl, ?_⟩) hS ?_
    · intro w' hSw
      obtain ⟨s0, s1, s2⟩ := hSw
      go_simp
    try simp only [Act.put, List.getElem_toArray, List.getElem_cons_zero, List.setIfInBounds_toArray, List.set_cons_zero, List.set_cons_succ]
    refine wpAnyH_take (i := 1) (v := .int .i64 nc) rfl (by kernel_rfl) (by kernel_rfl) (by kernel_rfl) (fun _ _ _ h => h) (Or.inl ⟨by kernel_rfl, ?_⟩) hS ?_
    · intro w' hSw
      obtain ⟨s0, s1, s2⟩ := hSw
      go_simp
    try simp only [Act.put, List.getElem_toArray, List.getElem_cons_succ, List.getElem_cons_zero, List.setIfInBounds_toArray, List.set_cons_zero, List.set_cons_succ]
    have dz : ((nc : Int) == 0) = true := by simpa using hz
    clear hz
    refine wpAnyH_take (i := 2) (v := .bool true) rfl (by kernel_rfl) (by kernel_rfl) (by kernel_rfl) (fun _ _ _ h => h) (Or.inl ⟨by kernel_rfl, ?_⟩) hS ?_
    · intro w' hSw
      obtain ⟨s0, s1, s2⟩ := hSw
      go_simp
    try simp only [Act.put, List.getElem_toArray, List.getElem_cons_succ, List.getElem_cons_zero, List.setIfInBounds_toArray, List.set_cons_zero, List.set_cons_succ]
    clear dz
    refine wpAnyH_take (i := 3) (v := .bool true) rfl (by kernel_rfl) (by kernel_rfl) (by kernel_rfl) (fun _ _ _ h => h) (Or.inl ⟨by kernel_rfl, ?_⟩) hS ?_
    · intro w' hSw
      obtain ⟨s0, s1, s2⟩ := hSw
      go_simp
    try simp only [Act.put, List.getElem_toArray, List.getElem_cons_succ, List.getElem_cons_zero, List.setIfInBounds_toArray, List.set_cons_zero, List.set_cons_succ]
    refine wpAnyH_take (i := 4) (v := undef) rfl (by kernel_rfl) (by kernel_rfl) (by kernel_rfl) (fun _ _ _ h => h) (Or.inr ⟨by kernel_rfl, rfl⟩) hS ?_
    try simp only [Act.put, List.getElem_toArray, List.getElem_cons_succ, List.getElem_cons_zero, List.setIfInBounds_toArray, List.set_cons_zero, List.set_cons_succ]
    refine wpAnyH_take (i := 5) (v := undef) rfl (by kernel_rfl) (by kernel_rfl) (by kernel_rfl) (fun _ _ _ h => h) (Or.inr ⟨by kernel_rfl, rfl⟩) hS ?_
    try simp only [Act.put, List.getElem_toArray, List.getElem_cons_succ, List.getElem_cons_zero, List.setIfInBounds_toArray, List.set_cons_zero, List.set_cons_succ]
    refine wpAnyH_take (i := 6) (v := undef) rfl (by kernel_rfl) (by kernel_rfl) (by kernel_rfl) (fun _ _ _ h => h) (Or.inr ⟨by kernel_rfl, rfl⟩) hS ?_
    try simp only [Act.put, List.getElem_toArray, List.getElem_cons_succ, List.getElem_cons_zero, List.setIfInBounds_toArray, List.set_cons_zero, List.set_cons_succ]
    refine wpAnyH_take (i := 7) (v := undef) rfl (by kernel_rfl) (by kernel_rfl) (by kernel_rfl) (fun _ _ _ h => h) (Or.inr ⟨by kernel_rfl, rfl⟩) hS ?_
    try simp only [Act.put, List.getElem_toArray, List.getElem_cons_succ, List.getElem_cons_zero, List.setIfInBounds_toArray, List.set_cons_zero, List.set_cons_succ]
    refine wpAnyH_take (i := 8) (v := .bool true) rfl (by kernel_rfl) (by kernel_rfl) (by kernel_rfl) (fun _ _ _ h => h) (Or.inl ⟨by kernel_rfl, ?_⟩) hS ?_
    · intro w' hSw
      obtain ⟨s0, s1, s2⟩ := hSw
      go_simp
    try simp only [Act.put, List.getElem_toArray, List.getElem_cons_succ, List.getElem_cons_zero, List.setIfInBounds_toArray, List.set_cons_zero, List.set_cons_succ]
    refine wpAnyH_take (i := 9) (v := .bool true) rfl (by kernel_rfl) (by kernel_rfl) (by kernel_rfl) (fun _ _ _ h => h) (Or.inl ⟨by kernel_rfl, ?_⟩) hS ?_
    · intro w' hSw
      obtain ⟨s0, s1, s2⟩ := hSw
      go_simp
    try simp only [Act.put, List.getElem_toArray, List.getElem_cons_succ, List.getElem_cons_zero, List.setIfInBounds_toArray, List.set_cons_zero, List.set_cons_succ]
    refine wpAnyH_take (i := 10) (v := .slice A1 n1 c1) rfl (by kernel_rfl) (by kernel_rfl) (by kernel_rfl) (fun _ _ _ h => h) (Or.inl ⟨by kernel_rfl, ?_⟩) hS ?_
    · intro w' hSw
      obtain ⟨s0, s1, s2⟩ := hSw
      go_simp
    try simp only [Act.put, List.getElem_toArray, List.getElem_cons_succ, List.getElem_cons_zero, List.setIfInBounds_toArray, List.set_cons_zero, List.set_cons_succ]
    refine wpAnyH_take (i := 12) (v := .agg #[.int .i64 ka, .int .i64 ha, .slice Aa na ca]) rfl (by kernel_rfl) (by kernel_rfl) (by kernel_rfl) (fun _ _ _ h => h) (Or.inl ⟨by kernel_rfl, ?_⟩) hS ?_
    · intro w' hSw
      obtain ⟨s0, s1, s2⟩ := hSw
      go_simp
    try simp only [Act.put, List.getElem_toArray, List.getElem_cons_succ, List.getElem_cons_zero, List.setIfInBounds_toArray, List.set_cons_zero, List.set_cons_succ]
    refine wpAnyH_take (i := 15) (v := .slice Ac nc cc) rfl (by kernel_rfl) (by kernel_rfl) (by kernel_rfl) (fun _ _ _ h => h) (Or.inl ⟨by kernel_rfl, ?_⟩) hS ?_
    · intro w' hSw
      obtain ⟨s0, s1, s2⟩ := hSw
      go_simp
    try simp only [Act.put, List.getElem_toArray, List.getElem_cons_succ, List.getElem_cons_zero, List.setIfInBounds_toArray, List.set_cons_zero, List.set_cons_succ]
    refine wpAnyH_ready (rs := [11, 13]) (by kernel_rfl) (by simp) ?_
    refine AllReadyH.cons rfl (fun KN hK => ?_) (AllReadyH.cons rfl (fun KN hK => ?_) AllReadyH.nil)
    · refine ite_of (by kernel_rfl) ?_
      obtain ⟨A5, c5, w55, cs55, hrun5, hrow5, hb55⟩ := rowT_new HSCW.out (by omega) hbd
      have hb5 := hbd.trans (hb55.mono hbd.size)
      clear hb55
      refine Lib.wp_append_run _ (.const (.slice none 0 0)) (.tmp 56) 23 23 rfl _ _ rfl rfl _ _ hrun5 ?_
      refine hK.out _ _ (HKS.out _ hb5) (fun hS => ?_)
      clear hK KN
      try simp only [Act.put, List.getElem_toArray, List.getElem_cons_succ, List.getElem_cons_zero, List.setIfInBounds_toArray, List.set_cons_zero, List.set_cons_succ]
      refine wpAnyH_ready (rs := [13]) (by kernel_rfl) (by simp) ?_
      refine AllReadyH.cons rfl (fun KN hK => ?_) AllReadyH.nil
      refine ite_of (by kernel_rfl) ?_
      go_simp
      have hbB : Below w5.heap.size w5 (w55.alloc (.cells #[.int .i64 ka, .int .i64 ha, .slice Aa na ca] 32)) := hb5.alloc hb5.size _
      refine hK.out _ _ (HKS.out _ hbB) (fun hS => ?_)
      clear hK KN
      try simp only [Act.put, List.getElem_toArray, List.getElem_cons_succ, List.getElem_cons_zero, List.setIfInBounds_toArray, List.set_cons_zero, List.set_cons_succ]
      have hrowB := hrow5.kept (show Below w55.heap.size w55 (w55.alloc (.cells #[.int .i64 ka, .int .i64 ha, .slice Aa na ca] 32)) from (Below.refl _ _).alloc (Nat.le_refl _) _)
      have zB : Box (w55.alloc (.cells #[.int .i64 ka, .int .i64 ha, .slice Aa na ca] 32)) w55.heap.size 32 #[.int .i64 ka, .int .i64 ha, .slice Aa na ca] := Box.new _ _ _
      clear hrow5 hb5 hrun5
      generalize w55.alloc (.cells #[.int .i64 ka, .int .i64 ha, .slice Aa na ca] 32) = w66 at *
      generalize w55.heap.size = P6 at *
      refine wpAnyH_ready (rs := [14]) (by kernel_rfl) (by simp) ?_
      refine AllReadyH.cons rfl (fun KN hK => ?_) AllReadyH.nil
      refine ite_of (by kernel_rfl) ?_
      obtain ⟨g7, cap7, w77, cs77, hrun7, hr7, hb7, _, _⟩ := rowT_one hrowB zB HRW.out (by omega) hbB
      have hcl7 := hr7.lst hb7
      refine Lib.wp_append_run _ (.tmp 57) (.tmp 59) 23 23 rfl _ _ rfl rfl _ _ hrun7 ?_
      refine hK.out _ _ (HKS.out _ hb7) (fun hS => ?_)
      clear hK KN
      try simp only [Act.put, List.getElem_toArray, List.getElem_cons_succ, List.getElem_cons_zero, List.setIfInBounds_toArray, List.set_cons_zero, List.set_cons_succ]
      clear hr7 hbB hrowB zB hrun7
      refine wpAnyH_ready (rs := [16]) (by kernel_rfl) (by simp) ?_
      refine AllReadyH.cons rfl (fun KN hK => ?_) AllReadyH.nil
      refine ite_of (by kernel_rfl) ?_
      go_simp
      have HC := Lib.hid (yConformsC (sc ++ [a]) cx _ Ac (n1 + 1) cap7 nc cc w77 hcl7 (HX.out.keep (HB.out.trans (hb7.mono HB.out.size))))
      rw [HCF.out] at HC
      refine HC.out.mono ?_
      rintro e w9 ⟨rfl, hb9⟩
      have hb9' : Below w5.heap.size w5 w9 := hb7.trans (hb9.mono hb7.size)
      refine hK.out _ _ (HKS.out _ hb9') (fun hS => ?_)
      clear hK KN
      try simp only [Act.put, List.getElem_toArray, List.getElem_cons_succ, List.getElem_cons_zero, List.setIfInBounds_toArray, List.set_cons_zero, List.set_cons_succ]
      refine wpAnyH_take (i := 17) (v := .bool true) rfl (by kernel_rfl) (by kernel_rfl) (by kernel_rfl) (fun _ _ _ h => h) (Or.inl ⟨by kernel_rfl, ?_⟩) hS ?_
      · intro w' hSw
        obtain ⟨s0, s1, s2⟩ := hSw
        go_simp
      try simp only [Act.put, List.getElem_toArray, List.getElem_cons_succ, List.getElem_cons_zero, List.setIfInBounds_toArray, List.set_cons_zero, List.set_cons_succ]
      refine wpAnyH_take (i := 18) (v := .bool true) rfl (by kernel_rfl) (by kernel_rfl) (by kernel_rfl) (fun _ _ _ h => h) (Or.inl ⟨by kernel_rfl, ?_⟩) hS ?_
      · intro w' hSw
        obtain ⟨s0, s1, s2⟩ := hSw
        go_simp
      try simp only [Act.put, List.getElem_toArray, List.getElem_cons_succ, List.getElem_cons_zero, List.setIfInBounds_toArray, List.set_cons_zero, List.set_cons_succ]
      refine wpAnyH_done (by kernel_rfl) ?_ _
      try simp only [List.setIfInBounds_toArray]
      try simp only [List.getElem_toArray, List.getElem_cons_succ, List.getElem_cons_zero, List.setIfInBounds_toArray, List.set_cons_zero, List.set_cons_succ]
      have HBF := Lib.hid (HB.out.trans (hb9'.mono HB.out.size))
      clear hb9 hb9' hb7 HC hcl7 hS HKS hbd
      go_wp2_with fail
      go_ret
      exact ⟨rfl, HBF.out⟩
    · refine ite_of (by kernel_rfl) ?_
      go_simp
      have hb5 : Below w5.heap.size w5 ((w5.alloc (.cells #[.int .i64 ka, .int .i64 ha, .slice Aa na ca] 32)).drew) := ((Below.refl _ w5).alloc (Nat.le_refl _) _).drew
      refine hK.out _ _ (HKS.out _ hb5) (fun hS => ?_)
      clear hK KN
      try simp only [Act.put, List.getElem_toArray, List.getElem_cons_succ, List.getElem_cons_zero, List.setIfInBounds_toArray, List.set_cons_zero, List.set_cons_succ]
      have z5 : Box ((w5.alloc (.cells #[.int .i64 ka, .int .i64 ha, .slice Aa na ca] 32)).drew) w5.heap.size 32 #[.int .i64 ka, .int .i64 ha, .slice Aa na ca] := Box.drewI (Box.new _ _ _)
      obtain ⟨P6, hP6⟩ : ∃ p, w5.heap.size = p := ⟨_, rfl⟩
      rw [hP6] at z5
      try rw [hP6]
      clear hP6
      generalize (w5.alloc (.cells #[.int .i64 ka, .int .i64 ha, .slice Aa na ca] 32)).drew = w55 at *
      refine wpAnyH_ready (rs := [11]) (by kernel_rfl) (by simp) ?_
      refine AllReadyH.cons rfl (fun KN hK => ?_) AllReadyH.nil
      refine ite_of (by kernel_rfl) ?_
      obtain ⟨A5, c5, w66, cs55, hrun5, hrowB, hb66⟩ := rowT_new HSCW.out (by omega) hb5
      have hbB := hb5.trans (hb66.mono hb5.size)
      have zB : Box w66 P6 32 #[.int .i64 ka, .int .i64 ha, .slice Aa na ca] := z5.keep hb66 z5.lt
      clear hb66
      refine Lib.wp_append_run _ (.const (.slice none 0 0)) (.tmp 56) 23 23 rfl _ _ rfl rfl _ _ hrun5 ?_
      refine hK.out _ _ (HKS.out _ hbB) (fun hS => ?_)
      clear hK KN
      try simp only [Act.put, List.getElem_toArray, List.getElem_cons_succ, List.getElem_cons_zero, List.setIfInBounds_toArray, List.set_cons_zero, List.set_cons_succ]
      clear hb5 z5 hrun5
      refine wpAnyH_ready (rs := [14]) (by kernel_rfl) (by simp) ?_
      refine AllReadyH.cons rfl (fun KN hK => ?_) AllReadyH.nil
      refine ite_of (by kernel_rfl) ?_
      obtain ⟨g7, cap7, w77, cs77, hrun7, hr7, hb7, _, _⟩ := rowT_one hrowB zB HRW.out (by omega) hbB
      have hcl7 := hr7.lst hb7
      refine Lib.wp_append_run _ (.tmp 57) (.tmp 59) 23 23 rfl _ _ rfl rfl _ _ hrun7 ?_
      refine hK.out _ _ (HKS.out _ hb7) (fun hS => ?_)
      clear hK KN
      try simp only [Act.put, List.getElem_toArray, List.getElem_cons_succ, List.getElem_cons_zero, List.setIfInBounds_toArray, List.set_cons_zero, List.set_cons_succ]
      clear hr7 hbB hrowB zB hrun7
      refine wpAnyH_ready (rs := [16]) (by kernel_rfl) (by simp) ?_
      refine AllReadyH.cons rfl (fun KN hK => ?_) AllReadyH.nil
      refine ite_of (by kernel_rfl) ?_
      go_simp
      have HC := Lib.hid (yConformsC (sc ++ [a]) cx _ Ac (n1 + 1) cap7 nc cc w77 hcl7 (HX.out.keep (HB.out.trans (hb7.mono HB.out.size))))
      rw [HCF.out] at HC
      refine HC.out.mono ?_
      rintro e w9 ⟨rfl, hb9⟩
      have hb9' : Below w5.heap.size w5 w9 := hb7.trans (hb9.mono hb7.size)
      refine hK.out _ _ (HKS.out _ hb9') (fun hS => ?_)
      clear hK KN
      try simp only [Act.put, List.getElem_toArray, List.getElem_cons_succ, List.getElem_cons_zero, List.setIfInBounds_toArray, List.set_cons_zero, List.set_cons_succ]
      refine wpAnyH_take (i := 17) (v := .bool true) rfl (by kernel_rfl) (by kernel_rfl) (by kernel_rfl) (fun _ _ _ h => h) (Or.inl ⟨by kernel_rfl, ?_⟩) hS ?_
      · intro w' hSw
        obtain ⟨s0, s1, s2⟩ := hSw
        go_simp
      try simp only [Act.put, List.getElem_toArray, List.getElem_cons_succ, List.getElem_cons_zero, List.setIfInBounds_toArray, List.set_cons_zero, List.set_cons_succ]
      refine wpAnyH_take (i := 18) (v := .bool true) rfl (by kernel_rfl) (by kernel_rfl) (by kernel_rfl) (fun _ _ _ h => h) (Or.inl ⟨by kernel_rfl, ?_⟩) hS ?_
      · intro w' hSw
        obtain ⟨s0, s1, s2⟩ := hSw
        go_simp
      try simp only [Act.put, List.getElem_toArray, List.getElem_cons_succ, List.getElem_cons_zero, List.setIfInBounds_toArray, List.set_cons_zero, List.set_cons_succ]
      refine wpAnyH_done (by kernel_rfl) ?_ _
      try simp only [List.setIfInBounds_toArray]
      try simp only [List.getElem_toArray, List.getElem_cons_succ, List.getElem_cons_zero, List.setIfInBounds_toArray, List.set_cons_zero, List.set_cons_succ]
      have HBF := Lib.hid (HB.out.trans (hb9'.mono HB.out.size))
      clear hb9 hb9' hb7 HC hcl7 hS HKS hbd
      go_wp2_with fail
      go_ret
      exact ⟨rfl, HBF.out⟩
  · have HKS : Hid (∀ w' : World, Below w5.heap.size w5 w' → (fun w' => w'.cell? ⟨w.heap.size, 0, none⟩ = some (.int .i64 ka) ∧ w'.cell? ⟨w.heap.size, 1, none⟩ = some (.int .i64 ha) ∧ w'.cell? ⟨w.heap.size, 2, none⟩ = some (.slice Aa na ca)) w') := Lib.hid fun w' h => ⟨(h.cell (cell_lt b0)).trans b0, (h.cell (cell_lt b1)).trans b1, (h.cell (cell_lt b2)).trans b2⟩
    have hbd : Below w5.heap.size w5 w5.drew := (Below.refl _ w5).drew
    refine wp_region_held_drew (S := fun w' => w'.cell? ⟨w.heap.size, 0, none⟩ = some (.int .i64 ka) ∧ w'.cell? ⟨w.heap.size, 1, none⟩ = some (.int .i64 ha) ∧ w'.cell? ⟨w.heap.size, 2, none⟩ = some (.slice Aa na ca)) (by kernel_rfl) (HKS.out _ hbd) (fun hS => ?_)
    simp only [List.size_toArray, List.length_cons, List.length_nil, Nat.reduceAdd]
    refine wpAnyH_take (i := 0) (v := .slice Ac nc cc) rfl (by kernel_rfl) (by kernel_rfl) (by kernel_rfl) (fun _ _ _ h => h) (Or.inl ⟨by kernel_rfl, ?_⟩) hS ?_
    · intro w' hSw
      obtain ⟨s0, s1, s2⟩ := hSw
      go_simp
    try simp only [Act.put, List.getElem_toArray, List.getElem_cons_zero, List.setIfInBounds_toArray, List.set_cons_zero, List.set_cons_succ]
    refine wpAnyH_take (i := 1) (v := .int .i64 nc) rfl (by kernel_rfl) (by kernel_rfl) (by kernel_rfl) (fun _ _ _ h => h) (Or.inl ⟨by kernel_rfl, ?_⟩) hS ?_
    · intro w' hSw
      obtain ⟨s0, s1, s2⟩ := hSw
      go_simp
    try simp only [Act.put, List.getElem_toArray, List.getElem_cons_succ, List.getElem_cons_zero, List.setIfInBounds_toArray, List.set_cons_zero, List.set_cons_succ]
    have dz : ((nc : Int) == 0) = false := by simpa using hz
    clear hz
    refine wpAnyH_take (i := 2) (v := .bool false) rfl (by kernel_rfl) (by kernel_rfl) (by kernel_rfl) (fun _ _ _ h => h) (Or.inl ⟨by kernel_rfl, ?_⟩) hS ?_
    · intro w' hSw
      obtain ⟨s0, s1, s2⟩ := hSw
      go_simp
    try simp only [Act.put, List.getElem_toArray, List.getElem_cons_succ, List.getElem_cons_zero, List.setIfInBounds_toArray, List.set_cons_zero, List.set_cons_succ]
    clear dz
    refine wpAnyH_take (i := 3) (v := .bool false) rfl (by kernel_rfl) (by kernel_rfl) (by kernel_rfl) (fun _ _ _ h => h) (Or.inl ⟨by kernel_rfl, ?_⟩) hS ?_
    · intro w' hSw
      obtain ⟨s0, s1, s2⟩ := hSw
      go_simp
    try simp only [Act.put, List.getElem_toArray, List.getElem_cons_succ, List.getElem_cons_zero, List.setIfInBounds_toArray, List.set_cons_zero, List.set_cons_succ]
    refine wpAnyH_take (i := 4) (v := .slice As ns cs) rfl (by kernel_rfl) (by kernel_rfl) (by kernel_rfl) (fun _ _ _ h => h) (Or.inl ⟨by kernel_rfl, ?_⟩) hS ?_
    · intro w' hSw
      obtain ⟨s0, s1, s2⟩ := hSw
      go_simp
    try simp only [Act.put, List.getElem_toArray, List.getElem_cons_succ, List.getElem_cons_zero, List.setIfInBounds_toArray, List.set_cons_zero, List.set_cons_succ]
    refine wpAnyH_take (i := 5) (v := .slice Ac nc cc) rfl (by kernel_rfl) (by kernel_rfl) (by kernel_rfl) (fun _ _ _ h => h) (Or.inl ⟨by kernel_rfl, ?_⟩) hS ?_
    · intro w' hSw
      obtain ⟨s0, s1, s2⟩ := hSw
      go_simp
    try simp only [Act.put, List.getElem_toArray, List.getElem_cons_succ, List.getElem_cons_zero, List.setIfInBounds_toArray, List.set_cons_zero, List.set_cons_succ]
    refine wpAnyH_ready (rs := [6]) (by kernel_rfl) (by simp) ?_
    refine AllReadyH.cons rfl (fun KN hK => ?_) AllReadyH.nil
    refine ite_of (by kernel_rfl) ?_
    go_simp
    have HC := Lib.hid (yCtxC ⟨sg, []⟩ [] cx As ns cs none 0 0 none 0 0 Ac nc cc w5.drew ⟨(HSG.out.keep HB.out).keep hbd, ml_nil _, clv_nil _ _ _ (Nat.zero_le _)⟩ ((HX.out.keep HB.out).keep hbd) HLC.out (by omega))
    rw [HCT.out] at HC
    refine HC.out.mono ?_
    rintro e w6 ⟨rfl, hb6⟩
    replace hbd : Below w5.heap.size w5 w6 := hbd.trans (hb6.mono hbd.size)
    clear hb6 HC
    refine hK.out _ _ (HKS.out _ hbd) (fun hS => ?_)
    clear hK KN
    try simp only [Act.put, List.getElem_toArray, List.getElem_cons_succ, List.getElem_cons_zero, List.setIfInBounds_toArray, List.set_cons_zero, List.set_cons_succ]
    refine wpAnyH_take (i := 7) (v := .bool true) rfl (by kernel_rfl) (by kernel_rfl) (by kernel_rfl) (fun _ _ _ h => h) (Or.inl ⟨by kernel_rfl, ?_⟩) hS ?_
    · intro w' hSw
      obtain ⟨s0, s1, s2⟩ := hSw
      go_simp
    try simp only [Act.put, List.getElem_toArray, List.getElem_cons_succ, List.getElem_cons_zero, List.setIfInBounds_toArray, List.set_cons_zero, List.set_cons_succ]
    refine wpAnyH_take (i := 8) (v := .bool true) rfl (by kernel_rfl) (by kernel_rfl) (by kernel_rfl) (fun _ _ _ h => h) (Or.inl ⟨by kernel_rfl, ?_⟩) hS ?_
    · intro w' hSw
      obtain ⟨s0, s1, s2⟩ := hSw
      go_simp
    try simp only [Act.put, List.getElem_toArray, List.getElem_cons_succ, List.getElem_cons_zero, List.setIfInBounds_toArray, List.set_cons_zero, List.set_cons_succ]
    refine wpAnyH_take (i := 9) (v := .bool true) rfl (by kernel_rfl) (by kernel_rfl) (by kernel_rfl) (fun _ _ _ h => h) (Or.inl ⟨by kernel_rfl, ?_⟩) hS ?_
    · intro w' hSw
      obtain ⟨s0, s1, s2⟩ := hSw
      go_simp
    try simp only [Act.put, List.getElem_toArray, List.getElem_cons_succ, List.getElem_cons_zero, List.setIfInBounds_toArray, List.set_cons_zero, List.set_cons_succ]
    refine wpAnyH_take (i := 10) (v := .slice A1 n1 c1) rfl (by kernel_rfl) (by kernel_rfl) (by kernel_rfl) (fun _ _ _ h => h) (Or.inl ⟨by kernel_rfl, ?_⟩) hS ?_
    · intro w' hSw
      obtain ⟨s0, s1, s2⟩ := hSw
      go_simp
    try simp only [Act.put, List.getElem_toArray, List.getElem_cons_succ, List.getElem_cons_zero, List.setIfInBounds_toArray, List.set_cons_zero, List.set_cons_succ]
    refine wpAnyH_take (i := 12) (v := .agg #[.int .i64 ka, .int .i64 ha, .slice Aa na ca]) rfl (by kernel_rfl) (by kernel_rfl) (by kernel_rfl) (fun _ _ _ h => h) (Or.inl ⟨by kernel_rfl, ?_⟩) hS ?_
    · intro w' hSw
      obtain ⟨s0, s1, s2⟩ := hSw
      go_simp
    try simp only [Act.put, List.getElem_toArray, List.getElem_cons_succ, List.getElem_cons_zero, List.setIfInBounds_toArray, List.set_cons_zero, List.set_cons_succ]
    refine wpAnyH_take (i := 15) (v := .slice Ac nc cc) rfl (by kernel_rfl) (by kernel_rfl) (by kernel_rfl) (fun _ _ _ h => h) (Or.inl ⟨by kernel_rfl, ?_⟩) hS ?_
    · intro w' hSw
      obtain ⟨s0, s1, s2⟩ := hSw
      go_simp
    try simp only [Act.put, List.getElem_toArray, List.getElem_cons_succ, List.getElem_cons_zero, List.setIfInBounds_toArray, List.set_cons_zero, List.set_cons_succ]
    refine wpAnyH_ready (rs := [11, 13]) (by kernel_rfl) (by simp) ?_
    refine AllReadyH.cons rfl (fun KN hK => ?_) (AllReadyH.cons rfl (fun KN hK => ?_) AllReadyH.nil)
    · refine ite_of (by kernel_rfl) ?_
      obtain ⟨A5, c5, w55, cs55, hrun5, hrow5, hb55⟩ := rowT_new HSCW.out (by omega) hbd
      have hb5 := hbd.trans (hb55.mono hbd.size)
      clear hb55
      refine Lib.wp_append_run _ (.const (.slice none 0 0)) (.tmp 56) 23 23 rfl _ _ rfl rfl _ _ hrun5 ?_
      refine hK.out _ _ (HKS.out _ hb5) (fun hS => ?_)
      clear hK KN
      try simp only [Act.put, List.getElem_toArray, List.getElem_cons_succ, List.getElem_cons_zero, List.setIfInBounds_toArray, List.set_cons_zero, List.set_cons_succ]
      refine wpAnyH_ready (rs := [13]) (by kernel_rfl) (by simp) ?_
      refine AllReadyH.cons rfl (fun KN hK => ?_) AllReadyH.nil
      refine ite_of (by kernel_rfl) ?_
      go_simp
      have hbB : Below w5.heap.size w5 (w55.alloc (.cells #[.int .i64 ka, .int .i64 ha, .slice Aa na ca] 32)) := hb5.alloc hb5.size _
      refine hK.out _ _ (HKS.out _ hbB) (fun hS => ?_)
      clear hK KN
      try simp only [Act.put, List.getElem_toArray, List.getElem_cons_succ, List.getElem_cons_zero, List.setIfInBounds_toArray, List.set_cons_zero, List.set_cons_succ]
      have hrowB := hrow5.kept (show Below w55.heap.size w55 (w55.alloc (.cells #[.int .i64 ka, .int .i64 ha, .slice Aa na ca] 32)) from (Below.refl _ _).alloc (Nat.le_refl _) _)
      have zB : Box (w55.alloc (.cells #[.int .i64 ka, .int .i64 ha, .slice Aa na ca] 32)) w55.heap.size 32 #[.int .i64 ka, .int .i64 ha, .slice Aa na ca] := Box.new _ _ _
      clear hrow5 hb5 hrun5
      generalize w55.alloc (.cells #[.int .i64 ka, .int .i64 ha, .slice Aa na ca] 32) = w66 at *
      generalize w55.heap.size = P6 at *
      refine wpAnyH_ready (rs := [14]) (by kernel_rfl) (by simp) ?_
      refine AllReadyH.cons rfl (fun KN hK => ?_) AllReadyH.nil
      refine ite_of (by kernel_rfl) ?_
      obtain ⟨g7, cap7, w77, cs77, hrun7, hr7, hb7, _, _⟩ := rowT_one hrowB zB HRW.out (by omega) hbB
      have hcl7 := hr7.lst hb7
      refine Lib.wp_append_run _ (.tmp 57) (.tmp 59) 23 23 rfl _ _ rfl rfl _ _ hrun7 ?_
      refine hK.out _ _ (HKS.out _ hb7) (fun hS => ?_)
      clear hK KN
      try simp only [Act.put, List.getElem_toArray, List.getElem_cons_succ, List.getElem_cons_zero, List.setIfInBounds_toArray, List.set_cons_zero, List.set_cons_succ]
      clear hr7 hbB hrowB zB hrun7
      refine wpAnyH_ready (rs := [16]) (by kernel_rfl) (by simp) ?_
      refine AllReadyH.cons rfl (fun KN hK => ?_) AllReadyH.nil
      refine ite_of (by kernel_rfl) ?_
      go_simp
      have HC := Lib.hid (yConformsC (sc ++ [a]) cx _ Ac (n1 + 1) cap7 nc cc w77 hcl7 (HX.out.keep (HB.out.trans (hb7.mono HB.out.size))))
      rw [HCF.out] at HC
      refine HC.out.mono ?_
      rintro e w9 ⟨rfl, hb9⟩
      have hb9' : Below w5.heap.size w5 w9 := hb7.trans (hb9.mono hb7.size)
      refine hK.out _ _ (HKS.out _ hb9') (fun hS => ?_)
      clear hK KN
      try simp only [Act.put, List.getElem_toArray, List.getElem_cons_succ, List.getElem_cons_zero, List.setIfInBounds_toArray, List.set_cons_zero, List.set_cons_succ]
      refine wpAnyH_take (i := 17) (v := .bool true) rfl (by kernel_rfl) (by kernel_rfl) (by kernel_rfl) (fun _ _ _ h => h) (Or.inl ⟨by kernel_rfl, ?_⟩) hS ?_
      · intro w' hSw
        obtain ⟨s0, s1, s2⟩ := hSw
        go_simp
      try simp only [Act.put, List.getElem_toArray, List.getElem_cons_succ, List.getElem_cons_zero, List.setIfInBounds_toArray, List.set_cons_zero, List.set_cons_succ]
      refine wpAnyH_take (i := 18) (v := .bool true) rfl (by kernel_rfl) (by kernel_rfl) (by kernel_rfl) (fun _ _ _ h => h) (Or.inl ⟨by kernel_rfl, ?_⟩) hS ?_
      · intro w' hSw
        obtain ⟨s0, s1, s2⟩ := hSw
        go_simp
      try simp only [Act.put, List.getElem_toArray, List.getElem_cons_succ, List.getElem_cons_zero, List.setIfInBounds_toArray, List.set_cons_zero, List.set_cons_succ]
      refine wpAnyH_done (by kernel_rfl) ?_ _
      try simp only [List.setIfInBounds_toArray]
      try simp only [List.getElem_toArray, List.getElem_cons_succ, List.getElem_cons_zero, List.setIfInBounds_toArray, List.set_cons_zero, List.set_cons_succ]
      have HBF := Lib.hid (HB.out.trans (hb9'.mono HB.out.size))
      clear hb9 hb9' hb7 HC hcl7 hS HKS hbd
      go_wp2_with fail
      go_ret
      exact ⟨rfl, HBF.out⟩
    · refine ite_of (by kernel_rfl) ?_
      go_simp
      have hb5 : Below w5.heap.size w5 (w6.alloc (.cells #[.int .i64 ka, .int .i64 ha, .slice Aa na ca] 32)) := hbd.alloc hbd.size _
      refine hK.out _ _ (HKS.out _ hb5) (fun hS => ?_)
      clear hK KN
      try simp only [Act.put, List.getElem_toArray, List.getElem_cons_succ, List.getElem_cons_zero, List.setIfInBounds_toArray, List.set_cons_zero, List.set_cons_succ]
      have z5 : Box (w6.alloc (.cells #[.int .i64 ka, .int .i64 ha, .slice Aa na ca] 32)) w6.heap.size 32 #[.int .i64 ka, .int .i64 ha, .slice Aa na ca] := Box.new _ _ _
      obtain ⟨P6, hP6⟩ : ∃ p, w6.heap.size = p := ⟨_, rfl⟩
      rw [hP6] at z5
      try rw [hP6]
      clear hP6
      generalize w6.alloc (.cells #[.int .i64 ka, .int .i64 ha, .slice Aa na ca] 32) = w55 at *
      refine wpAnyH_ready (rs := [11]) (by kernel_rfl) (by simp) ?_
      refine AllReadyH.cons rfl (fun KN hK => ?_) AllReadyH.nil
      refine ite_of (by kernel_rfl) ?_
      obtain ⟨A5, c5, w66, cs55, hrun5, hrowB, hb66⟩ := rowT_new HSCW.out (by omega) hb5
      have hbB := hb5.trans (hb66.mono hb5.size)
      have zB : Box w66 P6 32 #[.int .i64 ka, .int .i64 ha, .slice Aa na ca] := z5.keep hb66 z5.lt
      clear hb66
      refine Lib.wp_append_run _ (.const (.slice none 0 0)) (.tmp 56) 23 23 rfl _ _ rfl rfl _ _ hrun5 ?_
      refine hK.out _ _ (HKS.out _ hbB) (fun hS => ?_)
      clear hK KN
      try simp only [Act.put, List.getElem_toArray, List.getElem_cons_succ, List.getElem_cons_zero, List.setIfInBounds_toArray, List.set_cons_zero, List.set_cons_succ]
      clear hb5 z5 hrun5
      refine wpAnyH_ready (rs := [14]) (by kernel_rfl) (by simp) ?_
      refine AllReadyH.cons rfl (fun KN hK => ?_) AllReadyH.nil
      refine ite_of (by kernel_rfl) ?_
      obtain ⟨g7, cap7, w77, cs77, hrun7, hr7, hb7, _, _⟩ := rowT_one hrowB zB HRW.out (by omega) hbB
      have hcl7 := hr7.lst hb7
      refine Lib.wp_append_run _ (.tmp 57) (.tmp 59) 23 23 rfl _ _ rfl rfl _ _ hrun7 ?_
      refine hK.out _ _ (HKS.out _ hb7) (fun hS => ?_)
      clear hK KN
      try simp only [Act.put, List.getElem_toArray, List.getElem_cons_succ, List.getElem_cons_zero, List.setIfInBounds_toArray, List.set_cons_zero, List.set_cons_succ]
      clear hr7 hbB hrowB zB hrun7
      refine wpAnyH_ready (rs := [16]) (by kernel_rfl) (by simp) ?_
      refine AllReadyH.cons rfl (fun KN hK => ?_) AllReadyH.nil
      refine ite_of (by kernel_rfl) ?_
      go_simp
      have HC := Lib.hid (yConformsC (sc ++ [a]) cx _ Ac (n1 + 1) cap7 nc cc w77 hcl7 (HX.out.keep (HB.out.trans (hb7.mono HB.out.size))))
      rw [HCF.out] at HC
      refine HC.out.mono ?_
      rintro e w9 ⟨rfl, hb9⟩
      have hb9' : Below w5.heap.size w5 w9 := hb7.trans (hb9.mono hb7.size)
      refine hK.out _ _ (HKS.out _ hb9') (fun hS => ?_)
      clear hK KN
      try simp only [Act.put, List.getElem_toArray, List.getElem_cons_succ, List.getElem_cons_zero, List.setIfInBounds_toArray, List.set_cons_zero, List.set_cons_succ]
      refine wpAnyH_take (i := 17) (v := .bool true) rfl (by kernel_rfl) (by kernel_rfl) (by kernel_rfl) (fun _ _ _ h => h) (Or.inl ⟨by kernel_rfl, ?_⟩) hS ?_
      · intro w' hSw
        obtain ⟨s0, s1, s2⟩ := hSw
        go_simp
      try simp only [Act.put, List.getElem_toArray, List.getElem_cons_succ, List.getElem_cons_zero, List.setIfInBounds_toArray, List.set_cons_zero, List.set_cons_succ]
      refine wpAnyH_take (i := 18) (v := .bool true) rfl (by kernel_rfl) (by kernel_rfl) (by kernel_rfl) (fun _ _ _ h => h) (Or.inl ⟨by kernel_rfl, ?_⟩) hS ?_
      · intro w' hSw
        obtain ⟨s0, s1, s2⟩ := hSw
        go_simp
      try simp only [Act.put, List.getElem_toArray, List.getElem_cons_succ, List.getElem_cons_zero, List.setIfInBounds_toArray, List.set_cons_zero, List.set_cons_succ]
      refine wpAnyH_done (by kernel_rfl) ?_ _
      try simp only [List.setIfInBounds_toArray]
      try simp only [List.getElem_toArray, List.getElem_cons_succ, List.getElem_cons_zero, List.setIfInBounds_toArray, List.set_cons_zero, List.set_cons_succ]
      have HBF := Lib.hid (HB.out.trans (hb9'.mono HB.out.size))
      clear hb9 hb9' hb7 HC hcl7 hS HKS hbd
      go_wp2_with fail
      go_ret
      exact ⟨rfl, HBF.out⟩
end Go.Proofs.Ytpigmefjcklpkaa
