/-
  The walk of the law WorldMore.
-/
import Derived.Test.YtpigmefjcklpkaaPkY
namespace Go.Proofs.Ytpigmefjcklpkaa
open Go.ChangeShapes Go.WideShapes Go.ChangeAt Go.RowKit
set_option linter.unusedVariables false

set_option maxRecDepth 100000 in
set_option maxHeartbeats 16000000 in
theorem worldMoreC (sg : List T) (d : T) (cx : List T) (As : Option Addr) (ns cs : Nat) (s : ByteArray) (kd hd : Int) (Ad : Option Addr) (nd1 cd : Nat) (Ac : Option Addr) (nc cc : Nat) (w : World) (hs : DL w sg As ns cs) (hx : CLV w cx Ac nc cc) (hvd : Rd w d (.agg #[.int .i64 kd, .int .i64 hd, .slice Ad nd1 cd])) :
    Calls Try.prog 7 #[.slice As ns cs, .agg #[.string s, .int .i64 kd, .int .i64 hd, .slice Ad nd1 cd], .slice Ac nc cc] w fun e w' => e = .returned (.bool true) ∧ Below w.heap.size w w' := by
  have hcl := hx.len
  have hsl := hs.len
  have HSG := Lib.hid hs; clear hs
  have HX := Lib.hid hx; clear hx
  have HVD := Lib.hid hvd; clear hvd
  obtain ⟨w0, hW⟩ : ∃ w0, w.alloc (.cells #[.string s, .int .i64 kd, .int .i64 hd, .slice Ad nd1 cd] 38) = w0 := ⟨_, rfl⟩
  have hb0 : Below w.heap.size w w0 := by rw [← hW]; exact (Below.refl _ _).alloc (Nat.le_refl _) _
  have XD := Lib.hid (show Box w0 w.heap.size 38 #[.string s, .int .i64 kd, .int .i64 hd, .slice Ad nd1 cd] by rw [← hW]; exact Box.new w _ _)
  have HB := Lib.hid hb0; clear hb0
  obtain ⟨rf, hrf⟩ : ∃ r, fwV ⟨sg, []⟩ cx ns 0 = r := ⟨_, rfl⟩
  have HRF := Lib.hid hrf; clear hrf
  obtain ⟨rd, hrd⟩ : ∃ r, ltB d 300 60 = r := ⟨_, rfl⟩
  have HRD := Lib.hid hrd; clear hrd
  go_enter Try.func7, Try.ntmps7
  go_wp2_with fail
  clear hW
  have HC := Lib.hid (yAwakeC w0)
  refine HC.out.mono ?_
  rintro e w1 ⟨rfl, hb1⟩
  replace XD := Lib.hid (XD.out.keep hb1 XD.out.lt)
  replace HB := Lib.hid (HB.out.trans (hb1.mono HB.out.size))
  clear hb1 HC
  have b0 : w1.cell? ⟨w.heap.size, 0, none⟩ = some (.string s) := XD.out.cell 0
  have b1 : w1.cell? ⟨w.heap.size, 1, none⟩ = some (.int .i64 kd) := XD.out.cell 1
  have b2 : w1.cell? ⟨w.heap.size, 2, none⟩ = some (.int .i64 hd) := XD.out.cell 2
  have b3 : w1.cell? ⟨w.heap.size, 3, none⟩ = some (.slice Ad nd1 cd) := XD.out.cell 3
  go_wp2_with fail
  clear b0 b1 b2 b3
  have HC := Lib.hid (vFewC ⟨sg, []⟩ cx As none Ac ns cs 0 0 nc cc _ ⟨HSG.out.keep HB.out, ml_nil _, HX.out.keep HB.out⟩)
  rw [HRF.out] at HC
  refine HC.out.mono ?_
  rintro e w2 ⟨rfl, hb1⟩
  replace XD := Lib.hid (XD.out.keep hb1 XD.out.lt)
  replace HB := Lib.hid (HB.out.trans (hb1.mono HB.out.size))
  clear hb1 HC
  have b0 : w2.cell? ⟨w.heap.size, 0, none⟩ = some (.string s) := XD.out.cell 0
  have b1 : w2.cell? ⟨w.heap.size, 1, none⟩ = some (.int .i64 kd) := XD.out.cell 1
  have b2 : w2.cell? ⟨w.heap.size, 2, none⟩ = some (.int .i64 hd) := XD.out.cell 2
  have b3 : w2.cell? ⟨w.heap.size, 3, none⟩ = some (.slice Ad nd1 cd) := XD.out.cell 3
  go_wp2_with fail
  clear b0 b1 b2 b3
  have HC := Lib.hid (refLight d 300 60 _ _ (Rd.keep HB.out _ _ HVD.out))
  rw [HRD.out] at HC
  refine HC.out.mono ?_
  rintro e w3 ⟨rfl, hb1⟩
  replace XD := Lib.hid (XD.out.keep hb1 XD.out.lt)
  replace HB := Lib.hid (HB.out.trans (hb1.mono HB.out.size))
  clear hb1 HC
  have b0 : w3.cell? ⟨w.heap.size, 0, none⟩ = some (.string s) := XD.out.cell 0
  have b1 : w3.cell? ⟨w.heap.size, 1, none⟩ = some (.int .i64 kd) := XD.out.cell 1
  have b2 : w3.cell? ⟨w.heap.size, 2, none⟩ = some (.int .i64 hd) := XD.out.cell 2
  have b3 : w3.cell? ⟨w.heap.size, 3, none⟩ = some (.slice Ad nd1 cd) := XD.out.cell 3
  cases rf
  · go_wp2_with fail
    go_ret
    exact ⟨rfl, HB.out⟩
  clear b0 b1 b2 b3
  have b0 : w3.cell? ⟨w.heap.size, 0, none⟩ = some (.string s) := XD.out.cell 0
  have b1 : w3.cell? ⟨w.heap.size, 1, none⟩ = some (.int .i64 kd) := XD.out.cell 1
  have b2 : w3.cell? ⟨w.heap.size, 2, none⟩ = some (.int .i64 hd) := XD.out.cell 2
  have b3 : w3.cell? ⟨w.heap.size, 3, none⟩ = some (.slice Ad nd1 cd) := XD.out.cell 3
  cases rd
  · go_wp2_with fail
    go_ret
    exact ⟨rfl, HB.out⟩
  clear b0 b1 b2 b3
  have HLO := Lib.hid (loV_of HRF.out)
  have hfl := few_len HRF.out
  have HLC := Lib.hid (show LoV ⟨sg, []⟩ ([] ++ cx) from HLO.out)
  obtain ⟨e1, he1⟩ : ∃ e, ctV ⟨sg, []⟩ [] cx = e := ⟨_, rfl⟩
  have HE1 := Lib.hid he1; clear he1
  have b0 : w3.cell? ⟨w.heap.size, 0, none⟩ = some (.string s) := XD.out.cell 0
  have b1 : w3.cell? ⟨w.heap.size, 1, none⟩ = some (.int .i64 kd) := XD.out.cell 1
  have b2 : w3.cell? ⟨w.heap.size, 2, none⟩ = some (.int .i64 hd) := XD.out.cell 2
  have b3 : w3.cell? ⟨w.heap.size, 3, none⟩ = some (.slice Ad nd1 cd) := XD.out.cell 3
  go_wp2_with fail
  clear b0 b1 b2 b3
  have HC := Lib.hid (yCtxC ⟨sg, []⟩ [] cx As ns cs none 0 0 none 0 0 Ac nc cc _ ⟨HSG.out.keep HB.out, ml_nil _, clv_nil _ _ _ (Nat.zero_le _)⟩ (HX.out.keep HB.out) HLC.out (by omega))
  rw [HE1.out] at HC
  refine HC.out.mono ?_
  rintro e w4 ⟨rfl, hb1⟩
  replace XD := Lib.hid (XD.out.keep hb1 XD.out.lt)
  replace HB := Lib.hid (HB.out.trans (hb1.mono HB.out.size))
  clear hb1 HC
  have b0 : w4.cell? ⟨w.heap.size, 0, none⟩ = some (.string s) := XD.out.cell 0
  have b1 : w4.cell? ⟨w.heap.size, 1, none⟩ = some (.int .i64 kd) := XD.out.cell 1
  have b2 : w4.cell? ⟨w.heap.size, 2, none⟩ = some (.int .i64 hd) := XD.out.cell 2
  have b3 : w4.cell? ⟨w.heap.size, 3, none⟩ = some (.slice Ad nd1 cd) := XD.out.cell 3
  by_cases hq : e1 ≠ 0
  · have d1 : (e1 != 0) = true := by simpa using hq
    go_wp2_with fail
    go_ret
    exact ⟨rfl, HB.out⟩
  clear b0 b1 b2 b3
  obtain rfl : e1 = 0 := Decidable.not_not.1 hq
  clear hq
  have HCM := Lib.hid (ct_more (d := d) HE1.out)
  obtain ⟨e2, he2⟩ : ∃ e, ctV ⟨sg ++ [d], []⟩ [] cx = e := ⟨_, rfl⟩
  rw [he2] at HCM
  have HE2 := Lib.hid he2; clear he2
  have HL2 := Lib.hid (show LoV ⟨sg ++ [d], []⟩ ([] ++ cx) from ⟨fun t ht hm => by
    rcases List.mem_append.1 ht with ht | ht
    · exact HLO.out.sg t ht hm
    · rw [List.mem_singleton.1 ht] at hm ⊢; exact lo_lt HRD.out hm, (fun m hm => by cases hm), HLO.out.cx⟩)
  have HSGW := Lib.hid (HSG.out.keep HB.out)
  have HRW := Lib.hid (Rd.keep HB.out _ _ HVD.out)
  have b0 : w4.cell? ⟨w.heap.size, 0, none⟩ = some (.string s) := XD.out.cell 0
  have b1 : w4.cell? ⟨w.heap.size, 1, none⟩ = some (.int .i64 kd) := XD.out.cell 1
  have b2 : w4.cell? ⟨w.heap.size, 2, none⟩ = some (.int .i64 hd) := XD.out.cell 2
  have b3 : w4.cell? ⟨w.heap.size, 3, none⟩ = some (.slice Ad nd1 cd) := XD.out.cell 3
  go_wp2_with fail
  clear b0 b1 b2 b3
  have b0 : w4.cell? ⟨w.heap.size, 0, none⟩ = some (.string s) := XD.out.cell 0
  have b1 : w4.cell? ⟨w.heap.size, 1, none⟩ = some (.int .i64 kd) := XD.out.cell 1
  have b2 : w4.cell? ⟨w.heap.size, 2, none⟩ = some (.int .i64 hd) := XD.out.cell 2
  have b3 : w4.cell? ⟨w.heap.size, 3, none⟩ = some (.slice Ad nd1 cd) := XD.out.cell 3
  have HKS : Hid (∀ w' : World, Below w4.heap.size w4 w' → (fun w' => w'.cell? ⟨w.heap.size, 0, none⟩ = some (.string s) ∧ w'.cell? ⟨w.heap.size, 1, none⟩ = some (.int .i64 kd) ∧ w'.cell? ⟨w.heap.size, 2, none⟩ = some (.int .i64 hd) ∧ w'.cell? ⟨w.heap.size, 3, none⟩ = some (.slice Ad nd1 cd)) w') := Lib.hid fun w' h => ⟨(h.cell (cell_lt b0)).trans b0, (h.cell (cell_lt b1)).trans b1, (h.cell (cell_lt b2)).trans b2, (h.cell (cell_lt b3)).trans b3⟩
  have hbd : Below w4.heap.size w4 w4.drew := (Below.refl _ w4).drew
  refine wp_region_held_drew (S := fun w' => w'.cell? ⟨w.heap.size, 0, none⟩ = some (.string s) ∧ w'.cell? ⟨w.heap.size, 1, none⟩ = some (.int .i64 kd) ∧ w'.cell? ⟨w.heap.size, 2, none⟩ = some (.int .i64 hd) ∧ w'.cell? ⟨w.heap.size, 3, none⟩ = some (.slice Ad nd1 cd)) (by kernel_rfl) (HKS.out _ hbd) (fun hS => ?_)
  simp only [List.size_toArray, List.length_cons, List.length_nil, Nat.reduceAdd]
  refine wpAnyH_take (i := 0) (v := .slice As ns cs) rfl (by kernel_rfl) (by kernel_rfl) (by kernel_rfl) (fun _ _ _ h => h) (Or.inl ⟨by kernel_rfl, ?_⟩) hS ?_
  · intro w' hSw
    obtain ⟨s0, s1, s2, s3⟩ := hSw
    go_simp
  try simp only [Act.put, List.setIfInBounds_toArray]
  refine wpAnyH_take (i := 2) (v := .agg #[.string s, .int .i64 kd, .int .i64 hd, .slice Ad nd1 cd]) rfl (by kernel_rfl) (by kernel_rfl) (by kernel_rfl) (fun _ _ _ h => h) (Or.inl ⟨by kernel_rfl, ?_⟩) hS ?_
  · intro w' hSw
    obtain ⟨s0, s1, s2, s3⟩ := hSw
    go_simp
  skip
  refine wpAnyH_take (i := 5) (v := .slice Ac nc cc) rfl (by kernel_rfl) (by kernel_rfl) (by kernel_rfl) (fun _ _ _ h => h) (Or.inl ⟨by kernel_rfl, ?_⟩) hS ?_
  · intro w' hSw
    obtain ⟨s0, s1, s2, s3⟩ := hSw
    go_simp
  skip
  refine wpAnyH_ready (rs := [1, 3]) (by kernel_rfl) (by simp) ?_
  refine AllReadyH.cons rfl (fun KN hK => ?_) (AllReadyH.cons rfl (fun KN hK => ?_) AllReadyH.nil)
  · obtain ⟨A5, c5, w55, cs55, hrun5, hrow5, hb55⟩ := rowD_new HSGW.out (by omega) hbd
    have hb5 := hbd.trans (hb55.mono hbd.size)
    clear hb55
    refine Lib.wp_append_run _ (.const (.slice none 0 0)) (.tmp 35) 22 22 rfl _ _ rfl rfl _ _ hrun5 ?_
    refine hK.out _ _ (HKS.out _ hb5) (fun hS => ?_)
    clear hK KN
    skip
    refine wpAnyH_ready (rs := [3]) (by kernel_rfl) (by simp) ?_
    refine AllReadyH.cons rfl (fun KN hK => ?_) AllReadyH.nil
    go_simp
    have hbB : Below w4.heap.size w4 (w55.alloc (.cells #[.string s, .int .i64 kd, .int .i64 hd, .slice Ad nd1 cd] 38)) := hb5.alloc hb5.size _
    refine hK.out _ _ (HKS.out _ hbB) (fun hS => ?_)
    clear hK KN
    try simp only [Act.put, List.setIfInBounds_toArray, List.set_cons_zero, List.set_cons_succ]
    have hrowB := hrow5.kept (show Below w55.heap.size w55 (w55.alloc (.cells #[.string s, .int .i64 kd, .int .i64 hd, .slice Ad nd1 cd] 38)) from (Below.refl _ _).alloc (Nat.le_refl _) _)
    have zB : Box (w55.alloc (.cells #[.string s, .int .i64 kd, .int .i64 hd, .slice Ad nd1 cd] 38)) w55.heap.size 38 #[.string s, .int .i64 kd, .int .i64 hd, .slice Ad nd1 cd] := Box.new _ _ _
    clear hrow5 hb5 hrun5
    generalize w55.alloc (.cells #[.string s, .int .i64 kd, .int .i64 hd, .slice Ad nd1 cd] 38) = w66 at *
    generalize w55.heap.size = P6 at *
    refine wpAnyH_ready (rs := [4]) (by kernel_rfl) (by simp) ?_
    refine AllReadyH.cons rfl (fun KN hK => ?_) AllReadyH.nil
    obtain ⟨g7, cap7, w77, cs77, hrun7, hr7, hb7, _, _⟩ := rowD_one hrowB zB HRW.out (by omega) hbB
    have hcl7 := hr7.lst hb7
    refine Lib.wp_append_run _ (.tmp 36) (.tmp 38) 22 22 rfl _ _ rfl rfl _ _ hrun7 ?_
    refine hK.out _ _ (HKS.out _ hb7) (fun hS => ?_)
    clear hK KN
    try simp only [Act.put, List.setIfInBounds_toArray]
    clear hr7 hbB hrowB zB hrun7
    refine wpAnyH_ready (rs := [6]) (by kernel_rfl) (by simp) ?_
    refine AllReadyH.cons rfl (fun KN hK => ?_) AllReadyH.nil
    go_simp
    have HC := Lib.hid (yCtxC ⟨sg ++ [d], []⟩ [] cx (some ⟨g7, 0, none⟩) (ns + 1) cap7 none 0 0 none 0 0 Ac nc cc w77 ⟨hcl7, ml_nil _, clv_nil _ _ _ (Nat.zero_le _)⟩ (HX.out.keep (HB.out.trans (hb7.mono HB.out.size))) HL2.out (by omega))
    rw [HE2.out] at HC
    refine HC.out.mono ?_
    rintro e w8 ⟨rfl, hb8⟩
    have hb8' : Below w4.heap.size w4 w8 := hb7.trans (hb8.mono hb7.size)
    refine hK.out _ _ (HKS.out _ hb8') (fun hS => ?_)
    clear hK KN
    try simp only [Act.put, List.setIfInBounds_toArray, List.set_cons_zero, List.set_cons_succ]
    refine wpAnyH_take (i := 7) (v := .int .i64 e2) rfl (by kernel_rfl) (by kernel_rfl) (by kernel_rfl) (fun _ _ _ h => h) (Or.inl ⟨by kernel_rfl, ?_⟩) hS ?_
    · intro w' hSw
      obtain ⟨s0, s1, s2, s3⟩ := hSw
      go_simp
    try simp only [Act.put, List.setIfInBounds_toArray]
    refine wpAnyH_done (by kernel_rfl) ?_ _
    try simp only [List.setIfInBounds_toArray]
    try simp only [List.getElem_toArray, List.getElem_cons_succ, List.getElem_cons_zero, List.set_cons_zero, List.set_cons_succ]
    have HBF := Lib.hid (HB.out.trans (hb8'.mono HB.out.size))
    clear hb8 hb8' hb7 HC hcl7 hS HKS hbd
    rcases HCM.out with rfl | rfl
    · go_wp2_with fail
      go_ret
      exact ⟨rfl, HBF.out⟩
    · go_wp2_with fail
      go_ret
      exact ⟨rfl, HBF.out⟩
  · go_simp
    have hb5 : Below w4.heap.size w4 (w4.alloc (.cells #[.string s, .int .i64 kd, .int .i64 hd, .slice Ad nd1 cd] 38)).drew := ((Below.refl _ w4).alloc (Nat.le_refl _) _).drew
    refine hK.out _ _ (HKS.out _ hb5) (fun hS => ?_)
    clear hK KN
    try simp only [Act.put, List.setIfInBounds_toArray, List.set_cons_zero, List.set_cons_succ]
    have z5 : Box (w4.alloc (.cells #[.string s, .int .i64 kd, .int .i64 hd, .slice Ad nd1 cd] 38)).drew w4.heap.size 38 #[.string s, .int .i64 kd, .int .i64 hd, .slice Ad nd1 cd] := Box.drewI (Box.new _ _ _)
    obtain ⟨P6, hP6⟩ : ∃ p, w4.heap.size = p := ⟨_, rfl⟩
    rw [hP6] at z5
    try rw [hP6]
    clear hP6
    generalize (w4.alloc (.cells #[.string s, .int .i64 kd, .int .i64 hd, .slice Ad nd1 cd] 38)).drew = w55 at *
    refine wpAnyH_ready (rs := [1]) (by kernel_rfl) (by simp) ?_
    refine AllReadyH.cons rfl (fun KN hK => ?_) AllReadyH.nil
    obtain ⟨A5, c5, w66, cs55, hrun5, hrowB, hb66⟩ := rowD_new HSGW.out (by omega) hb5
    have hbB := hb5.trans (hb66.mono hb5.size)
    have zB : Box w66 P6 38 #[.string s, .int .i64 kd, .int .i64 hd, .slice Ad nd1 cd] := z5.keep hb66 z5.lt
    clear hb66
    refine Lib.wp_append_run _ (.const (.slice none 0 0)) (.tmp 35) 22 22 rfl _ _ rfl rfl _ _ hrun5 ?_
    refine hK.out _ _ (HKS.out _ hbB) (fun hS => ?_)
    clear hK KN
    try simp only [Act.put, List.setIfInBounds_toArray]
    clear hb5 z5 hrun5
    refine wpAnyH_ready (rs := [4]) (by kernel_rfl) (by simp) ?_
    refine AllReadyH.cons rfl (fun KN hK => ?_) AllReadyH.nil
    obtain ⟨g7, cap7, w77, cs77, hrun7, hr7, hb7, _, _⟩ := rowD_one hrowB zB HRW.out (by omega) hbB
    have hcl7 := hr7.lst hb7
    refine Lib.wp_append_run _ (.tmp 36) (.tmp 38) 22 22 rfl _ _ rfl rfl _ _ hrun7 ?_
    refine hK.out _ _ (HKS.out _ hb7) (fun hS => ?_)
    clear hK KN
    skip
    clear hr7 hbB hrowB zB hrun7
    refine wpAnyH_ready (rs := [6]) (by kernel_rfl) (by simp) ?_
    refine AllReadyH.cons rfl (fun KN hK => ?_) AllReadyH.nil
    go_simp
    have HC := Lib.hid (yCtxC ⟨sg ++ [d], []⟩ [] cx (some ⟨g7, 0, none⟩) (ns + 1) cap7 none 0 0 none 0 0 Ac nc cc w77 ⟨hcl7, ml_nil _, clv_nil _ _ _ (Nat.zero_le _)⟩ (HX.out.keep (HB.out.trans (hb7.mono HB.out.size))) HL2.out (by omega))
    rw [HE2.out] at HC
    refine HC.out.mono ?_
    rintro e w8 ⟨rfl, hb8⟩
    have hb8' : Below w4.heap.size w4 w8 := hb7.trans (hb8.mono hb7.size)
    refine hK.out _ _ (HKS.out _ hb8') (fun hS => ?_)
    clear hK KN
    try simp only [Act.put, List.setIfInBounds_toArray, List.set_cons_zero, List.set_cons_succ]
    refine wpAnyH_take (i := 7) (v := .int .i64 e2) rfl (by kernel_rfl) (by kernel_rfl) (by kernel_rfl) (fun _ _ _ h => h) (Or.inl ⟨by kernel_rfl, ?_⟩) hS ?_
    · intro w' hSw
      obtain ⟨s0, s1, s2, s3⟩ := hSw
      go_simp
    try simp only [Act.put, List.setIfInBounds_toArray]
    refine wpAnyH_done (by kernel_rfl) ?_ _
    try simp only [List.setIfInBounds_toArray]
    try simp only [List.getElem_toArray, List.getElem_cons_succ, List.getElem_cons_zero, List.set_cons_zero, List.set_cons_succ]
    have HBF := Lib.hid (HB.out.trans (hb8'.mono HB.out.size))
    clear hb8 hb8' hb7 HC hcl7 hS HKS hbd
    rcases HCM.out with rfl | rfl
    · go_wp2_with fail
      go_ret
      exact ⟨rfl, HBF.out⟩
    · go_wp2_with fail
      go_ret
      exact ⟨rfl, HBF.out⟩
end Go.Proofs.Ytpigmefjcklpkaa
