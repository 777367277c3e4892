/-
  The walk of the law MetasBegin.
-/
import Derived.Test.YtloeainlpcnhnaaPkMA
import Derived.Test.YtloeainlpcnhnaaPkNA
namespace Go.Proofs.Ytloeainlpcnhnaa
open Go.ChangeShapes Go.WideShapes Go.ChangeAt Go.RowKit
set_option linter.unusedVariables false

theorem dc_take {sg : List T} {ds : List MP} (n : Nat) (h : (dcV sg ds).2 = 0) : (dcV sg (ds.take n)).2 = 0 := by
  unfold dcV at h ⊢
  by_cases hl : 40 < ds.length
  · rw [if_pos hl] at h; cases h
  rw [if_neg hl] at h
  rw [if_neg (by rw [List.length_take]; omega)]
  refine fiG_take h fun i x hi hx => ?_
  rw [List.take_take, Nat.min_eq_left (by omega)]
theorem su_take {sg : List T} {l ds : List MP} {ext theta : List T} (n : Nat) (h : suV sg l ext ds theta = 0) : suV sg l ext (ds.take n) (theta.take n) = 0 := by
  unfold suV at h ⊢
  by_cases hl : 40 < ds.length
  · rw [if_pos hl] at h; cases h
  rw [if_neg hl] at h
  by_cases hl2 : theta.length = ds.length
  · rw [if_pos hl2] at h
    rw [if_neg (by rw [List.length_take]; omega), if_pos (by rw [List.length_take, List.length_take, hl2])]
    refine fiG_take h fun i x hi hx => ?_
    rw [List.take_take, Nat.min_eq_left (by omega)]
    congr 1
    rw [List.getD_eq_getElem?_getD, List.getD_eq_getElem?_getD, List.getElem?_take_of_lt hi]
  · rw [if_neg hl2] at h; cases h
set_option maxRecDepth 100000 in
set_option maxHeartbeats 16000000 in
theorem metasBeginC (sg : List T) (ds : List MP) (theta : List T) (i : Int) (As : Option Addr) (ns cs : Nat) (Am : Option Addr) (nm cm : Nat) (At : Option Addr) (nt ct : Nat) (w : World) (hs : DL w sg As ns cs) (hd : PL w ds Am nm cm) (ht : CLV w theta At nt ct) :
    Calls Try.prog 7 #[.slice As ns cs, .slice Am nm cm, .slice At nt ct, .int .i64 i] w fun e w' => e = .returned (.bool true) ∧ Below w.heap.size w w' := by
  have hdl := hd.len
  have hdle := hd.le
  have hdcap := hd.cap
  unfold maxLen at hdcap
  have htl := ht.len
  have htle := ht.le
  have htcap := ht.cap
  unfold maxLen at htcap
  have HS := Lib.hid hs; clear hs
  have HD := Lib.hid hd; clear hd
  have HT := Lib.hid ht; clear ht
  have HB := Lib.hid (Below.refl w.heap.size w)
  obtain ⟨r1, hr1⟩ : ∃ r, fwV ⟨sg, msP ds⟩ [] ns nm = r := ⟨_, rfl⟩
  have HR1 := Lib.hid hr1; clear hr1
  obtain ⟨r2, hr2⟩ : ∃ r, lsB theta 500 80 = r := ⟨_, rfl⟩
  have HR2 := Lib.hid hr2; clear hr2
  go_enter Try.func7, Try.ntmps7
  go_wp2_with fail
  have HC := Lib.hid (nAwakeC w)
  refine HC.out.mono ?_
  rintro e w1 ⟨rfl, hb1⟩
  replace HB := Lib.hid (HB.out.trans (hb1.mono HB.out.size))
  clear hb1 HC
  go_wp2_with fail
  have HC := Lib.hid (vFewC ⟨sg, msP ds⟩ [] As Am none ns cs nm cm 0 0 w1 ⟨HS.out.keep HB.out, HD.out.ml.keep HB.out, clv_nil _ _ _ (Nat.zero_le _)⟩)
  rw [HR1.out] at HC
  refine HC.out.mono ?_
  rintro e w2 ⟨rfl, hb1⟩
  replace HB := Lib.hid (HB.out.trans (hb1.mono HB.out.size))
  clear hb1 HC
  go_wp2_with fail
  have HC := Lib.hid (lightsC theta At nt ct 500 80 w2 (HT.out.keep HB.out).len (HT.out.keep HB.out).le (HT.out.keep HB.out).cap (HT.out.keep HB.out).at_)
  rw [HR2.out] at HC
  refine HC.out.mono ?_
  rintro e w3 ⟨rfl, hb1⟩
  replace HB := Lib.hid (HB.out.trans (hb1.mono HB.out.size))
  clear hb1 HC
  cases r1
  · go_wp2_with fail
    go_ret
    exact ⟨rfl, HB.out⟩
  cases r2
  · go_wp2_with fail
    go_ret
    exact ⟨rfl, HB.out⟩
  by_cases h0 : i < 0
  · have d1 : decide (i < 0) = true := by simpa using h0
    go_wp2_with fail
    go_ret
    exact ⟨rfl, HB.out⟩
  obtain ⟨n, rfl⟩ : ∃ n : Nat, i = n := ⟨i.toNat, by omega⟩
  clear h0
  have d1 : decide ((n : Int) < 0) = false := by simp
  by_cases h1 : nm < n
  · have d2 : decide ((nm : Int) < (n : Int)) = true := by simp; omega
    go_wp2_with fail
    go_ret
    exact ⟨rfl, HB.out⟩
  have d2 : decide ((nm : Int) < (n : Int)) = false := by simp; omega
  have hn0 : (0 : Int) ≤ (n : Int) := by omega
  have hn1 : (n : Int) ≤ (nm : Int) := by omega
  have hn2 : (n : Int) ≤ (cm : Int) := by omega
  have HL := Lib.hid (loV_of HR1.out)
  have HLD := Lib.hid (lo_pN HR1.out)
  have HLT := Lib.hid (lw_lsN HR2.out)
  clear HR1 HR2
  go_wp2_with fail
  have HC := Lib.hid (dcC sg ds As ns cs Am nm cm w3 (HS.out.keep HB.out) (HD.out.keep HB.out) HL.out.sg HLD.out)
  refine HC.out.mono ?_
  rintro e w4 ⟨rfl, hb1⟩
  replace HB := Lib.hid (HB.out.trans (hb1.mono HB.out.size))
  clear hb1 HC
  go_wp2_with fail
  have HC := Lib.hid (dcC sg (ds.take n) As ns cs Am n cm w4 (HS.out.keep HB.out) ((HD.out.take (by omega)).keep HB.out) HL.out.sg (LoP.take HLD.out n))
  refine HC.out.mono ?_
  rintro e w5 ⟨rfl, hb1⟩
  replace HB := Lib.hid (HB.out.trans (hb1.mono HB.out.size))
  clear hb1 HC
  obtain ⟨e1, he1⟩ : ∃ r, (dcV sg ds).2 = r := ⟨_, rfl⟩
  have HE1 := Lib.hid he1; clear he1
  obtain ⟨e2, he2⟩ : ∃ r, (dcV sg (ds.take n)).2 = r := ⟨_, rfl⟩
  have HE2 := Lib.hid he2; clear he2
  try rw [HE1.out]
  try rw [HE2.out]
  have h12 : e1 = 0 → e2 = 0 := fun h => by rw [← HE2.out]; exact dc_take n (HE1.out.trans h)
  have HSU : Hid (∀ W' : World, Below w.heap.size w W' → Calls Try.prog 21 #[.slice As ns cs, .slice none 0 0, .slice none 0 0, .slice Am nm cm, .slice At nt ct] W' fun e w' => e = .returned (.int .i64 (suV sg [] [] ds theta)) ∧ Below W'.heap.size W' w') := Lib.hid fun W' h' =>
    suC sg [] [] ds theta As ns cs none 0 0 none 0 0 Am nm cm At nt ct W' (HS.out.keep h') (pl_nil _) (clv_nil _ _ _ (Nat.zero_le _)) (HD.out.keep h') (HT.out.keep h') ⟨HL.out.sg, (fun m hm => absurd hm (by simp [msP])), (fun t ht => by cases ht)⟩ HLD.out HLT.out.1 (by omega)
  by_cases hz1 : e1 = 0
  · have hz2 := h12 hz1
    subst hz1
    subst hz2
    clear h12
    have dz : ((0 : Int) == 0) = true := by decide
    have dz2 : ((0 : Int) != 0) = false := by decide
    go_wp2_with fail
    have HC := Lib.hid (HSU.out _ HB.out)
    refine HC.out.mono ?_
    rintro e w6 ⟨rfl, hb1⟩
    replace HB := Lib.hid (HB.out.trans (hb1.mono HB.out.size))
    clear hb1 HC
    obtain ⟨e3, he3⟩ : ∃ r, suV sg [] [] ds theta = r := ⟨_, rfl⟩
    have HE3 := Lib.hid he3; clear he3
    try rw [HE3.out]
    by_cases hz : e3 = 0
    case' neg =>
      have dz3 : (e3 != 0) = true := by simpa using hz
      clear hz
      go_wp2_with fail
      go_ret
      exact ⟨rfl, HB.out⟩
    subst hz
    have dz3 : ((0 : Int) != 0) = false := by decide
    have hlen : nt = nm := by
      have := (su_at HE3.out).2.1
      omega
    have HTK := Lib.hid (su_take n HE3.out)
    clear HE3
    subst hlen
    have HSV : Hid (∀ W' : World, Below w.heap.size w W' → Calls Try.prog 21 #[.slice As ns cs, .slice none 0 0, .slice none 0 0, .slice Am n cm, .slice At n ct] W' fun e w' => e = .returned (.int .i64 0) ∧ Below W'.heap.size W' w') := Lib.hid fun W' h' => by
      have := suC sg [] [] (ds.take n) (theta.take n) As ns cs none 0 0 none 0 0 Am n cm At n ct W' (HS.out.keep h') (pl_nil _) (clv_nil _ _ _ (Nat.zero_le _)) ((HD.out.take (by omega)).keep h') ((HT.out.take (by omega)).keep h') ⟨HL.out.sg, (fun m hm => absurd hm (by simp [msP])), (fun t ht => by cases ht)⟩ (LoP.take HLD.out n) (HLT.out.1.take n) (by omega)
      rw [HTK.out] at this
      exact this
    have hn3 : (n : Int) ≤ (ct : Int) := by omega
    clear HSU
    go_wp2_with fail
    have HKS : Hid (∀ w' : World, Below w6.heap.size w6 w' → (fun _ => True) w') := Lib.hid fun w' h => trivial
    have hbd : Below w6.heap.size w6 w6.drew := (Below.refl _ w6).drew
    refine wp_region_held_drew (S := fun _ => True) (by kernel_rfl) (HKS.out _ hbd) (fun hS => ?_)
    simp only [List.size_toArray, List.length_cons, List.length_nil, Nat.reduceAdd]
    refine wpAnyH_take (i := 0) (v := .slice At nt ct) rfl (by kernel_rfl) (by kernel_rfl) (by kernel_rfl) (fun _ _ _ h => h) (Or.inl ⟨by kernel_rfl, ?_⟩) hS ?_
    · intro w' hSw
      go_simp
    try simp only [Act.put, List.getElem_toArray, List.getElem_cons_zero, List.setIfInBounds_toArray, List.set_cons_zero, List.set_cons_succ]
    refine wpAnyH_take (i := 1) (v := .int .i64 nt) rfl (by kernel_rfl) (by kernel_rfl) (by kernel_rfl) (fun _ _ _ h => h) (Or.inl ⟨by kernel_rfl, ?_⟩) hS ?_
    · intro w' hSw
      go_simp
    try simp only [Act.put, List.getElem_toArray, List.getElem_cons_succ, List.getElem_cons_zero, List.setIfInBounds_toArray, List.set_cons_zero, List.set_cons_succ]
    refine wpAnyH_take (i := 2) (v := .slice Am nt cm) rfl (by kernel_rfl) (by kernel_rfl) (by kernel_rfl) (fun _ _ _ h => h) (Or.inl ⟨by kernel_rfl, ?_⟩) hS ?_
    · intro w' hSw
      go_simp
    try simp only [Act.put, List.getElem_toArray, List.getElem_cons_succ, List.getElem_cons_zero, List.setIfInBounds_toArray, List.set_cons_zero, List.set_cons_succ]
    refine wpAnyH_take (i := 3) (v := .int .i64 nt) rfl (by kernel_rfl) (by kernel_rfl) (by kernel_rfl) (fun _ _ _ h => h) (Or.inl ⟨by kernel_rfl, ?_⟩) hS ?_
    · intro w' hSw
      go_simp
    try simp only [Act.put, List.getElem_toArray, List.getElem_cons_succ, List.getElem_cons_zero, List.setIfInBounds_toArray, List.set_cons_zero, List.set_cons_succ]
    refine wpAnyH_take (i := 4) (v := .bool true) rfl (by kernel_rfl) (by kernel_rfl) (by kernel_rfl) (fun _ _ _ h => h) (Or.inl ⟨by kernel_rfl, ?_⟩) hS ?_
    · intro w' hSw
      go_simp
    try simp only [Act.put, List.getElem_toArray, List.getElem_cons_succ, List.getElem_cons_zero, List.setIfInBounds_toArray, List.set_cons_zero, List.set_cons_succ]
    refine wpAnyH_take (i := 5) (v := .bool true) rfl (by kernel_rfl) (by kernel_rfl) (by kernel_rfl) (fun _ _ _ h => h) (Or.inl ⟨by kernel_rfl, ?_⟩) hS ?_
    · intro w' hSw
      go_simp
    try simp only [Act.put, List.getElem_toArray, List.getElem_cons_succ, List.getElem_cons_zero, List.setIfInBounds_toArray, List.set_cons_zero, List.set_cons_succ]
    refine wpAnyH_take (i := 6) (v := .slice As ns cs) rfl (by kernel_rfl) (by kernel_rfl) (by kernel_rfl) (fun _ _ _ h => h) (Or.inl ⟨by kernel_rfl, ?_⟩) hS ?_
    · intro w' hSw
      go_simp
    try simp only [Act.put, List.getElem_toArray, List.getElem_cons_succ, List.getElem_cons_zero, List.setIfInBounds_toArray, List.set_cons_zero, List.set_cons_succ]
    refine wpAnyH_take (i := 7) (v := .slice Am nt cm) rfl (by kernel_rfl) (by kernel_rfl) (by kernel_rfl) (fun _ _ _ h => h) (Or.inl ⟨by kernel_rfl, ?_⟩) hS ?_
    · intro w' hSw
      go_simp
    try simp only [Act.put, List.getElem_toArray, List.getElem_cons_succ, List.getElem_cons_zero, List.setIfInBounds_toArray, List.set_cons_zero, List.set_cons_succ]
    refine wpAnyH_take (i := 8) (v := .int .i64 n) rfl (by kernel_rfl) (by kernel_rfl) (by kernel_rfl) (fun _ _ _ h => h) (Or.inl ⟨by kernel_rfl, ?_⟩) hS ?_
    · intro w' hSw
      go_simp
    try simp only [Act.put, List.getElem_toArray, List.getElem_cons_succ, List.getElem_cons_zero, List.setIfInBounds_toArray, List.set_cons_zero, List.set_cons_succ]
    refine wpAnyH_take (i := 9) (v := .slice Am n cm) rfl (by kernel_rfl) (by kernel_rfl) (by kernel_rfl) (fun _ _ _ h => h) (Or.inl ⟨by kernel_rfl, ?_⟩) hS ?_
    · intro w' hSw
      go_simp
    try simp only [Act.put, List.getElem_toArray, List.getElem_cons_succ, List.getElem_cons_zero, List.setIfInBounds_toArray, List.set_cons_zero, List.set_cons_succ]
    refine wpAnyH_take (i := 10) (v := .slice At nt ct) rfl (by kernel_rfl) (by kernel_rfl) (by kernel_rfl) (fun _ _ _ h => h) (Or.inl ⟨by kernel_rfl, ?_⟩) hS ?_
    · intro w' hSw
      go_simp
    try simp only [Act.put, List.getElem_toArray, List.getElem_cons_succ, List.getElem_cons_zero, List.setIfInBounds_toArray, List.set_cons_zero, List.set_cons_succ]
    refine wpAnyH_take (i := 11) (v := .int .i64 n) rfl (by kernel_rfl) (by kernel_rfl) (by kernel_rfl) (fun _ _ _ h => h) (Or.inl ⟨by kernel_rfl, ?_⟩) hS ?_
    · intro w' hSw
      go_simp
    try simp only [Act.put, List.getElem_toArray, List.getElem_cons_succ, List.getElem_cons_zero, List.setIfInBounds_toArray, List.set_cons_zero, List.set_cons_succ]
    refine wpAnyH_take (i := 12) (v := .slice At n ct) rfl (by kernel_rfl) (by kernel_rfl) (by kernel_rfl) (fun _ _ _ h => h) (Or.inl ⟨by kernel_rfl, ?_⟩) hS ?_
    · intro w' hSw
      go_simp
    try simp only [Act.put, List.getElem_toArray, List.getElem_cons_succ, List.getElem_cons_zero, List.setIfInBounds_toArray, List.set_cons_zero, List.set_cons_succ]
    refine wpAnyH_ready (rs := [13]) (by kernel_rfl) (by simp) ?_
    refine AllReadyH.cons rfl (fun KN hK => ?_) AllReadyH.nil
    refine ite_of (by kernel_rfl) ?_
    go_simp
    refine (HSV.out _ (HB.out.trans (hbd.mono HB.out.size))).mono ?_
    rintro e wz ⟨rfl, hb1⟩
    replace hbd : Below w6.heap.size w6 wz := hbd.trans (hb1.mono hbd.size)
    clear hb1
    refine hK.out _ _ (HKS.out _ hbd) (fun hS => ?_)
    clear hK KN
    try simp only [Act.put, List.getElem_toArray, List.getElem_cons_succ, List.getElem_cons_zero, List.setIfInBounds_toArray, List.set_cons_zero, List.set_cons_succ]
    refine wpAnyH_take (i := 14) (v := .bool true) rfl (by kernel_rfl) (by kernel_rfl) (by kernel_rfl) (fun _ _ _ h => h) (Or.inl ⟨by kernel_rfl, ?_⟩) hS ?_
    · intro w' hSw
      go_simp
    try simp only [Act.put, List.getElem_toArray, List.getElem_cons_succ, List.getElem_cons_zero, List.setIfInBounds_toArray, List.set_cons_zero, List.set_cons_succ]
    refine wpAnyH_take (i := 15) (v := .bool true) rfl (by kernel_rfl) (by kernel_rfl) (by kernel_rfl) (fun _ _ _ h => h) (Or.inl ⟨by kernel_rfl, ?_⟩) hS ?_
    · intro w' hSw
      go_simp
    try simp only [Act.put, List.getElem_toArray, List.getElem_cons_succ, List.getElem_cons_zero, List.setIfInBounds_toArray, List.set_cons_zero, List.set_cons_succ]
    refine wpAnyH_take (i := 16) (v := .bool true) rfl (by kernel_rfl) (by kernel_rfl) (by kernel_rfl) (fun _ _ _ h => h) (Or.inl ⟨by kernel_rfl, ?_⟩) hS ?_
    · intro w' hSw
      go_simp
    try simp only [Act.put, List.getElem_toArray, List.getElem_cons_succ, List.getElem_cons_zero, List.setIfInBounds_toArray, List.set_cons_zero, List.set_cons_succ]
    refine wpAnyH_done (by kernel_rfl) ?_ _
    try simp only [List.setIfInBounds_toArray]
    try simp only [List.getElem_toArray, List.getElem_cons_succ, List.getElem_cons_zero, List.setIfInBounds_toArray, List.set_cons_zero, List.set_cons_succ]
    replace HB := Lib.hid (HB.out.trans (hbd.mono HB.out.size))
    clear hS HKS hbd
    go_wp2_with fail
    go_ret
    exact ⟨rfl, HB.out⟩
  · have dz : (e1 == 0) = false := by simpa using hz1
    clear hz1 h12
    go_wp2_with fail
    have HC := Lib.hid (HSU.out _ HB.out)
    refine HC.out.mono ?_
    rintro e w6 ⟨rfl, hb1⟩
    replace HB := Lib.hid (HB.out.trans (hb1.mono HB.out.size))
    clear hb1 HC
    obtain ⟨e3, he3⟩ : ∃ r, suV sg [] [] ds theta = r := ⟨_, rfl⟩
    have HE3 := Lib.hid he3; clear he3
    try rw [HE3.out]
    by_cases hz : e3 = 0
    case' neg =>
      have dz3 : (e3 != 0) = true := by simpa using hz
      clear hz
      go_wp2_with fail
      go_ret
      exact ⟨rfl, HB.out⟩
    subst hz
    have dz3 : ((0 : Int) != 0) = false := by decide
    have hlen : nt = nm := by
      have := (su_at HE3.out).2.1
      omega
    have HTK := Lib.hid (su_take n HE3.out)
    clear HE3
    subst hlen
    have HSV : Hid (∀ W' : World, Below w.heap.size w W' → Calls Try.prog 21 #[.slice As ns cs, .slice none 0 0, .slice none 0 0, .slice Am n cm, .slice At n ct] W' fun e w' => e = .returned (.int .i64 0) ∧ Below W'.heap.size W' w') := Lib.hid fun W' h' => by
      have := suC sg [] [] (ds.take n) (theta.take n) As ns cs none 0 0 none 0 0 Am n cm At n ct W' (HS.out.keep h') (pl_nil _) (clv_nil _ _ _ (Nat.zero_le _)) ((HD.out.take (by omega)).keep h') ((HT.out.take (by omega)).keep h') ⟨HL.out.sg, (fun m hm => absurd hm (by simp [msP])), (fun t ht => by cases ht)⟩ (LoP.take HLD.out n) (HLT.out.1.take n) (by omega)
      rw [HTK.out] at this
      exact this
    have hn3 : (n : Int) ≤ (ct : Int) := by omega
    clear HSU
    go_wp2_with fail
    have HKS : Hid (∀ w' : World, Below w6.heap.size w6 w' → (fun _ => True) w') := Lib.hid fun w' h => trivial
    have hbd : Below w6.heap.size w6 w6.drew := (Below.refl _ w6).drew
    refine wp_region_held_drew (S := fun _ => True) (by kernel_rfl) (HKS.out _ hbd) (fun hS => ?_)
    simp only [List.size_toArray, List.length_cons, List.length_nil, Nat.reduceAdd]
    refine wpAnyH_take (i := 0) (v := .slice At nt ct) rfl (by kernel_rfl) (by kernel_rfl) (by kernel_rfl) (fun _ _ _ h => h) (Or.inl ⟨by kernel_rfl, ?_⟩) hS ?_
    · intro w' hSw
      go_simp
    try simp only [Act.put, List.getElem_toArray, List.getElem_cons_zero, List.setIfInBounds_toArray, List.set_cons_zero, List.set_cons_succ]
    refine wpAnyH_take (i := 1) (v := .int .i64 nt) rfl (by kernel_rfl) (by kernel_rfl) (by kernel_rfl) (fun _ _ _ h => h) (Or.inl ⟨by kernel_rfl, ?_⟩) hS ?_
    · intro w' hSw
      go_simp
    try simp only [Act.put, List.getElem_toArray, List.getElem_cons_succ, List.getElem_cons_zero, List.setIfInBounds_toArray, List.set_cons_zero, List.set_cons_succ]
    refine wpAnyH_take (i := 2) (v := .slice Am nt cm) rfl (by kernel_rfl) (by kernel_rfl) (by kernel_rfl) (fun _ _ _ h => h) (Or.inl ⟨by kernel_rfl, ?_⟩) hS ?_
    · intro w' hSw
      go_simp
    try simp only [Act.put, List.getElem_toArray, List.getElem_cons_succ, List.getElem_cons_zero, List.setIfInBounds_toArray, List.set_cons_zero, List.set_cons_succ]
    refine wpAnyH_take (i := 3) (v := .int .i64 nt) rfl (by kernel_rfl) (by kernel_rfl) (by kernel_rfl) (fun _ _ _ h => h) (Or.inl ⟨by kernel_rfl, ?_⟩) hS ?_
    · intro w' hSw
      go_simp
    try simp only [Act.put, List.getElem_toArray, List.getElem_cons_succ, List.getElem_cons_zero, List.setIfInBounds_toArray, List.set_cons_zero, List.set_cons_succ]
    refine wpAnyH_take (i := 4) (v := .bool true) rfl (by kernel_rfl) (by kernel_rfl) (by kernel_rfl) (fun _ _ _ h => h) (Or.inl ⟨by kernel_rfl, ?_⟩) hS ?_
    · intro w' hSw
      go_simp
    try simp only [Act.put, List.getElem_toArray, List.getElem_cons_succ, List.getElem_cons_zero, List.setIfInBounds_toArray, List.set_cons_zero, List.set_cons_succ]
    refine wpAnyH_take (i := 5) (v := .bool true) rfl (by kernel_rfl) (by kernel_rfl) (by kernel_rfl) (fun _ _ _ h => h) (Or.inl ⟨by kernel_rfl, ?_⟩) hS ?_
    · intro w' hSw
      go_simp
    try simp only [Act.put, List.getElem_toArray, List.getElem_cons_succ, List.getElem_cons_zero, List.setIfInBounds_toArray, List.set_cons_zero, List.set_cons_succ]
    refine wpAnyH_take (i := 6) (v := .slice As ns cs) rfl (by kernel_rfl) (by kernel_rfl) (by kernel_rfl) (fun _ _ _ h => h) (Or.inl ⟨by kernel_rfl, ?_⟩) hS ?_
    · intro w' hSw
      go_simp
    try simp only [Act.put, List.getElem_toArray, List.getElem_cons_succ, List.getElem_cons_zero, List.setIfInBounds_toArray, List.set_cons_zero, List.set_cons_succ]
    refine wpAnyH_take (i := 7) (v := .slice Am nt cm) rfl (by kernel_rfl) (by kernel_rfl) (by kernel_rfl) (fun _ _ _ h => h) (Or.inl ⟨by kernel_rfl, ?_⟩) hS ?_
    · intro w' hSw
      go_simp
    try simp only [Act.put, List.getElem_toArray, List.getElem_cons_succ, List.getElem_cons_zero, List.setIfInBounds_toArray, List.set_cons_zero, List.set_cons_succ]
    refine wpAnyH_take (i := 8) (v := .int .i64 n) rfl (by kernel_rfl) (by kernel_rfl) (by kernel_rfl) (fun _ _ _ h => h) (Or.inl ⟨by kernel_rfl, ?_⟩) hS ?_
    · intro w' hSw
      go_simp
    try simp only [Act.put, List.getElem_toArray, List.getElem_cons_succ, List.getElem_cons_zero, List.setIfInBounds_toArray, List.set_cons_zero, List.set_cons_succ]
    refine wpAnyH_take (i := 9) (v := .slice Am n cm) rfl (by kernel_rfl) (by kernel_rfl) (by kernel_rfl) (fun _ _ _ h => h) (Or.inl ⟨by kernel_rfl, ?_⟩) hS ?_
    · intro w' hSw
      go_simp
    try simp only [Act.put, List.getElem_toArray, List.getElem_cons_succ, List.getElem_cons_zero, List.setIfInBounds_toArray, List.set_cons_zero, List.set_cons_succ]
    refine wpAnyH_take (i := 10) (v := .slice At nt ct) rfl (by kernel_rfl) (by kernel_rfl) (by kernel_rfl) (fun _ _ _ h => h) (Or.inl ⟨by kernel_rfl, ?_⟩) hS ?_
    · intro w' hSw
      go_simp
    try simp only [Act.put, List.getElem_toArray, List.getElem_cons_succ, List.getElem_cons_zero, List.setIfInBounds_toArray, List.set_cons_zero, List.set_cons_succ]
    refine wpAnyH_take (i := 11) (v := .int .i64 n) rfl (by kernel_rfl) (by kernel_rfl) (by kernel_rfl) (fun _ _ _ h => h) (Or.inl ⟨by kernel_rfl, ?_⟩) hS ?_
    · intro w' hSw
      go_simp
    try simp only [Act.put, List.getElem_toArray, List.getElem_cons_succ, List.getElem_cons_zero, List.setIfInBounds_toArray, List.set_cons_zero, List.set_cons_succ]
    refine wpAnyH_take (i := 12) (v := .slice At n ct) rfl (by kernel_rfl) (by kernel_rfl) (by kernel_rfl) (fun _ _ _ h => h) (Or.inl ⟨by kernel_rfl, ?_⟩) hS ?_
    · intro w' hSw
      go_simp
    try simp only [Act.put, List.getElem_toArray, List.getElem_cons_succ, List.getElem_cons_zero, List.setIfInBounds_toArray, List.set_cons_zero, List.set_cons_succ]
    refine wpAnyH_ready (rs := [13]) (by kernel_rfl) (by simp) ?_
    refine AllReadyH.cons rfl (fun KN hK => ?_) AllReadyH.nil
    refine ite_of (by kernel_rfl) ?_
    go_simp
    refine (HSV.out _ (HB.out.trans (hbd.mono HB.out.size))).mono ?_
    rintro e wz ⟨rfl, hb1⟩
    replace hbd : Below w6.heap.size w6 wz := hbd.trans (hb1.mono hbd.size)
    clear hb1
    refine hK.out _ _ (HKS.out _ hbd) (fun hS => ?_)
    clear hK KN
    try simp only [Act.put, List.getElem_toArray, List.getElem_cons_succ, List.getElem_cons_zero, List.setIfInBounds_toArray, List.set_cons_zero, List.set_cons_succ]
    refine wpAnyH_take (i := 14) (v := .bool true) rfl (by kernel_rfl) (by kernel_rfl) (by kernel_rfl) (fun _ _ _ h => h) (Or.inl ⟨by kernel_rfl, ?_⟩) hS ?_
    · intro w' hSw
      go_simp
    try simp only [Act.put, List.getElem_toArray, List.getElem_cons_succ, List.getElem_cons_zero, List.setIfInBounds_toArray, List.set_cons_zero, List.set_cons_succ]
    refine wpAnyH_take (i := 15) (v := .bool true) rfl (by kernel_rfl) (by kernel_rfl) (by kernel_rfl) (fun _ _ _ h => h) (Or.inl ⟨by kernel_rfl, ?_⟩) hS ?_
    · intro w' hSw
      go_simp
    try simp only [Act.put, List.getElem_toArray, List.getElem_cons_succ, List.getElem_cons_zero, List.setIfInBounds_toArray, List.set_cons_zero, List.set_cons_succ]
    refine wpAnyH_take (i := 16) (v := .bool true) rfl (by kernel_rfl) (by kernel_rfl) (by kernel_rfl) (fun _ _ _ h => h) (Or.inl ⟨by kernel_rfl, ?_⟩) hS ?_
    · intro w' hSw
      go_simp
    try simp only [Act.put, List.getElem_toArray, List.getElem_cons_succ, List.getElem_cons_zero, List.setIfInBounds_toArray, List.set_cons_zero, List.set_cons_succ]
    refine wpAnyH_done (by kernel_rfl) ?_ _
    try simp only [List.setIfInBounds_toArray]
    try simp only [List.getElem_toArray, List.getElem_cons_succ, List.getElem_cons_zero, List.setIfInBounds_toArray, List.set_cons_zero, List.set_cons_succ]
    replace HB := Lib.hid (HB.out.trans (hbd.mono HB.out.size))
    clear hS HKS hbd
    go_wp2_with fail
    go_ret
    exact ⟨rfl, HB.out⟩
theorem metasBeginM (sg : List T) (ms : List (List T × T)) (theta : List T) (i : Int) (As : Option Addr) (ns cs : Nat) (Am : Option Addr) (nm cm : Nat) (At : Option Addr) (nt ct : Nat) (w : World) (hs : DL w sg As ns cs) (hd : ML w ms Am nm cm) (ht : CLV w theta At nt ct) :
    Calls Try.prog 7 #[.slice As ns cs, .slice Am nm cm, .slice At nt ct, .int .i64 i] w fun e w' => e = .returned (.bool true) ∧ Below w.heap.size w w' := by
  obtain ⟨ds, hds, _⟩ := hd.pl
  exact metasBeginC sg ds theta i As ns cs Am nm cm At nt ct w hs hds ht
end Go.Proofs.Ytloeainlpcnhnaa
