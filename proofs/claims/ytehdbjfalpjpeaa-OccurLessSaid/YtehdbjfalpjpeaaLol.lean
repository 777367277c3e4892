/-
  The walk of the law OccurLess.
-/
import Derived.Test.YtehdbjfalpjpeaaOu
namespace Go.Proofs.Ytehdbjfalpjpeaa
open Go.ChangeShapes Go.WideShapes Go.ChangeAt Go.RowKit
set_option linter.unusedVariables false

theorem less_grown {B : Nat} {w a b : World} {row : Option Nat} (h : Below B w a) (hg : a.grownBy b row) (hr : ∀ r, row = some r → B ≤ r) (hB : B ≤ a.heap.size) : Below B w b :=
  h.trans ⟨hg.os, hg.tape, hg.output, hg.size, fun k hk => hg.block k (by omega) (fun e => by have := hr k e.symm; omega)⟩
theorem less_pos {below : Int} {L : List T} {zs : List Int} (h : ptn below [] L = some zs) {K : Nat} {x : T} (hx : L[K]? = some x) : 0 < below := by
  obtain ⟨h1, _⟩ := (ptn_top below L zs).1 h
  have := h1 x (List.mem_of_getElem? hx)
  obtain ⟨k, hh, xs⟩ := x
  simp only [pvB, Bool.and_eq_true, beq_iff_eq, decide_eq_true_eq] at this
  omega
/-- what the region with both appends reads -/
def SLe (b o K : Nat) (k2 h2 : Int) (A2 : Option Addr) (n2 c2 : Nat) (w' : World) : Prop :=
  w'.cell? ⟨b, o + K * 3, none⟩ = some (.int .i64 k2) ∧ w'.cell? ⟨b, o + K * 3 + 1, none⟩ = some (.int .i64 h2) ∧ w'.cell? ⟨b, o + K * 3 + 2, none⟩ = some (.slice A2 n2 c2)

set_option maxRecDepth 100000 in
set_option maxHeartbeats 8000000 in
theorem occurLessC (L : List T) (AL : Option Addr) (nL cL : Nat) (bl k m : Int) (w : World) (hnL : L.length = nL) (hcL : nL ≤ cL) (hmL : cL ≤ maxLen) (hxL : ∀ i t, L[i]? = some t → RdAt w AL i t) (hs : nL ≤ 3518437208780) :
    Calls Try.prog 9 #[.slice AL nL cL, .int .i64 bl, .int .i64 k, .int .i64 m] w fun e w' => e = .returned (.bool true) ∧ Below w.heap.size w w' := by
  have hmmL := hmL
  have HXL := Lib.hid hxL; clear hxL
  have HNL := Lib.hid hnL; clear hnL
  unfold maxLen at hmL
  go_enter Try.func9, Try.ntmps9
  go_wp2_with fail
  refine (awakeO _).mono ?_
  rintro e w1 ⟨rfl, hb⟩
  have HP1 := Lib.hid (oPatternC L AL nL cL bl w1 HNL.out hcL hmmL hs (fun i u hu => RdAt.keep hb (HXL.out i u hu)))
  by_cases h60 : 60 < nL
  · have d1 : decide ((60 : Int) < (nL : Int)) = true := by simp; omega
    go_wp2_with fail
    refine HP1.out.mono ?_
    intro e w2 hp
    obtain ⟨v1, rfl, hb2⟩ := hp.tuple
    go_wp2_with fail
    go_ret
    exact ⟨rfl, hb.trans (hb2.mono hb.size)⟩
  have d1 : decide ((60 : Int) < (nL : Int)) = false := by simp; omega
  go_wp2_with fail
  refine HP1.out.mono ?_
  rintro e w2 (⟨zs, v1, hO, rfl, hn1, hb2⟩ | ⟨hO, rfl, hb2⟩)
  rotate_left
  · go_wp2_with fail
    go_ret
    exact ⟨rfl, hb.trans (hb2.mono hb.size)⟩
  replace hb := hb.trans (hb2.mono hb.size)
  clear hb2 HP1
  have HO := Lib.hid hO; clear hO
  by_cases x1 : k < 0
  · have dx1 : decide (k < 0) = true := by simpa using x1
    go_wp2_with fail
    go_ret
    exact ⟨rfl, hb⟩
  have dx1 : decide (k < 0) = false := by simpa using x1
  by_cases x2 : (nL : Int) ≤ k
  · have dx2 : decide ((nL : Int) ≤ k) = true := by simpa using x2
    go_wp2_with fail
    go_ret
    exact ⟨rfl, hb⟩
  have dx2 : decide ((nL : Int) ≤ k) = false := by simpa using x2
  by_cases x3 : m < 0
  · have dx3 : decide (m < 0) = true := by simpa using x3
    go_wp2_with fail
    go_ret
    exact ⟨rfl, hb⟩
  have dx3 : decide (m < 0) = false := by simpa using x3
  by_cases x4 : 1000 < m
  · have dx4 : decide (1000 < m) = true := by simpa using x4
    go_wp2_with fail
    go_ret
    exact ⟨rfl, hb⟩
  have dx4 : decide (1000 < m) = false := by simpa using x4
  by_cases x5 : 1099511627776 < bl
  · have dx5 : decide (1099511627776 < bl) = true := by simpa using x5
    go_wp2_with fail
    go_ret
    exact ⟨rfl, hb⟩
  have dx5 : decide (1099511627776 < bl) = false := by simpa using x5
  obtain ⟨K, rfl⟩ : ∃ K : Nat, k = (K : Int) := ⟨k.toNat, by omega⟩
  have hlt : K < nL := by omega
  obtain ⟨x, ht⟩ := at_of HNL.out hlt
  obtain ⟨b, o, k2, h2, A2, n2, c2', rfl, c00, c10, c20, hr⟩ := (HXL.out K x ht).full
  have HC0 := Lib.hid c00; clear c00
  have HC1 := Lib.hid c10; clear c10
  have HC2 := Lib.hid c20; clear c20
  have HR := Lib.hid hr; clear hr
  have HT := Lib.hid ht; clear ht
  have hi0 : (0 : Int) ≤ K := by omega
  have hi1 : (K : Int) < nL := by omega
  obtain ⟨ys, hys, hyl⟩ := less_take HO.out K (by have := HNL.out; omega)
  have HP2 := Lib.hid ((oPatternC (L.take K) (some ⟨b, o, none⟩) K cL bl w2 (by rw [List.length_take]; have := HNL.out; omega) (by omega) hmmL (by omega) (fun i u hu => RdAt.keep hb (HXL.out i u (by
    have h1 := (List.getElem?_eq_some_iff.1 hu).1
    rw [List.length_take] at h1
    rwa [List.getElem?_take_of_lt (by omega)] at hu)))))
  rw [hys] at HP2
  have HP2 := Lib.hid (HP2.out.mono fun e w' hp => hp.some)
  have HYL := Lib.hid hyl; clear hyl hys
  have hkc : (K : Int) ≤ cL := by omega
  clear dx1 dx2 dx3 dx4 dx5
  go_wp2_with (go_at_call 19; refine HP2.out.mono ?_; rintro e w3 ⟨v5, rfl, hn5, hb3⟩; obtain ⟨A5, c5, rfl⟩ := hn5.len HYL.out; replace hn1 := hn1.keep hb3; replace hb := hb.trans (hb3.mono hb.size))
  have HP3 : Hid (∀ w', Below w.heap.size w w' → Calls Try.prog 19 #[.slice (some ⟨b, o, none⟩) nL cL, .int .i64 (bl + m)] w' (fun e w'' => ∃ v, e = .returned (.tuple #[v, .bool true]) ∧ Ns w'' v zs ∧ Below w'.heap.size w' w'')) := Lib.hid fun w' h => by
    have h1 := oPatternC L (some ⟨b, o, none⟩) nL cL (bl + m) w' HNL.out hcL hmmL hs (fun i u hu => RdAt.keep h (HXL.out i u hu))
    rw [less_more (by omega) HO.out] at h1
    exact h1.mono fun e w'' hp => hp.some
  have hps := less_pos HO.out HT.out
  have hwm : IntKind.i64.wrap (bl + m) = bl + m := by rw [wrapEq]; exact wrap_small (by omega) (by omega)
  have HZ : Hid (∀ w', Below w.heap.size w w' → Calls Try.prog 27 #[.agg #[.int .i64 k2, .int .i64 h2, .slice A2 n2 c2']] w' (fun e w'' => e = .returned (.int .i64 1) ∧ Below w'.heap.size w' w'')) := Lib.hid fun w' h => by
    have h1 := sizeC x _ w' (Rd.keep h _ _ HR.out)
    rwa [show szW x = 1 by rw [szW_eq, less_one HO.out HT.out]; exact wrap_small (by omega) (by omega)] at h1
  have hlb : b < w.heap.size := cell_lt HC0.out
  have HKS : Hid (∀ w' : World, Below w3.heap.size w3 w' → SLe b o K k2 h2 A2 n2 c2' w') := Lib.hid fun w' h => ⟨((hb.trans (h.mono hb.size)).cell (cell_lt HC0.out)).trans HC0.out, ((hb.trans (h.mono hb.size)).cell (cell_lt HC1.out)).trans HC1.out, ((hb.trans (h.mono hb.size)).cell (cell_lt HC2.out)).trans HC2.out⟩
  have hbd : Below w3.heap.size w3 w3.drew := (Below.refl _ w3).drew
  have HNEWS : Hid (∀ w' : World, Below w3.heap.size w3 w' → ∀ j u, (rawCs w b o (nL * 3))[j]? = some u → w'.cell? ((⟨b, o, none⟩ : Addr).add j) = some u) := Lib.hid fun w' h j u hu => by
    have h1 := raw_get HXL.out HNL.out hu
    rw [addr_add]
    exact ((hb.trans (h.mono hb.size)).cell (cell_lt h1)).trans h1
  have HONE := Lib.hid (raw_one HXL.out HNL.out)
  have HBS := Lib.hid hb.size
  refine wp_region_held_drew (S := SLe b o K k2 h2 A2 n2 c2') (by kernel_rfl) (HKS.out _ hbd) (fun hS => ?_)
  simp only [List.size_toArray, List.length_cons, List.length_nil, Nat.reduceAdd]
  refine wpAnyH_take (i := 0) (v := .slice (some ⟨b, o, none⟩) nL cL) rfl (by kernel_rfl) (by kernel_rfl) (by kernel_rfl) (fun _ _ _ h => h) (Or.inl ⟨by rfl, ?_⟩) hS ?_
  · intro w' hSw
    obtain ⟨s0, s1, s2⟩ := hSw
    go_simp
  simp only [Act.put, List.setIfInBounds_toArray]
  refine wpAnyH_take (i := 2) (v := .slice (some ⟨b, o, none⟩) nL cL) rfl (by kernel_rfl) (by kernel_rfl) (by kernel_rfl) (fun _ _ _ h => h) (Or.inl ⟨by rfl, ?_⟩) hS ?_
  · intro w' hSw
    obtain ⟨s0, s1, s2⟩ := hSw
    go_simp
  simp only [Act.put]
  refine wpAnyH_take (i := 3) (v := .int .i64 K) rfl (by kernel_rfl) (by kernel_rfl) (by kernel_rfl) (fun _ _ _ h => h) (Or.inl ⟨by rfl, ?_⟩) hS ?_
  · intro w' hSw
    obtain ⟨s0, s1, s2⟩ := hSw
    go_simp
  simp only [Act.put]
  refine wpAnyH_take (i := 4) (v := .pointer (some ⟨b, o + K * 3, none⟩)) rfl (by kernel_rfl) (by kernel_rfl) (by kernel_rfl) (fun _ _ _ h => h) (Or.inl ⟨by rfl, ?_⟩) hS ?_
  · intro w' hSw
    obtain ⟨s0, s1, s2⟩ := hSw
    go_simp
  simp only [Act.put]
  refine wpAnyH_take (i := 5) (v := .agg #[.int .i64 k2, .int .i64 h2, .slice A2 n2 c2']) rfl (by kernel_rfl) (by kernel_rfl) (by kernel_rfl) (fun _ _ _ h => h) (Or.inl ⟨by rfl, ?_⟩) hS ?_
  · intro w' hSw
    obtain ⟨s0, s1, s2⟩ := hSw
    go_simp
  simp only [Act.put]
  refine wpAnyH_take (i := 8) (v := .int .i64 bl) rfl (by kernel_rfl) (by kernel_rfl) (by kernel_rfl) (fun _ _ _ h => h) (Or.inl ⟨by rfl, ?_⟩) hS ?_
  · intro w' hSw
    obtain ⟨s0, s1, s2⟩ := hSw
    go_simp
  simp only [Act.put]
  refine wpAnyH_ready (rs := [1, 6]) (by kernel_rfl) (by simp) ?_
  refine AllReadyH.cons rfl (fun KN hK => ?_) (AllReadyH.cons rfl (fun KN hK => ?_) AllReadyH.nil)
  · obtain ⟨i0, hi, hz0, hz1, hz2⟩ := info_parts infoTerm
    refine step_append_lies (w3.drew) rfl (.const (.slice none 0 0)) (.tmp 69) 22 rfl w3.heap.size 24 i0 _ 3 40 Try.underlying22 hi hz0 hz1 hz2 rfl (by omega) (.slice none 0 0) 0 [] rfl (World.ownsRow_nil _ _ _ _) ⟨b, o, none⟩ nL cL (rawCs w b o (nL * 3)) rfl (rawCs_len _ _ _ _) (HNEWS.out _ hbd) HONE.out (by omega) (by unfold maxLen; omega) (by omega) (hbd).size _ rfl ?_
    intro g cap w4 hrow4 hgr hg4 hlt4
    simp only [Nat.zero_add, List.nil_append] at hrow4
    rw [Nat.zero_add]
    clear hi hz0 hz1 hz2 i0
    have hb4 : Below w3.heap.size w3 w4 := less_grown hbd hgr (fun r hr => by cases hr) (Nat.le_refl _)
    refine hK.out _ _ (HKS.out w4 hb4) (fun hS => ?_)
    clear hK KN
    try simp only [Act.put]
    refine wpAnyH_ready (rs := [6]) (by kernel_rfl) (by simp) ?_
    refine AllReadyH.cons rfl (fun KN hK => ?_) AllReadyH.nil
    have hb5 : Below w3.heap.size w3 (w4.alloc (.cells #[.int .i64 k2, .int .i64 h2, .slice A2 n2 c2'] 24)) := hb4.alloc hb4.size _
    go_simp
    refine hK.out _ _ (HKS.out _ hb5) (fun hS => ?_)
    clear hK KN
    try simp only [Act.put, List.setIfInBounds_toArray, List.set_cons_zero, List.set_cons_succ]
    have hrow5 : (w4.alloc (.cells #[.int .i64 k2, .int .i64 h2, .slice A2 n2 c2'] 24)).ownsRow w3.heap.size 24 3 (.slice (some ⟨g, 0, none⟩) nL cap) nL (rawCs w b o (nL * 3)) := row_still hrow4 ((Below.refl _ w4).alloc (Nat.le_refl _) _)
    have hbl5 := heap_alloc_new w4 (.cells #[.int .i64 k2, .int .i64 h2, .slice A2 n2 c2'] 24)
    generalize w4.alloc (.cells #[.int .i64 k2, .int .i64 h2, .slice A2 n2 c2'] 24) = W5 at *
    generalize w4.heap.size = P5 at *
    refine wpAnyH_ready (rs := [7]) (by kernel_rfl) (by simp) ?_
    refine AllReadyH.cons rfl (fun KN hK => ?_) AllReadyH.nil

    obtain ⟨i0, hi, hz0, hz1, hz2⟩ := info_parts infoTerm
    refine step_append_lies W5 rfl (.tmp 70) (.tmp 75) 22 rfl w3.heap.size 24 i0 _ 3 40 Try.underlying22 hi hz0 hz1 hz2 rfl (by omega) (.slice (some ⟨g, 0, none⟩) nL cap) nL (rawCs w b o (nL * 3)) rfl hrow5 ⟨P5, 0, none⟩ 1 1 [.int .i64 k2, .int .i64 h2, .slice A2 n2 c2'] rfl rfl (World.news_of_block hbl5) (by intro u hu; simp at hu; rcases hu with rfl | rfl | rfl <;> rfl) (by omega) (by unfold maxLen; omega) (by omega) hb5.size _ rfl ?_
    intro g6 cap6 w6 hrow6 hgr6 hg6 hlt6
    clear hi hz0 hz1 hz2 i0
    have hb6 : Below w3.heap.size w3 w6 := less_grown hb5 hgr6 (fun r hr => (hrow5.lt r hr).1) hb5.size
    refine hK.out _ _ (HKS.out w6 hb6) (fun hS => ?_)
    clear hK KN
    try simp only [Act.put, List.setIfInBounds_toArray]
    refine wpAnyH_ready (rs := [9]) (by kernel_rfl) (by simp) ?_
    refine AllReadyH.cons rfl (fun KN hK => ?_) AllReadyH.nil
    go_simp
    obtain ⟨q1, q2, q3, q4⟩ := rdAt_row HXL.out HNL.out (hb.trans (hb6.mono hb.size)) HT.out HC0.out HC1.out HC2.out hrow6
    refine (oPatternC (L ++ [x]) (some ⟨g6, 0, none⟩) (nL + 1) cap6 bl w6 q1 q2 q3 (by omega) q4).mono ?_
    rw [less_twice HT.out]
    rintro e w7 (⟨_, _, h0, _⟩ | ⟨_, rfl, hb7⟩)
    · cases h0
    have hb8 : Below w3.heap.size w3 w7 := hb6.trans (hb7.mono hb6.size)
    clear q1 q2 q3 q4 hrow6 hgr6 hg6 hlt6 hrow5
    refine hK.out _ _ (HKS.out w7 hb8) (fun hS => ?_)
    clear hK KN
    try simp only [Act.put, List.setIfInBounds_toArray, List.set_cons_zero, List.set_cons_succ]
    refine wpAnyH_take (i := 10) (v := .tuple #[.slice none 0 0, .bool false]) rfl (by kernel_rfl) (by kernel_rfl) (by kernel_rfl) (fun _ _ _ h => h) (Or.inl ⟨by rfl, ?_⟩) hS ?_
    · intro w' hSw
      obtain ⟨s0, s1, s2⟩ := hSw
      go_simp
    simp only [Act.put]
    refine wpAnyH_take (i := 11) (v := .slice none 0 0) rfl (by kernel_rfl) (by kernel_rfl) (by kernel_rfl) (fun _ _ _ h => h) (Or.inl ⟨by rfl, ?_⟩) hS ?_
    · intro w' hSw
      obtain ⟨s0, s1, s2⟩ := hSw
      go_simp
    simp only [Act.put]
    refine wpAnyH_take (i := 12) (v := .bool false) rfl (by kernel_rfl) (by kernel_rfl) (by kernel_rfl) (fun _ _ _ h => h) (Or.inl ⟨by rfl, ?_⟩) hS ?_
    · intro w' hSw
      obtain ⟨s0, s1, s2⟩ := hSw
      go_simp
    simp only [Act.put]
    refine wpAnyH_take (i := 13) (v := .slice none 0 0) rfl (by kernel_rfl) (by kernel_rfl) (by kernel_rfl) (fun _ _ _ h => h) (Or.inl ⟨by rfl, ?_⟩) hS ?_
    · intro w' hSw
      obtain ⟨s0, s1, s2⟩ := hSw
      go_simp
    simp only [Act.put]
    refine wpAnyH_take (i := 14) (v := .bool false) rfl (by kernel_rfl) (by kernel_rfl) (by kernel_rfl) (fun _ _ _ h => h) (Or.inl ⟨by rfl, ?_⟩) hS ?_
    · intro w' hSw
      obtain ⟨s0, s1, s2⟩ := hSw
      go_simp
    simp only [Act.put]
    refine wpAnyH_done (by kernel_rfl) ?_ _
    replace hn1 := hn1.keep hb8
    replace hb := hb.trans (hb8.mono hb.size)
    clear hb6 hb7 hb8 hb5 hbd HKS HNEWS HONE HBS hS
    clear hrow4 hgr hg4 hlt4 hbl5
    simp only [List.setIfInBounds_toArray]
    replace HC0 := Lib.hid ((hb.cell (cell_lt HC0.out)).trans HC0.out)
    replace HC1 := Lib.hid ((hb.cell (cell_lt HC1.out)).trans HC1.out)
    replace HC2 := Lib.hid ((hb.cell (cell_lt HC2.out)).trans HC2.out)
    go_wp2_with (first
      | (go_at_call 19; refine (HP3.out w7 hb).mono ?_; rintro e w8 ⟨v7, rfl, hn7, hb7⟩; replace hn1 := hn1.keep hb7; replace hb := hb.trans (hb7.mono hb.size); have c0 := (hb7.cell (cell_lt HC0.out)).trans HC0.out; have c1 := (hb7.cell (cell_lt HC1.out)).trans HC1.out; have c2 := (hb7.cell (cell_lt HC2.out)).trans HC2.out; clear HC0 HC1 HC2 hb7)
      | (go_at_call 12; refine (intsC zs zs _ _ _ hn1 hn7).mono ?_; rintro e w9 ⟨rfl, hb9⟩; replace hb := hb.trans (hb9.mono hb.size); replace c0 := (hb9.cell (cell_lt c0)).trans c0; replace c1 := (hb9.cell (cell_lt c1)).trans c1; replace c2 := (hb9.cell (cell_lt c2)).trans c2; clear hb9)
      | (go_at_call 27; refine (HZ.out _ hb).mono ?_; rintro e w10 ⟨rfl, hb10⟩; replace hb := hb.trans (hb10.mono hb.size); clear hb10))
    go_ret
    exact ⟨by simp, hb⟩
  · have hba : Below w3.heap.size w3 (w3.drew.alloc (.cells #[.int .i64 k2, .int .i64 h2, .slice A2 n2 c2'] 24)) := hbd.alloc (Nat.le_refl _) _
    go_simp
    refine hK.out _ _ (HKS.out _ hba) (fun hS => ?_)
    clear hK KN
    try simp only [Act.put, List.setIfInBounds_toArray, List.set_cons_zero, List.set_cons_succ]
    refine wpAnyH_ready (rs := [1]) (by kernel_rfl) (by simp) ?_
    refine AllReadyH.cons rfl (fun KN hK => ?_) AllReadyH.nil
    obtain ⟨i0, hi, hz0, hz1, hz2⟩ := info_parts infoTerm
    refine step_append_lies (w3.drew.alloc (.cells #[.int .i64 k2, .int .i64 h2, .slice A2 n2 c2'] 24)) rfl (.const (.slice none 0 0)) (.tmp 69) 22 rfl w3.heap.size 24 i0 _ 3 40 Try.underlying22 hi hz0 hz1 hz2 rfl (by omega) (.slice none 0 0) 0 [] rfl (World.ownsRow_nil _ _ _ _) ⟨b, o, none⟩ nL cL (rawCs w b o (nL * 3)) rfl (rawCs_len _ _ _ _) (HNEWS.out _ hba) HONE.out (by omega) (by unfold maxLen; omega) (by omega) (hba).size _ rfl ?_
    intro g cap w4 hrow4 hgr hg4 hlt4
    simp only [Nat.zero_add, List.nil_append] at hrow4
    rw [Nat.zero_add]
    clear hi hz0 hz1 hz2 i0
    have hb5 : Below w3.heap.size w3 w4 := less_grown hba hgr (fun r hr => by cases hr) hba.size
    have hrow5 := hrow4
    have hbl5 : w4.heap[w3.heap.size]? = _ := (hgr.block _ (by simp) (fun e => by cases e)).trans (heap_alloc_new w3.drew (.cells #[.int .i64 k2, .int .i64 h2, .slice A2 n2 c2'] 24))
    refine hK.out _ _ (HKS.out w4 hb5) (fun hS => ?_)
    clear hK KN
    try simp only [Act.put, List.setIfInBounds_toArray]
    generalize w4 = W5 at *
    refine wpAnyH_ready (rs := [7]) (by kernel_rfl) (by simp) ?_
    refine AllReadyH.cons rfl (fun KN hK => ?_) AllReadyH.nil

    obtain ⟨i0, hi, hz0, hz1, hz2⟩ := info_parts infoTerm
    refine step_append_lies W5 rfl (.tmp 70) (.tmp 75) 22 rfl w3.heap.size 24 i0 _ 3 40 Try.underlying22 hi hz0 hz1 hz2 rfl (by omega) (.slice (some ⟨g, 0, none⟩) nL cap) nL (rawCs w b o (nL * 3)) rfl hrow5 ⟨w3.heap.size, 0, none⟩ 1 1 [.int .i64 k2, .int .i64 h2, .slice A2 n2 c2'] rfl rfl (World.news_of_block hbl5) (by intro u hu; simp at hu; rcases hu with rfl | rfl | rfl <;> rfl) (by omega) (by unfold maxLen; omega) (by omega) hb5.size _ rfl ?_
    intro g6 cap6 w6 hrow6 hgr6 hg6 hlt6
    clear hi hz0 hz1 hz2 i0
    have hb6 : Below w3.heap.size w3 w6 := less_grown hb5 hgr6 (fun r hr => (hrow5.lt r hr).1) hb5.size
    refine hK.out _ _ (HKS.out w6 hb6) (fun hS => ?_)
    clear hK KN
    try simp only [Act.put]
    refine wpAnyH_ready (rs := [9]) (by kernel_rfl) (by simp) ?_
    refine AllReadyH.cons rfl (fun KN hK => ?_) AllReadyH.nil
    go_simp
    obtain ⟨q1, q2, q3, q4⟩ := rdAt_row HXL.out HNL.out (hb.trans (hb6.mono hb.size)) HT.out HC0.out HC1.out HC2.out hrow6
    refine (oPatternC (L ++ [x]) (some ⟨g6, 0, none⟩) (nL + 1) cap6 bl w6 q1 q2 q3 (by omega) q4).mono ?_
    rw [less_twice HT.out]
    rintro e w7 (⟨_, _, h0, _⟩ | ⟨_, rfl, hb7⟩)
    · cases h0
    have hb8 : Below w3.heap.size w3 w7 := hb6.trans (hb7.mono hb6.size)
    clear q1 q2 q3 q4 hrow6 hgr6 hg6 hlt6 hrow5
    refine hK.out _ _ (HKS.out w7 hb8) (fun hS => ?_)
    clear hK KN
    try simp only [Act.put, List.setIfInBounds_toArray, List.set_cons_zero, List.set_cons_succ]
    refine wpAnyH_take (i := 10) (v := .tuple #[.slice none 0 0, .bool false]) rfl (by kernel_rfl) (by kernel_rfl) (by kernel_rfl) (fun _ _ _ h => h) (Or.inl ⟨by rfl, ?_⟩) hS ?_
    · intro w' hSw
      obtain ⟨s0, s1, s2⟩ := hSw
      go_simp
    simp only [Act.put]
    refine wpAnyH_take (i := 11) (v := .slice none 0 0) rfl (by kernel_rfl) (by kernel_rfl) (by kernel_rfl) (fun _ _ _ h => h) (Or.inl ⟨by rfl, ?_⟩) hS ?_
    · intro w' hSw
      obtain ⟨s0, s1, s2⟩ := hSw
      go_simp
    simp only [Act.put]
    refine wpAnyH_take (i := 12) (v := .bool false) rfl (by kernel_rfl) (by kernel_rfl) (by kernel_rfl) (fun _ _ _ h => h) (Or.inl ⟨by rfl, ?_⟩) hS ?_
    · intro w' hSw
      obtain ⟨s0, s1, s2⟩ := hSw
      go_simp
    simp only [Act.put]
    refine wpAnyH_take (i := 13) (v := .slice none 0 0) rfl (by kernel_rfl) (by kernel_rfl) (by kernel_rfl) (fun _ _ _ h => h) (Or.inl ⟨by rfl, ?_⟩) hS ?_
    · intro w' hSw
      obtain ⟨s0, s1, s2⟩ := hSw
      go_simp
    simp only [Act.put]
    refine wpAnyH_take (i := 14) (v := .bool false) rfl (by kernel_rfl) (by kernel_rfl) (by kernel_rfl) (fun _ _ _ h => h) (Or.inl ⟨by rfl, ?_⟩) hS ?_
    · intro w' hSw
      obtain ⟨s0, s1, s2⟩ := hSw
      go_simp
    simp only [Act.put]
    refine wpAnyH_done (by kernel_rfl) ?_ _
    replace hn1 := hn1.keep hb8
    replace hb := hb.trans (hb8.mono hb.size)
    clear hb6 hb7 hb8 hb5 hbd HKS HNEWS HONE HBS hS
    clear hrow4 hgr hg4 hlt4 hbl5
    simp only [List.setIfInBounds_toArray]
    replace HC0 := Lib.hid ((hb.cell (cell_lt HC0.out)).trans HC0.out)
    replace HC1 := Lib.hid ((hb.cell (cell_lt HC1.out)).trans HC1.out)
    replace HC2 := Lib.hid ((hb.cell (cell_lt HC2.out)).trans HC2.out)
    go_wp2_with (first
      | (go_at_call 19; refine (HP3.out w7 hb).mono ?_; rintro e w8 ⟨v7, rfl, hn7, hb7⟩; replace hn1 := hn1.keep hb7; replace hb := hb.trans (hb7.mono hb.size); have c0 := (hb7.cell (cell_lt HC0.out)).trans HC0.out; have c1 := (hb7.cell (cell_lt HC1.out)).trans HC1.out; have c2 := (hb7.cell (cell_lt HC2.out)).trans HC2.out; clear HC0 HC1 HC2 hb7)
      | (go_at_call 12; refine (intsC zs zs _ _ _ hn1 hn7).mono ?_; rintro e w9 ⟨rfl, hb9⟩; replace hb := hb.trans (hb9.mono hb.size); replace c0 := (hb9.cell (cell_lt c0)).trans c0; replace c1 := (hb9.cell (cell_lt c1)).trans c1; replace c2 := (hb9.cell (cell_lt c2)).trans c2; clear hb9)
      | (go_at_call 27; refine (HZ.out _ hb).mono ?_; rintro e w10 ⟨rfl, hb10⟩; replace hb := hb.trans (hb10.mono hb.size); clear hb10))
    go_ret
    exact ⟨by simp, hb⟩
end Go.Proofs.Ytehdbjfalpjpeaa
