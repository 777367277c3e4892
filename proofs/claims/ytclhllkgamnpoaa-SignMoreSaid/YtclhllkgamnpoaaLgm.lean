/-
  The walk of the law SignMore.
-/
import Derived.Test.YtclhllkgamnpoaaLgo
import Derived.Test.YtclhllkgamnpoaaQi
import Derived.Lib.AppendZeros
namespace Go.Proofs.Ytclhllkgamnpoaa
open Go.ChangeShapes Go.WideShapes Go.ChangeAt Go.RowKit
set_option linter.unusedVariables false

theorem cnL_app (f : Int) : ∀ (ds : List T) (x : T) (i : Nat), cnL f (ds ++ [x]) i = cnL f ds i ++ (if 0 ≤ f ∧ faI x = f then [((i + ds.length : Nat) : Int)] else [])
  | [], x, i => by simp [cnL]
  | t :: ts, x, i => by
    rw [List.cons_append, cnL, cnL_app f ts x (i + 1), cnL, List.append_assoc, List.length_cons, show i + 1 + ts.length = i + (ts.length + 1) by omega]
/-- the cells of the one that is appended -/
def SMo (B : Nat) (s : ByteArray) (k g : Int) (A : Option Addr) (n c : Nat) (w' : World) : Prop :=
  w'.cell? ⟨B, 0, none⟩ = some (.string s) ∧ w'.cell? ⟨B, 1, none⟩ = some (.int .i64 k) ∧ w'.cell? ⟨B, 2, none⟩ = some (.int .i64 g) ∧ w'.cell? ⟨B, 3, none⟩ = some (.slice A n c)

set_option maxRecDepth 100000 in
set_option maxHeartbeats 8000000 in
theorem signMoreC (ds : List T) (A : Option Addr) (n c : Nat) (x : T) (s : ByteArray) (k g : Int) (A1 : Option Addr) (n1 c1 : Nat) (f : Int) (w : World) (hx : DL w ds A n c) (hr : Rd w x (.agg #[.int .i64 k, .int .i64 g, .slice A1 n1 c1])) :
    Calls Try.prog 7 #[.slice A n c, .agg #[.string s, .int .i64 k, .int .i64 g, .slice A1 n1 c1], .int .i64 f] w fun e w' => e = .returned (.bool true) ∧ Below w.heap.size w w' := by
  have hcm := hx.cap
  have hle := hx.le
  unfold maxLen at hcm
  obtain ⟨W, hW⟩ : ∃ W, w.alloc (.cells #[.string s, .int .i64 k, .int .i64 g, .slice A1 n1 c1] 39) = W := ⟨_, rfl⟩
  have hb : Below w.heap.size w W := by rw [← hW]; exact (Below.refl _ _).alloc (Nat.le_refl _) _
  have x0 : Box W w.heap.size 39 #[.string s, .int .i64 k, .int .i64 g, .slice A1 n1 c1] := by rw [← hW]; exact Box.new _ _ _
  have HX := Lib.hid hx; clear hx
  have HR := Lib.hid hr; clear hr
  have HB := Lib.hid hb; clear hb
  have HX0 := Lib.hid x0; clear x0
  have HW := Lib.hid hW; clear hW
  go_enter Try.func7, Try.ntmps7
  go_wp2_with fail
  rw [HW.out]
  clear HW
  refine (awakeQ _).mono ?_
  rintro e w1 ⟨rfl, hb1⟩
  obtain ⟨R, hR⟩ : ∃ R, fwQ ds n = R := ⟨_, rfl⟩
  have HB1 := Lib.hid (HB.out.trans (hb1.mono HB.out.size))
  have HX1 := Lib.hid (HX0.out.keep hb1 HX0.out.lt)
  have HFW := Lib.hid (fewC ds A n c w1 (HX.out.keep HB1.out))
  rw [hR] at HFW
  clear hb1 HB HX0
  go_wp2_with fail
  refine HFW.out.mono ?_
  clear HFW
  rintro e w2 ⟨rfl, hb2⟩
  have HB2 := Lib.hid (HB1.out.trans (hb2.mono HB1.out.size))
  have HX2 := Lib.hid (HX1.out.keep hb2 HX1.out.lt)
  have HLI := Lib.hid (refLight x 1000 80 _ w2 (Rd.keep HB2.out _ _ HR.out))
  obtain ⟨R2, hR2⟩ : ∃ R2, ltB x 1000 80 = R2 := ⟨_, rfl⟩
  rw [hR2] at HLI
  have p1 : w2.cell? ⟨w.heap.size, 1, none⟩ = some (.int .i64 k) := HX2.out.cell 1
  have p2 : w2.cell? ⟨w.heap.size, 2, none⟩ = some (.int .i64 g) := HX2.out.cell 2
  have p3 : w2.cell? ⟨w.heap.size, 3, none⟩ = some (.slice A1 n1 c1) := HX2.out.cell 3
  clear hb2 HB1 HX1 hR2
  go_wp2_with fail
  refine HLI.out.mono ?_
  clear HLI
  rintro e w3 ⟨rfl, hb3⟩
  have HB3 := Lib.hid (HB2.out.trans (hb3.mono HB2.out.size))
  have HX3 := Lib.hid (HX2.out.keep hb3 HX2.out.lt)
  clear hb3 HB2 HX2 p1 p2 p3
  cases R
  · go_wp2_with fail
    go_ret
    exact ⟨rfl, HB3.out⟩
  cases R2
  · go_wp2_with fail
    go_ret
    exact ⟨rfl, HB3.out⟩
  have hn30 : n ≤ 30 := by
    rw [fwQ, Bool.and_eq_true, decide_eq_true_eq] at hR
    exact hR.1
  clear hR
  have HCO := Lib.hid (constsC ds f A n c w3 (HX.out.keep HB3.out) (by omega))
  go_wp2_with fail
  refine HCO.out.mono ?_
  clear HCO
  rintro e w4 ⟨Ac, m, cc, rfl, hml, hmc, hcc, hnu, hb4⟩
  have HB4 := Lib.hid (HB3.out.trans (hb4.mono HB3.out.size))
  have HX4 := Lib.hid (HX3.out.keep hb4 HX3.out.lt)
  have HNU := Lib.hid hnu
  have HML := Lib.hid hml
  have hm30 : m ≤ n := by have := cnL_len f ds 0; have := HX.out.len; omega
  unfold maxLen at hcc
  clear hb4 HB3 HX3 hnu hml
  go_wp2_with fail
  have hbd : Below w4.heap.size w4 w4.drew := (Below.refl _ w4).drew
  have HKS : Hid (∀ w' : World, Below w4.heap.size w4 w' → SMo w.heap.size s k g A1 n1 c1 w') := Lib.hid fun w' h =>
    have y := HX4.out.keep h HX4.out.lt
    ⟨y.cell 0, y.cell 1, y.cell 2, y.cell 3⟩
  have HDL : Hid (DL w4 ds A n c) := Lib.hid (HX.out.keep HB4.out)
  have HRX : Hid (RdF (fun b => b < w4.heap.size) w4 x (.agg #[.int .i64 k, .int .i64 g, .slice A1 n1 c1])) := Lib.hid (rdF_anyQ _ _ (Rd.keep HB4.out _ _ HR.out))
  have HCC : Hid (∀ (q cap : Nat) (w' : World), DL w' (ds ++ [x]) (some ⟨q, 0, none⟩) (n + 1) cap → Calls Try.prog 16 #[.slice (some ⟨q, 0, none⟩) (n + 1) cap, .int .i64 f] w' fun e w'' => ∃ Ac m cc, e = .returned (.slice Ac m cc) ∧ (cnL f (ds ++ [x]) 0).length = m ∧ m ≤ cc ∧ cc ≤ maxLen ∧ NuQ w'' (cnL f (ds ++ [x]) 0) Ac ∧ Below w'.heap.size w' w'') := Lib.hid fun q cap w' h => constsC (ds ++ [x]) f _ _ _ w' h (by omega)
  refine wp_region_held_drew (S := SMo w.heap.size s k g A1 n1 c1) (by kernel_rfl) (HKS.out _ hbd) (fun hS => ?_)
  simp only [List.size_toArray, List.length_cons, List.length_nil, Nat.reduceAdd]
  refine wpAnyH_take (i := 0) (v := .slice A n c) rfl (by kernel_rfl) (by kernel_rfl) (by kernel_rfl) (fun _ _ _ h => h) (Or.inl ⟨by rfl, ?_⟩) hS ?_
  · intro w' hSw
    obtain ⟨s0, s1, s2, s3⟩ := hSw
    go_simp
  try simp only [Act.put, List.setIfInBounds_toArray]
  refine wpAnyH_take (i := 2) (v := .agg #[.string s, .int .i64 k, .int .i64 g, .slice A1 n1 c1]) rfl (by kernel_rfl) (by kernel_rfl) (by kernel_rfl) (fun _ _ _ h => h) (Or.inl ⟨by rfl, ?_⟩) hS ?_
  · intro w' hSw
    obtain ⟨s0, s1, s2, s3⟩ := hSw
    go_simp
  try simp only [Act.put]
  refine wpAnyH_take (i := 5) (v := .int .i64 f) rfl (by kernel_rfl) (by kernel_rfl) (by kernel_rfl) (fun _ _ _ h => h) (Or.inl ⟨by rfl, ?_⟩) hS ?_
  · intro w' hSw
    obtain ⟨s0, s1, s2, s3⟩ := hSw
    go_simp
  try simp only [Act.put]
  refine wpAnyH_ready (rs := [1, 3]) (by kernel_rfl) (by simp) ?_
  refine AllReadyH.cons rfl (fun KN hK => ?_) (AllReadyH.cons rfl (fun KN hK => ?_) AllReadyH.nil)
  · obtain ⟨A5, c5, w5, cs5, hrun5, hrow5, hg5⟩ := declApp1 HDL.out (by omega) hbd
    have hb5 : Below w4.heap.size w4 w5 := below_grownQ hbd hg5 (fun r hr => by cases hr) (Nat.le_refl _)
    refine Lib.wp_append_run _ (.const (.slice none 0 0)) (.tmp 34) 25 25 rfl _ _ rfl rfl _ _ hrun5 ?_
    refine hK.out _ _ (HKS.out w5 hb5) (fun hS => ?_)
    clear hK KN
    try simp only [Act.put]
    refine wpAnyH_ready (rs := [3]) (by kernel_rfl) (by simp) ?_
    refine AllReadyH.cons rfl (fun KN hK => ?_) AllReadyH.nil
    have hb6 : Below w4.heap.size w4 (w5.alloc (.cells #[.string s, .int .i64 k, .int .i64 g, .slice A1 n1 c1] 39)) := hb5.alloc hb5.size _
    go_simp
    refine hK.out _ _ (HKS.out _ hb6) (fun hS => ?_)
    clear hK KN
    try simp only [Act.put, List.setIfInBounds_toArray, List.set_cons_zero, List.set_cons_succ]
    have hrow6 : DRow (w5.alloc (.cells #[.string s, .int .i64 k, .int .i64 g, .slice A1 n1 c1] 39)) w4.heap.size w4.heap.size (.slice A5 n c5) n ds cs5 := ⟨hrow5.own.kept (grown_of_below ((Below.refl _ w5).alloc (Nat.le_refl _) _)) (own_noneQ _), hrow5.len, hrow5.kids.keep fun b hb => Below.heap_alloc _ _ _ (Nat.lt_of_lt_of_le hb hb5.size)⟩
    have hbl6 := heap_alloc_new w5 (.cells #[.string s, .int .i64 k, .int .i64 g, .slice A1 n1 c1] 39)
    generalize w5.alloc (.cells #[.string s, .int .i64 k, .int .i64 g, .slice A1 n1 c1] 39) = W6 at *
    generalize w5.heap.size = P6 at *
    refine wpAnyH_ready (rs := [4]) (by kernel_rfl) (by simp) ?_
    refine AllReadyH.cons rfl (fun KN hK => ?_) AllReadyH.nil
    obtain ⟨q7, cap7, w7, hrun7, hdl7, hb7⟩ := declApp2 hrow6 (by omega) (Nat.le_refl _) hb6.size hbl6 (RdF.moveQ (fun b hb _ => ⟨hb, hb6.block b hb⟩) _ _ HRX.out)
    have hb7' := hb6.trans hb7
    refine Lib.wp_append_run _ (.tmp 35) (.tmp 37) 25 25 rfl _ _ rfl rfl _ _ hrun7 ?_
    refine hK.out _ _ (HKS.out w7 hb7') (fun hS => ?_)
    clear hK KN
    try simp only [Act.put, List.setIfInBounds_toArray]
    refine wpAnyH_ready (rs := [6]) (by kernel_rfl) (by simp) ?_
    refine AllReadyH.cons rfl (fun KN hK => ?_) AllReadyH.nil
    go_simp
    refine (HCC.out _ _ _ hdl7).mono ?_
    rintro e w8 ⟨Ad, m2, cd, rfl, hml2, hmc2, hcc2, hnu2, hb8⟩
    have hb8' := hb7'.trans (hb8.mono hb7'.size)
    clear hdl7 hrow6 hbl6
    refine hK.out _ _ (HKS.out w8 hb8') (fun hS => ?_)
    clear hK KN
    try simp only [Act.put, List.setIfInBounds_toArray, List.set_cons_zero, List.set_cons_succ]
    refine wpAnyH_take (i := 7) (v := .slice Ad m2 cd) rfl (by kernel_rfl) (by kernel_rfl) (by kernel_rfl) (fun _ _ _ h => h) (Or.inl ⟨by rfl, ?_⟩) hS ?_
    · intro w' hSw
      obtain ⟨s0, s1, s2, s3⟩ := hSw
      go_simp
    try simp only [Act.put, List.setIfInBounds_toArray]
    refine wpAnyH_done (by kernel_rfl) ?_ _
    try simp only [List.setIfInBounds_toArray]
    have HB8 := Lib.hid (HB4.out.trans (hb8'.mono HB4.out.size))
    have HX8 := Lib.hid (HX4.out.keep hb8' HX4.out.lt)
    have HNU1 := Lib.hid (HNU.out.keep hb8')
    have HNU2 := Lib.hid hnu2
    have hap := cnL_app f ds x 0
    rw [Nat.zero_add, HX.out.len] at hap
    have HAP := Lib.hid hap
    have HML2 := Lib.hid hml2
    have hml2' := hml2
    have hml1 := HML.out
    rw [hap, List.length_append, hml1] at hml2'
    have p1 : w8.cell? ⟨w.heap.size, 1, none⟩ = some (.int .i64 k) := HX8.out.cell 1
    have p2 : w8.cell? ⟨w.heap.size, 2, none⟩ = some (.int .i64 g) := HX8.out.cell 2
    have p3 : w8.cell? ⟨w.heap.size, 3, none⟩ = some (.slice A1 n1 c1) := HX8.out.cell 3
    have HFA := Lib.hid (familyC x _ w8 (Rd.keep HB8.out _ _ HR.out))
    unfold maxLen at hcc2
    clear hap hml2 hnu2 hb8 hb7 hb7' hb8' hb6 hbd HKS HCC HDL HRX hS hmc2
    have hs0 : w.heap.size < w8.heap.size := HX8.out.lt
    by_cases hf : 0 ≤ f
    case' neg =>
      have e0 : decide (f ≥ 0) = false := by simpa using hf
      rw [if_neg (fun e => hf e.1)] at hml2'
      have HEX := Lib.hid (show cnL f (ds ++ [x]) 0 = cnL f ds 0 by rw [HAP.out, if_neg (fun e => hf e.1), List.append_nil])
      obtain rfl : m = m2 := by simpa using hml2'
      have hw0 : IntKind.i64.wrap (m : Int) = (m : Int) := by rw [wrapEq, wrap_small (by omega) (by omega)]
      have HG2 := Lib.hid (fun (q : Nat) (z : Int) (hz : (cnL f ds 0)[q]? = some z) => show (cnL f (ds ++ [x]) 0)[q]? = some z by rw [HEX.out]; exact hz)
      have HLA : Hid (True) := Lib.hid trivial
      clear hf HAP HFA hml2'
      go_wp2_with fail
    case' pos =>
      have e0 : decide (f ≥ 0) = true := by simpa using hf
      have HF := Lib.hid hf
      clear hf
      go_wp2_with fail
      refine HFA.out.mono ?_
      clear HFA
      rintro e w9 ⟨rfl, hb9⟩
      have HB9 := Lib.hid (HB8.out.trans (hb9.mono HB8.out.size))
      have HNU1' := Lib.hid (HNU1.out.keep hb9)
      have HNU2' := Lib.hid (HNU2.out.keep hb9)
      clear hb9 p1 p2 p3 HB8 HNU1 HNU2
      by_cases hq : faI x = f
      case' neg =>
        have e1 : (faI x == f) = false := by simpa using hq
        rw [if_neg (fun e => hq e.2)] at hml2'
        have HEX := Lib.hid (show cnL f (ds ++ [x]) 0 = cnL f ds 0 by rw [HAP.out, if_neg (fun e => hq e.2), List.append_nil])
        clear hq HAP
        have HB8 := HB9
        have HNU1 := HNU1'
        have HNU2 := HNU2'
        obtain rfl : m = m2 := by simpa using hml2'
        have hw0 : IntKind.i64.wrap (m : Int) = (m : Int) := by rw [wrapEq, wrap_small (by omega) (by omega)]
        have HG2 := Lib.hid (fun (q : Nat) (z : Int) (hz : (cnL f ds 0)[q]? = some z) => show (cnL f (ds ++ [x]) 0)[q]? = some z by rw [HEX.out]; exact hz)
        have HLA : Hid (True) := Lib.hid trivial
        clear hml2' HNU1' HNU2' HB9
        go_wp2_with fail
      case' pos =>
        have e1 : (faI x == f) = true := by simpa using hq
        rw [if_pos ⟨HF.out, hq⟩] at hml2'
        have HEX := Lib.hid (show cnL f (ds ++ [x]) 0 = cnL f ds 0 ++ [(n : Int)] by rw [HAP.out, if_pos ⟨HF.out, hq⟩])
        clear hq HAP
        have HB8 := HB9
        have HNU1 := HNU1'
        have HNU2 := HNU2'
        obtain rfl : m + 1 = m2 := by simpa using hml2'
        have hw0 : IntKind.i64.wrap ((m : Int) + 1) = (m : Int) + 1 := by rw [wrapEq, wrap_small (by omega) (by omega)]
        have HG2 := Lib.hid (fun (q : Nat) (z : Int) (hz : (cnL f ds 0)[q]? = some z) => show (cnL f (ds ++ [x]) 0)[q]? = some z by rw [HEX.out, List.getElem?_append_left (List.getElem?_eq_some_iff.1 hz).1]; exact hz)
        have HLA := Lib.hid (show (cnL f (ds ++ [x]) 0)[m]? = some (n : Int) by rw [HEX.out, List.getElem?_append_right (by rw [HML.out]; omega), HML.out, Nat.sub_self]; rfl)
        clear hml2' HNU1' HNU2' HB9
        go_wp2_with fail
    all_goals
      go_loopw [13] (fun i wr => ∃ (q : Nat), q ≤ m ∧ i = .int .i64 q ∧ Hid (Below w.heap.size w wr) ∧ Hid (NuQ wr (cnL f ds 0) Ac) ∧ Hid (NuQ wr (cnL f (ds ++ [x]) 0) Ad)) (fun i _ => m - (Go.RowKit.intOf i).toNat)
      case atStart => exact ⟨0, Nat.zero_le _, rfl, HB8, HNU1, HNU2⟩
      case round =>
        clear HB8 HNU1 HNU2
        obtain ⟨q, hq, rfl, HB8, HNU1, HNU2⟩ := hrel
        by_cases hql : q < m
        · obtain ⟨z, hz⟩ := at_of HML.out hql
          obtain ⟨ba, oa, eA, ca⟩ := HNU1.out q z hz
          obtain ⟨bd, od, eD, cdd⟩ := HNU2.out q z (HG2.out q z hz)
          subst eA eD
          have hq0 : (0 : Int) ≤ q := by omega
          have hq1 : (q : Int) < m := by omega
          have hq2 : (q : Int) < (m : Int) + 1 := by omega
          have r0 := Past.cell ca
          have r1 := Past.cell cdd
          clear hz
          go_wp2_with fail
          refine wp_region_past (by kernel_rfl) (by kernel_rfl) ?_
          repeat (go_big_quiet_step (fail))
          refine wpQuiet_nil ?_
          rintro _ ⟨z9, rfl⟩
          obtain ⟨w19, hb19⟩ := z9
          dsimp only
          have HB19 := Lib.hid (HB8.out.trans (hb19.mono HB8.out.size))
          have HN1 := Lib.hid (HNU1.out.keep hb19)
          have HN2 := Lib.hid (HNU2.out.keep hb19)
          clear r0 r1 ca cdd hb19
          go_wp2_with fail
          go_roundw
          case rel => exact ⟨q + 1, by omega, by go_num, HB19, HN1, HN2⟩
          case measure => simp [Go.RowKit.intOf]; omega
        · first
            | (go_wp2_with fail
               go_ret
               exact ⟨rfl, HB8.out⟩)
            | (obtain ⟨bd, od, eD, cdd⟩ := HNU2.out m (n : Int) HLA.out
               subst eD
               have hq0 : (0 : Int) ≤ m := by omega
               have hq2 : (m : Int) < (m : Int) + 1 := by omega
               go_wp2_with fail
               go_ret
               exact ⟨rfl, HB8.out⟩)

  · have hba : Below w4.heap.size w4 (w4.drew.alloc (.cells #[.string s, .int .i64 k, .int .i64 g, .slice A1 n1 c1] 39)) := hbd.alloc (Nat.le_refl _) _
    go_simp
    refine hK.out _ _ (HKS.out _ hba) (fun hS => ?_)
    clear hK KN
    try simp only [Act.put, List.setIfInBounds_toArray, List.set_cons_zero, List.set_cons_succ]
    refine wpAnyH_ready (rs := [1]) (by kernel_rfl) (by simp) ?_
    refine AllReadyH.cons rfl (fun KN hK => ?_) AllReadyH.nil
    obtain ⟨A5, c5, W6, cs5, hrun5, hrow6, hg5⟩ := declApp1 HDL.out (by omega) hba
    have hb6 : Below w4.heap.size w4 W6 := below_grownQ hba hg5 (fun r hr => by cases hr) hba.size
    have hbl6 : W6.heap[w4.heap.size]? = _ := (hg5.block _ (by simp) (fun e => by cases e)).trans (heap_alloc_new w4.drew (.cells #[.string s, .int .i64 k, .int .i64 g, .slice A1 n1 c1] 39))
    refine Lib.wp_append_run _ (.const (.slice none 0 0)) (.tmp 34) 25 25 rfl _ _ rfl rfl _ _ hrun5 ?_
    refine hK.out _ _ (HKS.out W6 hb6) (fun hS => ?_)
    clear hK KN
    try simp only [Act.put, List.setIfInBounds_toArray]
    obtain ⟨P6, hP6⟩ : ∃ P, w4.heap.size = P := ⟨_, rfl⟩
    rw [show (W6.heap[w4.heap.size]?) = W6.heap[P6]? by rw [hP6]] at hbl6
    refine wpAnyH_ready (rs := [4]) (by kernel_rfl) (by simp) ?_
    refine AllReadyH.cons rfl (fun KN hK => ?_) AllReadyH.nil
    obtain ⟨q7, cap7, w7, hrun7, hdl7, hb7⟩ := declApp2 hrow6 (by omega) (Nat.le_refl _) hb6.size hbl6 (RdF.moveQ (fun b hb _ => ⟨hb, hb6.block b hb⟩) _ _ HRX.out)
    have hb7' := hb6.trans hb7
    refine Lib.wp_append_run _ (.tmp 35) (.tmp 37) 25 25 rfl _ _ rfl rfl _ _ (by rw [hP6]; exact hrun7) ?_
    refine hK.out _ _ (HKS.out w7 hb7') (fun hS => ?_)
    clear hK KN
    try simp only [Act.put]
    refine wpAnyH_ready (rs := [6]) (by kernel_rfl) (by simp) ?_
    refine AllReadyH.cons rfl (fun KN hK => ?_) AllReadyH.nil
    go_simp
    refine (HCC.out _ _ _ hdl7).mono ?_
    rintro e w8 ⟨Ad, m2, cd, rfl, hml2, hmc2, hcc2, hnu2, hb8⟩
    have hb8' := hb7'.trans (hb8.mono hb7'.size)
    clear hdl7 hrow6 hbl6
    refine hK.out _ _ (HKS.out w8 hb8') (fun hS => ?_)
    clear hK KN
    try simp only [Act.put, List.setIfInBounds_toArray, List.set_cons_zero, List.set_cons_succ]
    refine wpAnyH_take (i := 7) (v := .slice Ad m2 cd) rfl (by kernel_rfl) (by kernel_rfl) (by kernel_rfl) (fun _ _ _ h => h) (Or.inl ⟨by rfl, ?_⟩) hS ?_
    · intro w' hSw
      obtain ⟨s0, s1, s2, s3⟩ := hSw
      go_simp
    try simp only [Act.put, List.setIfInBounds_toArray]
    refine wpAnyH_done (by kernel_rfl) ?_ _
    try simp only [List.setIfInBounds_toArray]
    have HB8 := Lib.hid (HB4.out.trans (hb8'.mono HB4.out.size))
    have HX8 := Lib.hid (HX4.out.keep hb8' HX4.out.lt)
    have HNU1 := Lib.hid (HNU.out.keep hb8')
    have HNU2 := Lib.hid hnu2
    have hap := cnL_app f ds x 0
    rw [Nat.zero_add, HX.out.len] at hap
    have HAP := Lib.hid hap
    have HML2 := Lib.hid hml2
    have hml2' := hml2
    have hml1 := HML.out
    rw [hap, List.length_append, hml1] at hml2'
    have p1 : w8.cell? ⟨w.heap.size, 1, none⟩ = some (.int .i64 k) := HX8.out.cell 1
    have p2 : w8.cell? ⟨w.heap.size, 2, none⟩ = some (.int .i64 g) := HX8.out.cell 2
    have p3 : w8.cell? ⟨w.heap.size, 3, none⟩ = some (.slice A1 n1 c1) := HX8.out.cell 3
    have HFA := Lib.hid (familyC x _ w8 (Rd.keep HB8.out _ _ HR.out))
    unfold maxLen at hcc2
    clear hap hml2 hnu2 hb8 hb7 hb7' hb8' hb6 hbd HKS HCC HDL HRX hS hmc2
    have hs0 : w.heap.size < w8.heap.size := HX8.out.lt
    by_cases hf : 0 ≤ f
    case' neg =>
      have e0 : decide (f ≥ 0) = false := by simpa using hf
      rw [if_neg (fun e => hf e.1)] at hml2'
      have HEX := Lib.hid (show cnL f (ds ++ [x]) 0 = cnL f ds 0 by rw [HAP.out, if_neg (fun e => hf e.1), List.append_nil])
      obtain rfl : m = m2 := by simpa using hml2'
      have hw0 : IntKind.i64.wrap (m : Int) = (m : Int) := by rw [wrapEq, wrap_small (by omega) (by omega)]
      have HG2 := Lib.hid (fun (q : Nat) (z : Int) (hz : (cnL f ds 0)[q]? = some z) => show (cnL f (ds ++ [x]) 0)[q]? = some z by rw [HEX.out]; exact hz)
      have HLA : Hid (True) := Lib.hid trivial
      clear hf HAP HFA hml2'
      go_wp2_with fail
    case' pos =>
      have e0 : decide (f ≥ 0) = true := by simpa using hf
      have HF := Lib.hid hf
      clear hf
      go_wp2_with fail
      refine HFA.out.mono ?_
      clear HFA
      rintro e w9 ⟨rfl, hb9⟩
      have HB9 := Lib.hid (HB8.out.trans (hb9.mono HB8.out.size))
      have HNU1' := Lib.hid (HNU1.out.keep hb9)
      have HNU2' := Lib.hid (HNU2.out.keep hb9)
      clear hb9 p1 p2 p3 HB8 HNU1 HNU2
      by_cases hq : faI x = f
      case' neg =>
        have e1 : (faI x == f) = false := by simpa using hq
        rw [if_neg (fun e => hq e.2)] at hml2'
        have HEX := Lib.hid (show cnL f (ds ++ [x]) 0 = cnL f ds 0 by rw [HAP.out, if_neg (fun e => hq e.2), List.append_nil])
        clear hq HAP
        have HB8 := HB9
        have HNU1 := HNU1'
        have HNU2 := HNU2'
        obtain rfl : m = m2 := by simpa using hml2'
        have hw0 : IntKind.i64.wrap (m : Int) = (m : Int) := by rw [wrapEq, wrap_small (by omega) (by omega)]
        have HG2 := Lib.hid (fun (q : Nat) (z : Int) (hz : (cnL f ds 0)[q]? = some z) => show (cnL f (ds ++ [x]) 0)[q]? = some z by rw [HEX.out]; exact hz)
        have HLA : Hid (True) := Lib.hid trivial
        clear hml2' HNU1' HNU2' HB9
        go_wp2_with fail
      case' pos =>
        have e1 : (faI x == f) = true := by simpa using hq
        rw [if_pos ⟨HF.out, hq⟩] at hml2'
        have HEX := Lib.hid (show cnL f (ds ++ [x]) 0 = cnL f ds 0 ++ [(n : Int)] by rw [HAP.out, if_pos ⟨HF.out, hq⟩])
        clear hq HAP
        have HB8 := HB9
        have HNU1 := HNU1'
        have HNU2 := HNU2'
        obtain rfl : m + 1 = m2 := by simpa using hml2'
        have hw0 : IntKind.i64.wrap ((m : Int) + 1) = (m : Int) + 1 := by rw [wrapEq, wrap_small (by omega) (by omega)]
        have HG2 := Lib.hid (fun (q : Nat) (z : Int) (hz : (cnL f ds 0)[q]? = some z) => show (cnL f (ds ++ [x]) 0)[q]? = some z by rw [HEX.out, List.getElem?_append_left (List.getElem?_eq_some_iff.1 hz).1]; exact hz)
        have HLA := Lib.hid (show (cnL f (ds ++ [x]) 0)[m]? = some (n : Int) by rw [HEX.out, List.getElem?_append_right (by rw [HML.out]; omega), HML.out, Nat.sub_self]; rfl)
        clear hml2' HNU1' HNU2' HB9
        go_wp2_with fail
    all_goals
      go_loopw [13] (fun i wr => ∃ (q : Nat), q ≤ m ∧ i = .int .i64 q ∧ Hid (Below w.heap.size w wr) ∧ Hid (NuQ wr (cnL f ds 0) Ac) ∧ Hid (NuQ wr (cnL f (ds ++ [x]) 0) Ad)) (fun i _ => m - (Go.RowKit.intOf i).toNat)
      case atStart => exact ⟨0, Nat.zero_le _, rfl, HB8, HNU1, HNU2⟩
      case round =>
        clear HB8 HNU1 HNU2
        obtain ⟨q, hq, rfl, HB8, HNU1, HNU2⟩ := hrel
        by_cases hql : q < m
        · obtain ⟨z, hz⟩ := at_of HML.out hql
          obtain ⟨ba, oa, eA, ca⟩ := HNU1.out q z hz
          obtain ⟨bd, od, eD, cdd⟩ := HNU2.out q z (HG2.out q z hz)
          subst eA eD
          have hq0 : (0 : Int) ≤ q := by omega
          have hq1 : (q : Int) < m := by omega
          have hq2 : (q : Int) < (m : Int) + 1 := by omega
          have r0 := Past.cell ca
          have r1 := Past.cell cdd
          clear hz
          go_wp2_with fail
          refine wp_region_past (by kernel_rfl) (by kernel_rfl) ?_
          repeat (go_big_quiet_step (fail))
          refine wpQuiet_nil ?_
          rintro _ ⟨z9, rfl⟩
          obtain ⟨w19, hb19⟩ := z9
          dsimp only
          have HB19 := Lib.hid (HB8.out.trans (hb19.mono HB8.out.size))
          have HN1 := Lib.hid (HNU1.out.keep hb19)
          have HN2 := Lib.hid (HNU2.out.keep hb19)
          clear r0 r1 ca cdd hb19
          go_wp2_with fail
          go_roundw
          case rel => exact ⟨q + 1, by omega, by go_num, HB19, HN1, HN2⟩
          case measure => simp [Go.RowKit.intOf]; omega
        · first
            | (go_wp2_with fail
               go_ret
               exact ⟨rfl, HB8.out⟩)
            | (obtain ⟨bd, od, eD, cdd⟩ := HNU2.out m (n : Int) HLA.out
               subst eD
               have hq0 : (0 : Int) ≤ m := by omega
               have hq2 : (m : Int) < (m : Int) + 1 := by omega
               go_wp2_with fail
               go_ret
               exact ⟨rfl, HB8.out⟩)

end Go.Proofs.Ytclhllkgamnpoaa
