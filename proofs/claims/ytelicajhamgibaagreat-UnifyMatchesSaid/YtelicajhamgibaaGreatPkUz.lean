/-
  The walk of the law UnifyMatches.
-/
import Derived.Test.YtelicajhamgibaaGreatPkB
import Derived.Test.YtelicajhamgibaaGreatPkS
import Derived.Test.YtelicajhamgibaaGreatPkOf
import Derived.Test.YtelicajhamgibaaGreatWl
import Derived.Test.YtelicajhamgibaaGreatPkM
namespace Go.Proofs.YtelicajhamgibaaGreat
open Go.ChangeShapes Go.WideShapes Go.ChangeAt Go.RowKit
set_option linter.unusedVariables false

/-- what Match tells, in memory -/
def maE (R : Except Int (List BT)) (w : World) (A : Option Addr) (n c : Nat) (ec : Int) : Prop :=
  match R with
  | .error e => ec = e ∧ ec ≠ 0 ∧ A = none ∧ n = 0 ∧ c = 0
  | .ok b => ec = 0 ∧ BL (fun _ => True) w b A n c
set_option maxRecDepth 100000 in
set_option maxHeartbeats 8000000 in
theorem unifyMatchesC (a c : T) (n : Int) (sz : List Int) (As : Option Addr) (L cs : Nat) (va vc : Value) (w : World) (hva : Rd w a va) (hvc : Rd w c vc) (hl : sz.length = L) (hlc : L ≤ cs) (hcm : cs ≤ maxLen) (hs : Nu w sz As) :
    Calls Tryz.prog 5 #[va, vc, .int .i64 n, .slice As L cs] w fun e w' => e = .returned (.bool true) ∧ Below w.heap.size w w' := by
  have HS := Lib.hid hs; clear hs
  have HLZ := Lib.hid hl; clear hl
  have hcm2 := hcm
  unfold maxLen at hcm2
  obtain ⟨ka, ha, Aa, na, ca, rfl⟩ := hva.full
  have HVa := Lib.hid hva; clear hva
  obtain ⟨kc, hc, Ac, nc, cc, rfl⟩ := hvc.full
  have HVc := Lib.hid hvc; clear hvc
  obtain ⟨W0, hW0⟩ : ∃ W0, ((w.alloc (.cells #[.int .i64 ka, .int .i64 ha, .slice Aa na ca] 24)).alloc (.cells #[.int .i64 kc, .int .i64 hc, .slice Ac nc cc] 24)) = W0 := ⟨_, rfl⟩
  have hb : Below w.heap.size w W0 := by rw [← hW0]; exact (((Below.refl _ _).alloc (Nat.le_refl _) _).alloc (by simp) _)
  have bxa : Box W0 (w.heap.size) 24 #[.int .i64 ka, .int .i64 ha, .slice Aa na ca] := by rw [← hW0]; exact ((Box.new w _ _).alloc _)
  have bxc : Box W0 (w.heap.size + 1) 24 #[.int .i64 kc, .int .i64 hc, .slice Ac nc cc] := by rw [← hW0]; exact ((Box.new (w.alloc _) _ _).at (by simp))
  replace HVa := Lib.hid (Rd.keep hb _ _ HVa.out)
  replace HVc := Lib.hid (Rd.keep hb _ _ HVc.out)
  have HW0 := Lib.hid hW0; clear hW0
  go_enter Tryz.func5, Tryz.ntmps5
  go_wp2_with fail
  rw [HW0.out]
  clear HW0
  refine (awakeN _).mono ?_
  rintro e w1 ⟨rfl, hb1⟩
  replace bxa := bxa.keep hb1 bxa.lt
  replace bxc := bxc.keep hb1 bxc.lt
  replace HVa := Lib.hid (Rd.keep hb1 _ _ HVa.out)
  replace HVc := Lib.hid (Rd.keep hb1 _ _ HVc.out)
  replace hb := hb.trans (hb1.mono hb.size)
  clear hb1
  obtain ⟨bxa0, bxa1, bxa2⟩ := bxa.three
  have bxal := bxa.lt
  obtain ⟨bxc0, bxc1, bxc2⟩ := bxc.three
  have bxcl := bxc.lt
  go_wp2_with fail
  refine (refLight a 300 60 _ _ HVa.out).mono ?_
  have HLa : Hid (ltB a 300 60 = true → ltB a 300 60 = true) := Lib.hid fun e => e
  generalize hqa : ltB a 300 60 = Ra at *
  rintro e w2a ⟨rfl, hb1⟩
  have HQa := Lib.hid hqa; clear hqa HLa
  clear bxa0 bxa1 bxa2 bxal bxc0 bxc1 bxc2 bxcl
  replace bxa := bxa.keep hb1 bxa.lt
  replace bxc := bxc.keep hb1 bxc.lt
  replace HVa := Lib.hid (Rd.keep hb1 _ _ HVa.out)
  replace HVc := Lib.hid (Rd.keep hb1 _ _ HVc.out)
  replace hb := hb.trans (hb1.mono hb.size)
  clear hb1
  obtain ⟨bxa0, bxa1, bxa2⟩ := bxa.three
  have bxal := bxa.lt
  obtain ⟨bxc0, bxc1, bxc2⟩ := bxc.three
  have bxcl := bxc.lt
  go_wp2_with fail
  refine (refLight c 300 60 _ _ HVc.out).mono ?_
  have HLc : Hid (ltB c 300 60 = true → ltB c 300 60 = true) := Lib.hid fun e => e
  generalize hqc : ltB c 300 60 = Rc at *
  rintro e w2c ⟨rfl, hb1⟩
  have HQc := Lib.hid hqc; clear hqc HLc
  clear bxa0 bxa1 bxa2 bxal bxc0 bxc1 bxc2 bxcl
  replace bxa := bxa.keep hb1 bxa.lt
  replace bxc := bxc.keep hb1 bxc.lt
  replace HVa := Lib.hid (Rd.keep hb1 _ _ HVa.out)
  replace HVc := Lib.hid (Rd.keep hb1 _ _ HVc.out)
  replace hb := hb.trans (hb1.mono hb.size)
  clear hb1
  obtain ⟨bxa0, bxa1, bxa2⟩ := bxa.three
  have bxal := bxa.lt
  obtain ⟨bxc0, bxc1, bxc2⟩ := bxc.three
  have bxcl := bxc.lt
  go_wp2_with fail
  refine (sizedC sz As L cs HLZ.out hlc hcm a _ _ HVa.out (HS.out.keep hb)).mono ?_
  obtain ⟨Sa, hSa⟩ : ∃ S, zdB sz a = S := ⟨_, rfl⟩
  rw [hSa]
  have HZa := Lib.hid hSa; clear hSa
  rintro e w2sa ⟨rfl, hb1⟩
  clear bxa0 bxa1 bxa2 bxal bxc0 bxc1 bxc2 bxcl
  replace bxa := bxa.keep hb1 bxa.lt
  replace bxc := bxc.keep hb1 bxc.lt
  replace HVa := Lib.hid (Rd.keep hb1 _ _ HVa.out)
  replace HVc := Lib.hid (Rd.keep hb1 _ _ HVc.out)
  replace hb := hb.trans (hb1.mono hb.size)
  clear hb1
  obtain ⟨bxa0, bxa1, bxa2⟩ := bxa.three
  have bxal := bxa.lt
  obtain ⟨bxc0, bxc1, bxc2⟩ := bxc.three
  have bxcl := bxc.lt
  cases Ra
  · go_wp2_with fail
    go_ret
    exact ⟨rfl, hb⟩
  cases Rc
  · go_wp2_with fail
    go_ret
    exact ⟨rfl, hb⟩
  cases Sa
  · go_wp2_with fail
    go_ret
    exact ⟨rfl, hb⟩
  go_wp2_with fail
  refine (myC a _ _ HVa.out).mono ?_
  generalize hqa : myB a = Ma at *
  rintro e w3a ⟨rfl, hb1⟩
  have HMa := Lib.hid hqa; clear hqa
  clear bxa0 bxa1 bxa2 bxal bxc0 bxc1 bxc2 bxcl
  replace bxa := bxa.keep hb1 bxa.lt
  replace bxc := bxc.keep hb1 bxc.lt
  replace HVa := Lib.hid (Rd.keep hb1 _ _ HVa.out)
  replace HVc := Lib.hid (Rd.keep hb1 _ _ HVc.out)
  replace hb := hb.trans (hb1.mono hb.size)
  clear hb1
  obtain ⟨bxa0, bxa1, bxa2⟩ := bxa.three
  have bxal := bxa.lt
  obtain ⟨bxc0, bxc1, bxc2⟩ := bxc.three
  have bxcl := bxc.lt
  cases Ma
  · go_wp2_with fail
    go_ret
    exact ⟨rfl, hb⟩
  have KNa : Hid (Kn 300 60 a) := Lib.hid (kn_of HQa.out HMa.out); clear HQa HMa
  go_wp2_with fail
  refine (myC c _ _ HVc.out).mono ?_
  generalize hqc : myB c = Mc at *
  rintro e w3c ⟨rfl, hb1⟩
  have HMc := Lib.hid hqc; clear hqc
  clear bxa0 bxa1 bxa2 bxal bxc0 bxc1 bxc2 bxcl
  replace bxa := bxa.keep hb1 bxa.lt
  replace bxc := bxc.keep hb1 bxc.lt
  replace HVa := Lib.hid (Rd.keep hb1 _ _ HVa.out)
  replace HVc := Lib.hid (Rd.keep hb1 _ _ HVc.out)
  replace hb := hb.trans (hb1.mono hb.size)
  clear hb1
  obtain ⟨bxa0, bxa1, bxa2⟩ := bxa.three
  have bxal := bxa.lt
  obtain ⟨bxc0, bxc1, bxc2⟩ := bxc.three
  have bxcl := bxc.lt
  cases Mc
  · go_wp2_with fail
    go_ret
    exact ⟨rfl, hb⟩
  have KNc : Hid (Kn 300 60 c) := Lib.hid (kn_of HQc.out HMc.out); clear HQc HMc
  by_cases x1 : n < 0
  · have dx1 : decide (n < 0) = true := by simpa using x1
    go_wp2_with fail
    go_ret
    exact ⟨rfl, hb⟩
  have dx1 : decide (n < 0) = false := by simpa using x1
  by_cases x2 : 100 < n
  · have dx2 : decide (100 < n) = true := by simpa using x2
    go_wp2_with fail
    go_ret
    exact ⟨rfl, hb⟩
  have dx2 : decide (100 < n) = false := by simpa using x2
  by_cases hLm : 60 < L
  · have dL : decide ((60 : Int) < (L : Int)) = true := decide_eq_true (by omega)
    go_wp2_with fail
    go_ret
    exact ⟨rfl, hb⟩
  have dL : decide ((60 : Int) < (L : Int)) = false := decide_eq_false (by omega)
  go_wp2_with fail
  refine (oPatternsC a n _ _ HVa.out (by have := wd_nd a; have := KNa.out.nd; omega)).mono ?_
  obtain ⟨P, hP⟩ : ∃ P, ((nds a 0).all (pa1 n)) = P := ⟨_, rfl⟩
  rw [hP]
  have HPA := Lib.hid hP; clear hP
  rintro e w4a ⟨rfl, hb1⟩
  clear bxa0 bxa1 bxa2 bxal bxc0 bxc1 bxc2 bxcl
  replace bxa := bxa.keep hb1 bxa.lt
  replace bxc := bxc.keep hb1 bxc.lt
  replace HVa := Lib.hid (Rd.keep hb1 _ _ HVa.out)
  replace HVc := Lib.hid (Rd.keep hb1 _ _ HVc.out)
  replace hb := hb.trans (hb1.mono hb.size)
  clear hb1
  obtain ⟨bxa0, bxa1, bxa2⟩ := bxa.three
  have bxal := bxa.lt
  obtain ⟨bxc0, bxc1, bxc2⟩ := bxc.three
  have bxcl := bxc.lt
  cases P
  · go_wp2_with fail
    go_ret
    exact ⟨rfl, hb⟩
  have hndc : nd c ≤ 1048576 := by have := KNc.out.n4; omega
  have HME := Lib.hid (oMetasC c _ _ HVc.out hndc)
  go_wp2_with fail
  refine HME.out.mono ?_
  rintro e w4c ⟨uc, rfl, hns, hb1⟩
  rw [mtO_eq] at hns
  obtain ⟨Am, cm, rfl, _⟩ := hns
  obtain ⟨Lmc, hLm2⟩ : ∃ L, (mtO c).length = L := ⟨_, rfl⟩
  rw [hLm2]
  clear HME
  clear bxa0 bxa1 bxa2 bxal bxc0 bxc1 bxc2 bxcl
  replace bxa := bxa.keep hb1 bxa.lt
  replace bxc := bxc.keep hb1 bxc.lt
  replace HVa := Lib.hid (Rd.keep hb1 _ _ HVa.out)
  replace HVc := Lib.hid (Rd.keep hb1 _ _ HVc.out)
  replace hb := hb.trans (hb1.mono hb.size)
  clear hb1
  obtain ⟨bxa0, bxa1, bxa2⟩ := bxa.three
  have bxal := bxa.lt
  obtain ⟨bxc0, bxc1, bxc2⟩ := bxc.three
  have bxcl := bxc.lt
  have HLMc := Lib.hid hLm2; clear hLm2 hndc
  by_cases hL0 : 0 < Lmc
  · have dM : decide ((0 : Int) < (Lmc : Int)) = true := decide_eq_true (by omega)
    have dM2 : decide (0 < Lmc) = true := decide_eq_true hL0
    go_wp2_with fail
    go_ret
    exact ⟨rfl, hb⟩
  have dM : decide ((0 : Int) < (Lmc : Int)) = false := decide_eq_false (by omega)
  have dM2 : decide (0 < Lmc) = false := decide_eq_false hL0
  have HMT : Hid (mts c = []) := Lib.hid (mtO_nilU.1 (List.length_eq_zero_iff.1 (by rw [HLMc.out]; omega)))
  clear hL0
  go_wp2_with fail
  have HNU := Lib.hid (HS.out.keep hb)
  go_loopw [13] (fun i wr => ∃ (j : Nat), j ≤ L ∧ i = .int .i64 j ∧ w4c = wr ∧ Hid (∀ (i : Nat) (x : Int), i < j → sz[i]? = some x → 0 ≤ x ∧ x ≤ 100)) (fun i _ => L - (Go.RowKit.intOf i).toNat)
  case atStart => exact ⟨0, Nat.zero_le _, rfl, rfl, Lib.hid fun i x h => absurd h (Nat.not_lt_zero _)⟩
  case round =>
    obtain ⟨j, hj, rfl, rfl, HZ⟩ := hrel
    by_cases hlt : j < L
    · obtain ⟨z, hz⟩ : ∃ z, sz[j]? = some z := ⟨_, List.getElem?_eq_getElem (by rw [HLZ.out]; exact hlt)⟩
      obtain ⟨bS, oS, rfl, s0⟩ := HNU.out j z hz
      have hi0 : (0 : Int) ≤ j := by omega
      have hi1 : (j : Int) < L := by omega
      by_cases z0 : z < 0
      · have dz0 : decide (z < 0) = true := by simpa using z0
        go_wp2_with fail
        go_ret
        exact ⟨rfl, hb⟩
      have dz0 : decide (z < 0) = false := by simpa using z0
      by_cases z1 : 100 < z
      · have dz1 : decide (100 < z) = true := by simpa using z1
        go_wp2_with fail
        go_ret
        exact ⟨rfl, hb⟩
      have dz1 : decide (100 < z) = false := by simpa using z1
      have HJ : Hid (∀ (i : Nat) (x : Int), i < j + 1 → sz[i]? = some x → 0 ≤ x ∧ x ≤ 100) := Lib.hid fun i x hi hx => by
        rcases Nat.lt_succ_iff_lt_or_eq.1 hi with h | rfl
        · exact HZ.out i x h hx
        · rw [hz] at hx; cases hx; omega
      clear z0 z1 hz
      go_wp2_with fail
      go_roundw
      case rel => exact ⟨j + 1, by omega, by go_num, by first | rfl | trivial, HJ⟩
      case measure => simp [Go.RowKit.intOf]; omega
    obtain rfl : L = j := by omega
    have HSZ := Lib.hid (fun (i : Nat) (x : Int) (hx : sz[i]? = some x) => HZ.out i x (by rw [← HLZ.out]; exact (List.getElem?_eq_some_iff.1 hx).1) hx)
    clear hj hlt HZ HNU
    have HA1 := Lib.hid (unA_of (n := n) (by omega) (by omega) (by rw [HLZ.out]; omega) HSZ.out KNa.out.my KNc.out.my)
    have HA2 := Lib.hid (unA_of (n := n) (by omega) (by omega) (by rw [HLZ.out]; omega) HSZ.out KNc.out.my KNa.out.my)
    have hoa := okT_of a KNa.out.nod KNa.out.lo
    have hoc := okT_of c KNc.out.nod KNc.out.lo
    have hE := un_match HA1.out HA2.out ⟨KNa.out.my, okT_mono (by omega) _ hoa⟩ ⟨KNc.out.my, okT_mono (by omega) _ hoc⟩ HMT.out (zdB_zd a HZa.out) HPA.out (by omega) (by omega) (by rw [HLZ.out]; omega) KNa.out.nd KNc.out.nd
    rw [HLZ.out] at hE
    have hU := UnifyC a c n sz As cs _ _ _ _ _ _ _ _ _ _ w4c HVa.out HVc.out (fun _ => hoa) (fun _ => hoc) (by rw [HLZ.out]; exact hlc) hcm (HS.out.keep hb)
    obtain ⟨R, hR⟩ : ∃ R, mtR a c n (List.replicate L noB) (List.replicate L false) [] = R := ⟨_, rfl⟩
    rw [hE.1, hR, HLZ.out] at hU
    have HU1 := Lib.hid hU; clear hU
    have HL60 : Hid (L ≤ 60) := Lib.hid (by omega)
    have HU2 : Hid (∀ W, Below w4c.heap.size w4c W → Calls Tryz.prog 8 #[.agg #[.int .i64 kc, .int .i64 hc, .slice Ac nc cc], .agg #[.int .i64 ka, .int .i64 ha, .slice Aa na ca], .int .i64 n, .slice As L cs] W (UnE W R)) := Lib.hid fun W h => by
      have hU := UnifyC c a n sz As cs _ _ _ _ _ _ _ _ _ _ W (Rd.keep h _ _ HVc.out) (Rd.keep h _ _ HVa.out) (fun _ => hoc) (fun _ => hoa) (by rw [HLZ.out]; exact hlc) hcm (HS.out.keep (hb.trans (h.mono hb.size)))
      rw [hE.2, hR, HLZ.out] at hU
      exact hU
    have hmkb := fun W => make_binds (N := L) (by omega) W
    have hmkv := fun W => make_bools (N := L) (by omega) W
    have H1 : Hid (∀ W0 W' q1 q2, Below w4c.heap.size w4c W0 → Hid (Below W0.heap.size W0 W') → Box W' q1 38 (madeCells #[.bool false, .int .i64 0, .int .i64 0, .slice none 0 0] (L * 4)) → Box W' q2 4 (madeCells #[.bool false] L) → Calls Tryz.prog 18 #[.agg #[.int .i64 ka, .int .i64 ha, .slice Aa na ca], .agg #[.int .i64 kc, .int .i64 hc, .slice Ac nc cc], .int .i64 n, .slice (some ⟨q1, 0, none⟩) L L, .slice (some ⟨q2, 0, none⟩) L L, .slice none 0 0] W' (fun e w' => (∃ A n' c ec, e = .returned (.tuple #[.slice A n' c, .int .i64 ec]) ∧ Hid (maE R w' A n' c ec)) ∧ Hid (Below W0.heap.size W0 w'))) := Lib.hid fun W0 W' q1 q2 h0 hb' h1 h2 => by
      have hh := h0.trans (hb'.out.mono h0.size)
      have := MatchC a c n (List.replicate L noB) (List.replicate L false) [] _ _ _ L L _ L L none 0 0 W' (Rd.keep hh _ _ HVa.out) (Rd.keep hh _ _ HVc.out) (bl_made (by omega) h1) (lb_made (by omega) h2) (lb_nil _) (fun _ => okT_mono (by omega) _ hoa) (fun _ => okT_mono (by omega) _ hoc) fun x hx h1 => by rw [List.eq_of_mem_replicate hx] at h1; cases h1
      rw [hR] at this
      refine this.mono fun e w' h => ?_
      cases R with
      | error ec =>
        obtain ⟨he, hne, hbe⟩ := h
        exact ⟨⟨_, _, _, _, he, Lib.hid ⟨rfl, hne, rfl, rfl, rfl⟩⟩, cur_trans hb' hbe⟩
      | ok b =>
        obtain ⟨q, he, hbl, hbe⟩ := h
        exact ⟨⟨_, _, _, _, he, Lib.hid ⟨rfl, hbl.len, hbl.le, hbl.cap, fun i x hx => (hbl.at_ i x hx).any⟩⟩, cur_trans hb' hbe⟩
    clear hR HA1 HA2 hoa hoc hE HSZ HMT HPA HLMc
    go_wp2_with fail
    refine HU1.out.mono ?_
    intro e w5 hE
    obtain ⟨A5, n5, c5, ec, rfl, hb1, hE⟩ := hE
    have HE1 := Lib.hid hE
    have HB5 := Lib.hid hb1
    clear hE HU1
    replace bxa := bxa.keep hb1 bxa.lt
    replace bxc := bxc.keep hb1 bxc.lt
    replace HVa := Lib.hid (Rd.keep hb1 _ _ HVa.out)
    replace HVc := Lib.hid (Rd.keep hb1 _ _ HVc.out)
    replace hb := hb.trans (hb1.mono hb.size)
    clear hb1
    obtain ⟨bxa0, bxa1, bxa2⟩ := bxa.three
    have bxal := bxa.lt
    obtain ⟨bxc0, bxc1, bxc2⟩ := bxc.three
    have bxcl := bxc.lt
    replace H1 : Hid _ := Lib.hid fun W' q1 q2 => H1.out w5 W' q1 q2 HB5.out
    go_wp2_with fail
    have HK : Hid (∀ w', Hid (Below w5.heap.size w5 w') → (w'.cell? ⟨w.heap.size, 0, none⟩ = some (.int .i64 ka) ∧ w'.cell? ⟨w.heap.size, 1, none⟩ = some (.int .i64 ha) ∧ w'.cell? ⟨w.heap.size, 2, none⟩ = some (.slice Aa na ca) ∧ w'.cell? ⟨w.heap.size + 1, 0, none⟩ = some (.int .i64 kc) ∧ w'.cell? ⟨w.heap.size + 1, 1, none⟩ = some (.int .i64 hc) ∧ w'.cell? ⟨w.heap.size + 1, 2, none⟩ = some (.slice Ac nc cc) ∧ Hid (Below w5.heap.size w5 w'))) := Lib.hid fun w' h => by
      have s0 := bxa.keep h.out bxa.lt
      have s1 := bxc.keep h.out bxc.lt
      exact ⟨s0.three.1, s0.three.2.1, s0.three.2.2, s1.three.1, s1.three.2.1, s1.three.2.2, h⟩
    have hcu0 : Hid (Below w5.heap.size w5 w5.drew) := cur_drew
    go_region_held3 (fun w' => w'.cell? ⟨w.heap.size, 0, none⟩ = some (.int .i64 ka) ∧ w'.cell? ⟨w.heap.size, 1, none⟩ = some (.int .i64 ha) ∧ w'.cell? ⟨w.heap.size, 2, none⟩ = some (.slice Aa na ca) ∧ w'.cell? ⟨w.heap.size + 1, 0, none⟩ = some (.int .i64 kc) ∧ w'.cell? ⟨w.heap.size + 1, 1, none⟩ = some (.int .i64 hc) ∧ w'.cell? ⟨w.heap.size + 1, 2, none⟩ = some (.slice Ac nc cc) ∧ Hid (Below w5.heap.size w5 w'))
      (first | exact HK.out _ (by assumption) | exact HK.out _ (cur_alloc (by assumption) _) | exact HK.out _ (cur_alloc (cur_alloc (by assumption) _) _))
      (first
        | (go_at_call 18
           with_reducible refine Calls.mono (H1.out _ _ _ ?hh ?hx ?hy) ?_
           case hh => first | assumption | exact cur_alloc (by assumption) _ | exact cur_alloc (cur_alloc (by assumption) _) _ | exact Lib.hid (((Below.refl _ _).alloc (Nat.le_refl _) _).drew) | exact Lib.hid ((((Below.refl _ _).alloc (Nat.le_refl _) _).alloc (by simp) _).drew)
           case hx => first | exact (Box.new _ _ _).alloc _ | exact Box.at1 (Box.new _ _ _) | exact Box.drewI ((Box.new _ _ _).alloc _) | exact Box.drewI (Box.at1 (Box.new _ _ _)) | exact Box.at1 (Box.drewI (Box.new _ _ _)) | exact (Box.drewI (Box.new _ _ _)).alloc _
           case hy => first | exact (Box.new _ _ _).alloc _ | exact Box.at1 (Box.new _ _ _) | exact Box.drewI ((Box.new _ _ _).alloc _) | exact Box.drewI (Box.at1 (Box.new _ _ _)) | exact Box.at1 (Box.drewI (Box.new _ _ _)) | exact (Box.drewI (Box.new _ _ _)).alloc _
           rintro e w7 ⟨⟨A7, n7, c7, fc, rfl, hfr⟩, hcu⟩))
    all_goals (
      have hb1 := hcu.out
      have hb7 := HB5.out.trans (hb1.mono HB5.out.size)
      clear H1 HK hcu0 hmkb hmkv
      clear bxa0 bxa1 bxa2 bxal bxc0 bxc1 bxc2 bxcl
      have HB7 := Lib.hid hb1
      replace bxa := bxa.keep hb1 bxa.lt
      replace bxc := bxc.keep hb1 bxc.lt
      replace HVa := Lib.hid (Rd.keep hb1 _ _ HVa.out)
      replace HVc := Lib.hid (Rd.keep hb1 _ _ HVc.out)
      replace hb := hb.trans (hb1.mono hb.size)
      clear hb1
      obtain ⟨bxa0, bxa1, bxa2⟩ := bxa.three
      have bxal := bxa.lt
      obtain ⟨bxc0, bxc1, bxc2⟩ := bxc.three
      have bxcl := bxc.lt
      have HU3 := Lib.hid (HU2.out w7 hb7)
      clear hb7 HU2
      go_wp2_with fail
      refine HU3.out.mono ?_
      intro e w8 hE
      obtain ⟨A8, n8, c8, gc, rfl, hb1, hE⟩ := hE
      have HE3 := Lib.hid hE
      have HB8 := Lib.hid hb1
      clear hE HU3
      clear bxa0 bxa1 bxa2 bxal bxc0 bxc1 bxc2 bxcl
      replace bxa := bxa.keep hb1 bxa.lt
      replace bxc := bxc.keep hb1 bxc.lt
      replace HVa := Lib.hid (Rd.keep hb1 _ _ HVa.out)
      replace HVc := Lib.hid (Rd.keep hb1 _ _ HVc.out)
      replace hb := hb.trans (hb1.mono hb.size)
      clear hb1
      cases R with
      | error er =>
        obtain ⟨rfl, hne, rfl, rfl, rfl⟩ : ec = er ∧ er ≠ 0 ∧ A5 = none ∧ n5 = 0 ∧ c5 = 0 := HE1.out
        obtain ⟨rfl, _, rfl, rfl, rfl⟩ : fc = ec ∧ fc ≠ 0 ∧ A7 = none ∧ n7 = 0 ∧ c7 = 0 := hfr.out
        obtain ⟨rfl, _, rfl, rfl, rfl⟩ : gc = fc ∧ fc ≠ 0 ∧ A8 = none ∧ n8 = 0 ∧ c8 = 0 := HE3.out
        have hC := refSbC (fun _ => True) (fun _ => True) [] [] none 0 0 none 0 0 w8 (bl_nil _ _) (bl_nil _ _)
        rw [same_refl] at hC
        have HC := Lib.hid hC
        have hC2 := fun w9 => refSbC (fun _ => True) (fun _ => True) [] [] none 0 0 none 0 0 w9 (bl_nil _ _) (bl_nil _ _)
        simp only [same_refl] at hC2
        have HC2 := Lib.hid hC2
        have hee : (gc == gc) = true := by simp
        clear hC hC2 HE1 HE3 hfr
        go_wp2_with fail
        refine HC.out.mono ?_
        rintro e w9 ⟨rfl, hb1⟩
        replace hb := hb.trans (hb1.mono hb.size)
        clear hb1
        go_wp2_with fail
        refine (HC2.out w9).mono ?_
        rintro e w10 ⟨rfl, hb1⟩
        replace hb := hb.trans (hb1.mono hb.size)
        clear hb1
        go_wp2_with fail
        go_ret
        exact ⟨rfl, hb⟩
      | ok bs =>
        obtain ⟨rfl, h5⟩ : ec = 0 ∧ BL (fun _ => True) w5 bs A5 n5 c5 := HE1.out
        obtain ⟨rfl, h7⟩ : fc = 0 ∧ BL (fun _ => True) w7 bs A7 n7 c7 := hfr.out
        obtain ⟨rfl, h8⟩ : gc = 0 ∧ BL (fun _ => True) w8 bs A8 n8 c8 := HE3.out
        have k7 := h7.keep HB8.out
        have k5 := (h5.keep HB7.out).keep HB8.out
        have hC := refSbC _ _ bs bs A5 n5 c5 A7 n7 c7 w8 k5 k7
        rw [same_refl] at hC
        have HC := Lib.hid hC
        have hC2 := fun w9 (h : Below w8.heap.size w8 w9) => refSbC _ _ bs bs A5 n5 c5 A8 n8 c8 w9 (k5.keep h) (h8.keep h)
        simp only [same_refl] at hC2
        have HC2 := Lib.hid hC2
        clear hC hC2 HE1 HE3 hfr k5 k7 h5 h7 h8
        go_wp2_with fail
        refine HC.out.mono ?_
        rintro e w9 ⟨rfl, hb1⟩
        have HC3 := Lib.hid (HC2.out w9 hb1)
        replace hb := hb.trans (hb1.mono hb.size)
        clear hb1 HC2
        go_wp2_with fail
        refine HC3.out.mono ?_
        rintro e w10 ⟨rfl, hb1⟩
        replace hb := hb.trans (hb1.mono hb.size)
        clear hb1
        go_wp2_with fail
        go_ret
        exact ⟨rfl, hb⟩)
end Go.Proofs.YtelicajhamgibaaGreat
