/-
  The walk of the law UnifySelf.
-/
import Derived.Test.YtelicajhamgibaaPkB
import Derived.Test.YtelicajhamgibaaPkJe
namespace Go.Proofs.Ytelicajhamgibaa
open Go.ChangeShapes Go.WideShapes Go.ChangeAt Go.RowKit
set_option linter.unusedVariables false

set_option maxRecDepth 100000 in
set_option maxHeartbeats 8000000 in
theorem unifySelfC (a c : T) (n : Int) (sz : List Int) (As : Option Addr) (L cs : Nat) (va vc : Value) (w : World) (hva : Rd w a va) (hvc : Rd w c vc) (hl : sz.length = L) (hlc : L ≤ cs) (hcm : cs ≤ maxLen) (hs : Nu w sz As) :
    Calls Try.prog 4 #[va, vc, .int .i64 n, .slice As L cs] w fun e w' => e = .returned (.bool true) ∧ Below w.heap.size w w' := by
  have HS := Lib.hid hs; clear hs
  have HLZ := Lib.hid hl; clear hl
  have hcm2 := hcm
  unfold maxLen at hcm2
  obtain ⟨ka, ha, Aa, na, ca, rfl⟩ := hva.full
  have HVa := Lib.hid hva; clear hva
  obtain ⟨kc, hc, Ac, nc, cc, rfl⟩ := hvc.full
  have HVc := Lib.hid hvc; clear hvc
  obtain ⟨W0, hW0⟩ : ∃ W0, ((w.alloc (.cells #[.int .i64 ka, .int .i64 ha, .slice Aa na ca] 31)).alloc (.cells #[.int .i64 kc, .int .i64 hc, .slice Ac nc cc] 31)) = W0 := ⟨_, rfl⟩
  have hb : Below w.heap.size w W0 := by rw [← hW0]; exact (((Below.refl _ _).alloc (Nat.le_refl _) _).alloc (by simp) _)
  have bxa : Box W0 (w.heap.size) 31 #[.int .i64 ka, .int .i64 ha, .slice Aa na ca] := by rw [← hW0]; exact ((Box.new w _ _).alloc _)
  have bxc : Box W0 (w.heap.size + 1) 31 #[.int .i64 kc, .int .i64 hc, .slice Ac nc cc] := by rw [← hW0]; exact ((Box.new (w.alloc _) _ _).at (by simp))
  replace HVa := Lib.hid (Rd.keep hb _ _ HVa.out)
  replace HVc := Lib.hid (Rd.keep hb _ _ HVc.out)
  have HW0 := Lib.hid hW0; clear hW0
  go_enter Try.func4, Try.ntmps4
  go_wp2_with fail
  rw [HW0.out]
  clear HW0
  refine (awakeN _).mono ?_
  rintro e w1 ⟨rfl, hb1⟩
  replace bxa := bxa.keep hb1 bxa.lt
  replace bxc := bxc.keep hb1 bxc.lt
  replace HVa := Lib.hid (Rd.keep hb1 _ _ HVa.out)
  replace HVc := Lib.hid (Rd.keep hb1 _ _ HVc.out)
  replace hb := hb.trans (hb1.mono hb.size)
  clear hb1
  obtain ⟨bxa0, bxa1, bxa2⟩ := bxa.three
  have bxal := bxa.lt
  obtain ⟨bxc0, bxc1, bxc2⟩ := bxc.three
  have bxcl := bxc.lt
  go_wp2_with fail
  refine (refLight a 300 60 _ _ HVa.out).mono ?_
  have HLa : Hid (ltB a 300 60 = true → ltB a 300 60 = true) := Lib.hid fun e => e
  generalize hqa : ltB a 300 60 = Ra at *
  rintro e w2a ⟨rfl, hb1⟩
  have HQa := Lib.hid hqa; clear hqa HLa
  clear bxa0 bxa1 bxa2 bxal bxc0 bxc1 bxc2 bxcl
  replace bxa := bxa.keep hb1 bxa.lt
  replace bxc := bxc.keep hb1 bxc.lt
  replace HVa := Lib.hid (Rd.keep hb1 _ _ HVa.out)
  replace HVc := Lib.hid (Rd.keep hb1 _ _ HVc.out)
  replace hb := hb.trans (hb1.mono hb.size)
  clear hb1
  obtain ⟨bxa0, bxa1, bxa2⟩ := bxa.three
  have bxal := bxa.lt
  obtain ⟨bxc0, bxc1, bxc2⟩ := bxc.three
  have bxcl := bxc.lt
  go_wp2_with fail
  refine (refLight c 300 60 _ _ HVc.out).mono ?_
  have HLc : Hid (ltB c 300 60 = true → ltB c 300 60 = true) := Lib.hid fun e => e
  generalize hqc : ltB c 300 60 = Rc at *
  rintro e w2c ⟨rfl, hb1⟩
  have HQc := Lib.hid hqc; clear hqc HLc
  clear bxa0 bxa1 bxa2 bxal bxc0 bxc1 bxc2 bxcl
  replace bxa := bxa.keep hb1 bxa.lt
  replace bxc := bxc.keep hb1 bxc.lt
  replace HVa := Lib.hid (Rd.keep hb1 _ _ HVa.out)
  replace HVc := Lib.hid (Rd.keep hb1 _ _ HVc.out)
  replace hb := hb.trans (hb1.mono hb.size)
  clear hb1
  obtain ⟨bxa0, bxa1, bxa2⟩ := bxa.three
  have bxal := bxa.lt
  obtain ⟨bxc0, bxc1, bxc2⟩ := bxc.three
  have bxcl := bxc.lt
  cases Ra
  · go_wp2_with fail
    go_ret
    exact ⟨rfl, hb⟩
  cases Rc
  · go_wp2_with fail
    go_ret
    exact ⟨rfl, hb⟩
  go_wp2_with fail
  refine (myC a _ _ HVa.out).mono ?_
  generalize hqa : myB a = Ma at *
  rintro e w3a ⟨rfl, hb1⟩
  have HMa := Lib.hid hqa; clear hqa
  clear bxa0 bxa1 bxa2 bxal bxc0 bxc1 bxc2 bxcl
  replace bxa := bxa.keep hb1 bxa.lt
  replace bxc := bxc.keep hb1 bxc.lt
  replace HVa := Lib.hid (Rd.keep hb1 _ _ HVa.out)
  replace HVc := Lib.hid (Rd.keep hb1 _ _ HVc.out)
  replace hb := hb.trans (hb1.mono hb.size)
  clear hb1
  obtain ⟨bxa0, bxa1, bxa2⟩ := bxa.three
  have bxal := bxa.lt
  obtain ⟨bxc0, bxc1, bxc2⟩ := bxc.three
  have bxcl := bxc.lt
  cases Ma
  · go_wp2_with fail
    go_ret
    exact ⟨rfl, hb⟩
  have KNa : Hid (Kn 300 60 a) := Lib.hid (kn_of HQa.out HMa.out); clear HQa HMa
  go_wp2_with fail
  refine (myC c _ _ HVc.out).mono ?_
  generalize hqc : myB c = Mc at *
  rintro e w3c ⟨rfl, hb1⟩
  have HMc := Lib.hid hqc; clear hqc
  clear bxa0 bxa1 bxa2 bxal bxc0 bxc1 bxc2 bxcl
  replace bxa := bxa.keep hb1 bxa.lt
  replace bxc := bxc.keep hb1 bxc.lt
  replace HVa := Lib.hid (Rd.keep hb1 _ _ HVa.out)
  replace HVc := Lib.hid (Rd.keep hb1 _ _ HVc.out)
  replace hb := hb.trans (hb1.mono hb.size)
  clear hb1
  obtain ⟨bxa0, bxa1, bxa2⟩ := bxa.three
  have bxal := bxa.lt
  obtain ⟨bxc0, bxc1, bxc2⟩ := bxc.three
  have bxcl := bxc.lt
  cases Mc
  · go_wp2_with fail
    go_ret
    exact ⟨rfl, hb⟩
  have KNc : Hid (Kn 300 60 c) := Lib.hid (kn_of HQc.out HMc.out); clear HQc HMc
  by_cases x1 : n < 0
  · have dx1 : decide (n < 0) = true := by simpa using x1
    go_wp2_with fail
    go_ret
    exact ⟨rfl, hb⟩
  have dx1 : decide (n < 0) = false := by simpa using x1
  by_cases x2 : 100 < n
  · have dx2 : decide (100 < n) = true := by simpa using x2
    go_wp2_with fail
    go_ret
    exact ⟨rfl, hb⟩
  have dx2 : decide (100 < n) = false := by simpa using x2
  by_cases hLm : 60 < L
  · have dL : decide ((60 : Int) < (L : Int)) = true := decide_eq_true (by omega)
    go_wp2_with fail
    go_ret
    exact ⟨rfl, hb⟩
  have dL : decide ((60 : Int) < (L : Int)) = false := decide_eq_false (by omega)
  go_wp2_with fail
  have HNU := Lib.hid (HS.out.keep hb)
  go_loopw [12] (fun i wr => ∃ (j : Nat), j ≤ L ∧ i = .int .i64 j ∧ w3c = wr ∧ Hid (∀ (i : Nat) (x : Int), i < j → sz[i]? = some x → 0 ≤ x ∧ x ≤ 100)) (fun i _ => L - (Go.RowKit.intOf i).toNat)
  case atStart => exact ⟨0, Nat.zero_le _, rfl, rfl, Lib.hid fun i x h => absurd h (Nat.not_lt_zero _)⟩
  case round =>
    obtain ⟨j, hj, rfl, rfl, HZ⟩ := hrel
    by_cases hlt : j < L
    · obtain ⟨z, hz⟩ : ∃ z, sz[j]? = some z := ⟨_, List.getElem?_eq_getElem (by rw [HLZ.out]; exact hlt)⟩
      obtain ⟨bS, oS, rfl, s0⟩ := HNU.out j z hz
      have hi0 : (0 : Int) ≤ j := by omega
      have hi1 : (j : Int) < L := by omega
      by_cases z0 : z < 0
      · have dz0 : decide (z < 0) = true := by simpa using z0
        go_wp2_with fail
        go_ret
        exact ⟨rfl, hb⟩
      have dz0 : decide (z < 0) = false := by simpa using z0
      by_cases z1 : 100 < z
      · have dz1 : decide (100 < z) = true := by simpa using z1
        go_wp2_with fail
        go_ret
        exact ⟨rfl, hb⟩
      have dz1 : decide (100 < z) = false := by simpa using z1
      have HJ : Hid (∀ (i : Nat) (x : Int), i < j + 1 → sz[i]? = some x → 0 ≤ x ∧ x ≤ 100) := Lib.hid fun i x hi hx => by
        rcases Nat.lt_succ_iff_lt_or_eq.1 hi with h | rfl
        · exact HZ.out i x h hx
        · rw [hz] at hx; cases hx; omega
      clear z0 z1 hz
      go_wp2_with fail
      go_roundw
      case rel => exact ⟨j + 1, by omega, by go_num, by first | rfl | trivial, HJ⟩
      case measure => simp [Go.RowKit.intOf]; omega
    obtain rfl : L = j := by omega
    have HSZ := Lib.hid (fun (i : Nat) (x : Int) (hx : sz[i]? = some x) => HZ.out i x (by rw [← HLZ.out]; exact (List.getElem?_eq_some_iff.1 hx).1) hx)
    clear hj hlt HZ HNU
    have HA1 : Hid (unA a a n sz = true) := Lib.hid (unA_of (by omega) (by omega) (by rw [HLZ.out]; omega) HSZ.out KNa.out.my KNa.out.my)
    have HA2 : Hid (unA a c n sz = true) := Lib.hid (unA_of (by omega) (by omega) (by rw [HLZ.out]; omega) HSZ.out KNa.out.my KNc.out.my)
    have hU := UnifyC a a n sz As cs _ _ _ _ _ _ _ _ _ _ w3c HVa.out HVa.out (fun _ => KNa.out.ok) (fun _ => KNa.out.ok) (by rw [HLZ.out]; exact hlc) hcm (HS.out.keep hb)
    rw [un_self HA1.out (by have := KNa.out.n4; omega), HLZ.out] at hU
    have HU1 := Lib.hid hU; clear hU HA1
    go_wp2_with fail
    refine HU1.out.mono ?_
    rintro e w4 ⟨A1, n1, c1, ec, rfl, hb1, rfl, hbl⟩
    replace bxa := bxa.keep hb1 bxa.lt
    replace bxc := bxc.keep hb1 bxc.lt
    replace HVa := Lib.hid (Rd.keep hb1 _ _ HVa.out)
    replace HVc := Lib.hid (Rd.keep hb1 _ _ HVc.out)
    replace hb := hb.trans (hb1.mono hb.size)
    clear hb1
    obtain ⟨bxa0, bxa1, bxa2⟩ := bxa.three
    have bxal := bxa.lt
    obtain ⟨bxc0, bxc1, bxc2⟩ := bxc.three
    have bxcl := bxc.lt
    obtain rfl : L = n1 := by have := hbl.len; simp at this; exact this
    have HBL := Lib.hid hbl
    have hc1 := hbl.le
    have hc2 := hbl.cap
    unfold maxLen at hc2
    clear hbl HU1
    go_wp2_with fail
    go_loopw [15] (fun i wr => ∃ (j : Nat), j ≤ L ∧ i = .int .i64 j ∧ w4 = wr) (fun i _ => L - (Go.RowKit.intOf i).toNat)
    case atStart => exact ⟨0, Nat.zero_le _, rfl, rfl⟩
    case round =>
      obtain ⟨j, hj, rfl, rfl⟩ := hrel
      by_cases hlt : j < L
      · obtain ⟨b, o, k2, h2, A2, n2, c2, rfl, d0, d1, d2, d3, hr⟩ := HBL.out.at_ j noB (by rw [List.getElem?_replicate, if_pos hlt])
        have hi0 : (0 : Int) ≤ j := by omega
        have hi1 : (j : Int) < L := by omega
        have d0 : w4.cell? ⟨b, o + j * 4, none⟩ = some (.bool false) := d0
        clear hr
        go_wp2_with fail
        go_roundw
        case rel => exact ⟨j + 1, by omega, by go_num, by first | rfl | trivial⟩
        case measure => simp [Go.RowKit.intOf]; omega
      obtain rfl : L = j := by omega
      clear hlt hj
      have hnda : nd a ≤ 1048576 := by have := KNa.out.n4; omega
      have HME := Lib.hid (oMetasC a _ _ HVa.out hnda)
      go_wp2_with fail
      refine HME.out.mono ?_
      rintro e w5 ⟨ua, rfl, hns, hb1⟩
      rw [mtO_eq] at hns
      obtain ⟨Am, cm, rfl, _⟩ := hns
      obtain ⟨Lma, hLm⟩ : ∃ L, (mtO a).length = L := ⟨_, rfl⟩
      rw [hLm]
      clear HME
      replace bxa := bxa.keep hb1 bxa.lt
      replace bxc := bxc.keep hb1 bxc.lt
      replace HVa := Lib.hid (Rd.keep hb1 _ _ HVa.out)
      replace HVc := Lib.hid (Rd.keep hb1 _ _ HVc.out)
      replace hb := hb.trans (hb1.mono hb.size)
      clear hb1
      obtain ⟨bxa0, bxa1, bxa2⟩ := bxa.three
      have bxal := bxa.lt
      obtain ⟨bxc0, bxc1, bxc2⟩ := bxc.three
      have bxcl := bxc.lt
      have HLMa := Lib.hid hLm; clear hLm hnda
      by_cases hL0a : 0 < Lma
      · have dM : decide ((0 : Int) < (Lma : Int)) = true := decide_eq_true (by omega)
        have dM2 : decide (0 < Lma) = true := decide_eq_true hL0a
        go_wp2_with fail
        go_ret
        exact ⟨rfl, hb⟩
      have dMa : decide ((0 : Int) < (Lma : Int)) = false := decide_eq_false (by omega)
      have dMa2 : decide (0 < Lma) = false := decide_eq_false hL0a
      have HMTa : Hid (mts a = []) := Lib.hid (mtO_nilU.1 (List.length_eq_zero_iff.1 (by rw [HLMa.out]; omega)))
      clear hL0a
      have hndc : nd c ≤ 1048576 := by have := KNc.out.n4; omega
      have HME := Lib.hid (oMetasC c _ _ HVc.out hndc)
      go_wp2_with fail
      refine HME.out.mono ?_
      rintro e w6 ⟨uc, rfl, hns, hb1⟩
      rw [mtO_eq] at hns
      obtain ⟨Am, cm, rfl, _⟩ := hns
      obtain ⟨Lmc, hLm⟩ : ∃ L, (mtO c).length = L := ⟨_, rfl⟩
      rw [hLm]
      clear HME
      clear bxa0 bxa1 bxa2 bxal bxc0 bxc1 bxc2 bxcl
      replace bxa := bxa.keep hb1 bxa.lt
      replace bxc := bxc.keep hb1 bxc.lt
      replace HVa := Lib.hid (Rd.keep hb1 _ _ HVa.out)
      replace HVc := Lib.hid (Rd.keep hb1 _ _ HVc.out)
      replace hb := hb.trans (hb1.mono hb.size)
      clear hb1
      obtain ⟨bxa0, bxa1, bxa2⟩ := bxa.three
      have bxal := bxa.lt
      obtain ⟨bxc0, bxc1, bxc2⟩ := bxc.three
      have bxcl := bxc.lt
      have HLMc := Lib.hid hLm; clear hLm hndc
      by_cases hL0c : 0 < Lmc
      · have dM : decide ((0 : Int) < (Lmc : Int)) = true := decide_eq_true (by omega)
        have dM2 : decide (0 < Lmc) = true := decide_eq_true hL0c
        go_wp2_with fail
        go_ret
        exact ⟨rfl, hb⟩
      have dMc : decide ((0 : Int) < (Lmc : Int)) = false := decide_eq_false (by omega)
      have dMc2 : decide (0 < Lmc) = false := decide_eq_false hL0c
      have HMTc : Hid (mts c = []) := Lib.hid (mtO_nilU.1 (List.length_eq_zero_iff.1 (by rw [HLMc.out]; omega)))
      clear hL0c
      have hU := UnifyC a c n sz As cs _ _ _ _ _ _ _ _ _ _ w6 HVa.out HVc.out (fun _ => KNa.out.ok) (fun _ => KNc.out.ok) (by rw [HLZ.out]; exact hlc) hcm (HS.out.keep hb)
      rw [un_bare HA2.out (by have := KNa.out.n4; omega) HMTa.out HMTc.out, HLZ.out] at hU
      have HSM : Hid (∀ W, Below w6.heap.size w6 W → Calls Try.prog 16 #[.agg #[.int .i64 ka, .int .i64 ha, .slice Aa na ca], .agg #[.int .i64 kc, .int .i64 hc, .slice Ac nc cc]] W fun e w' => e = .returned (.bool (samB a c)) ∧ Below W.heap.size W w') := Lib.hid fun W h => termSame a c _ _ W (Rd.keep h _ _ HVa.out) (Rd.keep h _ _ HVc.out)
      generalize samB a c = s at *
      have HU1 := Lib.hid hU; clear hU HA2
      go_wp2_with fail
      refine HU1.out.mono ?_
      intro e w7 hE
      obtain ⟨A7, n7, c7, ec, rfl, hb1, hE⟩ := hE
      have hcs := HSM.out w7 hb1
      have HCS := Lib.hid hcs; clear hcs HSM HU1
      clear bxa0 bxa1 bxa2 bxal bxc0 bxc1 bxc2 bxcl
      replace bxa := bxa.keep hb1 bxa.lt
      replace bxc := bxc.keep hb1 bxc.lt
      replace HVa := Lib.hid (Rd.keep hb1 _ _ HVa.out)
      replace HVc := Lib.hid (Rd.keep hb1 _ _ HVc.out)
      replace hb := hb.trans (hb1.mono hb.size)
      clear hb1
      obtain ⟨bxa0, bxa1, bxa2⟩ := bxa.three
      have bxal := bxa.lt
      obtain ⟨bxc0, bxc1, bxc2⟩ := bxc.three
      have bxcl := bxc.lt
      cases s
      · obtain ⟨rfl, _, rfl, rfl, rfl⟩ : ec = 6 ∧ (6 : Int) ≠ 0 ∧ A7 = none ∧ n7 = 0 ∧ c7 = 0 := hE
        go_wp2_with fail
        refine HCS.out.mono ?_
        rintro e w8 ⟨rfl, hb1⟩
        have hbf := hb.trans (hb1.mono hb.size)
        clear hb1
        go_wp2_with fail
        go_ret
        exact ⟨rfl, hbf⟩
      · obtain ⟨rfl, _⟩ : ec = 0 ∧ _ := hE
        go_wp2_with fail
        refine HCS.out.mono ?_
        rintro e w8 ⟨rfl, hb1⟩
        have hbf := hb.trans (hb1.mono hb.size)
        clear hb1
        go_wp2_with fail
        go_ret
        exact ⟨rfl, hbf⟩
end Go.Proofs.Ytelicajhamgibaa
