/-
  The walk of the law UnifySame.
-/
import Derived.Test.YtelicajhamgibaaGreatPkB
import Derived.Test.YtelicajhamgibaaGreatPkS
import Derived.Test.YtelicajhamgibaaGreatPkOf
import Derived.Test.YtelicajhamgibaaGreatWl
namespace Go.Proofs.YtelicajhamgibaaGreat
open Go.ChangeShapes Go.WideShapes Go.ChangeAt Go.RowKit
set_option linter.unusedVariables false

set_option maxRecDepth 100000 in
set_option maxHeartbeats 8000000 in
theorem unifySameC (a c : T) (n : Int) (sz : List Int) (As : Option Addr) (L cs : Nat) (va vc : Value) (w : World) (hva : Rd w a va) (hvc : Rd w c vc) (hl : sz.length = L) (hlc : L ≤ cs) (hcm : cs ≤ maxLen) (hs : Nu w sz As) :
    Calls Tryz.prog 4 #[va, vc, .int .i64 n, .slice As L cs] w fun e w' => e = .returned (.bool true) ∧ Below w.heap.size w w' := by
  have HS := Lib.hid hs; clear hs
  have HLZ := Lib.hid hl; clear hl
  have hcm2 := hcm
  unfold maxLen at hcm2
  obtain ⟨ka, ha, Aa, na, ca, rfl⟩ := hva.full
  have HVa := Lib.hid hva; clear hva
  obtain ⟨kc, hc, Ac, nc, cc, rfl⟩ := hvc.full
  have HVc := Lib.hid hvc; clear hvc
  obtain ⟨W0, hW0⟩ : ∃ W0, ((w.alloc (.cells #[.int .i64 ka, .int .i64 ha, .slice Aa na ca] 24)).alloc (.cells #[.int .i64 kc, .int .i64 hc, .slice Ac nc cc] 24)) = W0 := ⟨_, rfl⟩
  have hb : Below w.heap.size w W0 := by rw [← hW0]; exact (((Below.refl _ _).alloc (Nat.le_refl _) _).alloc (by simp) _)
  have bxa : Box W0 (w.heap.size) 24 #[.int .i64 ka, .int .i64 ha, .slice Aa na ca] := by rw [← hW0]; exact ((Box.new w _ _).alloc _)
  have bxc : Box W0 (w.heap.size + 1) 24 #[.int .i64 kc, .int .i64 hc, .slice Ac nc cc] := by rw [← hW0]; exact ((Box.new (w.alloc _) _ _).at (by simp))
  replace HVa := Lib.hid (Rd.keep hb _ _ HVa.out)
  replace HVc := Lib.hid (Rd.keep hb _ _ HVc.out)
  have HW0 := Lib.hid hW0; clear hW0
  go_enter Tryz.func4, Tryz.ntmps4
  go_wp2_with fail
  rw [HW0.out]
  clear HW0
  refine (awakeN _).mono ?_
  rintro e w1 ⟨rfl, hb1⟩
  replace bxa := bxa.keep hb1 bxa.lt
  replace bxc := bxc.keep hb1 bxc.lt
  replace HVa := Lib.hid (Rd.keep hb1 _ _ HVa.out)
  replace HVc := Lib.hid (Rd.keep hb1 _ _ HVc.out)
  replace hb := hb.trans (hb1.mono hb.size)
  clear hb1
  obtain ⟨bxa0, bxa1, bxa2⟩ := bxa.three
  have bxal := bxa.lt
  obtain ⟨bxc0, bxc1, bxc2⟩ := bxc.three
  have bxcl := bxc.lt
  go_wp2_with fail
  refine (refLight a 300 60 _ _ HVa.out).mono ?_
  have HLa : Hid (ltB a 300 60 = true → ltB a 300 60 = true) := Lib.hid fun e => e
  generalize hqa : ltB a 300 60 = Ra at *
  rintro e w2a ⟨rfl, hb1⟩
  have HQa := Lib.hid hqa; clear hqa HLa
  clear bxa0 bxa1 bxa2 bxal bxc0 bxc1 bxc2 bxcl
  replace bxa := bxa.keep hb1 bxa.lt
  replace bxc := bxc.keep hb1 bxc.lt
  replace HVa := Lib.hid (Rd.keep hb1 _ _ HVa.out)
  replace HVc := Lib.hid (Rd.keep hb1 _ _ HVc.out)
  replace hb := hb.trans (hb1.mono hb.size)
  clear hb1
  obtain ⟨bxa0, bxa1, bxa2⟩ := bxa.three
  have bxal := bxa.lt
  obtain ⟨bxc0, bxc1, bxc2⟩ := bxc.three
  have bxcl := bxc.lt
  go_wp2_with fail
  refine (refLight c 300 60 _ _ HVc.out).mono ?_
  have HLc : Hid (ltB c 300 60 = true → ltB c 300 60 = true) := Lib.hid fun e => e
  generalize hqc : ltB c 300 60 = Rc at *
  rintro e w2c ⟨rfl, hb1⟩
  have HQc := Lib.hid hqc; clear hqc HLc
  clear bxa0 bxa1 bxa2 bxal bxc0 bxc1 bxc2 bxcl
  replace bxa := bxa.keep hb1 bxa.lt
  replace bxc := bxc.keep hb1 bxc.lt
  replace HVa := Lib.hid (Rd.keep hb1 _ _ HVa.out)
  replace HVc := Lib.hid (Rd.keep hb1 _ _ HVc.out)
  replace hb := hb.trans (hb1.mono hb.size)
  clear hb1
  obtain ⟨bxa0, bxa1, bxa2⟩ := bxa.three
  have bxal := bxa.lt
  obtain ⟨bxc0, bxc1, bxc2⟩ := bxc.three
  have bxcl := bxc.lt
  go_wp2_with fail
  refine (sizedC sz As L cs HLZ.out hlc hcm a _ _ HVa.out (HS.out.keep hb)).mono ?_
  obtain ⟨Sa, hSa⟩ : ∃ S, zdB sz a = S := ⟨_, rfl⟩
  rw [hSa]
  have HZa := Lib.hid hSa; clear hSa
  rintro e w2sa ⟨rfl, hb1⟩
  clear bxa0 bxa1 bxa2 bxal bxc0 bxc1 bxc2 bxcl
  replace bxa := bxa.keep hb1 bxa.lt
  replace bxc := bxc.keep hb1 bxc.lt
  replace HVa := Lib.hid (Rd.keep hb1 _ _ HVa.out)
  replace HVc := Lib.hid (Rd.keep hb1 _ _ HVc.out)
  replace hb := hb.trans (hb1.mono hb.size)
  clear hb1
  obtain ⟨bxa0, bxa1, bxa2⟩ := bxa.three
  have bxal := bxa.lt
  obtain ⟨bxc0, bxc1, bxc2⟩ := bxc.three
  have bxcl := bxc.lt
  go_wp2_with fail
  refine (sizedC sz As L cs HLZ.out hlc hcm c _ _ HVc.out (HS.out.keep hb)).mono ?_
  obtain ⟨Sc, hSc⟩ : ∃ S, zdB sz c = S := ⟨_, rfl⟩
  rw [hSc]
  have HZc := Lib.hid hSc; clear hSc
  rintro e w2sc ⟨rfl, hb1⟩
  clear bxa0 bxa1 bxa2 bxal bxc0 bxc1 bxc2 bxcl
  replace bxa := bxa.keep hb1 bxa.lt
  replace bxc := bxc.keep hb1 bxc.lt
  replace HVa := Lib.hid (Rd.keep hb1 _ _ HVa.out)
  replace HVc := Lib.hid (Rd.keep hb1 _ _ HVc.out)
  replace hb := hb.trans (hb1.mono hb.size)
  clear hb1
  obtain ⟨bxa0, bxa1, bxa2⟩ := bxa.three
  have bxal := bxa.lt
  obtain ⟨bxc0, bxc1, bxc2⟩ := bxc.three
  have bxcl := bxc.lt
  cases Ra
  · go_wp2_with fail
    go_ret
    exact ⟨rfl, hb⟩
  cases Rc
  · go_wp2_with fail
    go_ret
    exact ⟨rfl, hb⟩
  cases Sa
  · go_wp2_with fail
    go_ret
    exact ⟨rfl, hb⟩
  cases Sc
  · go_wp2_with fail
    go_ret
    exact ⟨rfl, hb⟩
  go_wp2_with fail
  refine (myC a _ _ HVa.out).mono ?_
  generalize hqa : myB a = Ma at *
  rintro e w3a ⟨rfl, hb1⟩
  have HMa := Lib.hid hqa; clear hqa
  clear bxa0 bxa1 bxa2 bxal bxc0 bxc1 bxc2 bxcl
  replace bxa := bxa.keep hb1 bxa.lt
  replace bxc := bxc.keep hb1 bxc.lt
  replace HVa := Lib.hid (Rd.keep hb1 _ _ HVa.out)
  replace HVc := Lib.hid (Rd.keep hb1 _ _ HVc.out)
  replace hb := hb.trans (hb1.mono hb.size)
  clear hb1
  obtain ⟨bxa0, bxa1, bxa2⟩ := bxa.three
  have bxal := bxa.lt
  obtain ⟨bxc0, bxc1, bxc2⟩ := bxc.three
  have bxcl := bxc.lt
  cases Ma
  · go_wp2_with fail
    go_ret
    exact ⟨rfl, hb⟩
  have KNa : Hid (Kn 300 60 a) := Lib.hid (kn_of HQa.out HMa.out); clear HQa HMa
  go_wp2_with fail
  refine (myC c _ _ HVc.out).mono ?_
  generalize hqc : myB c = Mc at *
  rintro e w3c ⟨rfl, hb1⟩
  have HMc := Lib.hid hqc; clear hqc
  clear bxa0 bxa1 bxa2 bxal bxc0 bxc1 bxc2 bxcl
  replace bxa := bxa.keep hb1 bxa.lt
  replace bxc := bxc.keep hb1 bxc.lt
  replace HVa := Lib.hid (Rd.keep hb1 _ _ HVa.out)
  replace HVc := Lib.hid (Rd.keep hb1 _ _ HVc.out)
  replace hb := hb.trans (hb1.mono hb.size)
  clear hb1
  obtain ⟨bxa0, bxa1, bxa2⟩ := bxa.three
  have bxal := bxa.lt
  obtain ⟨bxc0, bxc1, bxc2⟩ := bxc.three
  have bxcl := bxc.lt
  cases Mc
  · go_wp2_with fail
    go_ret
    exact ⟨rfl, hb⟩
  have KNc : Hid (Kn 300 60 c) := Lib.hid (kn_of HQc.out HMc.out); clear HQc HMc
  by_cases x1 : n < 0
  · have dx1 : decide (n < 0) = true := by simpa using x1
    go_wp2_with fail
    go_ret
    exact ⟨rfl, hb⟩
  have dx1 : decide (n < 0) = false := by simpa using x1
  by_cases x2 : 100 < n
  · have dx2 : decide (100 < n) = true := by simpa using x2
    go_wp2_with fail
    go_ret
    exact ⟨rfl, hb⟩
  have dx2 : decide (100 < n) = false := by simpa using x2
  by_cases hLm : 60 < L
  · have dL : decide ((60 : Int) < (L : Int)) = true := decide_eq_true (by omega)
    go_wp2_with fail
    go_ret
    exact ⟨rfl, hb⟩
  have dL : decide ((60 : Int) < (L : Int)) = false := decide_eq_false (by omega)
  go_wp2_with fail
  have HNU := Lib.hid (HS.out.keep hb)
  go_loopw [14] (fun i wr => ∃ (j : Nat), j ≤ L ∧ i = .int .i64 j ∧ w3c = wr ∧ Hid (∀ (i : Nat) (x : Int), i < j → sz[i]? = some x → 0 ≤ x ∧ x ≤ 100)) (fun i _ => L - (Go.RowKit.intOf i).toNat)
  case atStart => exact ⟨0, Nat.zero_le _, rfl, rfl, Lib.hid fun i x h => absurd h (Nat.not_lt_zero _)⟩
  case round =>
    obtain ⟨j, hj, rfl, rfl, HZ⟩ := hrel
    by_cases hlt : j < L
    · obtain ⟨z, hz⟩ : ∃ z, sz[j]? = some z := ⟨_, List.getElem?_eq_getElem (by rw [HLZ.out]; exact hlt)⟩
      obtain ⟨bS, oS, rfl, s0⟩ := HNU.out j z hz
      have hi0 : (0 : Int) ≤ j := by omega
      have hi1 : (j : Int) < L := by omega
      by_cases z0 : z < 0
      · have dz0 : decide (z < 0) = true := by simpa using z0
        go_wp2_with fail
        go_ret
        exact ⟨rfl, hb⟩
      have dz0 : decide (z < 0) = false := by simpa using z0
      by_cases z1 : 100 < z
      · have dz1 : decide (100 < z) = true := by simpa using z1
        go_wp2_with fail
        go_ret
        exact ⟨rfl, hb⟩
      have dz1 : decide (100 < z) = false := by simpa using z1
      have HJ : Hid (∀ (i : Nat) (x : Int), i < j + 1 → sz[i]? = some x → 0 ≤ x ∧ x ≤ 100) := Lib.hid fun i x hi hx => by
        rcases Nat.lt_succ_iff_lt_or_eq.1 hi with h | rfl
        · exact HZ.out i x h hx
        · rw [hz] at hx; cases hx; omega
      clear z0 z1 hz
      go_wp2_with fail
      go_roundw
      case rel => exact ⟨j + 1, by omega, by go_num, by first | rfl | trivial, HJ⟩
      case measure => simp [Go.RowKit.intOf]; omega
    obtain rfl : L = j := by omega
    have HSZ := Lib.hid (fun (i : Nat) (x : Int) (hx : sz[i]? = some x) => HZ.out i x (by rw [← HLZ.out]; exact (List.getElem?_eq_some_iff.1 hx).1) hx)
    clear hj hlt HZ HNU
    have HA1 := Lib.hid (unA_of (n := n) (by omega) (by omega) (by rw [HLZ.out]; omega) HSZ.out KNa.out.my KNc.out.my)
    have hoa := okT_of a KNa.out.nod KNa.out.lo
    have hoc := okT_of c KNc.out.nod KNc.out.lo
    have HOA := Lib.hid hoa
    have HOC := Lib.hid hoc
    have hF := fun bs (h1 : unR a c n sz = .ok bs) => same_facts HA1.out hoa hoc (zdB_zd a HZa.out) (zdB_zd c HZc.out) HSZ.out h1
    have hU := UnifyC a c n sz As cs _ _ _ _ _ _ _ _ _ _ w3c HVa.out HVc.out (fun _ => hoa) (fun _ => hoc) (by rw [HLZ.out]; exact hlc) hcm (HS.out.keep hb)
    obtain ⟨R1, hR1⟩ : ∃ R, unR a c n sz = R := ⟨_, rfl⟩
    rw [hR1, HLZ.out] at hU
    rw [hR1] at hF
    have HU1 := Lib.hid hU; clear hU
    have HF := Lib.hid hF; clear hF
    have HL60 : Hid (L ≤ 60) := Lib.hid (by omega)
    clear hR1 HA1 hoa hoc HSZ
    go_wp2_with fail
    refine HU1.out.mono ?_
    intro e w5 hE
    obtain ⟨A5, n5, c5, ec, rfl, hb1, hE⟩ := hE
    have HE1 := Lib.hid hE
    clear hE HU1
    replace bxa := bxa.keep hb1 bxa.lt
    replace bxc := bxc.keep hb1 bxc.lt
    replace HVa := Lib.hid (Rd.keep hb1 _ _ HVa.out)
    replace HVc := Lib.hid (Rd.keep hb1 _ _ HVc.out)
    replace hb := hb.trans (hb1.mono hb.size)
    clear hb1
    obtain ⟨bxa0, bxa1, bxa2⟩ := bxa.three
    have bxal := bxa.lt
    obtain ⟨bxc0, bxc1, bxc2⟩ := bxc.three
    have bxcl := bxc.lt
    cases R1 with
    | error er =>
      obtain ⟨rfl, hne, rfl, rfl, rfl⟩ : ec = er ∧ er ≠ 0 ∧ A5 = none ∧ n5 = 0 ∧ c5 = 0 := HE1.out
      have hne' : (ec != 0) = true := by simpa using hne
      clear hne HE1 HF
      go_wp2_with fail
      go_ret
      exact ⟨rfl, hb⟩
    | ok bs =>
      obtain ⟨rfl, hbl⟩ : ec = 0 ∧ BL (fun _ => True) w5 bs A5 n5 c5 := HE1.out
      obtain ⟨hbn, hnd, hmt, hfo, hsm⟩ := HF.out bs rfl
      have hnL : n5 = L := hbl.len.symm.trans (hbn.trans HLZ.out)
      subst hnL
      have HBL := Lib.hid hbl; clear hbl
      have HND := Lib.hid hnd; clear hnd
      have HMT := Lib.hid hmt; clear hmt
      have HFO := Lib.hid hfo; clear hfo
      have HSM := Lib.hid hsm; clear hsm
      clear HE1 HF hbn
      go_wp2_with fail
      go_loopw [17] (fun i wr => ∃ (j : Nat), j ≤ n5 ∧ i = .int .i64 j ∧ Hid (Below w5.heap.size w5 wr)) (fun i _ => n5 - (Go.RowKit.intOf i).toNat)
      case atStart => exact ⟨0, Nat.zero_le _, rfl, Lib.hid (Below.refl _ _)⟩
      case round =>
        obtain ⟨j, hj, rfl, HBR⟩ := hrel
        by_cases hlt : j < n5
        · obtain ⟨x, hx⟩ := at_of HBL.out.len hlt
          obtain ⟨b2, o2, k2, h2, A2, n2, c2, rfl, d0, d1, d2, d3, hr2⟩ := (HBL.out.at_ j x hx).keep HBR.out
          have hi0 : (0 : Int) ≤ j := by omega
          have hi1 : (j : Int) < n5 := by omega
          have hmx := oMetasC x.2 _ wr (RdF.rd _ _ hr2) (by have := HND.out x (List.mem_of_getElem? hx); omega)
          rw [mtO_eq] at hmx
          have HMX := Lib.hid hmx; clear hmx
          have HX := Lib.hid hx; clear hx hr2
          go_wp2_with fail
          refine HMX.out.mono ?_
          clear HMX
          rintro e w6 ⟨u6, rfl, hns, hb1⟩
          obtain ⟨Am, cm, rfl, hcm1, hcm4, hma⟩ := hns
          obtain ⟨Lp, hLp⟩ : ∃ Lq, (mtO x.2).length = Lq := ⟨_, rfl⟩
          rw [hLp] at hcm1 ⊢
          have HLP := Lib.hid hLp; clear hLp
          have HMA := Lib.hid hma; clear hma
          have hcm3 := hcm4
          unfold maxLen at hcm3
          have HBS : Hid (Below w5.heap.size w5 w6) := Lib.hid (HBR.out.trans (hb1.mono HBR.out.size))
          replace d0 := (hb1.cell (cell_lt d0)).trans d0
          clear d1 d2 d3 hb1 HBR
          obtain ⟨J, hJ⟩ : ∃ J : Int, (j : Int) = J := ⟨_, rfl⟩
          have hjn : J.toNat = j := by omega
          rw [← hjn] at d0
          rw [hJ] at hi0 hi1 ⊢
          have HJ := Lib.hid hJ; clear hJ hjn
          obtain ⟨X1, hX1⟩ : ∃ X1, x.1 = X1 := ⟨_, rfl⟩
          rw [hX1] at d0
          have HX1 := Lib.hid hX1; clear hX1
          go_wp2_with fail
          go_loopw [19] (fun i wr => ∃ (q : Nat), q ≤ Lp ∧ i = .int .i64 q ∧ w6 = wr) (fun i _ => Lp - (Go.RowKit.intOf i).toNat)
          case atStart => exact ⟨0, Nat.zero_le _, rfl, rfl⟩
          case round =>
            obtain ⟨q, hq, rfl, rfl⟩ := hrel
            by_cases hql : q < Lp
            · have hq0 : (0 : Int) ≤ q := by omega
              have hq1 : (q : Int) < Lp := by omega
              cases X1
              · go_wp2_with fail
                go_roundw
                case rel => exact ⟨j + 1, by omega, by rw [← HJ.out]; go_num, HBS⟩
                case measure => have := HJ.out; simp [Go.RowKit.intOf]; omega
              · obtain ⟨G, hg⟩ := at_of HLP.out hql
                obtain ⟨bm, om, rfl, cm0⟩ := HMA.out q G hg
                obtain ⟨hg0, y, hy, hy1⟩ := HMT.out j x HX.out HX1.out G (List.mem_of_getElem? hg)
                obtain ⟨b3, o3, k3, h3, A3, n3, c3, e3, f0, f1, f2, f3, hr3⟩ := (HBL.out.at_ _ y hy).keep HBS.out
                cases e3
                have hgn : G < (n5 : Int) := by have := (List.getElem?_eq_some_iff.1 hy).1; have := HBL.out.len; omega
                rw [hy1] at f0
                have hge : decide ((n5 : Int) ≤ G) = false := decide_eq_false (by omega)
                clear hg hy hy1 hr3 f1 f2 f3
                go_wp2_with fail
                go_roundw
                case rel => exact ⟨q + 1, by omega, by go_num, by first | rfl | trivial⟩
                case measure => simp [Go.RowKit.intOf]; omega
            · obtain rfl : Lp = q := by omega
              go_wp2_with fail
              go_roundw
              case rel => exact ⟨j + 1, by omega, by rw [← HJ.out]; go_num, HBS⟩
              case measure => have := HJ.out; simp [Go.RowKit.intOf]; omega
        obtain rfl : n5 = j := by omega
        clear bxa0 bxa1 bxa2 bxal bxc0 bxc1 bxc2 bxcl
        have hwd : ∀ x ∈ bs, wd x.2 ≤ 3518437208780 := fun x hx => by have := wd_nd x.2; have := HND.out x hx; omega
        clear HMT hj hlt
        have hb1 := HBR.out
        have HBL := Lib.hid (HBL.out.keep hb1)
        replace bxa := bxa.keep hb1 bxa.lt
        replace bxc := bxc.keep hb1 bxc.lt
        replace HVa := Lib.hid (Rd.keep hb1 _ _ HVa.out)
        replace HVc := Lib.hid (Rd.keep hb1 _ _ HVc.out)
        replace hb := hb.trans (hb1.mono hb.size)
        clear hb1
        clear HBR
        obtain ⟨bxa0, bxa1, bxa2⟩ := bxa.three
        have bxal := bxa.lt
        obtain ⟨bxc0, bxc1, bxc2⟩ := bxc.three
        have bxcl := bxc.lt
        obtain ⟨TA, hTA⟩ : ∃ t, exT (fiR (fulL sz bs 0) n a) = t := ⟨_, rfl⟩
        obtain ⟨EA, hEA⟩ : ∃ t, exE (fiR (fulL sz bs 0) n a) = t := ⟨_, rfl⟩
        obtain ⟨TC, hTC⟩ : ∃ t, exT (fiR (fulL sz bs 0) n c) = t := ⟨_, rfl⟩
        obtain ⟨EC, hEC⟩ : ∃ t, exE (fiR (fulL sz bs 0) n c) = t := ⟨_, rfl⟩
        have HEQ : Hid (EA = 0 → EC = 0 → samB TA TC = true) := Lib.hid fun h1 h2 => by
          rw [← hTA, ← hTC]
          exact same_end HSM.out (hEA.trans h1) (hEC.trans h2)
        have HFU : Hid (∀ W0 W', Hid (Below wr.heap.size wr W0) → Hid (Below W0.heap.size W0 W') → Calls Tryz.prog 15 #[.slice A5 n5 c5, .slice As n5 cs] W' (fun e w' => (∃ q, e = .returned (.slice (some ⟨q, 0, none⟩) n5 n5) ∧ Hid (∀ i t, (fulL sz bs 0)[i]? = some t → RdAt w' (some ⟨q, 0, none⟩) i t) ∧ Below W'.heap.size W' w') ∧ Hid (Below W0.heap.size W0 w'))) := Lib.hid fun W0 W' h0 h =>
          (FullC bs sz A5 n5 c5 As n5 cs W' (HBL.out.keep (cur_trans h0 h.out).out) hwd HL60.out HLZ.out hlc hcm (HS.out.keep (hb.trans ((cur_trans h0 h.out).out.mono hb.size)))).mono fun e w' hE => by
            obtain ⟨q, he, hr, hb'⟩ := hE
            exact ⟨⟨q, he, Lib.hid hr, hb'⟩, cur_trans h hb'⟩
        have HFI : Hid (∀ (t : T) (v : Value) (q : Nat) (W0 W' : World), okT 1099511627776 t → Hid (∀ i t, (fulL sz bs 0)[i]? = some t → RdAt W0 (some ⟨q, 0, none⟩) i t) → Below W0.heap.size W0 W' → Rd W0 t v → Calls Tryz.prog 14 #[v, .slice (some ⟨q, 0, none⟩) n5 n5, .int .i64 n] W' (fun e w' => TEnd (exT (fiR (fulL sz bs 0) n t)) (exE (fiR (fulL sz bs 0) n t)) W' e w' ∧ Below W'.heap.size W' w')) := Lib.hid fun t v q W0 W' ht hr h hv =>
          (FillC (th := fulL sz bs 0) (t := t) (n := n) W' ⟨fun y hy _ => HFO.out y hy, (fulL_len sz bs 0).trans HBL.out.len, Nat.le_refl _, by have := HL60.out; unfold maxLen; omega, fun i x hx => RdAt.keep h (hr.out i x hx)⟩ (Rd.keep h _ _ hv) (fun _ => okT_mono (by omega) _ ht)).mono fun e w' h' => ⟨h'.tend, h'.below⟩
        have HEA := Lib.hid hEA
        have HTA := Lib.hid hTA
        have HEC := Lib.hid hEC
        have HTC := Lib.hid hTC
        clear hEA hTA hEC hTC hwd
        go_wp2_with fail
        have HCU : Hid (Below wr.heap.size wr wr) := Lib.hid (Below.refl _ _)
        have HK : Hid (∀ w', Hid (Below wr.heap.size wr w') → (w'.cell? ⟨w.heap.size, 0, none⟩ = some (.int .i64 ka) ∧ w'.cell? ⟨w.heap.size, 1, none⟩ = some (.int .i64 ha) ∧ w'.cell? ⟨w.heap.size, 2, none⟩ = some (.slice Aa na ca) ∧ w'.cell? ⟨w.heap.size + 1, 0, none⟩ = some (.int .i64 kc) ∧ w'.cell? ⟨w.heap.size + 1, 1, none⟩ = some (.int .i64 hc) ∧ w'.cell? ⟨w.heap.size + 1, 2, none⟩ = some (.slice Ac nc cc) ∧ Hid (Below wr.heap.size wr w'))) := Lib.hid fun w' h => by
          have s0 := bxa.keep h.out bxa.lt
          have s1 := bxc.keep h.out bxc.lt
          exact ⟨s0.three.1, s0.three.2.1, s0.three.2.2, s1.three.1, s1.three.2.1, s1.three.2.2, h⟩
        have hcu0 : Hid (Below wr.heap.size wr wr.drew) := cur_drew
        go_region_held3 (fun w' => w'.cell? ⟨w.heap.size, 0, none⟩ = some (.int .i64 ka) ∧ w'.cell? ⟨w.heap.size, 1, none⟩ = some (.int .i64 ha) ∧ w'.cell? ⟨w.heap.size, 2, none⟩ = some (.slice Aa na ca) ∧ w'.cell? ⟨w.heap.size + 1, 0, none⟩ = some (.int .i64 kc) ∧ w'.cell? ⟨w.heap.size + 1, 1, none⟩ = some (.int .i64 hc) ∧ w'.cell? ⟨w.heap.size + 1, 2, none⟩ = some (.slice Ac nc cc) ∧ Hid (Below wr.heap.size wr w'))
          (first | exact HK.out _ (by assumption) | exact HK.out _ (cur_alloc (by assumption) _) | exact HK.out _ (cur_alloc (cur_alloc (by assumption) _) _) | exact HK.out _ (Lib.hid (((Below.refl _ _).alloc (Nat.le_refl _) _).drew)) | exact HK.out _ (Lib.hid ((((Below.refl _ _).alloc (Nat.le_refl _) _).alloc (by simp) _).drew)) | exact HK.out _ (cur_set3 (by assumption) (by omega) _ _ _))
          (first
            | (go_at_call 14
               with_reducible refine Calls.mono (HAP.out _ ?hh) ?_
               case hh => first | exact Below.refl _ w9t | exact (Below.refl _ w9t).alloc (Nat.le_refl _) _ | exact ((Below.refl _ w9t).alloc (Nat.le_refl _) _).alloc (by simp) _
               rintro e w9 ⟨⟨kp, hp, Ap, np, cp, rfl, hrd, hb9⟩, hcu9⟩
               first | (have zP := Box.keepC (cs := #[.int .i64 0, .int .i64 0, .slice none 0 0]) (ty := 24) (by first | exact zP | exact zP.alloc _ | exact (zP.alloc _).alloc _ | exact Box.new _ _ _ | exact (Box.new _ _ _).alloc _ | exact Box.drewI (Box.new _ _ _) | exact Box.drewI ((Box.new _ _ _).alloc _)) hb9; (try (with_reducible replace zP := zP.at1)); have lzhb9 := zP.lt) | skip
               have hs9 := hcu9.out.size
               have HRp := Lib.hid hrd
               first | (obtain ⟨z0, z1, z2⟩ := zP.three; have fz0 := zP.frozen 0; have fz1 := zP.frozen 1; have fz2 := zP.frozen 2) | skip
               clear hrd hb9)
            | (go_at_call 15
               with_reducible refine Calls.mono (HFU.out wr _ HCU ?hh) ?_
               case hh => first | assumption | exact cur_alloc (by assumption) _ | exact cur_alloc (cur_alloc (by assumption) _) _ | exact Lib.hid (((Below.refl _ _).alloc (Nat.le_refl _) _).drew) | exact Lib.hid ((((Below.refl _ _).alloc (Nat.le_refl _) _).alloc (by simp) _).drew)
               rintro e w9t ⟨⟨q8, rfl, hrd8, hb8⟩, hcu8⟩
               have hs8 := hcu8.out.size
               first | (have zP := Box.keepC (cs := #[.int .i64 0, .int .i64 0, .slice none 0 0]) (ty := 24) (by first | exact zP | exact zP.alloc _ | exact (zP.alloc _).alloc _ | exact Box.new _ _ _ | exact (Box.new _ _ _).alloc _ | exact Box.drewI (Box.new _ _ _) | exact Box.drewI ((Box.new _ _ _).alloc _)) hb8; (try (with_reducible replace zP := zP.at1)); have lzhb8 := zP.lt) | skip
               have HAP : Hid (∀ W', Below w9t.heap.size w9t W' → Calls Tryz.prog 14 #[.agg #[.int .i64 ka, .int .i64 ha, .slice Aa na ca], .slice (some ⟨q8, 0, none⟩) n5 n5, .int .i64 n] W' (fun e w' => TEnd TA EA W' e w' ∧ Hid (Below wr.heap.size wr w'))) := Lib.hid fun W' h => by
                  have := HFI.out a _ q8 w9t W' HOA.out hrd8 h (Rd.keep hcu8.out _ _ HVa.out)
                  rw [HTA.out, HEA.out] at this
                  exact this.mono fun e w' h' => ⟨h'.1, cur_trans (cur_trans hcu8 h) h'.2⟩
               clear hrd8 hb8))
        all_goals first
          | (obtain ⟨W6, hWf⟩ : ∃ Wf, w9.alloc (.cells #[.int .i64 kp, .int .i64 hp, .slice Ap np cp] 24) = Wf := ⟨_, rfl⟩
             obtain ⟨pp, hpe⟩ : ∃ p, p = w9.heap.size := ⟨_, rfl⟩
             have xp : Box W6 pp 24 #[.int .i64 kp, .int .i64 hp, .slice Ap np cp] := by rw [hpe, ← hWf]; exact Box.new _ _ _
             have hbF : Below wr.heap.size wr W6 := by rw [← hWf]; exact (cur_alloc (by assumption) _).out
             have HVp : Hid (Rd W6 (TA) (.agg #[.int .i64 kp, .int .i64 hp, .slice Ap np cp])) := Lib.hid (by rw [← hWf]; exact rd_alloc HRp.out _)
             rw [hWf, ← hpe]
             clear hWf hpe)
          | (obtain ⟨W6, hWf⟩ : ∃ Wf, ((w9.setCell ⟨w9t.heap.size, 0, none⟩ (.int .i64 kp)).setCell ⟨w9t.heap.size, 1, none⟩ (.int .i64 hp)).setCell ⟨w9t.heap.size, 2, none⟩ (.slice Ap np cp) = Wf := ⟨_, rfl⟩
             obtain ⟨pp, hpe⟩ : ∃ p, p = w9t.heap.size := ⟨_, rfl⟩
             have xp : Box W6 pp 24 #[.int .i64 kp, .int .i64 hp, .slice Ap np cp] := by rw [hpe, ← hWf]; exact zP.put3 _ _ _
             have hbF : Below wr.heap.size wr W6 := by rw [← hWf]; exact (cur_set3 (by assumption) (by omega) _ _ _).out
             have HVp : Hid (Rd W6 (TA) (.agg #[.int .i64 kp, .int .i64 hp, .slice Ap np cp])) := Lib.hid (by rw [← hWf]; exact rd_set3 HRp.out (by first | omega | (simp; omega) | simp))
             rw [hWf, ← hpe]
             clear hWf hpe)
          | (obtain ⟨W6, hWf⟩ : ∃ Wf, ((w9.setCell ⟨w9t.heap.size + 1, 0, none⟩ (.int .i64 kp)).setCell ⟨w9t.heap.size + 1, 1, none⟩ (.int .i64 hp)).setCell ⟨w9t.heap.size + 1, 2, none⟩ (.slice Ap np cp) = Wf := ⟨_, rfl⟩
             obtain ⟨pp, hpe⟩ : ∃ p, p = w9t.heap.size + 1 := ⟨_, rfl⟩
             have xp : Box W6 pp 24 #[.int .i64 kp, .int .i64 hp, .slice Ap np cp] := by rw [hpe, ← hWf]; exact zP.put3 _ _ _
             have hbF : Below wr.heap.size wr W6 := by rw [← hWf]; exact (cur_set3 (by assumption) (by omega) _ _ _).out
             have HVp : Hid (Rd W6 (TA) (.agg #[.int .i64 kp, .int .i64 hp, .slice Ap np cp])) := Lib.hid (by rw [← hWf]; exact rd_set3 HRp.out (by first | omega | (simp; omega) | simp))
             rw [hWf, ← hpe]
             clear hWf hpe)
          | (obtain ⟨W6, hWf⟩ : ∃ Wf, ((w9.setCell ⟨wr.heap.size, 0, none⟩ (.int .i64 kp)).setCell ⟨wr.heap.size, 1, none⟩ (.int .i64 hp)).setCell ⟨wr.heap.size, 2, none⟩ (.slice Ap np cp) = Wf := ⟨_, rfl⟩
             obtain ⟨pp, hpe⟩ : ∃ p, p = wr.heap.size := ⟨_, rfl⟩
             have xp : Box W6 pp 24 #[.int .i64 kp, .int .i64 hp, .slice Ap np cp] := by rw [hpe, ← hWf]; exact zP.put3 _ _ _
             have hbF : Below wr.heap.size wr W6 := by rw [← hWf]; exact (cur_set3 (by assumption) (by omega) _ _ _).out
             have HVp : Hid (Rd W6 (TA) (.agg #[.int .i64 kp, .int .i64 hp, .slice Ap np cp])) := Lib.hid (by rw [← hWf]; exact rd_set3 HRp.out (by first | omega | (simp; omega) | simp))
             rw [hWf, ← hpe]
             clear hWf hpe)
          | (obtain ⟨W6, hWf⟩ : ∃ Wf, ((w9.setCell ⟨wr.heap.size + 1, 0, none⟩ (.int .i64 kp)).setCell ⟨wr.heap.size + 1, 1, none⟩ (.int .i64 hp)).setCell ⟨wr.heap.size + 1, 2, none⟩ (.slice Ap np cp) = Wf := ⟨_, rfl⟩
             obtain ⟨pp, hpe⟩ : ∃ p, p = wr.heap.size + 1 := ⟨_, rfl⟩
             have xp : Box W6 pp 24 #[.int .i64 kp, .int .i64 hp, .slice Ap np cp] := by rw [hpe, ← hWf]; exact zP.put3 _ _ _
             have hbF : Below wr.heap.size wr W6 := by rw [← hWf]; exact (cur_set3 (by assumption) (by omega) _ _ _).out
             have HVp : Hid (Rd W6 (TA) (.agg #[.int .i64 kp, .int .i64 hp, .slice Ap np cp])) := Lib.hid (by rw [← hWf]; exact rd_set3 HRp.out (by first | omega | (simp; omega) | simp))
             rw [hWf, ← hpe]
             clear hWf hpe)
        all_goals
          try clear HCU
          have HCU : Hid (Below wr.heap.size wr W6) := Lib.hid hbF
        all_goals
          replace bxa := bxa.keep hbF bxa.lt
          replace bxc := bxc.keep hbF bxc.lt
          replace HVa := Lib.hid (Rd.keep hbF _ _ HVa.out)
          replace HVc := Lib.hid (Rd.keep hbF _ _ HVc.out)
          replace hb := hb.trans (hbF.mono hb.size)
          clear hbF
          try clear zP
        all_goals (
          try clear HAP
          try clear HRp
          clear HK hcu0
          have xpl := xp.lt
          obtain ⟨xp0, xp1, xp2⟩ := xp.three
          obtain ⟨bxc0, bxc1, bxc2⟩ := bxc.three
          have bxcl := bxc.lt
          go_wp2_with fail
          have HK : Hid (∀ w', Hid (Below W6.heap.size W6 w') → (w'.cell? ⟨w.heap.size + 1, 0, none⟩ = some (.int .i64 kc) ∧ w'.cell? ⟨w.heap.size + 1, 1, none⟩ = some (.int .i64 hc) ∧ w'.cell? ⟨w.heap.size + 1, 2, none⟩ = some (.slice Ac nc cc) ∧ w'.cell? ⟨pp, 0, none⟩ = some (.int .i64 kp) ∧ w'.cell? ⟨pp, 1, none⟩ = some (.int .i64 hp) ∧ w'.cell? ⟨pp, 2, none⟩ = some (.slice Ap np cp) ∧ Hid (Below W6.heap.size W6 w'))) := Lib.hid fun w' h => by
            have s0 := bxc.keep h.out bxc.lt
            have s1 := xp.keep h.out xp.lt
            exact ⟨s0.three.1, s0.three.2.1, s0.three.2.2, s1.three.1, s1.three.2.1, s1.three.2.2, h⟩
          have hcu0 : Hid (Below W6.heap.size W6 W6.drew) := cur_drew
          go_region_held3 (fun w' => w'.cell? ⟨w.heap.size + 1, 0, none⟩ = some (.int .i64 kc) ∧ w'.cell? ⟨w.heap.size + 1, 1, none⟩ = some (.int .i64 hc) ∧ w'.cell? ⟨w.heap.size + 1, 2, none⟩ = some (.slice Ac nc cc) ∧ w'.cell? ⟨pp, 0, none⟩ = some (.int .i64 kp) ∧ w'.cell? ⟨pp, 1, none⟩ = some (.int .i64 hp) ∧ w'.cell? ⟨pp, 2, none⟩ = some (.slice Ap np cp) ∧ Hid (Below W6.heap.size W6 w'))
            (first | exact HK.out _ (by assumption) | exact HK.out _ (cur_alloc (by assumption) _) | exact HK.out _ (cur_alloc (cur_alloc (by assumption) _) _) | exact HK.out _ (Lib.hid (((Below.refl _ _).alloc (Nat.le_refl _) _).drew)) | exact HK.out _ (Lib.hid ((((Below.refl _ _).alloc (Nat.le_refl _) _).alloc (by simp) _).drew)) | exact HK.out _ (cur_set3 (by assumption) (by omega) _ _ _))
            (first
              | (go_at_call 14
                 with_reducible refine Calls.mono (HAP.out _ ?hh) ?_
                 case hh => first | exact Below.refl _ w10t | exact (Below.refl _ w10t).alloc (Nat.le_refl _) _ | exact ((Below.refl _ w10t).alloc (Nat.le_refl _) _).alloc (by simp) _
                 rintro e w10 ⟨⟨kq, hq, Aq, nq, cq, rfl, hrd, hb9⟩, hcu9⟩
                 first | (have zP := Box.keepC (cs := #[.int .i64 0, .int .i64 0, .slice none 0 0]) (ty := 24) (by first | exact zP | exact zP.alloc _ | exact (zP.alloc _).alloc _ | exact Box.new _ _ _ | exact (Box.new _ _ _).alloc _ | exact Box.drewI (Box.new _ _ _) | exact Box.drewI ((Box.new _ _ _).alloc _)) hb9; (try (with_reducible replace zP := zP.at1)); have lzhb9 := zP.lt) | skip
                 have hs9 := hcu9.out.size
                 have HRq := Lib.hid hrd
                 first | (obtain ⟨z0, z1, z2⟩ := zP.three; have fz0 := zP.frozen 0; have fz1 := zP.frozen 1; have fz2 := zP.frozen 2) | skip
                 clear hrd hb9)
              | (go_at_call 15
                 with_reducible refine Calls.mono (HFU.out W6 _ HCU ?hh) ?_
                 case hh => first | assumption | exact cur_alloc (by assumption) _ | exact cur_alloc (cur_alloc (by assumption) _) _ | exact Lib.hid (((Below.refl _ _).alloc (Nat.le_refl _) _).drew) | exact Lib.hid ((((Below.refl _ _).alloc (Nat.le_refl _) _).alloc (by simp) _).drew)
                 rintro e w10t ⟨⟨q8, rfl, hrd8, hb8⟩, hcu8⟩
                 have hs8 := hcu8.out.size
                 first | (have zP := Box.keepC (cs := #[.int .i64 0, .int .i64 0, .slice none 0 0]) (ty := 24) (by first | exact zP | exact zP.alloc _ | exact (zP.alloc _).alloc _ | exact Box.new _ _ _ | exact (Box.new _ _ _).alloc _ | exact Box.drewI (Box.new _ _ _) | exact Box.drewI ((Box.new _ _ _).alloc _)) hb8; (try (with_reducible replace zP := zP.at1)); have lzhb8 := zP.lt) | skip
                 have HAP : Hid (∀ W', Below w10t.heap.size w10t W' → Calls Tryz.prog 14 #[.agg #[.int .i64 kc, .int .i64 hc, .slice Ac nc cc], .slice (some ⟨q8, 0, none⟩) n5 n5, .int .i64 n] W' (fun e w' => TEnd TC EC W' e w' ∧ Hid (Below W6.heap.size W6 w'))) := Lib.hid fun W' h => by
                    have := HFI.out c _ q8 w10t W' HOC.out hrd8 h (Rd.keep hcu8.out _ _ HVc.out)
                    rw [HTC.out, HEC.out] at this
                    exact this.mono fun e w' h' => ⟨h'.1, cur_trans (cur_trans hcu8 h) h'.2⟩
                 clear hrd8 hb8))
          all_goals first
            | (obtain ⟨W7, hWf⟩ : ∃ Wf, w10.alloc (.cells #[.int .i64 kq, .int .i64 hq, .slice Aq nq cq] 24) = Wf := ⟨_, rfl⟩
               obtain ⟨pq, hpe⟩ : ∃ p, p = w10.heap.size := ⟨_, rfl⟩
               have xq : Box W7 pq 24 #[.int .i64 kq, .int .i64 hq, .slice Aq nq cq] := by rw [hpe, ← hWf]; exact Box.new _ _ _
               have hbF : Below W6.heap.size W6 W7 := by rw [← hWf]; exact (cur_alloc (by assumption) _).out
               have HVq : Hid (Rd W7 (TC) (.agg #[.int .i64 kq, .int .i64 hq, .slice Aq nq cq])) := Lib.hid (by rw [← hWf]; exact rd_alloc HRq.out _)
               rw [hWf, ← hpe]
               clear hWf hpe)
            | (obtain ⟨W7, hWf⟩ : ∃ Wf, ((w10.setCell ⟨w10t.heap.size, 0, none⟩ (.int .i64 kq)).setCell ⟨w10t.heap.size, 1, none⟩ (.int .i64 hq)).setCell ⟨w10t.heap.size, 2, none⟩ (.slice Aq nq cq) = Wf := ⟨_, rfl⟩
               obtain ⟨pq, hpe⟩ : ∃ p, p = w10t.heap.size := ⟨_, rfl⟩
               have xq : Box W7 pq 24 #[.int .i64 kq, .int .i64 hq, .slice Aq nq cq] := by rw [hpe, ← hWf]; exact zP.put3 _ _ _
               have hbF : Below W6.heap.size W6 W7 := by rw [← hWf]; exact (cur_set3 (by assumption) (by omega) _ _ _).out
               have HVq : Hid (Rd W7 (TC) (.agg #[.int .i64 kq, .int .i64 hq, .slice Aq nq cq])) := Lib.hid (by rw [← hWf]; exact rd_set3 HRq.out (by first | omega | (simp; omega) | simp))
               rw [hWf, ← hpe]
               clear hWf hpe)
            | (obtain ⟨W7, hWf⟩ : ∃ Wf, ((w10.setCell ⟨w10t.heap.size + 1, 0, none⟩ (.int .i64 kq)).setCell ⟨w10t.heap.size + 1, 1, none⟩ (.int .i64 hq)).setCell ⟨w10t.heap.size + 1, 2, none⟩ (.slice Aq nq cq) = Wf := ⟨_, rfl⟩
               obtain ⟨pq, hpe⟩ : ∃ p, p = w10t.heap.size + 1 := ⟨_, rfl⟩
               have xq : Box W7 pq 24 #[.int .i64 kq, .int .i64 hq, .slice Aq nq cq] := by rw [hpe, ← hWf]; exact zP.put3 _ _ _
               have hbF : Below W6.heap.size W6 W7 := by rw [← hWf]; exact (cur_set3 (by assumption) (by omega) _ _ _).out
               have HVq : Hid (Rd W7 (TC) (.agg #[.int .i64 kq, .int .i64 hq, .slice Aq nq cq])) := Lib.hid (by rw [← hWf]; exact rd_set3 HRq.out (by first | omega | (simp; omega) | simp))
               rw [hWf, ← hpe]
               clear hWf hpe)
            | (obtain ⟨W7, hWf⟩ : ∃ Wf, ((w10.setCell ⟨W6.heap.size, 0, none⟩ (.int .i64 kq)).setCell ⟨W6.heap.size, 1, none⟩ (.int .i64 hq)).setCell ⟨W6.heap.size, 2, none⟩ (.slice Aq nq cq) = Wf := ⟨_, rfl⟩
               obtain ⟨pq, hpe⟩ : ∃ p, p = W6.heap.size := ⟨_, rfl⟩
               have xq : Box W7 pq 24 #[.int .i64 kq, .int .i64 hq, .slice Aq nq cq] := by rw [hpe, ← hWf]; exact zP.put3 _ _ _
               have hbF : Below W6.heap.size W6 W7 := by rw [← hWf]; exact (cur_set3 (by assumption) (by omega) _ _ _).out
               have HVq : Hid (Rd W7 (TC) (.agg #[.int .i64 kq, .int .i64 hq, .slice Aq nq cq])) := Lib.hid (by rw [← hWf]; exact rd_set3 HRq.out (by first | omega | (simp; omega) | simp))
               rw [hWf, ← hpe]
               clear hWf hpe)
            | (obtain ⟨W7, hWf⟩ : ∃ Wf, ((w10.setCell ⟨W6.heap.size + 1, 0, none⟩ (.int .i64 kq)).setCell ⟨W6.heap.size + 1, 1, none⟩ (.int .i64 hq)).setCell ⟨W6.heap.size + 1, 2, none⟩ (.slice Aq nq cq) = Wf := ⟨_, rfl⟩
               obtain ⟨pq, hpe⟩ : ∃ p, p = W6.heap.size + 1 := ⟨_, rfl⟩
               have xq : Box W7 pq 24 #[.int .i64 kq, .int .i64 hq, .slice Aq nq cq] := by rw [hpe, ← hWf]; exact zP.put3 _ _ _
               have hbF : Below W6.heap.size W6 W7 := by rw [← hWf]; exact (cur_set3 (by assumption) (by omega) _ _ _).out
               have HVq : Hid (Rd W7 (TC) (.agg #[.int .i64 kq, .int .i64 hq, .slice Aq nq cq])) := Lib.hid (by rw [← hWf]; exact rd_set3 HRq.out (by first | omega | (simp; omega) | simp))
               rw [hWf, ← hpe]
               clear hWf hpe)
          all_goals
            replace xp := xp.keep hbF xp.lt
            replace HVp := Lib.hid (Rd.keep hbF _ _ HVp.out)
            replace hb := hb.trans (hbF.mono hb.size)
            clear hbF
            try clear zP
          all_goals (
            have HCS := Lib.hid (termSame TA TC _ _ W7 HVp.out HVq.out)
            obtain ⟨S, hS⟩ : ∃ S, samB TA TC = S := ⟨_, rfl⟩
            rw [hS] at HCS HEQ
            clear hS
            try clear HAP
            try clear HRq
            clear HK hcu0 HFU HFI HCU
            obtain ⟨u0, u1, u2⟩ := xp.three
            obtain ⟨v0, v1, v2⟩ := xq.three
            have xql := xq.lt
            by_cases e0 : EA = 0
            · subst e0
              by_cases f0 : EC = 0
              · subst f0
                obtain rfl := HEQ.out rfl rfl
                go_wp2_with fail
                refine HCS.out.mono ?_
                rintro e w12 ⟨rfl, hb1⟩
                replace hb := hb.trans (hb1.mono hb.size)
                clear hb1
                go_wp2_with fail
                go_ret
                exact ⟨rfl, hb⟩
              · have f0' : (EC != 0) = true := by simpa using f0
                clear f0
                go_wp2_with fail
                go_ret
                exact ⟨rfl, hb⟩
            · have e0' : (EA != 0) = true := by simpa using e0
              clear e0
              go_wp2_with fail
              go_ret
              exact ⟨rfl, hb⟩))
end Go.Proofs.YtelicajhamgibaaGreat
