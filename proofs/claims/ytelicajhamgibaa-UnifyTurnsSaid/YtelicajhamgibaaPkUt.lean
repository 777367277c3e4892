/-
  The walk of the law UnifyTurns.
-/
import Derived.Test.YtelicajhamgibaaPkB
import Derived.Test.YtelicajhamgibaaPkS
import Derived.Test.YtelicajhamgibaaPkOf
namespace Go.Proofs.Ytelicajhamgibaa
open Go.ChangeShapes Go.WideShapes Go.ChangeAt Go.RowKit
set_option linter.unusedVariables false

set_option maxRecDepth 100000 in
set_option maxHeartbeats 8000000 in
theorem unifyTurnsC (a c : T) (n : Int) (sz : List Int) (As : Option Addr) (L cs : Nat) (va vc : Value) (w : World) (hva : Rd w a va) (hvc : Rd w c vc) (hl : sz.length = L) (hlc : L ≤ cs) (hcm : cs ≤ maxLen) (hs : Nu w sz As) :
    Calls Try.prog 5 #[va, vc, .int .i64 n, .slice As L cs] w fun e w' => e = .returned (.bool true) ∧ Below w.heap.size w w' := by
  have HS := Lib.hid hs; clear hs
  have HLZ := Lib.hid hl; clear hl
  have hcm2 := hcm
  unfold maxLen at hcm2
  obtain ⟨ka, ha, Aa, na, ca, rfl⟩ := hva.full
  have HVa := Lib.hid hva; clear hva
  obtain ⟨kc, hc, Ac, nc, cc, rfl⟩ := hvc.full
  have HVc := Lib.hid hvc; clear hvc
  obtain ⟨W0, hW0⟩ : ∃ W0, ((w.alloc (.cells #[.int .i64 ka, .int .i64 ha, .slice Aa na ca] 31)).alloc (.cells #[.int .i64 kc, .int .i64 hc, .slice Ac nc cc] 31)) = W0 := ⟨_, rfl⟩
  have hb : Below w.heap.size w W0 := by rw [← hW0]; exact (((Below.refl _ _).alloc (Nat.le_refl _) _).alloc (by simp) _)
  have bxa : Box W0 (w.heap.size) 31 #[.int .i64 ka, .int .i64 ha, .slice Aa na ca] := by rw [← hW0]; exact ((Box.new w _ _).alloc _)
  have bxc : Box W0 (w.heap.size + 1) 31 #[.int .i64 kc, .int .i64 hc, .slice Ac nc cc] := by rw [← hW0]; exact ((Box.new (w.alloc _) _ _).at (by simp))
  replace HVa := Lib.hid (Rd.keep hb _ _ HVa.out)
  replace HVc := Lib.hid (Rd.keep hb _ _ HVc.out)
  have HW0 := Lib.hid hW0; clear hW0
  go_enter Try.func5, Try.ntmps5
  go_wp2_with fail
  rw [HW0.out]
  clear HW0
  refine (awakeN _).mono ?_
  rintro e w1 ⟨rfl, hb1⟩
  replace bxa := bxa.keep hb1 bxa.lt
  replace bxc := bxc.keep hb1 bxc.lt
  replace HVa := Lib.hid (Rd.keep hb1 _ _ HVa.out)
  replace HVc := Lib.hid (Rd.keep hb1 _ _ HVc.out)
  replace hb := hb.trans (hb1.mono hb.size)
  clear hb1
  obtain ⟨bxa0, bxa1, bxa2⟩ := bxa.three
  have bxal := bxa.lt
  obtain ⟨bxc0, bxc1, bxc2⟩ := bxc.three
  have bxcl := bxc.lt
  go_wp2_with fail
  refine (refLight a 300 60 _ _ HVa.out).mono ?_
  have HLa : Hid (ltB a 300 60 = true → ltB a 300 60 = true) := Lib.hid fun e => e
  generalize hqa : ltB a 300 60 = Ra at *
  rintro e w2a ⟨rfl, hb1⟩
  have HQa := Lib.hid hqa; clear hqa HLa
  clear bxa0 bxa1 bxa2 bxal bxc0 bxc1 bxc2 bxcl
  replace bxa := bxa.keep hb1 bxa.lt
  replace bxc := bxc.keep hb1 bxc.lt
  replace HVa := Lib.hid (Rd.keep hb1 _ _ HVa.out)
  replace HVc := Lib.hid (Rd.keep hb1 _ _ HVc.out)
  replace hb := hb.trans (hb1.mono hb.size)
  clear hb1
  obtain ⟨bxa0, bxa1, bxa2⟩ := bxa.three
  have bxal := bxa.lt
  obtain ⟨bxc0, bxc1, bxc2⟩ := bxc.three
  have bxcl := bxc.lt
  go_wp2_with fail
  refine (refLight c 300 60 _ _ HVc.out).mono ?_
  have HLc : Hid (ltB c 300 60 = true → ltB c 300 60 = true) := Lib.hid fun e => e
  generalize hqc : ltB c 300 60 = Rc at *
  rintro e w2c ⟨rfl, hb1⟩
  have HQc := Lib.hid hqc; clear hqc HLc
  clear bxa0 bxa1 bxa2 bxal bxc0 bxc1 bxc2 bxcl
  replace bxa := bxa.keep hb1 bxa.lt
  replace bxc := bxc.keep hb1 bxc.lt
  replace HVa := Lib.hid (Rd.keep hb1 _ _ HVa.out)
  replace HVc := Lib.hid (Rd.keep hb1 _ _ HVc.out)
  replace hb := hb.trans (hb1.mono hb.size)
  clear hb1
  obtain ⟨bxa0, bxa1, bxa2⟩ := bxa.three
  have bxal := bxa.lt
  obtain ⟨bxc0, bxc1, bxc2⟩ := bxc.three
  have bxcl := bxc.lt
  go_wp2_with fail
  refine (sizedC sz As L cs HLZ.out hlc hcm a _ _ HVa.out (HS.out.keep hb)).mono ?_
  obtain ⟨Sa, hSa⟩ : ∃ S, zdB sz a = S := ⟨_, rfl⟩
  rw [hSa]
  have HZa := Lib.hid hSa; clear hSa
  rintro e w2sa ⟨rfl, hb1⟩
  clear bxa0 bxa1 bxa2 bxal bxc0 bxc1 bxc2 bxcl
  replace bxa := bxa.keep hb1 bxa.lt
  replace bxc := bxc.keep hb1 bxc.lt
  replace HVa := Lib.hid (Rd.keep hb1 _ _ HVa.out)
  replace HVc := Lib.hid (Rd.keep hb1 _ _ HVc.out)
  replace hb := hb.trans (hb1.mono hb.size)
  clear hb1
  obtain ⟨bxa0, bxa1, bxa2⟩ := bxa.three
  have bxal := bxa.lt
  obtain ⟨bxc0, bxc1, bxc2⟩ := bxc.three
  have bxcl := bxc.lt
  go_wp2_with fail
  refine (sizedC sz As L cs HLZ.out hlc hcm c _ _ HVc.out (HS.out.keep hb)).mono ?_
  obtain ⟨Sc, hSc⟩ : ∃ S, zdB sz c = S := ⟨_, rfl⟩
  rw [hSc]
  have HZc := Lib.hid hSc; clear hSc
  rintro e w2sc ⟨rfl, hb1⟩
  clear bxa0 bxa1 bxa2 bxal bxc0 bxc1 bxc2 bxcl
  replace bxa := bxa.keep hb1 bxa.lt
  replace bxc := bxc.keep hb1 bxc.lt
  replace HVa := Lib.hid (Rd.keep hb1 _ _ HVa.out)
  replace HVc := Lib.hid (Rd.keep hb1 _ _ HVc.out)
  replace hb := hb.trans (hb1.mono hb.size)
  clear hb1
  obtain ⟨bxa0, bxa1, bxa2⟩ := bxa.three
  have bxal := bxa.lt
  obtain ⟨bxc0, bxc1, bxc2⟩ := bxc.three
  have bxcl := bxc.lt
  cases Ra
  · go_wp2_with fail
    go_ret
    exact ⟨rfl, hb⟩
  cases Rc
  · go_wp2_with fail
    go_ret
    exact ⟨rfl, hb⟩
  cases Sa
  · go_wp2_with fail
    go_ret
    exact ⟨rfl, hb⟩
  cases Sc
  · go_wp2_with fail
    go_ret
    exact ⟨rfl, hb⟩
  go_wp2_with fail
  refine (myC a _ _ HVa.out).mono ?_
  generalize hqa : myB a = Ma at *
  rintro e w3a ⟨rfl, hb1⟩
  have HMa := Lib.hid hqa; clear hqa
  clear bxa0 bxa1 bxa2 bxal bxc0 bxc1 bxc2 bxcl
  replace bxa := bxa.keep hb1 bxa.lt
  replace bxc := bxc.keep hb1 bxc.lt
  replace HVa := Lib.hid (Rd.keep hb1 _ _ HVa.out)
  replace HVc := Lib.hid (Rd.keep hb1 _ _ HVc.out)
  replace hb := hb.trans (hb1.mono hb.size)
  clear hb1
  obtain ⟨bxa0, bxa1, bxa2⟩ := bxa.three
  have bxal := bxa.lt
  obtain ⟨bxc0, bxc1, bxc2⟩ := bxc.three
  have bxcl := bxc.lt
  cases Ma
  · go_wp2_with fail
    go_ret
    exact ⟨rfl, hb⟩
  have KNa : Hid (Kn 300 60 a) := Lib.hid (kn_of HQa.out HMa.out); clear HQa HMa
  go_wp2_with fail
  refine (myC c _ _ HVc.out).mono ?_
  generalize hqc : myB c = Mc at *
  rintro e w3c ⟨rfl, hb1⟩
  have HMc := Lib.hid hqc; clear hqc
  clear bxa0 bxa1 bxa2 bxal bxc0 bxc1 bxc2 bxcl
  replace bxa := bxa.keep hb1 bxa.lt
  replace bxc := bxc.keep hb1 bxc.lt
  replace HVa := Lib.hid (Rd.keep hb1 _ _ HVa.out)
  replace HVc := Lib.hid (Rd.keep hb1 _ _ HVc.out)
  replace hb := hb.trans (hb1.mono hb.size)
  clear hb1
  obtain ⟨bxa0, bxa1, bxa2⟩ := bxa.three
  have bxal := bxa.lt
  obtain ⟨bxc0, bxc1, bxc2⟩ := bxc.three
  have bxcl := bxc.lt
  cases Mc
  · go_wp2_with fail
    go_ret
    exact ⟨rfl, hb⟩
  have KNc : Hid (Kn 300 60 c) := Lib.hid (kn_of HQc.out HMc.out); clear HQc HMc
  by_cases x1 : n < 0
  · have dx1 : decide (n < 0) = true := by simpa using x1
    go_wp2_with fail
    go_ret
    exact ⟨rfl, hb⟩
  have dx1 : decide (n < 0) = false := by simpa using x1
  by_cases x2 : 100 < n
  · have dx2 : decide (100 < n) = true := by simpa using x2
    go_wp2_with fail
    go_ret
    exact ⟨rfl, hb⟩
  have dx2 : decide (100 < n) = false := by simpa using x2
  by_cases hLm : 60 < L
  · have dL : decide ((60 : Int) < (L : Int)) = true := decide_eq_true (by omega)
    go_wp2_with fail
    go_ret
    exact ⟨rfl, hb⟩
  have dL : decide ((60 : Int) < (L : Int)) = false := decide_eq_false (by omega)
  go_wp2_with fail
  refine (oPatternsC a n _ _ HVa.out (by have := wd_nd a; have := KNa.out.nd; omega)).mono ?_
  generalize ((nds a 0).all (pa1 n)) = Pa at *
  rintro e w4a ⟨rfl, hb1⟩
  clear bxa0 bxa1 bxa2 bxal bxc0 bxc1 bxc2 bxcl
  replace bxa := bxa.keep hb1 bxa.lt
  replace bxc := bxc.keep hb1 bxc.lt
  replace HVa := Lib.hid (Rd.keep hb1 _ _ HVa.out)
  replace HVc := Lib.hid (Rd.keep hb1 _ _ HVc.out)
  replace hb := hb.trans (hb1.mono hb.size)
  clear hb1
  obtain ⟨bxa0, bxa1, bxa2⟩ := bxa.three
  have bxal := bxa.lt
  obtain ⟨bxc0, bxc1, bxc2⟩ := bxc.three
  have bxcl := bxc.lt
  cases Pa
  · go_wp2_with fail
    go_ret
    exact ⟨rfl, hb⟩
  go_wp2_with fail
  refine (oPatternsC c n _ _ HVc.out (by have := wd_nd c; have := KNc.out.nd; omega)).mono ?_
  generalize ((nds c 0).all (pa1 n)) = Pc at *
  rintro e w4c ⟨rfl, hb1⟩
  clear bxa0 bxa1 bxa2 bxal bxc0 bxc1 bxc2 bxcl
  replace bxa := bxa.keep hb1 bxa.lt
  replace bxc := bxc.keep hb1 bxc.lt
  replace HVa := Lib.hid (Rd.keep hb1 _ _ HVa.out)
  replace HVc := Lib.hid (Rd.keep hb1 _ _ HVc.out)
  replace hb := hb.trans (hb1.mono hb.size)
  clear hb1
  obtain ⟨bxa0, bxa1, bxa2⟩ := bxa.three
  have bxal := bxa.lt
  obtain ⟨bxc0, bxc1, bxc2⟩ := bxc.three
  have bxcl := bxc.lt
  cases Pc
  · go_wp2_with fail
    go_ret
    exact ⟨rfl, hb⟩
  go_wp2_with fail
  have HNU := Lib.hid (HS.out.keep hb)
  go_loopw [14] (fun i wr => ∃ (j : Nat), j ≤ L ∧ i = .int .i64 j ∧ w4c = wr ∧ Hid (∀ (i : Nat) (x : Int), i < j → sz[i]? = some x → 0 ≤ x ∧ x ≤ 100)) (fun i _ => L - (Go.RowKit.intOf i).toNat)
  case atStart => exact ⟨0, Nat.zero_le _, rfl, rfl, Lib.hid fun i x h => absurd h (Nat.not_lt_zero _)⟩
  case round =>
    obtain ⟨j, hj, rfl, rfl, HZ⟩ := hrel
    by_cases hlt : j < L
    · obtain ⟨z, hz⟩ : ∃ z, sz[j]? = some z := ⟨_, List.getElem?_eq_getElem (by rw [HLZ.out]; exact hlt)⟩
      obtain ⟨bS, oS, rfl, s0⟩ := HNU.out j z hz
      have hi0 : (0 : Int) ≤ j := by omega
      have hi1 : (j : Int) < L := by omega
      by_cases z0 : z < 0
      · have dz0 : decide (z < 0) = true := by simpa using z0
        go_wp2_with fail
        go_ret
        exact ⟨rfl, hb⟩
      have dz0 : decide (z < 0) = false := by simpa using z0
      by_cases z1 : 100 < z
      · have dz1 : decide (100 < z) = true := by simpa using z1
        go_wp2_with fail
        go_ret
        exact ⟨rfl, hb⟩
      have dz1 : decide (100 < z) = false := by simpa using z1
      have HJ : Hid (∀ (i : Nat) (x : Int), i < j + 1 → sz[i]? = some x → 0 ≤ x ∧ x ≤ 100) := Lib.hid fun i x hi hx => by
        rcases Nat.lt_succ_iff_lt_or_eq.1 hi with h | rfl
        · exact HZ.out i x h hx
        · rw [hz] at hx; cases hx; omega
      clear z0 z1 hz
      go_wp2_with fail
      go_roundw
      case rel => exact ⟨j + 1, by omega, by go_num, by first | rfl | trivial, HJ⟩
      case measure => simp [Go.RowKit.intOf]; omega
    obtain rfl : L = j := by omega
    have HSZ := Lib.hid (fun (i : Nat) (x : Int) (hx : sz[i]? = some x) => HZ.out i x (by rw [← HLZ.out]; exact (List.getElem?_eq_some_iff.1 hx).1) hx)
    clear hj hlt HZ HNU
    have HA1 := Lib.hid (unA_of (n := n) (by omega) (by omega) (by rw [HLZ.out]; omega) HSZ.out KNa.out.my KNc.out.my)
    have HA2 := Lib.hid (unA_of (n := n) (by omega) (by omega) (by rw [HLZ.out]; omega) HSZ.out KNc.out.my KNa.out.my)
    have hoa := okT_of a KNa.out.nod KNa.out.lo
    have hoc := okT_of c KNc.out.nod KNc.out.lo
    have HT1 : Hid (∀ bs, unR a c n sz = .ok bs → unR c a n sz = .error 6 → False) := Lib.hid fun bs h1 h2 => by
      obtain ⟨m, rfl⟩ : ∃ m : Nat, n = m := ⟨n.toNat, by omega⟩
      exact un_turn HA1.out HA2.out hoa hoc (zdB_zd a HZa.out) (zdB_zd c HZc.out) h1 h2
    have HT2 : Hid (∀ bs, unR c a n sz = .ok bs → unR a c n sz = .error 6 → False) := Lib.hid fun bs h1 h2 => by
      obtain ⟨m, rfl⟩ : ∃ m : Nat, n = m := ⟨n.toNat, by omega⟩
      exact un_turn HA2.out HA1.out hoc hoa (zdB_zd c HZc.out) (zdB_zd a HZa.out) h1 h2
    have hU := UnifyC a c n sz As cs _ _ _ _ _ _ _ _ _ _ w4c HVa.out HVc.out (fun _ => hoa) (fun _ => hoc) (by rw [HLZ.out]; exact hlc) hcm (HS.out.keep hb)
    obtain ⟨R1, hR1⟩ : ∃ R, unR a c n sz = R := ⟨_, rfl⟩
    obtain ⟨R2, hR2⟩ : ∃ R, unR c a n sz = R := ⟨_, rfl⟩
    rw [hR1, HLZ.out] at hU
    rw [hR1, hR2] at HT1 HT2
    have HU1 := Lib.hid hU; clear hU
    have HR2 := Lib.hid hR2
    clear hR1 hR2 HA1 HA2
    go_wp2_with fail
    refine HU1.out.mono ?_
    intro e w5 hE
    obtain ⟨A5, n5, c5, ec, rfl, hb1, hE⟩ := hE
    have HE1 := Lib.hid hE
    clear hE HU1
    replace bxa := bxa.keep hb1 bxa.lt
    replace bxc := bxc.keep hb1 bxc.lt
    replace HVa := Lib.hid (Rd.keep hb1 _ _ HVa.out)
    replace HVc := Lib.hid (Rd.keep hb1 _ _ HVc.out)
    replace hb := hb.trans (hb1.mono hb.size)
    clear hb1
    obtain ⟨bxa0, bxa1, bxa2⟩ := bxa.three
    have bxal := bxa.lt
    obtain ⟨bxc0, bxc1, bxc2⟩ := bxc.three
    have bxcl := bxc.lt
    have hU := UnifyC c a n sz As cs _ _ _ _ _ _ _ _ _ _ w5 HVc.out HVa.out (fun _ => hoc) (fun _ => hoa) (by rw [HLZ.out]; exact hlc) hcm (HS.out.keep hb)
    rw [HR2.out, HLZ.out] at hU
    have HU2 := Lib.hid hU; clear hU hoa hoc HR2
    go_wp2_with fail
    refine HU2.out.mono ?_
    intro e w6 hE
    obtain ⟨A6, n6, c6, fc, rfl, hb1, hE⟩ := hE
    have HE2 := Lib.hid hE
    clear hE HU2
    clear bxa0 bxa1 bxa2 bxal bxc0 bxc1 bxc2 bxcl
    replace bxa := bxa.keep hb1 bxa.lt
    replace bxc := bxc.keep hb1 bxc.lt
    replace HVa := Lib.hid (Rd.keep hb1 _ _ HVa.out)
    replace HVc := Lib.hid (Rd.keep hb1 _ _ HVc.out)
    replace hb := hb.trans (hb1.mono hb.size)
    clear hb1
    have h1 : ¬ (ec = 0 ∧ fc = 6) := fun h => by
      have a1 := HE1.out
      have a2 := HE2.out
      cases R1 with
      | error e => exact absurd (a1.1.symm.trans h.1) a1.2.1
      | ok bs =>
        cases R2 with
        | error e =>
          have : e = 6 := a2.1.symm.trans h.2
          subst this
          exact HT1.out bs rfl rfl
        | ok bs => have := a2.1; omega
    have h2 : ¬ (ec = 6 ∧ fc = 0) := fun h => by
      have a1 := HE1.out
      have a2 := HE2.out
      cases R2 with
      | error e => exact absurd (a2.1.symm.trans h.2) a2.2.1
      | ok bs =>
        cases R1 with
        | error e =>
          have : e = 6 := a1.1.symm.trans h.1
          subst this
          exact HT2.out bs rfl rfl
        | ok bs => have := a1.1; omega
    clear HE1 HE2 HT1 HT2
    by_cases e0 : ec = 0
    · have g0 : (ec != 0) = false := by simpa using e0
      have g6 : (ec != 6) = true := by rw [bne_iff_ne]; omega
      have f6 : (fc != 6) = true := by rw [bne_iff_ne]; omega
      clear e0 h1 h2
      go_wp2_with fail
      go_ret
      exact ⟨rfl, hb⟩
    have g0 : (ec != 0) = true := by rw [bne_iff_ne]; exact e0
    by_cases e6 : ec = 6
    · have g6 : (ec != 6) = false := by simpa using e6
      have f0 : (fc != 0) = true := by rw [bne_iff_ne]; omega
      clear e0 e6 h1 h2
      go_wp2_with fail
      go_ret
      exact ⟨rfl, hb⟩
    have g6 : (ec != 6) = true := by rw [bne_iff_ne]; exact e6
    clear e0 e6 h1 h2
    go_wp2_with fail
    go_ret
    exact ⟨rfl, hb⟩
end Go.Proofs.Ytelicajhamgibaa
