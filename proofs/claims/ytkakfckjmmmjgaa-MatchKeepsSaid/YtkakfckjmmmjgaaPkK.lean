/-
  The walk of the law MatchKeeps.
-/
import Derived.Test.YtkakfckjmmmjgaaPkB
import Derived.Test.YtkakfckjmmmjgaaWl
namespace Go.Proofs.Ytkakfckjmmmjgaa
open Go.ChangeShapes Go.WideShapes Go.ChangeAt Go.RowKit
set_option linter.unusedVariables false

set_option maxRecDepth 100000 in
set_option maxHeartbeats 8000000 in
theorem matchKeepsC (p t : T) (n : Int) (bs : List BT) (Ab : Option Addr) (nb cb : Nat) (pa : List Bool) (Aq : Option Addr) (nq cq : Nat) (vp vt : Value) (w : World) (hvp : Rd w p vp) (hvt : Rd w t vt) (hbs : BL (fun _ => True) w bs Ab nb cb) (hb0 : Ab = none → cb = 0) (hpa : LB w pa Aq nq cq) :
    Calls Try.prog 6 #[vp, vt, .int .i64 n, .slice Ab nb cb, .slice Aq nq cq] w fun e w' => e = .returned (.bool true) ∧ Below w.heap.size w w' := by
  have HBS := Lib.hid hbs
  have hlb := hbs.len
  have hcb := hbs.le
  have hmb := hbs.cap
  unfold maxLen at hmb
  clear hbs
  have HPA := Lib.hid hpa; clear hpa
  have HB0 := Lib.hid hb0; clear hb0
  have HLB := Lib.hid hlb; clear hlb
  obtain ⟨kp, hp, Ap, np, cp, rfl⟩ := hvp.full
  have HVp := Lib.hid hvp; clear hvp
  obtain ⟨kt, ht, At, nt, ct, rfl⟩ := hvt.full
  have HVt := Lib.hid hvt; clear hvt
  obtain ⟨W0, hW0⟩ : ∃ W0, ((w.alloc (.cells #[.int .i64 kp, .int .i64 hp, .slice Ap np cp] 24)).alloc (.cells #[.int .i64 kt, .int .i64 ht, .slice At nt ct] 24)) = W0 := ⟨_, rfl⟩
  have hb : Below w.heap.size w W0 := by rw [← hW0]; exact (((Below.refl _ _).alloc (Nat.le_refl _) _).alloc (by simp) _)
  have bxp : Box W0 (w.heap.size) 24 #[.int .i64 kp, .int .i64 hp, .slice Ap np cp] := by rw [← hW0]; exact ((Box.new w _ _).alloc _)
  have bxt : Box W0 (w.heap.size + 1) 24 #[.int .i64 kt, .int .i64 ht, .slice At nt ct] := by rw [← hW0]; exact ((Box.new (w.alloc _) _ _).at (by simp))
  replace HVp := Lib.hid (Rd.keep hb _ _ HVp.out)
  replace HVt := Lib.hid (Rd.keep hb _ _ HVt.out)
  have HW0 := Lib.hid hW0; clear hW0
  go_enter Try.func6, Try.ntmps6
  go_wp2_with fail
  rw [HW0.out]
  clear HW0
  refine (awakeH _).mono ?_
  rintro e w1 ⟨rfl, hb1⟩
  replace bxp := bxp.keep hb1 bxp.lt
  replace bxt := bxt.keep hb1 bxt.lt
  replace HVp := Lib.hid (Rd.keep hb1 _ _ HVp.out)
  replace HVt := Lib.hid (Rd.keep hb1 _ _ HVt.out)
  replace hb := hb.trans (hb1.mono hb.size)
  clear hb1
  obtain ⟨bxp0, bxp1, bxp2⟩ := bxp.three
  have bxpl := bxp.lt
  obtain ⟨bxt0, bxt1, bxt2⟩ := bxt.three
  have bxtl := bxt.lt
  go_wp2_with fail
  refine (refLight p 1000 60 _ _ HVp.out).mono ?_
  have HLp : Hid (ltB p 1000 60 = true → ltB p 1000 60 = true) := Lib.hid fun e => e
  generalize hqp : ltB p 1000 60 = Rp at *
  rintro e w2p ⟨rfl, hb1⟩
  have HQp := Lib.hid hqp; clear hqp HLp
  clear bxp0 bxp1 bxp2 bxpl bxt0 bxt1 bxt2 bxtl
  replace bxp := bxp.keep hb1 bxp.lt
  replace bxt := bxt.keep hb1 bxt.lt
  replace HVp := Lib.hid (Rd.keep hb1 _ _ HVp.out)
  replace HVt := Lib.hid (Rd.keep hb1 _ _ HVt.out)
  replace hb := hb.trans (hb1.mono hb.size)
  clear hb1
  obtain ⟨bxp0, bxp1, bxp2⟩ := bxp.three
  have bxpl := bxp.lt
  obtain ⟨bxt0, bxt1, bxt2⟩ := bxt.three
  have bxtl := bxt.lt
  go_wp2_with fail
  refine (refLight t 1000 60 _ _ HVt.out).mono ?_
  have HLt : Hid (ltB t 1000 60 = true → ltB t 1000 60 = true) := Lib.hid fun e => e
  generalize hqt : ltB t 1000 60 = Rt at *
  rintro e w2t ⟨rfl, hb1⟩
  have HQt := Lib.hid hqt; clear hqt HLt
  clear bxp0 bxp1 bxp2 bxpl bxt0 bxt1 bxt2 bxtl
  replace bxp := bxp.keep hb1 bxp.lt
  replace bxt := bxt.keep hb1 bxt.lt
  replace HVp := Lib.hid (Rd.keep hb1 _ _ HVp.out)
  replace HVt := Lib.hid (Rd.keep hb1 _ _ HVt.out)
  replace hb := hb.trans (hb1.mono hb.size)
  clear hb1
  obtain ⟨bxp0, bxp1, bxp2⟩ := bxp.three
  have bxpl := bxp.lt
  obtain ⟨bxt0, bxt1, bxt2⟩ := bxt.three
  have bxtl := bxt.lt
  go_wp2_with fail
  refine (hFewC _ bs Ab nb cb _ (HBS.out.keep hb)).mono ?_
  generalize hqf : fwB bs nb = Rf at *
  rintro e w3 ⟨rfl, hb1⟩
  have HQf := Lib.hid hqf; clear hqf
  clear bxp0 bxp1 bxp2 bxpl bxt0 bxt1 bxt2 bxtl
  replace bxp := bxp.keep hb1 bxp.lt
  replace bxt := bxt.keep hb1 bxt.lt
  replace HVp := Lib.hid (Rd.keep hb1 _ _ HVp.out)
  replace HVt := Lib.hid (Rd.keep hb1 _ _ HVt.out)
  replace hb := hb.trans (hb1.mono hb.size)
  clear hb1
  obtain ⟨bxp0, bxp1, bxp2⟩ := bxp.three
  have bxpl := bxp.lt
  obtain ⟨bxt0, bxt1, bxt2⟩ := bxt.three
  have bxtl := bxt.lt
  cases Rp
  · go_wp2_with fail
    go_ret
    exact ⟨rfl, hb⟩
  cases Rt
  · go_wp2_with fail
    go_ret
    exact ⟨rfl, hb⟩
  cases Rf
  · go_wp2_with fail
    go_ret
    exact ⟨rfl, hb⟩
  by_cases x3 : 60 < nq
  · have dx3 : decide ((60 : Int) < (nq : Int)) = true := by simp; omega
    have dx4 : decide (60 < nq) = true := by simpa using x3
    go_wp2_with fail
    go_ret
    exact ⟨rfl, hb⟩
  have dx3 : decide ((60 : Int) < (nq : Int)) = false := by simp; omega
  have dx4 : decide (60 < nq) = false := by simpa using x3
  obtain ⟨hfew, hlow⟩ := fw_low HQf.out
  have HOP : Hid (myB p = true → okT 1099511627776 p) := Lib.hid fun hm => okT_of p ((myB_iff p).1 hm).1 (lt_low HQp.out)
  have HOT : Hid (myB t = true → okT 2199021158400 t) := Lib.hid fun hm => okT_mono (by omega) _ (okT_of t ((myB_iff t).1 hm).1 (lt_low HQt.out))
  have HOB : Hid (∀ x ∈ bs, x.1 = true → myB x.2 = true → okT 2199023255552 x.2) := Lib.hid fun x hx _ hm => okT_mono (by omega) _ (okT_of x.2 ((myB_iff _).1 hm).1 (hlow x hx))
  clear hlow HQp HQt HQf x3
  have HBS3 := Lib.hid (HBS.out.keep hb)

  clear bxp0 bxp1 bxp2 bxpl bxt0 bxt1 bxt2 bxtl
  go_wp2_with (at_builtin; refine wpList_copy_binds HBS3.out HB0.out (by omega) rfl (.const (.slice none 0 0)) (.tmp 47) rfl rfl rfl ?_; intro A2 c2 w4 hwas hb1; have HWAS := Lib.hid hwas; clear hwas; replace bxp := bxp.keep hb1 bxp.lt; replace bxt := bxt.keep hb1 bxt.lt; replace HVp := Lib.hid (Rd.keep hb1 _ _ HVp.out); replace HVt := Lib.hid (Rd.keep hb1 _ _ HVt.out); replace hb := hb.trans (hb1.mono hb.size); clear hb1; obtain ⟨bxp0, bxp1, bxp2⟩ := bxp.three; obtain ⟨bxt0, bxt1, bxt2⟩ := bxt.three)
  have bxpl := bxp.lt
  have bxtl := bxt.lt
  clear HBS3
  refine (MatchC p t n bs pa [] _ _ Ab nb cb Aq nq cq none 0 0 w4 HVp.out HVt.out (HBS.out.keep hb) (HPA.out.keep hb) (lb_nil _) HOP.out HOT.out HOB.out).mono ?_
  have HKB := Lib.hid fun bs' => mt_keep (p := p) (t := t) (n := n) (bs := bs) (bs' := bs') (pa := pa) (ri := [])
  generalize mtR p t n bs pa [] = R at *
  intro e w5 hE
  have hb1 := hE.below
  have HWAS := Lib.hid (HWAS.out.keep hb1)
  have hs45 := hb1.size
  clear bxp0 bxp1 bxp2 bxpl bxt0 bxt1 bxt2 bxtl
  replace bxp := bxp.keep hb1 bxp.lt
  replace bxt := bxt.keep hb1 bxt.lt
  replace HVp := Lib.hid (Rd.keep hb1 _ _ HVp.out)
  replace HVt := Lib.hid (Rd.keep hb1 _ _ HVt.out)
  replace hb := hb.trans (hb1.mono hb.size)
  clear hb1
  have hC := refSbC _ _ bs bs Ab nb cb A2 nb c2 w5 (HBS.out.keep hb) HWAS.out
  rw [same_refl] at hC
  have HC := Lib.hid hC; clear hC
  cases R with
  | error ec =>
    obtain ⟨rfl, hne, _⟩ := hE
    have hne' : (ec != 0) = true := by simpa using hne
    clear hne
    go_wp2_with fail
    refine HC.out.mono ?_
    rintro e w6 ⟨rfl, hb1⟩
    replace hb := hb.trans (hb1.mono hb.size)
    clear hb1
    go_wp2_with fail
    go_ret
    exact ⟨rfl, hb⟩
  | ok bs' =>
    obtain ⟨hkl, hkat⟩ := HKB.out bs' rfl
    obtain ⟨q, rfl, hbl, _⟩ := hE
    have hll : bs'.length = nb := hkl.trans HLB.out
    rw [hll] at hbl ⊢
    have HL := Lib.hid hbl; clear hbl
    have HKA := Lib.hid hkat; clear hkat hkl hll HKB
    go_wp2_with fail
    refine HC.out.mono ?_
    rintro e w6 ⟨rfl, hb1⟩
    have HL := Lib.hid (HL.out.keep hb1)
    replace hb := hb.trans (hb1.mono hb.size)
    clear hb1 HC
    go_wp2_with fail
    go_loopw [19] (fun i wr => ∃ (j : Nat), j ≤ nb ∧ i = .int .i64 j ∧ Hid (Below w6.heap.size w6 wr)) (fun i _ => nb - (Go.RowKit.intOf i).toNat)
    case atStart => exact ⟨0, Nat.zero_le _, rfl, Lib.hid (Below.refl _ _)⟩
    case round =>
      obtain ⟨j, hj, rfl, HBR⟩ := hrel
      have hbr := hb.trans (HBR.out.mono hb.size)
      by_cases hlt : j < nb
      · obtain ⟨x, hx⟩ := at_of HLB.out hlt
        obtain ⟨b1, o1, k1, h1, A1, n1, c1, rfl, c0, c1', c2', c3, hr1⟩ := (HBS.out.at_ j x hx).keep hbr
        obtain ⟨y, hy⟩ := at_of HL.out.len hlt
        obtain ⟨b2, o2, k2, h2, A3, n2, c2'', e2, d0, d1, d2, d3, hr2⟩ := (HL.out.at_ j y hy).keep HBR.out
        obtain ⟨rfl, rfl⟩ : q = b2 ∧ 0 = o2 := by simpa using e2
        rw [Nat.zero_add] at d0 d1 d2 d3
        have hxy : x.1 = true → y = x := fun h => by
          have := HKA.out j x hx h
          rw [hy] at this
          cases this; rfl
        clear e2 hx hy
        obtain ⟨x1, x2⟩ := x
        obtain ⟨y1, y2⟩ := y
        dsimp only at c0 d0 hxy hr1 hr2
        have hi0 : (0 : Int) ≤ j := by omega
        have hi1 : (j : Int) < nb := by omega
        have hge : decide ((nb : Int) ≤ (j : Int)) = false := by simp; omega
        have hge2 : decide (nb ≤ j) = false := by simp; omega
        have HC := Lib.hid fun W' (h : Below wr.heap.size wr W') => termSame y2 x2 _ _ W' (Rd.keep h _ _ (RdF.rd _ _ hr2)) (Rd.keep h _ _ (RdF.rd _ _ hr1))
        clear hr1 hr2
        go_wp2_with fail
        have p0 := Past.cell c0
        have p1 := Past.cell c1'
        have p2 := Past.cell c2'
        have p3 := Past.cell c3
        have q0 := Past.cell d0
        have q1 := Past.cell d1
        have q2 := Past.cell d2
        have q3 := Past.cell d3
        cases x1
        · refine wp_region_past (by kernel_rfl) (by kernel_rfl) ?_
          repeat (go_big_quiet_step (fail))
          refine wpQuiet_nil ?_
          rintro _ ⟨z1, rfl⟩
          obtain ⟨w7, hb1⟩ := z1
          dsimp only
          clear p0 p1 p2 p3 q0 q1 q2 q3 HC c0 c1' c2' c3 d0 d1 d2 d3
          go_wp2_with fail
          go_roundw
          case rel => exact ⟨j + 1, by omega, by go_num, Lib.hid (HBR.out.trans (hb1.mono HBR.out.size))⟩
          case measure => simp [Go.RowKit.intOf]; omega
        · obtain ⟨rfl, rfl⟩ : y1 = true ∧ y2 = x2 := by simpa using hxy rfl
          rw [sam_refl] at HC
          refine wp_region_past (by kernel_rfl) (by kernel_rfl) ?_
          repeat (go_big_quiet_step ((exact calls_past (HC.out _ (Past.h _)))))
          refine wpQuiet_nil ?_
          rintro _ ⟨z1, rfl⟩
          obtain ⟨w7, hb1⟩ := z1
          dsimp only
          clear p0 p1 p2 p3 q0 q1 q2 q3 HC c0 c1' c2' c3 d0 d1 d2 d3
          go_wp2_with fail
          go_roundw
          case rel => exact ⟨j + 1, by omega, by go_num, Lib.hid (HBR.out.trans (hb1.mono HBR.out.size))⟩
          case measure => simp [Go.RowKit.intOf]; omega
      · obtain rfl : j = nb := by omega
        clear HB0 HLB
        go_wp2_with fail
        go_ret
        exact ⟨rfl, hbr⟩
end Go.Proofs.Ytkakfckjmmmjgaa
