/-
  The walk of the law MatchParam.
-/
import Derived.Test.YtkakfckjmmmjgaaPkB
import Derived.Test.YtkakfckjmmmjgaaWl
namespace Go.Proofs.Ytkakfckjmmmjgaa
open Go.ChangeShapes Go.WideShapes Go.ChangeAt Go.RowKit
set_option linter.unusedVariables false

set_option maxRecDepth 100000 in
set_option maxHeartbeats 8000000 in
theorem matchParamC (t : T) (n : Int) (ri : List Bool) (Ar : Option Addr) (nr cr : Nat) (vt : Value) (w : World) (hvt : Rd w t vt) (hri : LB w ri Ar nr cr) :
    Calls Try.prog 5 #[vt, .int .i64 n, .slice Ar nr cr] w fun e w' => e = .returned (.bool true) ∧ Below w.heap.size w w' := by
  have HRI := Lib.hid hri; clear hri
  have hmk := make_one
  obtain ⟨kt, ht, At, nt, ct, rfl⟩ := hvt.full
  have HVt := Lib.hid hvt; clear hvt
  obtain ⟨W0, hW0⟩ : ∃ W0, (w.alloc (.cells #[.int .i64 kt, .int .i64 ht, .slice At nt ct] 24)) = W0 := ⟨_, rfl⟩
  have hb : Below w.heap.size w W0 := by rw [← hW0]; exact ((Below.refl _ _).alloc (Nat.le_refl _) _)
  have bxt : Box W0 (w.heap.size) 24 #[.int .i64 kt, .int .i64 ht, .slice At nt ct] := by rw [← hW0]; exact (Box.new w _ _)
  replace HVt := Lib.hid (Rd.keep hb _ _ HVt.out)
  have HW0 := Lib.hid hW0; clear hW0
  go_enter Try.func5, Try.ntmps5
  go_wp2_with fail
  rw [HW0.out]
  clear HW0
  refine (awakeH _).mono ?_
  rintro e w1 ⟨rfl, hb1⟩
  replace bxt := bxt.keep hb1 bxt.lt
  replace HVt := Lib.hid (Rd.keep hb1 _ _ HVt.out)
  replace hb := hb.trans (hb1.mono hb.size)
  clear hb1
  obtain ⟨bxt0, bxt1, bxt2⟩ := bxt.three
  have bxtl := bxt.lt
  go_wp2_with fail
  refine (refLight t 1000 60 _ _ HVt.out).mono ?_
  have HLt : Hid (ltB t 1000 60 = true → ltB t 1000 60 = true) := Lib.hid fun e => e
  generalize hqt : ltB t 1000 60 = Rt at *
  rintro e w2t ⟨rfl, hb1⟩
  have HQt := Lib.hid hqt; clear hqt HLt
  clear bxt0 bxt1 bxt2 bxtl
  replace bxt := bxt.keep hb1 bxt.lt
  replace HVt := Lib.hid (Rd.keep hb1 _ _ HVt.out)
  replace hb := hb.trans (hb1.mono hb.size)
  clear hb1
  obtain ⟨bxt0, bxt1, bxt2⟩ := bxt.three
  have bxtl := bxt.lt
  cases Rt
  · go_wp2_with fail
    go_ret
    exact ⟨rfl, hb⟩
  go_wp2_with fail
  refine (myC t _ _ HVt.out).mono ?_
  generalize hqt : myB t = Mt at *
  rintro e w3t ⟨rfl, hb1⟩
  have HMt := Lib.hid hqt; clear hqt
  clear bxt0 bxt1 bxt2 bxtl
  replace bxt := bxt.keep hb1 bxt.lt
  replace HVt := Lib.hid (Rd.keep hb1 _ _ HVt.out)
  replace hb := hb.trans (hb1.mono hb.size)
  clear hb1
  obtain ⟨bxt0, bxt1, bxt2⟩ := bxt.three
  have bxtl := bxt.lt
  cases Mt
  · go_wp2_with fail
    go_ret
    exact ⟨rfl, hb⟩
  have KNt : Hid (Kn 1000 60 t) := Lib.hid (kn_of HQt.out HMt.out); clear HQt HMt
  by_cases x1 : n < 0
  · have dx1 : decide (n < 0) = true := by simpa using x1
    go_wp2_with fail
    go_ret
    exact ⟨rfl, hb⟩
  have dx1 : decide (n < 0) = false := by simpa using x1
  by_cases x2 : 100 < n
  · have dx2 : decide (100 < n) = true := by simpa using x2
    go_wp2_with fail
    go_ret
    exact ⟨rfl, hb⟩
  have dx2 : decide (100 < n) = false := by simpa using x2
  by_cases x3 : 60 < nr
  · have dx3 : decide ((60 : Int) < (nr : Int)) = true := by simp; omega
    have dx4 : decide (60 < nr) = true := by simpa using x3
    go_wp2_with fail
    go_ret
    exact ⟨rfl, hb⟩
  have dx3 : decide ((60 : Int) < (nr : Int)) = false := by simp; omega
  have dx4 : decide (60 < nr) = false := by simpa using x3
  have hn0 : 0 ≤ n := by omega
  have hn1 : n ≤ 1000 := by omega
  obtain ⟨ok, hok⟩ := mt_one (ri := ri) ⟨KNt.out.my, okT_mono (by omega) _ KNt.out.ok⟩ hn0 hn1
  have HOK := Lib.hid hok; clear hok
  go_wp2_with fail
  clear bxt0 bxt1 bxt2 bxtl
  have hbA : Below w3t.heap.size w3t (w3t.alloc (.cells #[.int .i64 6, .int .i64 0, .slice none 0 0] 24)) := (Below.refl _ _).alloc (Nat.le_refl _) _
  have bxp := Box.new w3t 24 #[.int .i64 6, .int .i64 0, .slice none 0 0]
  generalize w3t.alloc (.cells #[.int .i64 6, .int .i64 0, .slice none 0 0] 24) = W5 at *
  replace bxt := bxt.keep hbA bxt.lt
  replace HVt := Lib.hid (Rd.keep hbA _ _ HVt.out)
  replace hb := hb.trans (hbA.mono hb.size)
  clear hbA
  have HP : Hid (Rd W5 (.node 6 0 []) (.agg #[.int .i64 6, .int .i64 0, .slice none 0 0])) := Lib.hid (rd_leaf (by decide) (by decide))
  have HM : Hid (∀ (b : Bool) W' q1 q2, Hid (Below W5.heap.size W5 W') → Box W' q1 40 #[.bool false, .int .i64 0, .int .i64 0, .slice none 0 0] → Box W' q2 4 #[.bool b] → Calls Try.prog 14 #[.agg #[.int .i64 6, .int .i64 0, .slice none 0 0], .agg #[.int .i64 kt, .int .i64 ht, .slice At nt ct], .int .i64 n, .slice (some ⟨q1, 0, none⟩) 1 1, .slice (some ⟨q2, 0, none⟩) 1 1, .slice Ar nr cr] W' (fun e w' => (∃ A n c, e = .returned (.tuple #[.slice A n c, .int .i64 (if (ok && (!b || vaB ri t)) = true then 0 else 6)])) ∧ Below W'.heap.size W' w')) := Lib.hid fun b W' q1 q2 hb' h1 h2 => by
    have := MatchC (.node 6 0 []) t n [noB] [b] ri _ _ _ 1 1 _ 1 1 Ar nr cr W' (Rd.keep hb'.out _ _ HP.out) (Rd.keep hb'.out _ _ HVt.out) (bl_one h1) (lb_one h2) (HRI.out.keep (hb.trans (hb'.out.mono hb.size))) (fun _ => by simp [okT, okL]) (fun _ => okT_mono (by omega) _ KNt.out.ok) fun x hx h1 => by rw [List.mem_singleton.1 hx] at h1; cases h1
    refine this.mono fun e w' h => ?_
    obtain ⟨⟨A, m, c, h3⟩, h4⟩ := h.uni
    rw [HOK.out b] at h3
    exact ⟨⟨A, m, c, h3⟩, h4⟩
  have HM2 := Lib.hid (HM.out false)
  have HM0 := Lib.hid (HM.out true)
  simp only [Bool.not_true, Bool.false_or, Bool.not_false, Bool.true_or, Bool.and_true] at HM0 HM2
  obtain ⟨E1, hE1⟩ : ∃ E : Int, (if (ok && vaB ri t) = true then 0 else 6) = E := ⟨_, rfl⟩
  obtain ⟨E2, hE2⟩ : ∃ E : Int, (if ok = true then 0 else 6) = E := ⟨_, rfl⟩
  rw [hE1] at HM0
  rw [hE2] at HM2
  have HE1 := Lib.hid hE1; clear hE1
  have HE2 := Lib.hid hE2; clear hE2
  have HM1 := Lib.hid fun W' q1 q2 hb' h1 h2 => (HM0.out W' q1 q2 hb' h1 h2).mono fun e w' h => (⟨h.1, cur_trans hb' h.2⟩ : _ ∧ Hid (Below W5.heap.size W5 w'))
  clear HM HM0
  have HRI5 := Lib.hid (HRI.out.keep hb)
  have hKD : Hid (nodB t = true) := Lib.hid KNt.out.nod
  clear HOK HP dx4 dx3 dx2 dx1 KNt
  obtain ⟨bxt0, bxt1, bxt2⟩ := bxt.three
  have bxtl := bxt.lt
  obtain ⟨bxp0, bxp1, bxp2⟩ := bxp.three
  have bxpl := bxp.lt
  have HK : Hid (∀ w', Hid (Below W5.heap.size W5 w') → (w'.cell? ⟨w.heap.size, 0, none⟩ = some (.int .i64 kt) ∧ w'.cell? ⟨w.heap.size, 1, none⟩ = some (.int .i64 ht) ∧ w'.cell? ⟨w.heap.size, 2, none⟩ = some (.slice At nt ct) ∧ w'.cell? ⟨w3t.heap.size, 0, none⟩ = some (.int .i64 6) ∧ w'.cell? ⟨w3t.heap.size, 1, none⟩ = some (.int .i64 0) ∧ w'.cell? ⟨w3t.heap.size, 2, none⟩ = some (.slice none 0 0) ∧ Hid (Below W5.heap.size W5 w'))) := Lib.hid fun w' h => by
    have s0 := bxt.keep h.out bxt.lt
    have s1 := bxp.keep h.out bxp.lt
    exact ⟨s0.three.1, s0.three.2.1, s0.three.2.2, s1.three.1, s1.three.2.1, s1.three.2.2, h⟩
  have hcu0 : Hid (Below W5.heap.size W5 W5.drew) := cur_drew
  go_region_held3 (fun w' => w'.cell? ⟨w.heap.size, 0, none⟩ = some (.int .i64 kt) ∧ w'.cell? ⟨w.heap.size, 1, none⟩ = some (.int .i64 ht) ∧ w'.cell? ⟨w.heap.size, 2, none⟩ = some (.slice At nt ct) ∧ w'.cell? ⟨w3t.heap.size, 0, none⟩ = some (.int .i64 6) ∧ w'.cell? ⟨w3t.heap.size, 1, none⟩ = some (.int .i64 0) ∧ w'.cell? ⟨w3t.heap.size, 2, none⟩ = some (.slice none 0 0) ∧ Hid (Below W5.heap.size W5 w'))
    (first | exact HK.out _ (by assumption) | exact HK.out _ (cur_alloc (by assumption) _) | exact HK.out _ (cur_alloc (cur_alloc (by assumption) _) _))
    (first
      | (go_at_call 14
         with_reducible refine Calls.mono (HM1.out _ _ _ ?hh ?hx ?hy) ?_
         case hh => first | assumption | exact cur_alloc (by assumption) _ | exact cur_alloc (cur_alloc (by assumption) _) _ | exact Lib.hid (((Below.refl _ _).alloc (Nat.le_refl _) _).drew) | exact Lib.hid ((((Below.refl _ _).alloc (Nat.le_refl _) _).alloc (by simp) _).drew)
         case hx => first | exact (Box.new _ _ _).alloc _ | exact Box.at1 (Box.new _ _ _) | exact Box.drewI ((Box.new _ _ _).alloc _) | exact Box.drewI (Box.at1 (Box.new _ _ _)) | exact Box.at1 (Box.drewI (Box.new _ _ _)) | exact (Box.drewI (Box.new _ _ _)).alloc _
         case hy => first | exact (Box.new _ _ _).alloc _ | exact Box.at1 (Box.new _ _ _) | exact Box.drewI ((Box.new _ _ _).alloc _) | exact Box.drewI (Box.at1 (Box.new _ _ _)) | exact Box.at1 (Box.drewI (Box.new _ _ _)) | exact (Box.drewI (Box.new _ _ _)).alloc _
         rintro e w6 ⟨⟨A1, n1, c1, rfl⟩, hcu⟩))
  all_goals (
    have hb1 := hcu.out
    have HM3 : Hid (∀ W' q1 q2, Hid (Below w6.heap.size w6 W') → Box W' q1 40 #[.bool false, .int .i64 0, .int .i64 0, .slice none 0 0] → Box W' q2 4 #[.bool false] → Calls Try.prog 14 #[.agg #[.int .i64 6, .int .i64 0, .slice none 0 0], .agg #[.int .i64 kt, .int .i64 ht, .slice At nt ct], .int .i64 n, .slice (some ⟨q1, 0, none⟩) 1 1, .slice (some ⟨q2, 0, none⟩) 1 1, .slice Ar nr cr] W' (fun e w' => (∃ A n c, e = .returned (.tuple #[.slice A n c, .int .i64 E2])) ∧ Hid (Below w6.heap.size w6 w'))) := Lib.hid fun W' q1 q2 hb' h1 h2 =>
      (HM2.out W' q1 q2 (cur_trans hcu hb'.out) h1 h2).mono fun e w' h => ⟨h.1, cur_trans hb' h.2⟩
    clear HM1 HM2 HK hcu0
    clear bxt0 bxt1 bxt2 bxtl bxp0 bxp1 bxp2 bxpl
    replace bxt := bxt.keep hb1 bxt.lt
    replace bxp := bxp.keep hb1 bxp.lt
    replace HVt := Lib.hid (Rd.keep hb1 _ _ HVt.out)
    replace hb := hb.trans (hb1.mono hb.size)
    clear hb1
    obtain ⟨bxt0, bxt1, bxt2⟩ := bxt.three
    have bxtl := bxt.lt
    obtain ⟨bxp0, bxp1, bxp2⟩ := bxp.three
    have bxpl := bxp.lt
    go_wp2_with fail
    have HK : Hid (∀ w', Hid (Below w6.heap.size w6 w') → (w'.cell? ⟨w.heap.size, 0, none⟩ = some (.int .i64 kt) ∧ w'.cell? ⟨w.heap.size, 1, none⟩ = some (.int .i64 ht) ∧ w'.cell? ⟨w.heap.size, 2, none⟩ = some (.slice At nt ct) ∧ w'.cell? ⟨w3t.heap.size, 0, none⟩ = some (.int .i64 6) ∧ w'.cell? ⟨w3t.heap.size, 1, none⟩ = some (.int .i64 0) ∧ w'.cell? ⟨w3t.heap.size, 2, none⟩ = some (.slice none 0 0) ∧ Hid (Below w6.heap.size w6 w'))) := Lib.hid fun w' h => by
      have s0 := bxt.keep h.out bxt.lt
      have s1 := bxp.keep h.out bxp.lt
      exact ⟨s0.three.1, s0.three.2.1, s0.three.2.2, s1.three.1, s1.three.2.1, s1.three.2.2, h⟩
    have hcu0 : Hid (Below w6.heap.size w6 w6.drew) := cur_drew
    go_region_held3 (fun w' => w'.cell? ⟨w.heap.size, 0, none⟩ = some (.int .i64 kt) ∧ w'.cell? ⟨w.heap.size, 1, none⟩ = some (.int .i64 ht) ∧ w'.cell? ⟨w.heap.size, 2, none⟩ = some (.slice At nt ct) ∧ w'.cell? ⟨w3t.heap.size, 0, none⟩ = some (.int .i64 6) ∧ w'.cell? ⟨w3t.heap.size, 1, none⟩ = some (.int .i64 0) ∧ w'.cell? ⟨w3t.heap.size, 2, none⟩ = some (.slice none 0 0) ∧ Hid (Below w6.heap.size w6 w'))
      (first | exact HK.out _ (by assumption) | exact HK.out _ (cur_alloc (by assumption) _) | exact HK.out _ (cur_alloc (cur_alloc (by assumption) _) _))
      (first
        | (go_at_call 14
           with_reducible refine Calls.mono (HM3.out _ _ _ ?hh ?hx ?hy) ?_
           case hh => first | assumption | exact cur_alloc (by assumption) _ | exact cur_alloc (cur_alloc (by assumption) _) _ | exact Lib.hid (((Below.refl _ _).alloc (Nat.le_refl _) _).drew) | exact Lib.hid ((((Below.refl _ _).alloc (Nat.le_refl _) _).alloc (by simp) _).drew)
           case hx => first | exact (Box.new _ _ _).alloc _ | exact Box.at1 (Box.new _ _ _) | exact Box.drewI ((Box.new _ _ _).alloc _) | exact Box.drewI (Box.at1 (Box.new _ _ _)) | exact Box.at1 (Box.drewI (Box.new _ _ _)) | exact (Box.drewI (Box.new _ _ _)).alloc _
           case hy => first | exact (Box.new _ _ _).alloc _ | exact Box.at1 (Box.new _ _ _) | exact Box.drewI ((Box.new _ _ _).alloc _) | exact Box.drewI (Box.at1 (Box.new _ _ _)) | exact Box.at1 (Box.drewI (Box.new _ _ _)) | exact (Box.drewI (Box.new _ _ _)).alloc _
           rintro e w7 ⟨⟨A1, n1, c1, rfl⟩, hcu⟩))
    all_goals (
      have hb1 := hcu.out
      clear HM3 HK hcu0
      clear bxt0 bxt1 bxt2 bxtl bxp0 bxp1 bxp2 bxpl
      replace bxt := bxt.keep hb1 bxt.lt
      replace bxp := bxp.keep hb1 bxp.lt
      replace HVt := Lib.hid (Rd.keep hb1 _ _ HVt.out)
      replace hb := hb.trans (hb1.mono hb.size)
      clear hb1
      obtain ⟨k0, h0, xs⟩ := t
      obtain ⟨A0, n0, c0, e0, _, _, hl0, hc0, hm0, _⟩ := Rd_node.1 HVt.out
      obtain ⟨rfl, rfl, rfl, rfl, rfl⟩ : kt = k0 ∧ ht = h0 ∧ At = A0 ∧ nt = n0 ∧ ct = c0 := by simpa using e0
      have HRI7 := HRI.out.keep hb
      have hrl := HRI7.len
      have hrc := HRI7.le
      have hrm := HRI7.cap
      have hnd := hKD.out
      have HL0 := Lib.hid hl0
      obtain ⟨t0, t1, t2⟩ := bxt.three
      clear e0 hl0 HVt HRI HRI5 hKD hmk bxp
      by_cases k4 : kt = 4
      · subst k4
        by_cases hn : nt = 0
        · have hva : vaB ri (.node 4 ht xs) = true := by rw [vaB, if_neg (by decide), HL0.out, hn]; rfl
          subst hn
          clear hrl HRI7
          rw [hva] at HE1
          clear hva HL0
          cases ok
          · obtain rfl : 6 = E1 := HE1.out
            obtain rfl : 6 = E2 := HE2.out
            go_wp2_with fail
            go_ret
            exact ⟨rfl, hb⟩
          · obtain rfl : 0 = E1 := HE1.out
            obtain rfl : 0 = E2 := HE2.out
            go_wp2_with fail
            go_ret
            exact ⟨rfl, hb⟩
        · have hva : vaB ri (.node 4 ht xs) = false := by rw [vaB, if_neg (by decide), HL0.out, decide_eq_false hn]; rfl
          have e0 : ((nt : Int) == 0) = false := by rw [beq_eq_false_iff_ne]; omega
          clear hrl HRI7
          rw [hva] at HE1
          clear hva HL0
          cases ok
          · obtain rfl : 6 = E1 := HE1.out
            obtain rfl : 6 = E2 := HE2.out
            go_wp2_with fail
            go_ret
            exact ⟨rfl, hb⟩
          · obtain rfl : 6 = E1 := HE1.out
            obtain rfl : 0 = E2 := HE2.out
            go_wp2_with fail
            go_ret
            exact ⟨rfl, hb⟩
      by_cases k6 : kt = 6
      · subst k6
        have hh0 : 0 ≤ ht := by
          have := (node_parts hnd).1
          simp [okN] at this
          omega
        by_cases hlt : ht < nr
        · obtain ⟨z, hz⟩ : ∃ z, ri[ht.toNat]? = some z := ⟨_, List.getElem?_eq_getElem (by omega)⟩
          obtain ⟨b2, o2, rfl, cz⟩ := HRI7.at_ _ _ hz
          have hd : decide (ht < (nr : Int)) = true := by simpa using hlt
          have hva : vaB ri (.node 6 ht xs) = z := by rw [vaB, if_pos rfl, hrl, List.getD_eq_getElem?_getD, hz, hd]; rfl
          clear hz hrl HRI7
          cases z
          · skip
            rw [hva] at HE1
            clear hva HL0
            cases ok
            · obtain rfl : 6 = E1 := HE1.out
              obtain rfl : 6 = E2 := HE2.out
              go_wp2_with fail
              go_ret
              exact ⟨rfl, hb⟩
            · obtain rfl : 6 = E1 := HE1.out
              obtain rfl : 0 = E2 := HE2.out
              go_wp2_with fail
              go_ret
              exact ⟨rfl, hb⟩
          · skip
            rw [hva] at HE1
            clear hva HL0
            cases ok
            · obtain rfl : 6 = E1 := HE1.out
              obtain rfl : 6 = E2 := HE2.out
              go_wp2_with fail
              go_ret
              exact ⟨rfl, hb⟩
            · obtain rfl : 0 = E1 := HE1.out
              obtain rfl : 0 = E2 := HE2.out
              go_wp2_with fail
              go_ret
              exact ⟨rfl, hb⟩
        · have hd : decide (ht < (nr : Int)) = false := by simpa using hlt
          have hva : vaB ri (.node 6 ht xs) = false := by rw [vaB, if_pos rfl, hrl, hd]; rfl
          clear hrl HRI7
          rw [hva] at HE1
          clear hva HL0
          cases ok
          · obtain rfl : 6 = E1 := HE1.out
            obtain rfl : 6 = E2 := HE2.out
            go_wp2_with fail
            go_ret
            exact ⟨rfl, hb⟩
          · obtain rfl : 6 = E1 := HE1.out
            obtain rfl : 0 = E2 := HE2.out
            go_wp2_with fail
            go_ret
            exact ⟨rfl, hb⟩
      · have hd4 : (kt == 4) = false := by simpa using k4
        have hd6 : (kt == 6) = false := by simpa using k6
        have hva : vaB ri (.node kt ht xs) = false := by rw [vaB, if_neg k6, decide_eq_false k4]; rfl
        clear hrl HRI7
        rw [hva] at HE1
        clear hva HL0
        cases ok
        · obtain rfl : 6 = E1 := HE1.out
          obtain rfl : 6 = E2 := HE2.out
          go_wp2_with fail
          go_ret
          exact ⟨rfl, hb⟩
        · obtain rfl : 6 = E1 := HE1.out
          obtain rfl : 0 = E2 := HE2.out
          go_wp2_with fail
          go_ret
          exact ⟨rfl, hb⟩))
end Go.Proofs.Ytkakfckjmmmjgaa
