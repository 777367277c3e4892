/-
  The walk of the law MatchSelf.
-/
import Derived.Test.YtkakfckjmmmjgaaPkB
import Derived.Test.YtkakfckjmmmjgaaPkA
import Derived.Test.YtkakfckjmmmjgaaWl
namespace Go.Proofs.Ytkakfckjmmmjgaa
open Go.ChangeShapes Go.WideShapes Go.ChangeAt Go.RowKit
set_option linter.unusedVariables false

set_option maxRecDepth 100000 in
set_option maxHeartbeats 8000000 in
theorem matchSelfC (t o : T) (n : Int) (vt vo : Value) (w : World) (hvt : Rd w t vt) (hvo : Rd w o vo) :
    Calls Try.prog 4 #[vt, vo, .int .i64 n] w fun e w' => e = .returned (.bool true) ∧ Below w.heap.size w w' := by
  obtain ⟨kt, ht, At, nt, ct, rfl⟩ := hvt.full
  have HVt := Lib.hid hvt; clear hvt
  obtain ⟨ko, ho, Ao, no, co, rfl⟩ := hvo.full
  have HVo := Lib.hid hvo; clear hvo
  obtain ⟨W0, hW0⟩ : ∃ W0, ((w.alloc (.cells #[.int .i64 kt, .int .i64 ht, .slice At nt ct] 24)).alloc (.cells #[.int .i64 ko, .int .i64 ho, .slice Ao no co] 24)) = W0 := ⟨_, rfl⟩
  have hb : Below w.heap.size w W0 := by rw [← hW0]; exact (((Below.refl _ _).alloc (Nat.le_refl _) _).alloc (by simp) _)
  have bxt : Box W0 (w.heap.size) 24 #[.int .i64 kt, .int .i64 ht, .slice At nt ct] := by rw [← hW0]; exact ((Box.new w _ _).alloc _)
  have bxo : Box W0 (w.heap.size + 1) 24 #[.int .i64 ko, .int .i64 ho, .slice Ao no co] := by rw [← hW0]; exact ((Box.new (w.alloc _) _ _).at (by simp))
  replace HVt := Lib.hid (Rd.keep hb _ _ HVt.out)
  replace HVo := Lib.hid (Rd.keep hb _ _ HVo.out)
  have HW0 := Lib.hid hW0; clear hW0
  go_enter Try.func4, Try.ntmps4
  go_wp2_with fail
  rw [HW0.out]
  clear HW0
  refine (awakeH _).mono ?_
  rintro e w1 ⟨rfl, hb1⟩
  replace bxt := bxt.keep hb1 bxt.lt
  replace bxo := bxo.keep hb1 bxo.lt
  replace HVt := Lib.hid (Rd.keep hb1 _ _ HVt.out)
  replace HVo := Lib.hid (Rd.keep hb1 _ _ HVo.out)
  replace hb := hb.trans (hb1.mono hb.size)
  clear hb1
  obtain ⟨bxt0, bxt1, bxt2⟩ := bxt.three
  have bxtl := bxt.lt
  obtain ⟨bxo0, bxo1, bxo2⟩ := bxo.three
  have bxol := bxo.lt
  go_wp2_with fail
  refine (refLight t 1000 60 _ _ HVt.out).mono ?_
  have HLt : Hid (ltB t 1000 60 = true → ltB t 1000 60 = true) := Lib.hid fun e => e
  generalize hqt : ltB t 1000 60 = Rt at *
  rintro e w2t ⟨rfl, hb1⟩
  have HQt := Lib.hid hqt; clear hqt HLt
  clear bxt0 bxt1 bxt2 bxtl bxo0 bxo1 bxo2 bxol
  replace bxt := bxt.keep hb1 bxt.lt
  replace bxo := bxo.keep hb1 bxo.lt
  replace HVt := Lib.hid (Rd.keep hb1 _ _ HVt.out)
  replace HVo := Lib.hid (Rd.keep hb1 _ _ HVo.out)
  replace hb := hb.trans (hb1.mono hb.size)
  clear hb1
  obtain ⟨bxt0, bxt1, bxt2⟩ := bxt.three
  have bxtl := bxt.lt
  obtain ⟨bxo0, bxo1, bxo2⟩ := bxo.three
  have bxol := bxo.lt
  go_wp2_with fail
  refine (refLight o 1000 60 _ _ HVo.out).mono ?_
  have HLo : Hid (ltB o 1000 60 = true → ltB o 1000 60 = true) := Lib.hid fun e => e
  generalize hqo : ltB o 1000 60 = Ro at *
  rintro e w2o ⟨rfl, hb1⟩
  have HQo := Lib.hid hqo; clear hqo HLo
  clear bxt0 bxt1 bxt2 bxtl bxo0 bxo1 bxo2 bxol
  replace bxt := bxt.keep hb1 bxt.lt
  replace bxo := bxo.keep hb1 bxo.lt
  replace HVt := Lib.hid (Rd.keep hb1 _ _ HVt.out)
  replace HVo := Lib.hid (Rd.keep hb1 _ _ HVo.out)
  replace hb := hb.trans (hb1.mono hb.size)
  clear hb1
  obtain ⟨bxt0, bxt1, bxt2⟩ := bxt.three
  have bxtl := bxt.lt
  obtain ⟨bxo0, bxo1, bxo2⟩ := bxo.three
  have bxol := bxo.lt
  cases Rt
  · go_wp2_with fail
    go_ret
    exact ⟨rfl, hb⟩
  cases Ro
  · go_wp2_with fail
    go_ret
    exact ⟨rfl, hb⟩
  go_wp2_with fail
  refine (myC t _ _ HVt.out).mono ?_
  generalize hqt : myB t = Mt at *
  rintro e w3t ⟨rfl, hb1⟩
  have HMt := Lib.hid hqt; clear hqt
  clear bxt0 bxt1 bxt2 bxtl bxo0 bxo1 bxo2 bxol
  replace bxt := bxt.keep hb1 bxt.lt
  replace bxo := bxo.keep hb1 bxo.lt
  replace HVt := Lib.hid (Rd.keep hb1 _ _ HVt.out)
  replace HVo := Lib.hid (Rd.keep hb1 _ _ HVo.out)
  replace hb := hb.trans (hb1.mono hb.size)
  clear hb1
  obtain ⟨bxt0, bxt1, bxt2⟩ := bxt.three
  have bxtl := bxt.lt
  obtain ⟨bxo0, bxo1, bxo2⟩ := bxo.three
  have bxol := bxo.lt
  cases Mt
  · go_wp2_with fail
    go_ret
    exact ⟨rfl, hb⟩
  have KNt : Hid (Kn 1000 60 t) := Lib.hid (kn_of HQt.out HMt.out); clear HQt HMt
  go_wp2_with fail
  refine (myC o _ _ HVo.out).mono ?_
  generalize hqo : myB o = Mo at *
  rintro e w3o ⟨rfl, hb1⟩
  have HMo := Lib.hid hqo; clear hqo
  clear bxt0 bxt1 bxt2 bxtl bxo0 bxo1 bxo2 bxol
  replace bxt := bxt.keep hb1 bxt.lt
  replace bxo := bxo.keep hb1 bxo.lt
  replace HVt := Lib.hid (Rd.keep hb1 _ _ HVt.out)
  replace HVo := Lib.hid (Rd.keep hb1 _ _ HVo.out)
  replace hb := hb.trans (hb1.mono hb.size)
  clear hb1
  obtain ⟨bxt0, bxt1, bxt2⟩ := bxt.three
  have bxtl := bxt.lt
  obtain ⟨bxo0, bxo1, bxo2⟩ := bxo.three
  have bxol := bxo.lt
  cases Mo
  · go_wp2_with fail
    go_ret
    exact ⟨rfl, hb⟩
  have KNo : Hid (Kn 1000 60 o) := Lib.hid (kn_of HQo.out HMo.out); clear HQo HMo
  by_cases x1 : n < 0
  · have dx1 : decide (n < 0) = true := by simpa using x1
    go_wp2_with fail
    go_ret
    exact ⟨rfl, hb⟩
  have dx1 : decide (n < 0) = false := by simpa using x1
  by_cases x2 : 100 < n
  · have dx2 : decide (100 < n) = true := by simpa using x2
    go_wp2_with fail
    go_ret
    exact ⟨rfl, hb⟩
  have dx2 : decide (100 < n) = false := by simpa using x2
  go_wp2_with fail
  have hndt : nd t ≤ 1048576 := by have := KNt.out.n4; omega
  refine (oMetasC t _ _ HVt.out hndt).mono ?_
  rintro e w4 ⟨ut, rfl, hns, hb1⟩
  rw [mtO_eq] at hns
  obtain ⟨Am, cm, rfl, _⟩ := hns
  obtain ⟨Lm, hLm⟩ : ∃ L, (mtO t).length = L := ⟨_, rfl⟩
  rw [hLm]
  clear bxt0 bxt1 bxt2 bxtl bxo0 bxo1 bxo2 bxol
  replace bxt := bxt.keep hb1 bxt.lt
  replace bxo := bxo.keep hb1 bxo.lt
  replace HVt := Lib.hid (Rd.keep hb1 _ _ HVt.out)
  replace HVo := Lib.hid (Rd.keep hb1 _ _ HVo.out)
  replace hb := hb.trans (hb1.mono hb.size)
  clear hb1
  obtain ⟨bxt0, bxt1, bxt2⟩ := bxt.three
  have bxtl := bxt.lt
  obtain ⟨bxo0, bxo1, bxo2⟩ := bxo.three
  have bxol := bxo.lt
  have HLM := Lib.hid hLm; clear hLm hndt
  by_cases hL0 : 0 < Lm
  · have dL : decide ((0 : Int) < (Lm : Int)) = true := by simp; omega
    have dL2 : decide (0 < Lm) = true := by simpa using hL0
    go_wp2_with fail
    go_ret
    exact ⟨rfl, hb⟩
  have dL : decide ((0 : Int) < (Lm : Int)) = false := by simp; omega
  have dL2 : decide (0 < Lm) = false := by simpa using hL0
  have HMT : Hid (mts t = []) := Lib.hid (mtO_nil.1 (List.length_eq_zero_iff.1 (by rw [HLM.out]; omega)))
  clear hL0
  have hn0 : 0 ≤ n := by omega
  have hn1 : n ≤ 1000 := by omega
  have HE1 := Lib.hid (mt_bare (o := t) KNt.out.my KNt.out.my hn0 hn1 HMT.out)
  have HE2 := Lib.hid (mt_bare KNt.out.my KNo.out.my hn0 hn1 HMT.out)
  have hC1 := MatchC t t n [] [] [] _ _ none 0 0 none 0 0 none 0 0 w4 HVt.out HVt.out (bl_nil _ _) (lb_nil _) (lb_nil _) (fun _ => KNt.out.ok) (fun _ => okT_mono (by omega) _ KNt.out.ok) (fun x hx => by cases hx)
  rw [HE1.out, sam_refl, if_pos rfl] at hC1
  have HC1 := Lib.hid hC1; clear hC1 HE1
  clear bxt0 bxt1 bxt2 bxtl bxo0 bxo1 bxo2 bxol
  obtain ⟨bxt0, bxt1, bxt2⟩ := bxt.three
  have bxtl := bxt.lt
  obtain ⟨bxo0, bxo1, bxo2⟩ := bxo.three
  have bxol := bxo.lt
  go_wp2_with fail
  refine HC1.out.mono ?_
  clear HC1
  rintro e w5 ⟨p, rfl, _, hb1⟩
  simp only [List.length_nil]
  clear bxt0 bxt1 bxt2 bxtl bxo0 bxo1 bxo2 bxol
  replace bxt := bxt.keep hb1 bxt.lt
  replace bxo := bxo.keep hb1 bxo.lt
  replace HVt := Lib.hid (Rd.keep hb1 _ _ HVt.out)
  replace HVo := Lib.hid (Rd.keep hb1 _ _ HVo.out)
  replace hb := hb.trans (hb1.mono hb.size)
  clear hb1
  obtain ⟨bxt0, bxt1, bxt2⟩ := bxt.three
  have bxtl := bxt.lt
  obtain ⟨bxo0, bxo1, bxo2⟩ := bxo.three
  have bxol := bxo.lt
  have hC2 := MatchC t o n [] [] [] _ _ none 0 0 none 0 0 none 0 0 w5 HVt.out HVo.out (bl_nil _ _) (lb_nil _) (lb_nil _) (fun _ => KNt.out.ok) (fun _ => okT_mono (by omega) _ KNo.out.ok) (fun x hx => by cases hx)
  rw [HE2.out] at hC2
  have HC2 := Lib.hid hC2; clear hC2 HE2
  go_wp2_with fail
  refine HC2.out.mono ?_
  clear HC2
  have HSM : Hid (∀ W, Below w5.heap.size w5 W → Calls Try.prog 15 #[.agg #[.int .i64 kt, .int .i64 ht, .slice At nt ct], .agg #[.int .i64 ko, .int .i64 ho, .slice Ao no co]] W fun e w' => e = .returned (.bool (samB t o)) ∧ Below W.heap.size W w') := Lib.hid fun W h => termSame t o _ _ W (Rd.keep h _ _ HVt.out) (Rd.keep h _ _ HVo.out)
  generalize samB t o = s at *
  intro e w6 hE
  have hb1 := hE.below
  have hcs := HSM.out w6 hb1
  have HCS := Lib.hid hcs; clear hcs HSM
  clear bxt0 bxt1 bxt2 bxtl bxo0 bxo1 bxo2 bxol
  replace bxt := bxt.keep hb1 bxt.lt
  replace bxo := bxo.keep hb1 bxo.lt
  replace HVt := Lib.hid (Rd.keep hb1 _ _ HVt.out)
  replace HVo := Lib.hid (Rd.keep hb1 _ _ HVo.out)
  replace hb := hb.trans (hb1.mono hb.size)
  clear hb1
  obtain ⟨bxt0, bxt1, bxt2⟩ := bxt.three
  have bxtl := bxt.lt
  obtain ⟨bxo0, bxo1, bxo2⟩ := bxo.three
  have bxol := bxo.lt
  cases s
  · obtain ⟨rfl, _, _⟩ := hE
    go_wp2_with fail
    refine HCS.out.mono ?_
    rintro e w7 ⟨rfl, hb1⟩
    have hbf := hb.trans (hb1.mono hb.size)
    clear hb1
    go_wp2_with fail
    go_ret
    exact ⟨rfl, hbf⟩
  · obtain ⟨q, rfl, _, _⟩ := hE
    simp only [List.length_nil]
    go_wp2_with fail
    refine HCS.out.mono ?_
    rintro e w7 ⟨rfl, hb1⟩
    have hbf := hb.trans (hb1.mono hb.size)
    clear hb1
    go_wp2_with fail
    go_ret
    exact ⟨rfl, hbf⟩
end Go.Proofs.Ytkakfckjmmmjgaa
