/-
  The walk of the law SubstTwice.
-/
import Derived.Test.YtinjeocfnhhlmaaPg
namespace Go.Proofs.Ytinjeocfnhhlmaa
open Go.ChangeShapes Go.WideShapes Go.ChangeAt Go.RowKit
set_option linter.unusedVariables false

set_option maxRecDepth 100000 in
set_option maxHeartbeats 8000000 in
theorem substTwiceC (t n m : T) (v u z : Value) (w : World) (hvt : Rd w t v) (hvn : Rd w n u) (hvm : Rd w m z) :
    Calls Try.prog 18 #[v, u, z] w fun e w' => e = .returned (.bool true) ∧ Below w.heap.size w w' := by
  obtain ⟨kt, ht, At, nt, ct, rfl⟩ := hvt.full
  have HVt := Lib.hid hvt; clear hvt
  obtain ⟨kn, hn, An, nn, cn, rfl⟩ := hvn.full
  have HVn := Lib.hid hvn; clear hvn
  obtain ⟨km, hm, Am, nm, cm, rfl⟩ := hvm.full
  have HVm := Lib.hid hvm; clear hvm
  obtain ⟨W0, hW0⟩ : ∃ W0, (((w.alloc (.cells #[.int .i64 kt, .int .i64 ht, .slice At nt ct] 24)).alloc (.cells #[.int .i64 kn, .int .i64 hn, .slice An nn cn] 24)).alloc (.cells #[.int .i64 km, .int .i64 hm, .slice Am nm cm] 24)) = W0 := ⟨_, rfl⟩
  have hb : Below w.heap.size w W0 := by rw [← hW0]; exact ((((Below.refl _ _).alloc (Nat.le_refl _) _).alloc (by simp) _).alloc (by simp; omega) _)
  have bxt : Box W0 (w.heap.size) 24 #[.int .i64 kt, .int .i64 ht, .slice At nt ct] := by rw [← hW0]; exact (((Box.new w _ _).alloc _).alloc _)
  have bxn : Box W0 (w.heap.size + 1) 24 #[.int .i64 kn, .int .i64 hn, .slice An nn cn] := by rw [← hW0]; exact (((Box.new (w.alloc _) _ _).at (by simp)).alloc _)
  have bxm : Box W0 (w.heap.size + 1 + 1) 24 #[.int .i64 km, .int .i64 hm, .slice Am nm cm] := by rw [← hW0]; exact ((Box.new ((w.alloc _).alloc _) _ _).at (by simp))
  replace HVt := Lib.hid (Rd.keep hb _ _ HVt.out)
  replace HVn := Lib.hid (Rd.keep hb _ _ HVn.out)
  replace HVm := Lib.hid (Rd.keep hb _ _ HVm.out)
  have HW0 := Lib.hid hW0; clear hW0
  go_enter Try.func18, Try.ntmps18
  go_wp2_with fail
  rw [HW0.out]
  clear HW0
  refine (awakeU _).mono ?_
  rintro e w1 ⟨rfl, hb1⟩
  replace bxt := bxt.keep hb1 bxt.lt
  replace bxn := bxn.keep hb1 bxn.lt
  replace bxm := bxm.keep hb1 bxm.lt
  replace HVt := Lib.hid (Rd.keep hb1 _ _ HVt.out)
  replace HVn := Lib.hid (Rd.keep hb1 _ _ HVn.out)
  replace HVm := Lib.hid (Rd.keep hb1 _ _ HVm.out)
  replace hb := hb.trans (hb1.mono hb.size)
  clear hb1
  obtain ⟨bxt0, bxt1, bxt2⟩ := bxt.three
  have bxtl := bxt.lt
  obtain ⟨bxn0, bxn1, bxn2⟩ := bxn.three
  have bxnl := bxn.lt
  obtain ⟨bxm0, bxm1, bxm2⟩ := bxm.three
  have bxml := bxm.lt
  go_wp2_with fail
  refine (refLight t 400 60 _ _ HVt.out).mono ?_
  have HLt : Hid (ltB t 400 60 = true → ltB t 400 60 = true) := Lib.hid fun e => e
  generalize hqt : ltB t 400 60 = Rt at *
  rintro e w2t ⟨rfl, hb1⟩
  have HQt := Lib.hid hqt; clear hqt HLt
  clear bxt0 bxt1 bxt2 bxtl bxn0 bxn1 bxn2 bxnl bxm0 bxm1 bxm2 bxml
  replace bxt := bxt.keep hb1 bxt.lt
  replace bxn := bxn.keep hb1 bxn.lt
  replace bxm := bxm.keep hb1 bxm.lt
  replace HVt := Lib.hid (Rd.keep hb1 _ _ HVt.out)
  replace HVn := Lib.hid (Rd.keep hb1 _ _ HVn.out)
  replace HVm := Lib.hid (Rd.keep hb1 _ _ HVm.out)
  replace hb := hb.trans (hb1.mono hb.size)
  clear hb1
  obtain ⟨bxt0, bxt1, bxt2⟩ := bxt.three
  have bxtl := bxt.lt
  obtain ⟨bxn0, bxn1, bxn2⟩ := bxn.three
  have bxnl := bxn.lt
  obtain ⟨bxm0, bxm1, bxm2⟩ := bxm.three
  have bxml := bxm.lt
  go_wp2_with fail
  refine (refLight n 400 60 _ _ HVn.out).mono ?_
  have HLn : Hid (ltB n 400 60 = true → ltB n 400 60 = true) := Lib.hid fun e => e
  generalize hqn : ltB n 400 60 = Rn at *
  rintro e w2n ⟨rfl, hb1⟩
  have HQn := Lib.hid hqn; clear hqn HLn
  clear bxt0 bxt1 bxt2 bxtl bxn0 bxn1 bxn2 bxnl bxm0 bxm1 bxm2 bxml
  replace bxt := bxt.keep hb1 bxt.lt
  replace bxn := bxn.keep hb1 bxn.lt
  replace bxm := bxm.keep hb1 bxm.lt
  replace HVt := Lib.hid (Rd.keep hb1 _ _ HVt.out)
  replace HVn := Lib.hid (Rd.keep hb1 _ _ HVn.out)
  replace HVm := Lib.hid (Rd.keep hb1 _ _ HVm.out)
  replace hb := hb.trans (hb1.mono hb.size)
  clear hb1
  obtain ⟨bxt0, bxt1, bxt2⟩ := bxt.three
  have bxtl := bxt.lt
  obtain ⟨bxn0, bxn1, bxn2⟩ := bxn.three
  have bxnl := bxn.lt
  obtain ⟨bxm0, bxm1, bxm2⟩ := bxm.three
  have bxml := bxm.lt
  go_wp2_with fail
  refine (refLight m 400 60 _ _ HVm.out).mono ?_
  have HLm : Hid (ltB m 400 60 = true → ltB m 400 60 = true) := Lib.hid fun e => e
  generalize hqm : ltB m 400 60 = Rm at *
  rintro e w2m ⟨rfl, hb1⟩
  have HQm := Lib.hid hqm; clear hqm HLm
  clear bxt0 bxt1 bxt2 bxtl bxn0 bxn1 bxn2 bxnl bxm0 bxm1 bxm2 bxml
  replace bxt := bxt.keep hb1 bxt.lt
  replace bxn := bxn.keep hb1 bxn.lt
  replace bxm := bxm.keep hb1 bxm.lt
  replace HVt := Lib.hid (Rd.keep hb1 _ _ HVt.out)
  replace HVn := Lib.hid (Rd.keep hb1 _ _ HVn.out)
  replace HVm := Lib.hid (Rd.keep hb1 _ _ HVm.out)
  replace hb := hb.trans (hb1.mono hb.size)
  clear hb1
  obtain ⟨bxt0, bxt1, bxt2⟩ := bxt.three
  have bxtl := bxt.lt
  obtain ⟨bxn0, bxn1, bxn2⟩ := bxn.three
  have bxnl := bxn.lt
  obtain ⟨bxm0, bxm1, bxm2⟩ := bxm.three
  have bxml := bxm.lt
  cases Rt
  · go_wp2_with fail
    go_ret
    exact ⟨rfl, hb⟩
  cases Rn
  · go_wp2_with fail
    go_ret
    exact ⟨rfl, hb⟩
  cases Rm
  · go_wp2_with fail
    go_ret
    exact ⟨rfl, hb⟩
  go_wp2_with fail
  refine (myC t _ _ HVt.out).mono ?_
  generalize hqt : myB t = Mt at *
  rintro e w3t ⟨rfl, hb1⟩
  have HMt := Lib.hid hqt; clear hqt
  clear bxt0 bxt1 bxt2 bxtl bxn0 bxn1 bxn2 bxnl bxm0 bxm1 bxm2 bxml
  replace bxt := bxt.keep hb1 bxt.lt
  replace bxn := bxn.keep hb1 bxn.lt
  replace bxm := bxm.keep hb1 bxm.lt
  replace HVt := Lib.hid (Rd.keep hb1 _ _ HVt.out)
  replace HVn := Lib.hid (Rd.keep hb1 _ _ HVn.out)
  replace HVm := Lib.hid (Rd.keep hb1 _ _ HVm.out)
  replace hb := hb.trans (hb1.mono hb.size)
  clear hb1
  obtain ⟨bxt0, bxt1, bxt2⟩ := bxt.three
  have bxtl := bxt.lt
  obtain ⟨bxn0, bxn1, bxn2⟩ := bxn.three
  have bxnl := bxn.lt
  obtain ⟨bxm0, bxm1, bxm2⟩ := bxm.three
  have bxml := bxm.lt
  cases Mt
  · go_wp2_with fail
    go_ret
    exact ⟨rfl, hb⟩
  have KNt : Hid (Kn 400 60 t) := Lib.hid (kn_of HQt.out HMt.out); clear HQt HMt
  go_wp2_with fail
  refine (myC n _ _ HVn.out).mono ?_
  generalize hqn : myB n = Mn at *
  rintro e w3n ⟨rfl, hb1⟩
  have HMn := Lib.hid hqn; clear hqn
  clear bxt0 bxt1 bxt2 bxtl bxn0 bxn1 bxn2 bxnl bxm0 bxm1 bxm2 bxml
  replace bxt := bxt.keep hb1 bxt.lt
  replace bxn := bxn.keep hb1 bxn.lt
  replace bxm := bxm.keep hb1 bxm.lt
  replace HVt := Lib.hid (Rd.keep hb1 _ _ HVt.out)
  replace HVn := Lib.hid (Rd.keep hb1 _ _ HVn.out)
  replace HVm := Lib.hid (Rd.keep hb1 _ _ HVm.out)
  replace hb := hb.trans (hb1.mono hb.size)
  clear hb1
  obtain ⟨bxt0, bxt1, bxt2⟩ := bxt.three
  have bxtl := bxt.lt
  obtain ⟨bxn0, bxn1, bxn2⟩ := bxn.three
  have bxnl := bxn.lt
  obtain ⟨bxm0, bxm1, bxm2⟩ := bxm.three
  have bxml := bxm.lt
  cases Mn
  · go_wp2_with fail
    go_ret
    exact ⟨rfl, hb⟩
  have KNn : Hid (Kn 400 60 n) := Lib.hid (kn_of HQn.out HMn.out); clear HQn HMn
  go_wp2_with fail
  refine (myC m _ _ HVm.out).mono ?_
  generalize hqm : myB m = Mm at *
  rintro e w3m ⟨rfl, hb1⟩
  have HMm := Lib.hid hqm; clear hqm
  clear bxt0 bxt1 bxt2 bxtl bxn0 bxn1 bxn2 bxnl bxm0 bxm1 bxm2 bxml
  replace bxt := bxt.keep hb1 bxt.lt
  replace bxn := bxn.keep hb1 bxn.lt
  replace bxm := bxm.keep hb1 bxm.lt
  replace HVt := Lib.hid (Rd.keep hb1 _ _ HVt.out)
  replace HVn := Lib.hid (Rd.keep hb1 _ _ HVn.out)
  replace HVm := Lib.hid (Rd.keep hb1 _ _ HVm.out)
  replace hb := hb.trans (hb1.mono hb.size)
  clear hb1
  obtain ⟨bxt0, bxt1, bxt2⟩ := bxt.three
  have bxtl := bxt.lt
  obtain ⟨bxn0, bxn1, bxn2⟩ := bxn.three
  have bxnl := bxn.lt
  obtain ⟨bxm0, bxm1, bxm2⟩ := bxm.three
  have bxml := bxm.lt
  cases Mm
  · go_wp2_with fail
    go_ret
    exact ⟨rfl, hb⟩
  have KNm : Hid (Kn 400 60 m) := Lib.hid (kn_of HQm.out HMm.out); clear HQm HMm
  have f3 := twice_tells KNt.out KNn.out KNm.out
  have f4 := ap_low KNt.out KNn.out
  have f5 := ap_low KNn.out KNm.out
  have F3 := Lib.hid f3; have F4 := Lib.hid f4; have F5 := Lib.hid f5
  clear f3 f4 f5
  go_wp2_with fail
  clear bxt0 bxt1 bxt2 bxtl bxn0 bxn1 bxn2 bxnl bxm0 bxm1 bxm2 bxml
  obtain ⟨W4, hW⟩ : ∃ W, (w3m.alloc (.cells #[.int .i64 kn, .int .i64 hn, .slice An nn cn] 24)) = W := ⟨_, rfl⟩
  have hbA : Below w3m.heap.size w3m W4 := by rw [← hW]; exact ((Below.refl _ _).alloc (by exact Nat.le_refl _) _)
  have zn : Box W4 (w3m.heap.size) 24 #[.int .i64 kn, .int .i64 hn, .slice An nn cn] := by rw [← hW]; exact (Box.new w3m _ _)
  rw [hW]
  clear hW
  replace bxt := bxt.keep hbA bxt.lt
  replace bxn := bxn.keep hbA bxn.lt
  replace bxm := bxm.keep hbA bxm.lt
  replace HVt := Lib.hid (Rd.keep hbA _ _ HVt.out)
  replace HVn := Lib.hid (Rd.keep hbA _ _ HVn.out)
  replace HVm := Lib.hid (Rd.keep hbA _ _ HVm.out)
  replace hb := hb.trans (hbA.mono hb.size)
  clear hbA
  obtain ⟨bxt0, bxt1, bxt2⟩ := bxt.three
  have bxtl := bxt.lt
  obtain ⟨bxn0, bxn1, bxn2⟩ := bxn.three
  have bxnl := bxn.lt
  obtain ⟨bxm0, bxm1, bxm2⟩ := bxm.three
  have bxml := bxm.lt
  obtain ⟨zn0, zn1, zn2⟩ := zn.three
  have znl := zn.lt
  refine (ApplyC (t := t) (L := [n]) (sh := 0) (n := 1) (c := 1) HVt.out rfl (Nat.le_refl _) (by unfold maxLen; omega) (rd_one (k := 0) (h := 0) zn HVn.out) (fun _ => KNt.out.low) (fun a ha _ => by rw [List.mem_singleton.1 ha]; exact KNn.out.low)).mono ?_
  rintro e w5 ⟨ka, ha, Aa, na, ca, rfl, hrd, hb1⟩
  have HVa := Lib.hid (RdF.rd _ _ hrd); clear hrd
  clear bxt0 bxt1 bxt2 bxtl bxn0 bxn1 bxn2 bxnl bxm0 bxm1 bxm2 bxml zn0 zn1 zn2 znl
  replace bxt := bxt.keep hb1 bxt.lt
  replace bxn := bxn.keep hb1 bxn.lt
  replace bxm := bxm.keep hb1 bxm.lt
  replace zn := zn.keep hb1 zn.lt
  replace HVt := Lib.hid (Rd.keep hb1 _ _ HVt.out)
  replace HVn := Lib.hid (Rd.keep hb1 _ _ HVn.out)
  replace HVm := Lib.hid (Rd.keep hb1 _ _ HVm.out)
  replace hb := hb.trans (hb1.mono hb.size)
  clear hb1
  obtain ⟨bxt0, bxt1, bxt2⟩ := bxt.three
  have bxtl := bxt.lt
  obtain ⟨bxn0, bxn1, bxn2⟩ := bxn.three
  have bxnl := bxn.lt
  obtain ⟨bxm0, bxm1, bxm2⟩ := bxm.three
  have bxml := bxm.lt
  obtain ⟨zn0, zn1, zn2⟩ := zn.three
  have znl := zn.lt
  go_wp2_with fail
  clear bxt0 bxt1 bxt2 bxtl bxn0 bxn1 bxn2 bxnl bxm0 bxm1 bxm2 bxml zn0 zn1 zn2 znl
  obtain ⟨W5, hW⟩ : ∃ W, ((w5.alloc (.cells #[.int .i64 ka, .int .i64 ha, .slice Aa na ca] 24)).alloc (.cells #[.int .i64 km, .int .i64 hm, .slice Am nm cm] 24)) = W := ⟨_, rfl⟩
  have hbA : Below w5.heap.size w5 W5 := by rw [← hW]; exact (((Below.refl _ _).alloc (by exact Nat.le_refl _) _).alloc (by simp) _)
  have xa : Box W5 (w5.heap.size) 24 #[.int .i64 ka, .int .i64 ha, .slice Aa na ca] := by rw [← hW]; exact ((Box.new w5 _ _).alloc _)
  have zm : Box W5 (w5.heap.size + 1) 24 #[.int .i64 km, .int .i64 hm, .slice Am nm cm] := by rw [← hW]; exact ((Box.new (w5.alloc _) _ _).at (by simp))
  rw [hW]
  clear hW
  replace bxt := bxt.keep hbA bxt.lt
  replace bxn := bxn.keep hbA bxn.lt
  replace bxm := bxm.keep hbA bxm.lt
  replace zn := zn.keep hbA zn.lt
  replace HVt := Lib.hid (Rd.keep hbA _ _ HVt.out)
  replace HVn := Lib.hid (Rd.keep hbA _ _ HVn.out)
  replace HVm := Lib.hid (Rd.keep hbA _ _ HVm.out)
  replace HVa := Lib.hid (Rd.keep hbA _ _ HVa.out)
  replace hb := hb.trans (hbA.mono hb.size)
  clear hbA
  obtain ⟨bxt0, bxt1, bxt2⟩ := bxt.three
  have bxtl := bxt.lt
  obtain ⟨bxn0, bxn1, bxn2⟩ := bxn.three
  have bxnl := bxn.lt
  obtain ⟨bxm0, bxm1, bxm2⟩ := bxm.three
  have bxml := bxm.lt
  obtain ⟨zn0, zn1, zn2⟩ := zn.three
  have znl := zn.lt
  obtain ⟨xa0, xa1, xa2⟩ := xa.three
  have xal := xa.lt
  obtain ⟨zm0, zm1, zm2⟩ := zm.three
  have zml := zm.lt
  refine (ApplyC (t := apT t [n] 0) (L := [m]) (sh := 0) (n := 1) (c := 1) HVa.out rfl (Nat.le_refl _) (by unfold maxLen; omega) (rd_one (k := 0) (h := 0) zm HVm.out) (fun _ => F4.out) (fun a ha _ => by rw [List.mem_singleton.1 ha]; exact KNm.out.low)).mono ?_
  rintro e w6 ⟨kbb, hbb, Abb, nbb, cbb, rfl, hrd, hb1⟩
  have HVbb := Lib.hid (RdF.rd _ _ hrd); clear hrd
  clear bxt0 bxt1 bxt2 bxtl bxn0 bxn1 bxn2 bxnl bxm0 bxm1 bxm2 bxml zn0 zn1 zn2 znl xa0 xa1 xa2 xal zm0 zm1 zm2 zml
  replace bxt := bxt.keep hb1 bxt.lt
  replace bxn := bxn.keep hb1 bxn.lt
  replace bxm := bxm.keep hb1 bxm.lt
  replace zn := zn.keep hb1 zn.lt
  replace xa := xa.keep hb1 xa.lt
  replace zm := zm.keep hb1 zm.lt
  replace HVt := Lib.hid (Rd.keep hb1 _ _ HVt.out)
  replace HVn := Lib.hid (Rd.keep hb1 _ _ HVn.out)
  replace HVm := Lib.hid (Rd.keep hb1 _ _ HVm.out)
  replace HVa := Lib.hid (Rd.keep hb1 _ _ HVa.out)
  replace hb := hb.trans (hb1.mono hb.size)
  clear hb1
  obtain ⟨bxt0, bxt1, bxt2⟩ := bxt.three
  have bxtl := bxt.lt
  obtain ⟨bxn0, bxn1, bxn2⟩ := bxn.three
  have bxnl := bxn.lt
  obtain ⟨bxm0, bxm1, bxm2⟩ := bxm.three
  have bxml := bxm.lt
  obtain ⟨zn0, zn1, zn2⟩ := zn.three
  have znl := zn.lt
  obtain ⟨xa0, xa1, xa2⟩ := xa.three
  have xal := xa.lt
  obtain ⟨zm0, zm1, zm2⟩ := zm.three
  have zml := zm.lt
  go_wp2_with fail
  clear bxt0 bxt1 bxt2 bxtl bxn0 bxn1 bxn2 bxnl bxm0 bxm1 bxm2 bxml zn0 zn1 zn2 znl xa0 xa1 xa2 xal zm0 zm1 zm2 zml
  obtain ⟨W6, hW⟩ : ∃ W, ((w6.alloc (.cells #[.int .i64 kbb, .int .i64 hbb, .slice Abb nbb cbb] 24)).alloc (.cells #[.int .i64 km, .int .i64 hm, .slice Am nm cm] 24)) = W := ⟨_, rfl⟩
  have hbA : Below w6.heap.size w6 W6 := by rw [← hW]; exact (((Below.refl _ _).alloc (by exact Nat.le_refl _) _).alloc (by simp) _)
  have xb : Box W6 (w6.heap.size) 24 #[.int .i64 kbb, .int .i64 hbb, .slice Abb nbb cbb] := by rw [← hW]; exact ((Box.new w6 _ _).alloc _)
  have ym : Box W6 (w6.heap.size + 1) 24 #[.int .i64 km, .int .i64 hm, .slice Am nm cm] := by rw [← hW]; exact ((Box.new (w6.alloc _) _ _).at (by simp))
  rw [hW]
  clear hW
  replace bxt := bxt.keep hbA bxt.lt
  replace bxn := bxn.keep hbA bxn.lt
  replace bxm := bxm.keep hbA bxm.lt
  replace zn := zn.keep hbA zn.lt
  replace xa := xa.keep hbA xa.lt
  replace zm := zm.keep hbA zm.lt
  replace HVt := Lib.hid (Rd.keep hbA _ _ HVt.out)
  replace HVn := Lib.hid (Rd.keep hbA _ _ HVn.out)
  replace HVm := Lib.hid (Rd.keep hbA _ _ HVm.out)
  replace HVa := Lib.hid (Rd.keep hbA _ _ HVa.out)
  replace HVbb := Lib.hid (Rd.keep hbA _ _ HVbb.out)
  replace hb := hb.trans (hbA.mono hb.size)
  clear hbA
  obtain ⟨bxt0, bxt1, bxt2⟩ := bxt.three
  have bxtl := bxt.lt
  obtain ⟨bxn0, bxn1, bxn2⟩ := bxn.three
  have bxnl := bxn.lt
  obtain ⟨bxm0, bxm1, bxm2⟩ := bxm.three
  have bxml := bxm.lt
  obtain ⟨zn0, zn1, zn2⟩ := zn.three
  have znl := zn.lt
  obtain ⟨xa0, xa1, xa2⟩ := xa.three
  have xal := xa.lt
  obtain ⟨zm0, zm1, zm2⟩ := zm.three
  have zml := zm.lt
  obtain ⟨xb0, xb1, xb2⟩ := xb.three
  have xbl := xb.lt
  obtain ⟨ym0, ym1, ym2⟩ := ym.three
  have yml := ym.lt
  refine (ApplyC (t := n) (L := [m]) (sh := 0) (n := 1) (c := 1) HVn.out rfl (Nat.le_refl _) (by unfold maxLen; omega) (rd_one (k := 0) (h := 0) ym HVm.out) (fun _ => KNn.out.low) (fun a ha _ => by rw [List.mem_singleton.1 ha]; exact KNm.out.low)).mono ?_
  rintro e w7 ⟨kx, hx, Ax, nx, cx, rfl, hrd, hb1⟩
  have HVx := Lib.hid (RdF.rd _ _ hrd); clear hrd
  clear bxt0 bxt1 bxt2 bxtl bxn0 bxn1 bxn2 bxnl bxm0 bxm1 bxm2 bxml zn0 zn1 zn2 znl xa0 xa1 xa2 xal zm0 zm1 zm2 zml xb0 xb1 xb2 xbl ym0 ym1 ym2 yml
  replace bxt := bxt.keep hb1 bxt.lt
  replace bxn := bxn.keep hb1 bxn.lt
  replace bxm := bxm.keep hb1 bxm.lt
  replace zn := zn.keep hb1 zn.lt
  replace xa := xa.keep hb1 xa.lt
  replace zm := zm.keep hb1 zm.lt
  replace xb := xb.keep hb1 xb.lt
  replace ym := ym.keep hb1 ym.lt
  replace HVt := Lib.hid (Rd.keep hb1 _ _ HVt.out)
  replace HVn := Lib.hid (Rd.keep hb1 _ _ HVn.out)
  replace HVm := Lib.hid (Rd.keep hb1 _ _ HVm.out)
  replace HVa := Lib.hid (Rd.keep hb1 _ _ HVa.out)
  replace HVbb := Lib.hid (Rd.keep hb1 _ _ HVbb.out)
  replace hb := hb.trans (hb1.mono hb.size)
  clear hb1
  obtain ⟨bxt0, bxt1, bxt2⟩ := bxt.three
  have bxtl := bxt.lt
  obtain ⟨bxn0, bxn1, bxn2⟩ := bxn.three
  have bxnl := bxn.lt
  obtain ⟨bxm0, bxm1, bxm2⟩ := bxm.three
  have bxml := bxm.lt
  obtain ⟨zn0, zn1, zn2⟩ := zn.three
  have znl := zn.lt
  obtain ⟨xa0, xa1, xa2⟩ := xa.three
  have xal := xa.lt
  obtain ⟨zm0, zm1, zm2⟩ := zm.three
  have zml := zm.lt
  obtain ⟨xb0, xb1, xb2⟩ := xb.three
  have xbl := xb.lt
  obtain ⟨ym0, ym1, ym2⟩ := ym.three
  have yml := ym.lt
  go_wp2_with fail
  clear bxt0 bxt1 bxt2 bxtl bxn0 bxn1 bxn2 bxnl bxm0 bxm1 bxm2 bxml zn0 zn1 zn2 znl xa0 xa1 xa2 xal zm0 zm1 zm2 zml xb0 xb1 xb2 xbl ym0 ym1 ym2 yml
  obtain ⟨W7, hW⟩ : ∃ W, ((w7.alloc (.cells #[.int .i64 kx, .int .i64 hx, .slice Ax nx cx] 24)).alloc (.cells #[.int .i64 km, .int .i64 hm, .slice Am nm cm, .int .i64 kx, .int .i64 hx, .slice Ax nx cx] 24)) = W := ⟨_, rfl⟩
  have hbA : Below w7.heap.size w7 W7 := by rw [← hW]; exact (((Below.refl _ _).alloc (by exact Nat.le_refl _) _).alloc (by simp) _)
  have xx : Box W7 (w7.heap.size) 24 #[.int .i64 kx, .int .i64 hx, .slice Ax nx cx] := by rw [← hW]; exact ((Box.new w7 _ _).alloc _)
  have zmx : Box W7 (w7.heap.size + 1) 24 #[.int .i64 km, .int .i64 hm, .slice Am nm cm, .int .i64 kx, .int .i64 hx, .slice Ax nx cx] := by rw [← hW]; exact ((Box.new (w7.alloc _) _ _).at (by simp))
  rw [hW]
  clear hW
  replace bxt := bxt.keep hbA bxt.lt
  replace bxn := bxn.keep hbA bxn.lt
  replace bxm := bxm.keep hbA bxm.lt
  replace zn := zn.keep hbA zn.lt
  replace xa := xa.keep hbA xa.lt
  replace zm := zm.keep hbA zm.lt
  replace xb := xb.keep hbA xb.lt
  replace ym := ym.keep hbA ym.lt
  replace HVt := Lib.hid (Rd.keep hbA _ _ HVt.out)
  replace HVn := Lib.hid (Rd.keep hbA _ _ HVn.out)
  replace HVm := Lib.hid (Rd.keep hbA _ _ HVm.out)
  replace HVa := Lib.hid (Rd.keep hbA _ _ HVa.out)
  replace HVbb := Lib.hid (Rd.keep hbA _ _ HVbb.out)
  replace HVx := Lib.hid (Rd.keep hbA _ _ HVx.out)
  replace hb := hb.trans (hbA.mono hb.size)
  clear hbA
  obtain ⟨bxt0, bxt1, bxt2⟩ := bxt.three
  have bxtl := bxt.lt
  obtain ⟨bxn0, bxn1, bxn2⟩ := bxn.three
  have bxnl := bxn.lt
  obtain ⟨bxm0, bxm1, bxm2⟩ := bxm.three
  have bxml := bxm.lt
  obtain ⟨zn0, zn1, zn2⟩ := zn.three
  have znl := zn.lt
  obtain ⟨xa0, xa1, xa2⟩ := xa.three
  have xal := xa.lt
  obtain ⟨zm0, zm1, zm2⟩ := zm.three
  have zml := zm.lt
  obtain ⟨xb0, xb1, xb2⟩ := xb.three
  have xbl := xb.lt
  obtain ⟨ym0, ym1, ym2⟩ := ym.three
  have yml := ym.lt
  obtain ⟨xx0, xx1, xx2⟩ := xx.three
  have xxl := xx.lt
  refine (ApplyC (t := t) (L := [m, apT n [m] 0]) (sh := 0) (n := 2) (c := 2) HVt.out rfl (Nat.le_refl _) (by unfold maxLen; omega) (rd_two zmx HVm.out HVx.out) (fun _ => KNt.out.low) (fun a ha _ => by rcases List.mem_cons.1 ha with rfl | ha; exact KNm.out.low; rw [List.mem_singleton.1 ha]; exact F5.out)).mono ?_
  rintro e w8 ⟨kc, hc, Ac, nc, cc, rfl, hrd, hb1⟩
  have HVc := Lib.hid (RdF.rd _ _ hrd); clear hrd
  clear bxt0 bxt1 bxt2 bxtl bxn0 bxn1 bxn2 bxnl bxm0 bxm1 bxm2 bxml zn0 zn1 zn2 znl xa0 xa1 xa2 xal zm0 zm1 zm2 zml xb0 xb1 xb2 xbl ym0 ym1 ym2 yml xx0 xx1 xx2 xxl
  replace bxt := bxt.keep hb1 bxt.lt
  replace bxn := bxn.keep hb1 bxn.lt
  replace bxm := bxm.keep hb1 bxm.lt
  replace zn := zn.keep hb1 zn.lt
  replace xa := xa.keep hb1 xa.lt
  replace zm := zm.keep hb1 zm.lt
  replace xb := xb.keep hb1 xb.lt
  replace ym := ym.keep hb1 ym.lt
  replace xx := xx.keep hb1 xx.lt
  replace HVt := Lib.hid (Rd.keep hb1 _ _ HVt.out)
  replace HVn := Lib.hid (Rd.keep hb1 _ _ HVn.out)
  replace HVm := Lib.hid (Rd.keep hb1 _ _ HVm.out)
  replace HVa := Lib.hid (Rd.keep hb1 _ _ HVa.out)
  replace HVbb := Lib.hid (Rd.keep hb1 _ _ HVbb.out)
  replace HVx := Lib.hid (Rd.keep hb1 _ _ HVx.out)
  replace hb := hb.trans (hb1.mono hb.size)
  clear hb1
  obtain ⟨bxt0, bxt1, bxt2⟩ := bxt.three
  have bxtl := bxt.lt
  obtain ⟨bxn0, bxn1, bxn2⟩ := bxn.three
  have bxnl := bxn.lt
  obtain ⟨bxm0, bxm1, bxm2⟩ := bxm.three
  have bxml := bxm.lt
  obtain ⟨zn0, zn1, zn2⟩ := zn.three
  have znl := zn.lt
  obtain ⟨xa0, xa1, xa2⟩ := xa.three
  have xal := xa.lt
  obtain ⟨zm0, zm1, zm2⟩ := zm.three
  have zml := zm.lt
  obtain ⟨xb0, xb1, xb2⟩ := xb.three
  have xbl := xb.lt
  obtain ⟨ym0, ym1, ym2⟩ := ym.three
  have yml := ym.lt
  obtain ⟨xx0, xx1, xx2⟩ := xx.three
  have xxl := xx.lt
  clear zmx
  clear bxt0 bxt1 bxt2 bxtl bxn0 bxn1 bxn2 bxnl bxm0 bxm1 bxm2 bxml zn0 zn1 zn2 znl xa0 xa1 xa2 xal zm0 zm1 zm2 zml xb0 xb1 xb2 xbl ym0 ym1 ym2 yml xx0 xx1 xx2 xxl
  clear bxt bxn bxm zn xa zm ym xx HVt HVn HVm HVa HVx F4 F5
  obtain ⟨xb0, xb1, xb2⟩ := xb.three
  have xbl := xb.lt
  by_cases x0 : apE t [n] 0 = 0
  rotate_left 1
  · have dx : decide (apE t [n] 0 = 0) = false := by simpa using x0
    go_wp2_with fail
    go_ret
    exact ⟨rfl, hb.trans (((Below.refl _ _).alloc (Nat.le_refl _) _).mono hb.size)⟩
  rw [x0]
  by_cases x1 : apE (apT t [n] 0) [m] 0 = 0
  rotate_left 1
  · have dx : decide (apE (apT t [n] 0) [m] 0 = 0) = false := by simpa using x1
    go_wp2_with fail
    go_ret
    exact ⟨rfl, hb.trans (((Below.refl _ _).alloc (Nat.le_refl _) _).mono hb.size)⟩
  rw [x1]
  by_cases x2 : apE n [m] 0 = 0
  rotate_left 1
  · have dx : decide (apE n [m] 0 = 0) = false := by simpa using x2
    go_wp2_with fail
    go_ret
    exact ⟨rfl, hb.trans (((Below.refl _ _).alloc (Nat.le_refl _) _).mono hb.size)⟩
  rw [x2]
  by_cases x3 : apE t [m, apT n [m] 0] 0 = 0
  rotate_left 1
  · have dx : decide (apE t [m, apT n [m] 0] 0 = 0) = false := by simpa using x3
    go_wp2_with fail
    go_ret
    exact ⟨rfl, hb.trans (((Below.refl _ _).alloc (Nat.le_refl _) _).mono hb.size)⟩
  rw [x3]
  obtain ⟨q1, q2⟩ := F3.out x0 x1 x2 x3
  rw [q1] at HVbb
  have HVb1 := Lib.hid (HVbb.out)
  go_wp2_with fail
  refine (reducedC _ _ _ q2 (Rd.keep ((Below.refl _ _).alloc (Nat.le_refl _) _) _ _ HVbb.out)).mono ?_
  rintro e w9 ⟨rfl, hb1⟩
  have hb9 : Below w8.heap.size w8 w9 := ((Below.refl _ _).alloc (Nat.le_refl _) _).trans (hb1.mono (by simp))
  clear q1 q2 F3 x0 x1 x2 x3
  have xc : Box _ w8.heap.size 24 #[.int .i64 kc, .int .i64 hc, .slice Ac nc cc] := (Box.new w8 _ _).keep hb1 (Box.new w8 _ _).lt
  clear hb1
  clear xb0 xb1 xb2 xbl
  replace xb := xb.keep hb9 xb.lt
  replace HVbb := Lib.hid (Rd.keep hb9 _ _ HVbb.out)
  replace HVc := Lib.hid (Rd.keep hb9 _ _ HVc.out)
  replace hb := hb.trans (hb9.mono hb.size)
  clear hb9
  obtain ⟨xb0, xb1, xb2⟩ := xb.three
  have xbl := xb.lt
  obtain ⟨xc0, xc1, xc2⟩ := xc.three
  have xcl := xc.lt
  go_wp2_with fail
  refine (termSame _ _ _ _ _ HVbb.out HVc.out).mono ?_
  rw [sam_refl]
  rintro e u9 ⟨rfl, hb2⟩
  go_wp2_with fail
  go_ret
  exact ⟨rfl, hb.trans (hb2.mono hb.size)⟩
end Go.Proofs.Ytinjeocfnhhlmaa
