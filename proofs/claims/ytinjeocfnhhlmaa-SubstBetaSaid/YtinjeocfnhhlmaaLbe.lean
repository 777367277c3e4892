/-
  The walk of the law SubstBeta.
-/
import Derived.Test.YtinjeocfnhhlmaaPd
namespace Go.Proofs.Ytinjeocfnhhlmaa
open Go.ChangeShapes Go.WideShapes Go.ChangeAt Go.RowKit
set_option linter.unusedVariables false

set_option maxRecDepth 100000 in
set_option maxHeartbeats 8000000 in
theorem substBetaC (t x y : T) (v u z : Value) (w : World) (hvt : Rd w t v) (hvx : Rd w x u) (hvy : Rd w y z) :
    Calls Try.prog 22 #[v, u, z] w fun e w' => e = .returned (.bool true) ∧ Below w.heap.size w w' := by
  obtain ⟨kt, ht, At, nt, ct, rfl⟩ := hvt.full
  have HVt := Lib.hid hvt; clear hvt
  obtain ⟨kx, hx, Ax, nx, cx, rfl⟩ := hvx.full
  have HVx := Lib.hid hvx; clear hvx
  obtain ⟨ky, hy, Ay, ny, cy, rfl⟩ := hvy.full
  have HVy := Lib.hid hvy; clear hvy
  obtain ⟨W0, hW0⟩ : ∃ W0, (((w.alloc (.cells #[.int .i64 kt, .int .i64 ht, .slice At nt ct] 24)).alloc (.cells #[.int .i64 kx, .int .i64 hx, .slice Ax nx cx] 24)).alloc (.cells #[.int .i64 ky, .int .i64 hy, .slice Ay ny cy] 24)) = W0 := ⟨_, rfl⟩
  have hb : Below w.heap.size w W0 := by rw [← hW0]; exact ((((Below.refl _ _).alloc (Nat.le_refl _) _).alloc (by simp) _).alloc (by simp; omega) _)
  have bxt : Box W0 (w.heap.size) 24 #[.int .i64 kt, .int .i64 ht, .slice At nt ct] := by rw [← hW0]; exact (((Box.new w _ _).alloc _).alloc _)
  have bxx : Box W0 (w.heap.size + 1) 24 #[.int .i64 kx, .int .i64 hx, .slice Ax nx cx] := by rw [← hW0]; exact (((Box.new (w.alloc _) _ _).at (by simp)).alloc _)
  have bxy : Box W0 (w.heap.size + 1 + 1) 24 #[.int .i64 ky, .int .i64 hy, .slice Ay ny cy] := by rw [← hW0]; exact ((Box.new ((w.alloc _).alloc _) _ _).at (by simp))
  replace HVt := Lib.hid (Rd.keep hb _ _ HVt.out)
  replace HVx := Lib.hid (Rd.keep hb _ _ HVx.out)
  replace HVy := Lib.hid (Rd.keep hb _ _ HVy.out)
  have HW0 := Lib.hid hW0; clear hW0
  go_enter Try.func22, Try.ntmps22
  go_wp2_with fail
  rw [HW0.out]
  clear HW0
  refine (awakeU _).mono ?_
  rintro e w1 ⟨rfl, hb1⟩
  replace bxt := bxt.keep hb1 bxt.lt
  replace bxx := bxx.keep hb1 bxx.lt
  replace bxy := bxy.keep hb1 bxy.lt
  replace HVt := Lib.hid (Rd.keep hb1 _ _ HVt.out)
  replace HVx := Lib.hid (Rd.keep hb1 _ _ HVx.out)
  replace HVy := Lib.hid (Rd.keep hb1 _ _ HVy.out)
  replace hb := hb.trans (hb1.mono hb.size)
  clear hb1
  obtain ⟨bxt0, bxt1, bxt2⟩ := bxt.three
  have bxtl := bxt.lt
  obtain ⟨bxx0, bxx1, bxx2⟩ := bxx.three
  have bxxl := bxx.lt
  obtain ⟨bxy0, bxy1, bxy2⟩ := bxy.three
  have bxyl := bxy.lt
  go_wp2_with fail
  refine (refLight t 300 50 _ _ HVt.out).mono ?_
  have HLt : Hid (ltB t 300 50 = true → ltB t 300 50 = true) := Lib.hid fun e => e
  generalize hqt : ltB t 300 50 = Rt at *
  rintro e w2t ⟨rfl, hb1⟩
  have HQt := Lib.hid hqt; clear hqt HLt
  clear bxt0 bxt1 bxt2 bxtl bxx0 bxx1 bxx2 bxxl bxy0 bxy1 bxy2 bxyl
  replace bxt := bxt.keep hb1 bxt.lt
  replace bxx := bxx.keep hb1 bxx.lt
  replace bxy := bxy.keep hb1 bxy.lt
  replace HVt := Lib.hid (Rd.keep hb1 _ _ HVt.out)
  replace HVx := Lib.hid (Rd.keep hb1 _ _ HVx.out)
  replace HVy := Lib.hid (Rd.keep hb1 _ _ HVy.out)
  replace hb := hb.trans (hb1.mono hb.size)
  clear hb1
  obtain ⟨bxt0, bxt1, bxt2⟩ := bxt.three
  have bxtl := bxt.lt
  obtain ⟨bxx0, bxx1, bxx2⟩ := bxx.three
  have bxxl := bxx.lt
  obtain ⟨bxy0, bxy1, bxy2⟩ := bxy.three
  have bxyl := bxy.lt
  go_wp2_with fail
  refine (refLight x 300 60 _ _ HVx.out).mono ?_
  have HLx : Hid (ltB x 300 60 = true → ltB x 300 60 = true) := Lib.hid fun e => e
  generalize hqx : ltB x 300 60 = Rx at *
  rintro e w2x ⟨rfl, hb1⟩
  have HQx := Lib.hid hqx; clear hqx HLx
  clear bxt0 bxt1 bxt2 bxtl bxx0 bxx1 bxx2 bxxl bxy0 bxy1 bxy2 bxyl
  replace bxt := bxt.keep hb1 bxt.lt
  replace bxx := bxx.keep hb1 bxx.lt
  replace bxy := bxy.keep hb1 bxy.lt
  replace HVt := Lib.hid (Rd.keep hb1 _ _ HVt.out)
  replace HVx := Lib.hid (Rd.keep hb1 _ _ HVx.out)
  replace HVy := Lib.hid (Rd.keep hb1 _ _ HVy.out)
  replace hb := hb.trans (hb1.mono hb.size)
  clear hb1
  obtain ⟨bxt0, bxt1, bxt2⟩ := bxt.three
  have bxtl := bxt.lt
  obtain ⟨bxx0, bxx1, bxx2⟩ := bxx.three
  have bxxl := bxx.lt
  obtain ⟨bxy0, bxy1, bxy2⟩ := bxy.three
  have bxyl := bxy.lt
  go_wp2_with fail
  refine (refLight y 300 60 _ _ HVy.out).mono ?_
  have HLy : Hid (ltB y 300 60 = true → ltB y 300 60 = true) := Lib.hid fun e => e
  generalize hqy : ltB y 300 60 = Ry at *
  rintro e w2y ⟨rfl, hb1⟩
  have HQy := Lib.hid hqy; clear hqy HLy
  clear bxt0 bxt1 bxt2 bxtl bxx0 bxx1 bxx2 bxxl bxy0 bxy1 bxy2 bxyl
  replace bxt := bxt.keep hb1 bxt.lt
  replace bxx := bxx.keep hb1 bxx.lt
  replace bxy := bxy.keep hb1 bxy.lt
  replace HVt := Lib.hid (Rd.keep hb1 _ _ HVt.out)
  replace HVx := Lib.hid (Rd.keep hb1 _ _ HVx.out)
  replace HVy := Lib.hid (Rd.keep hb1 _ _ HVy.out)
  replace hb := hb.trans (hb1.mono hb.size)
  clear hb1
  obtain ⟨bxt0, bxt1, bxt2⟩ := bxt.three
  have bxtl := bxt.lt
  obtain ⟨bxx0, bxx1, bxx2⟩ := bxx.three
  have bxxl := bxx.lt
  obtain ⟨bxy0, bxy1, bxy2⟩ := bxy.three
  have bxyl := bxy.lt
  cases Rt
  · go_wp2_with fail
    go_ret
    exact ⟨rfl, hb⟩
  cases Rx
  · go_wp2_with fail
    go_ret
    exact ⟨rfl, hb⟩
  cases Ry
  · go_wp2_with fail
    go_ret
    exact ⟨rfl, hb⟩
  go_wp2_with fail
  refine (myC t _ _ HVt.out).mono ?_
  generalize hqt : myB t = Mt at *
  rintro e w3t ⟨rfl, hb1⟩
  have HMt := Lib.hid hqt; clear hqt
  clear bxt0 bxt1 bxt2 bxtl bxx0 bxx1 bxx2 bxxl bxy0 bxy1 bxy2 bxyl
  replace bxt := bxt.keep hb1 bxt.lt
  replace bxx := bxx.keep hb1 bxx.lt
  replace bxy := bxy.keep hb1 bxy.lt
  replace HVt := Lib.hid (Rd.keep hb1 _ _ HVt.out)
  replace HVx := Lib.hid (Rd.keep hb1 _ _ HVx.out)
  replace HVy := Lib.hid (Rd.keep hb1 _ _ HVy.out)
  replace hb := hb.trans (hb1.mono hb.size)
  clear hb1
  obtain ⟨bxt0, bxt1, bxt2⟩ := bxt.three
  have bxtl := bxt.lt
  obtain ⟨bxx0, bxx1, bxx2⟩ := bxx.three
  have bxxl := bxx.lt
  obtain ⟨bxy0, bxy1, bxy2⟩ := bxy.three
  have bxyl := bxy.lt
  cases Mt
  · go_wp2_with fail
    go_ret
    exact ⟨rfl, hb⟩
  have KNt : Hid (Kn 300 50 t) := Lib.hid (kn_of HQt.out HMt.out); clear HQt HMt
  go_wp2_with fail
  refine (myC x _ _ HVx.out).mono ?_
  generalize hqx : myB x = Mx at *
  rintro e w3x ⟨rfl, hb1⟩
  have HMx := Lib.hid hqx; clear hqx
  clear bxt0 bxt1 bxt2 bxtl bxx0 bxx1 bxx2 bxxl bxy0 bxy1 bxy2 bxyl
  replace bxt := bxt.keep hb1 bxt.lt
  replace bxx := bxx.keep hb1 bxx.lt
  replace bxy := bxy.keep hb1 bxy.lt
  replace HVt := Lib.hid (Rd.keep hb1 _ _ HVt.out)
  replace HVx := Lib.hid (Rd.keep hb1 _ _ HVx.out)
  replace HVy := Lib.hid (Rd.keep hb1 _ _ HVy.out)
  replace hb := hb.trans (hb1.mono hb.size)
  clear hb1
  obtain ⟨bxt0, bxt1, bxt2⟩ := bxt.three
  have bxtl := bxt.lt
  obtain ⟨bxx0, bxx1, bxx2⟩ := bxx.three
  have bxxl := bxx.lt
  obtain ⟨bxy0, bxy1, bxy2⟩ := bxy.three
  have bxyl := bxy.lt
  cases Mx
  · go_wp2_with fail
    go_ret
    exact ⟨rfl, hb⟩
  have KNx : Hid (Kn 300 60 x) := Lib.hid (kn_of HQx.out HMx.out); clear HQx HMx
  go_wp2_with fail
  refine (myC y _ _ HVy.out).mono ?_
  generalize hqy : myB y = My at *
  rintro e w3y ⟨rfl, hb1⟩
  have HMy := Lib.hid hqy; clear hqy
  clear bxt0 bxt1 bxt2 bxtl bxx0 bxx1 bxx2 bxxl bxy0 bxy1 bxy2 bxyl
  replace bxt := bxt.keep hb1 bxt.lt
  replace bxx := bxx.keep hb1 bxx.lt
  replace bxy := bxy.keep hb1 bxy.lt
  replace HVt := Lib.hid (Rd.keep hb1 _ _ HVt.out)
  replace HVx := Lib.hid (Rd.keep hb1 _ _ HVx.out)
  replace HVy := Lib.hid (Rd.keep hb1 _ _ HVy.out)
  replace hb := hb.trans (hb1.mono hb.size)
  clear hb1
  obtain ⟨bxt0, bxt1, bxt2⟩ := bxt.three
  have bxtl := bxt.lt
  obtain ⟨bxx0, bxx1, bxx2⟩ := bxx.three
  have bxxl := bxx.lt
  obtain ⟨bxy0, bxy1, bxy2⟩ := bxy.three
  have bxyl := bxy.lt
  cases My
  · go_wp2_with fail
    go_ret
    exact ⟨rfl, hb⟩
  have KNy : Hid (Kn 300 60 y) := Lib.hid (kn_of HQy.out HMy.out); clear HQy HMy
  obtain ⟨f1, f2⟩ := beta_one KNt.out (by omega) KNx.out
  have f3 := beta_two KNt.out (by omega) KNx.out KNy.out
  have f4 := ap_low KNt.out KNx.out
  have f5 := lo_lam KNt.out.low
  have F1 := Lib.hid f1; have F2 := Lib.hid f2; have F3 := Lib.hid f3; have F4 := Lib.hid f4; have F5 := Lib.hid f5
  clear f1 f2 f3 f4 f5
  go_wp2_with fail
  clear bxt0 bxt1 bxt2 bxtl bxx0 bxx1 bxx2 bxxl bxy0 bxy1 bxy2 bxyl
  obtain ⟨W4, hW⟩ : ∃ W, (((w3y.alloc (.cells #[.int .i64 kt, .int .i64 ht, .slice At nt ct] 24)).alloc (.cells #[.int .i64 3, .int .i64 0, .slice (some ⟨w3y.heap.size, 0, none⟩) 1 1] 24)).alloc (.cells #[.int .i64 kx, .int .i64 hx, .slice Ax nx cx] 24)) = W := ⟨_, rfl⟩
  have hbA : Below w3y.heap.size w3y W4 := by rw [← hW]; exact ((((Below.refl _ _).alloc (by exact Nat.le_refl _) _).alloc (by simp) _).alloc (by simp; omega) _)
  have yt : Box W4 (w3y.heap.size) 24 #[.int .i64 kt, .int .i64 ht, .slice At nt ct] := by rw [← hW]; exact (((Box.new w3y _ _).alloc _).alloc _)
  have xl : Box W4 (w3y.heap.size + 1) 24 #[.int .i64 3, .int .i64 0, .slice (some ⟨w3y.heap.size, 0, none⟩) 1 1] := by rw [← hW]; exact (((Box.new (w3y.alloc _) _ _).at (by simp)).alloc _)
  have yx : Box W4 (w3y.heap.size + 1 + 1) 24 #[.int .i64 kx, .int .i64 hx, .slice Ax nx cx] := by rw [← hW]; exact ((Box.new ((w3y.alloc _).alloc _) _ _).at (by simp))
  rw [hW]
  clear hW
  replace bxt := bxt.keep hbA bxt.lt
  replace bxx := bxx.keep hbA bxx.lt
  replace bxy := bxy.keep hbA bxy.lt
  replace HVt := Lib.hid (Rd.keep hbA _ _ HVt.out)
  replace HVx := Lib.hid (Rd.keep hbA _ _ HVx.out)
  replace HVy := Lib.hid (Rd.keep hbA _ _ HVy.out)
  replace hb := hb.trans (hbA.mono hb.size)
  clear hbA
  have HVl : Hid (Rd W4 (.node 3 0 [t]) (.agg #[.int .i64 3, .int .i64 0, .slice (some ⟨w3y.heap.size, 0, none⟩) 1 1])) := Lib.hid (rd_node1 yt HVt.out (by decide) (by decide))
  obtain ⟨bxt0, bxt1, bxt2⟩ := bxt.three
  have bxtl := bxt.lt
  obtain ⟨bxx0, bxx1, bxx2⟩ := bxx.three
  have bxxl := bxx.lt
  obtain ⟨bxy0, bxy1, bxy2⟩ := bxy.three
  have bxyl := bxy.lt
  obtain ⟨yt0, yt1, yt2⟩ := yt.three
  have ytl := yt.lt
  obtain ⟨xl0, xl1, xl2⟩ := xl.three
  have xll := xl.lt
  obtain ⟨yx0, yx1, yx2⟩ := yx.three
  have yxl := yx.lt
  refine (SpineC (t := .node 3 0 [t]) (L := [x]) (n := 1) (c := 1) HVl.out rfl (Nat.le_refl _) (by unfold maxLen; omega) (rd_one (k := 0) (h := 0) yx HVx.out) (fun _ => F5.out) (fun a ha _ => by rw [List.mem_singleton.1 ha]; exact KNx.out.low) (by have := KNx.out.n4; simp only [ndL]; omega)).mono ?_
  rw [F1.out, F2.out]
  rintro e w5 ⟨ka, ha, Aa, na, ca, rfl, hrd, hb1⟩
  have HVa := Lib.hid (RdF.rd _ _ hrd); clear hrd
  clear bxt0 bxt1 bxt2 bxtl bxx0 bxx1 bxx2 bxxl bxy0 bxy1 bxy2 bxyl yt0 yt1 yt2 ytl xl0 xl1 xl2 xll yx0 yx1 yx2 yxl
  replace bxt := bxt.keep hb1 bxt.lt
  replace bxx := bxx.keep hb1 bxx.lt
  replace bxy := bxy.keep hb1 bxy.lt
  replace yt := yt.keep hb1 yt.lt
  replace xl := xl.keep hb1 xl.lt
  replace yx := yx.keep hb1 yx.lt
  replace HVt := Lib.hid (Rd.keep hb1 _ _ HVt.out)
  replace HVx := Lib.hid (Rd.keep hb1 _ _ HVx.out)
  replace HVy := Lib.hid (Rd.keep hb1 _ _ HVy.out)
  replace HVl := Lib.hid (Rd.keep hb1 _ _ HVl.out)
  replace hb := hb.trans (hb1.mono hb.size)
  clear hb1
  obtain ⟨bxt0, bxt1, bxt2⟩ := bxt.three
  have bxtl := bxt.lt
  obtain ⟨bxx0, bxx1, bxx2⟩ := bxx.three
  have bxxl := bxx.lt
  obtain ⟨bxy0, bxy1, bxy2⟩ := bxy.three
  have bxyl := bxy.lt
  obtain ⟨yt0, yt1, yt2⟩ := yt.three
  have ytl := yt.lt
  obtain ⟨xl0, xl1, xl2⟩ := xl.three
  have xll := xl.lt
  obtain ⟨yx0, yx1, yx2⟩ := yx.three
  have yxl := yx.lt
  clear F1 F2
  go_wp2_with fail
  clear bxt0 bxt1 bxt2 bxtl bxx0 bxx1 bxx2 bxxl bxy0 bxy1 bxy2 bxyl yt0 yt1 yt2 ytl xl0 xl1 xl2 xll yx0 yx1 yx2 yxl
  obtain ⟨W5, hW⟩ : ∃ W, ((w5.alloc (.cells #[.int .i64 ka, .int .i64 ha, .slice Aa na ca] 24)).alloc (.cells #[.int .i64 kx, .int .i64 hx, .slice Ax nx cx] 24)) = W := ⟨_, rfl⟩
  have hbA : Below w5.heap.size w5 W5 := by rw [← hW]; exact (((Below.refl _ _).alloc (by exact Nat.le_refl _) _).alloc (by simp) _)
  have xa : Box W5 (w5.heap.size) 24 #[.int .i64 ka, .int .i64 ha, .slice Aa na ca] := by rw [← hW]; exact ((Box.new w5 _ _).alloc _)
  have zx : Box W5 (w5.heap.size + 1) 24 #[.int .i64 kx, .int .i64 hx, .slice Ax nx cx] := by rw [← hW]; exact ((Box.new (w5.alloc _) _ _).at (by simp))
  rw [hW]
  clear hW
  replace bxt := bxt.keep hbA bxt.lt
  replace bxx := bxx.keep hbA bxx.lt
  replace bxy := bxy.keep hbA bxy.lt
  replace yt := yt.keep hbA yt.lt
  replace xl := xl.keep hbA xl.lt
  replace yx := yx.keep hbA yx.lt
  replace HVt := Lib.hid (Rd.keep hbA _ _ HVt.out)
  replace HVx := Lib.hid (Rd.keep hbA _ _ HVx.out)
  replace HVy := Lib.hid (Rd.keep hbA _ _ HVy.out)
  replace HVl := Lib.hid (Rd.keep hbA _ _ HVl.out)
  replace HVa := Lib.hid (Rd.keep hbA _ _ HVa.out)
  replace hb := hb.trans (hbA.mono hb.size)
  clear hbA
  obtain ⟨bxt0, bxt1, bxt2⟩ := bxt.three
  have bxtl := bxt.lt
  obtain ⟨bxx0, bxx1, bxx2⟩ := bxx.three
  have bxxl := bxx.lt
  obtain ⟨bxy0, bxy1, bxy2⟩ := bxy.three
  have bxyl := bxy.lt
  obtain ⟨yt0, yt1, yt2⟩ := yt.three
  have ytl := yt.lt
  obtain ⟨xl0, xl1, xl2⟩ := xl.three
  have xll := xl.lt
  obtain ⟨yx0, yx1, yx2⟩ := yx.three
  have yxl := yx.lt
  obtain ⟨xa0, xa1, xa2⟩ := xa.three
  have xal := xa.lt
  obtain ⟨zx0, zx1, zx2⟩ := zx.three
  have zxl := zx.lt
  refine (ApplyC (t := t) (L := [x]) (sh := 0) (n := 1) (c := 1) HVt.out rfl (Nat.le_refl _) (by unfold maxLen; omega) (rd_one (k := 0) (h := 0) zx HVx.out) (fun _ => KNt.out.low) (fun a ha _ => by rw [List.mem_singleton.1 ha]; exact KNx.out.low)).mono ?_
  rintro e w6 ⟨ko, ho, Ao, no, co, rfl, hrd, hb1⟩
  have HVo := Lib.hid (RdF.rd _ _ hrd); clear hrd
  clear bxt0 bxt1 bxt2 bxtl bxx0 bxx1 bxx2 bxxl bxy0 bxy1 bxy2 bxyl yt0 yt1 yt2 ytl xl0 xl1 xl2 xll yx0 yx1 yx2 yxl xa0 xa1 xa2 xal zx0 zx1 zx2 zxl
  replace bxt := bxt.keep hb1 bxt.lt
  replace bxx := bxx.keep hb1 bxx.lt
  replace bxy := bxy.keep hb1 bxy.lt
  replace yt := yt.keep hb1 yt.lt
  replace xl := xl.keep hb1 xl.lt
  replace yx := yx.keep hb1 yx.lt
  replace xa := xa.keep hb1 xa.lt
  replace zx := zx.keep hb1 zx.lt
  replace HVt := Lib.hid (Rd.keep hb1 _ _ HVt.out)
  replace HVx := Lib.hid (Rd.keep hb1 _ _ HVx.out)
  replace HVy := Lib.hid (Rd.keep hb1 _ _ HVy.out)
  replace HVl := Lib.hid (Rd.keep hb1 _ _ HVl.out)
  replace HVa := Lib.hid (Rd.keep hb1 _ _ HVa.out)
  replace hb := hb.trans (hb1.mono hb.size)
  clear hb1
  obtain ⟨bxt0, bxt1, bxt2⟩ := bxt.three
  have bxtl := bxt.lt
  obtain ⟨bxx0, bxx1, bxx2⟩ := bxx.three
  have bxxl := bxx.lt
  obtain ⟨bxy0, bxy1, bxy2⟩ := bxy.three
  have bxyl := bxy.lt
  obtain ⟨yt0, yt1, yt2⟩ := yt.three
  have ytl := yt.lt
  obtain ⟨xl0, xl1, xl2⟩ := xl.three
  have xll := xl.lt
  obtain ⟨yx0, yx1, yx2⟩ := yx.three
  have yxl := yx.lt
  obtain ⟨xa0, xa1, xa2⟩ := xa.three
  have xal := xa.lt
  obtain ⟨zx0, zx1, zx2⟩ := zx.three
  have zxl := zx.lt
  have dE : decide (apE t [x] 0 = apE t [x] 0) = true := by simp
  go_wp2_with fail
  clear bxt0 bxt1 bxt2 bxtl bxx0 bxx1 bxx2 bxxl bxy0 bxy1 bxy2 bxyl yt0 yt1 yt2 ytl xl0 xl1 xl2 xll yx0 yx1 yx2 yxl xa0 xa1 xa2 xal zx0 zx1 zx2 zxl
  obtain ⟨W6, hW⟩ : ∃ W, (w6.alloc (.cells #[.int .i64 ko, .int .i64 ho, .slice Ao no co] 24)) = W := ⟨_, rfl⟩
  have hbA : Below w6.heap.size w6 W6 := by rw [← hW]; exact ((Below.refl _ _).alloc (by exact Nat.le_refl _) _)
  have xo : Box W6 (w6.heap.size) 24 #[.int .i64 ko, .int .i64 ho, .slice Ao no co] := by rw [← hW]; exact (Box.new w6 _ _)
  rw [hW]
  clear hW
  replace bxt := bxt.keep hbA bxt.lt
  replace bxx := bxx.keep hbA bxx.lt
  replace bxy := bxy.keep hbA bxy.lt
  replace yt := yt.keep hbA yt.lt
  replace xl := xl.keep hbA xl.lt
  replace yx := yx.keep hbA yx.lt
  replace xa := xa.keep hbA xa.lt
  replace zx := zx.keep hbA zx.lt
  replace HVt := Lib.hid (Rd.keep hbA _ _ HVt.out)
  replace HVx := Lib.hid (Rd.keep hbA _ _ HVx.out)
  replace HVy := Lib.hid (Rd.keep hbA _ _ HVy.out)
  replace HVl := Lib.hid (Rd.keep hbA _ _ HVl.out)
  replace HVa := Lib.hid (Rd.keep hbA _ _ HVa.out)
  replace HVo := Lib.hid (Rd.keep hbA _ _ HVo.out)
  replace hb := hb.trans (hbA.mono hb.size)
  clear hbA
  obtain ⟨bxt0, bxt1, bxt2⟩ := bxt.three
  have bxtl := bxt.lt
  obtain ⟨bxx0, bxx1, bxx2⟩ := bxx.three
  have bxxl := bxx.lt
  obtain ⟨bxy0, bxy1, bxy2⟩ := bxy.three
  have bxyl := bxy.lt
  obtain ⟨yt0, yt1, yt2⟩ := yt.three
  have ytl := yt.lt
  obtain ⟨xl0, xl1, xl2⟩ := xl.three
  have xll := xl.lt
  obtain ⟨yx0, yx1, yx2⟩ := yx.three
  have yxl := yx.lt
  obtain ⟨xa0, xa1, xa2⟩ := xa.three
  have xal := xa.lt
  obtain ⟨zx0, zx1, zx2⟩ := zx.three
  have zxl := zx.lt
  obtain ⟨xo0, xo1, xo2⟩ := xo.three
  have xol := xo.lt
  refine (termSame (apT t [x] 0) (apT t [x] 0) _ _ _ HVa.out HVo.out).mono ?_
  rw [sam_refl]
  rintro e w7 ⟨rfl, hb1⟩
  clear bxt0 bxt1 bxt2 bxtl bxx0 bxx1 bxx2 bxxl bxy0 bxy1 bxy2 bxyl yt0 yt1 yt2 ytl xl0 xl1 xl2 xll yx0 yx1 yx2 yxl xa0 xa1 xa2 xal zx0 zx1 zx2 zxl xo0 xo1 xo2 xol
  replace bxt := bxt.keep hb1 bxt.lt
  replace bxx := bxx.keep hb1 bxx.lt
  replace bxy := bxy.keep hb1 bxy.lt
  replace yt := yt.keep hb1 yt.lt
  replace xl := xl.keep hb1 xl.lt
  replace yx := yx.keep hb1 yx.lt
  replace xa := xa.keep hb1 xa.lt
  replace zx := zx.keep hb1 zx.lt
  replace xo := xo.keep hb1 xo.lt
  replace HVt := Lib.hid (Rd.keep hb1 _ _ HVt.out)
  replace HVx := Lib.hid (Rd.keep hb1 _ _ HVx.out)
  replace HVy := Lib.hid (Rd.keep hb1 _ _ HVy.out)
  replace HVl := Lib.hid (Rd.keep hb1 _ _ HVl.out)
  replace HVa := Lib.hid (Rd.keep hb1 _ _ HVa.out)
  replace HVo := Lib.hid (Rd.keep hb1 _ _ HVo.out)
  replace hb := hb.trans (hb1.mono hb.size)
  clear hb1
  obtain ⟨bxt0, bxt1, bxt2⟩ := bxt.three
  have bxtl := bxt.lt
  obtain ⟨bxx0, bxx1, bxx2⟩ := bxx.three
  have bxxl := bxx.lt
  obtain ⟨bxy0, bxy1, bxy2⟩ := bxy.three
  have bxyl := bxy.lt
  obtain ⟨yt0, yt1, yt2⟩ := yt.three
  have ytl := yt.lt
  obtain ⟨xl0, xl1, xl2⟩ := xl.three
  have xll := xl.lt
  obtain ⟨yx0, yx1, yx2⟩ := yx.three
  have yxl := yx.lt
  obtain ⟨xa0, xa1, xa2⟩ := xa.three
  have xal := xa.lt
  obtain ⟨zx0, zx1, zx2⟩ := zx.three
  have zxl := zx.lt
  obtain ⟨xo0, xo1, xo2⟩ := xo.three
  have xol := xo.lt
  go_wp2_with fail
  clear bxt0 bxt1 bxt2 bxtl bxx0 bxx1 bxx2 bxxl bxy0 bxy1 bxy2 bxyl yt0 yt1 yt2 ytl xl0 xl1 xl2 xll yx0 yx1 yx2 yxl xa0 xa1 xa2 xal zx0 zx1 zx2 zxl xo0 xo1 xo2 xol
  obtain ⟨W7, hW⟩ : ∃ W, (w7.alloc (.cells #[.int .i64 kx, .int .i64 hx, .slice Ax nx cx, .int .i64 ky, .int .i64 hy, .slice Ay ny cy] 24)) = W := ⟨_, rfl⟩
  have hbA : Below w7.heap.size w7 W7 := by rw [← hW]; exact ((Below.refl _ _).alloc (by exact Nat.le_refl _) _)
  have zxy : Box W7 (w7.heap.size) 24 #[.int .i64 kx, .int .i64 hx, .slice Ax nx cx, .int .i64 ky, .int .i64 hy, .slice Ay ny cy] := by rw [← hW]; exact (Box.new w7 _ _)
  rw [hW]
  clear hW
  replace bxt := bxt.keep hbA bxt.lt
  replace bxx := bxx.keep hbA bxx.lt
  replace bxy := bxy.keep hbA bxy.lt
  replace yt := yt.keep hbA yt.lt
  replace xl := xl.keep hbA xl.lt
  replace yx := yx.keep hbA yx.lt
  replace xa := xa.keep hbA xa.lt
  replace zx := zx.keep hbA zx.lt
  replace xo := xo.keep hbA xo.lt
  replace HVt := Lib.hid (Rd.keep hbA _ _ HVt.out)
  replace HVx := Lib.hid (Rd.keep hbA _ _ HVx.out)
  replace HVy := Lib.hid (Rd.keep hbA _ _ HVy.out)
  replace HVl := Lib.hid (Rd.keep hbA _ _ HVl.out)
  replace HVa := Lib.hid (Rd.keep hbA _ _ HVa.out)
  replace HVo := Lib.hid (Rd.keep hbA _ _ HVo.out)
  replace hb := hb.trans (hbA.mono hb.size)
  clear hbA
  obtain ⟨bxt0, bxt1, bxt2⟩ := bxt.three
  have bxtl := bxt.lt
  obtain ⟨bxx0, bxx1, bxx2⟩ := bxx.three
  have bxxl := bxx.lt
  obtain ⟨bxy0, bxy1, bxy2⟩ := bxy.three
  have bxyl := bxy.lt
  obtain ⟨yt0, yt1, yt2⟩ := yt.three
  have ytl := yt.lt
  obtain ⟨xl0, xl1, xl2⟩ := xl.three
  have xll := xl.lt
  obtain ⟨yx0, yx1, yx2⟩ := yx.three
  have yxl := yx.lt
  obtain ⟨xa0, xa1, xa2⟩ := xa.three
  have xal := xa.lt
  obtain ⟨zx0, zx1, zx2⟩ := zx.three
  have zxl := zx.lt
  obtain ⟨xo0, xo1, xo2⟩ := xo.three
  have xol := xo.lt
  refine (SpineC (t := .node 3 0 [t]) (L := [x, y]) (n := 2) (c := 2) HVl.out rfl (Nat.le_refl _) (by unfold maxLen; omega) (rd_two zxy HVx.out HVy.out) (fun _ => F5.out) (fun a ha _ => by rcases List.mem_cons.1 ha with rfl | ha; exact KNx.out.low; rw [List.mem_singleton.1 ha]; exact KNy.out.low) (by have := KNx.out.n4; have := KNy.out.n4; simp only [ndL]; omega)).mono ?_
  rintro e w8 ⟨kp, hp, Ap, np, cp, rfl, hrd, hb1⟩
  have HVp := Lib.hid (RdF.rd _ _ hrd); clear hrd
  clear bxt0 bxt1 bxt2 bxtl bxx0 bxx1 bxx2 bxxl bxy0 bxy1 bxy2 bxyl yt0 yt1 yt2 ytl xl0 xl1 xl2 xll yx0 yx1 yx2 yxl xa0 xa1 xa2 xal zx0 zx1 zx2 zxl xo0 xo1 xo2 xol
  replace bxt := bxt.keep hb1 bxt.lt
  replace bxx := bxx.keep hb1 bxx.lt
  replace bxy := bxy.keep hb1 bxy.lt
  replace yt := yt.keep hb1 yt.lt
  replace xl := xl.keep hb1 xl.lt
  replace yx := yx.keep hb1 yx.lt
  replace xa := xa.keep hb1 xa.lt
  replace zx := zx.keep hb1 zx.lt
  replace xo := xo.keep hb1 xo.lt
  replace HVt := Lib.hid (Rd.keep hb1 _ _ HVt.out)
  replace HVx := Lib.hid (Rd.keep hb1 _ _ HVx.out)
  replace HVy := Lib.hid (Rd.keep hb1 _ _ HVy.out)
  replace HVl := Lib.hid (Rd.keep hb1 _ _ HVl.out)
  replace HVa := Lib.hid (Rd.keep hb1 _ _ HVa.out)
  replace HVo := Lib.hid (Rd.keep hb1 _ _ HVo.out)
  replace hb := hb.trans (hb1.mono hb.size)
  clear hb1
  obtain ⟨bxt0, bxt1, bxt2⟩ := bxt.three
  have bxtl := bxt.lt
  obtain ⟨bxx0, bxx1, bxx2⟩ := bxx.three
  have bxxl := bxx.lt
  obtain ⟨bxy0, bxy1, bxy2⟩ := bxy.three
  have bxyl := bxy.lt
  obtain ⟨yt0, yt1, yt2⟩ := yt.three
  have ytl := yt.lt
  obtain ⟨xl0, xl1, xl2⟩ := xl.three
  have xll := xl.lt
  obtain ⟨yx0, yx1, yx2⟩ := yx.three
  have yxl := yx.lt
  obtain ⟨xa0, xa1, xa2⟩ := xa.three
  have xal := xa.lt
  obtain ⟨zx0, zx1, zx2⟩ := zx.three
  have zxl := zx.lt
  obtain ⟨xo0, xo1, xo2⟩ := xo.three
  have xol := xo.lt
  clear zxy
  go_wp2_with fail
  clear bxt0 bxt1 bxt2 bxtl bxx0 bxx1 bxx2 bxxl bxy0 bxy1 bxy2 bxyl yt0 yt1 yt2 ytl xl0 xl1 xl2 xll yx0 yx1 yx2 yxl xa0 xa1 xa2 xal zx0 zx1 zx2 zxl xo0 xo1 xo2 xol
  obtain ⟨W8, hW⟩ : ∃ W, ((w8.alloc (.cells #[.int .i64 kp, .int .i64 hp, .slice Ap np cp] 24)).alloc (.cells #[.int .i64 ky, .int .i64 hy, .slice Ay ny cy] 24)) = W := ⟨_, rfl⟩
  have hbA : Below w8.heap.size w8 W8 := by rw [← hW]; exact (((Below.refl _ _).alloc (by exact Nat.le_refl _) _).alloc (by simp) _)
  have xp : Box W8 (w8.heap.size) 24 #[.int .i64 kp, .int .i64 hp, .slice Ap np cp] := by rw [← hW]; exact ((Box.new w8 _ _).alloc _)
  have zy : Box W8 (w8.heap.size + 1) 24 #[.int .i64 ky, .int .i64 hy, .slice Ay ny cy] := by rw [← hW]; exact ((Box.new (w8.alloc _) _ _).at (by simp))
  rw [hW]
  clear hW
  replace bxt := bxt.keep hbA bxt.lt
  replace bxx := bxx.keep hbA bxx.lt
  replace bxy := bxy.keep hbA bxy.lt
  replace yt := yt.keep hbA yt.lt
  replace xl := xl.keep hbA xl.lt
  replace yx := yx.keep hbA yx.lt
  replace xa := xa.keep hbA xa.lt
  replace zx := zx.keep hbA zx.lt
  replace xo := xo.keep hbA xo.lt
  replace HVt := Lib.hid (Rd.keep hbA _ _ HVt.out)
  replace HVx := Lib.hid (Rd.keep hbA _ _ HVx.out)
  replace HVy := Lib.hid (Rd.keep hbA _ _ HVy.out)
  replace HVl := Lib.hid (Rd.keep hbA _ _ HVl.out)
  replace HVa := Lib.hid (Rd.keep hbA _ _ HVa.out)
  replace HVo := Lib.hid (Rd.keep hbA _ _ HVo.out)
  replace HVp := Lib.hid (Rd.keep hbA _ _ HVp.out)
  replace hb := hb.trans (hbA.mono hb.size)
  clear hbA
  obtain ⟨bxt0, bxt1, bxt2⟩ := bxt.three
  have bxtl := bxt.lt
  obtain ⟨bxx0, bxx1, bxx2⟩ := bxx.three
  have bxxl := bxx.lt
  obtain ⟨bxy0, bxy1, bxy2⟩ := bxy.three
  have bxyl := bxy.lt
  obtain ⟨yt0, yt1, yt2⟩ := yt.three
  have ytl := yt.lt
  obtain ⟨xl0, xl1, xl2⟩ := xl.three
  have xll := xl.lt
  obtain ⟨yx0, yx1, yx2⟩ := yx.three
  have yxl := yx.lt
  obtain ⟨xa0, xa1, xa2⟩ := xa.three
  have xal := xa.lt
  obtain ⟨zx0, zx1, zx2⟩ := zx.three
  have zxl := zx.lt
  obtain ⟨xo0, xo1, xo2⟩ := xo.three
  have xol := xo.lt
  obtain ⟨xp0, xp1, xp2⟩ := xp.three
  have xpl := xp.lt
  obtain ⟨zy0, zy1, zy2⟩ := zy.three
  have zyl := zy.lt
  refine (SpineC (t := apT t [x] 0) (L := [y]) (n := 1) (c := 1) HVo.out rfl (Nat.le_refl _) (by unfold maxLen; omega) (rd_one (k := 0) (h := 0) zy HVy.out) (fun _ => F4.out) (fun a ha _ => by rw [List.mem_singleton.1 ha]; exact KNy.out.low) (by have := KNy.out.n4; simp only [ndL]; omega)).mono ?_
  rintro e w9 ⟨kq, hq, Aq, nq, cq, rfl, hrd, hb1⟩
  have HVq := Lib.hid (RdF.rd _ _ hrd); clear hrd
  clear bxt0 bxt1 bxt2 bxtl bxx0 bxx1 bxx2 bxxl bxy0 bxy1 bxy2 bxyl yt0 yt1 yt2 ytl xl0 xl1 xl2 xll yx0 yx1 yx2 yxl xa0 xa1 xa2 xal zx0 zx1 zx2 zxl xo0 xo1 xo2 xol xp0 xp1 xp2 xpl zy0 zy1 zy2 zyl
  replace bxt := bxt.keep hb1 bxt.lt
  replace bxx := bxx.keep hb1 bxx.lt
  replace bxy := bxy.keep hb1 bxy.lt
  replace yt := yt.keep hb1 yt.lt
  replace xl := xl.keep hb1 xl.lt
  replace yx := yx.keep hb1 yx.lt
  replace xa := xa.keep hb1 xa.lt
  replace zx := zx.keep hb1 zx.lt
  replace xo := xo.keep hb1 xo.lt
  replace xp := xp.keep hb1 xp.lt
  replace zy := zy.keep hb1 zy.lt
  replace HVt := Lib.hid (Rd.keep hb1 _ _ HVt.out)
  replace HVx := Lib.hid (Rd.keep hb1 _ _ HVx.out)
  replace HVy := Lib.hid (Rd.keep hb1 _ _ HVy.out)
  replace HVl := Lib.hid (Rd.keep hb1 _ _ HVl.out)
  replace HVa := Lib.hid (Rd.keep hb1 _ _ HVa.out)
  replace HVo := Lib.hid (Rd.keep hb1 _ _ HVo.out)
  replace HVp := Lib.hid (Rd.keep hb1 _ _ HVp.out)
  replace hb := hb.trans (hb1.mono hb.size)
  clear hb1
  obtain ⟨bxt0, bxt1, bxt2⟩ := bxt.three
  have bxtl := bxt.lt
  obtain ⟨bxx0, bxx1, bxx2⟩ := bxx.three
  have bxxl := bxx.lt
  obtain ⟨bxy0, bxy1, bxy2⟩ := bxy.three
  have bxyl := bxy.lt
  obtain ⟨yt0, yt1, yt2⟩ := yt.three
  have ytl := yt.lt
  obtain ⟨xl0, xl1, xl2⟩ := xl.three
  have xll := xl.lt
  obtain ⟨yx0, yx1, yx2⟩ := yx.three
  have yxl := yx.lt
  obtain ⟨xa0, xa1, xa2⟩ := xa.three
  have xal := xa.lt
  obtain ⟨zx0, zx1, zx2⟩ := zx.three
  have zxl := zx.lt
  obtain ⟨xo0, xo1, xo2⟩ := xo.three
  have xol := xo.lt
  obtain ⟨xp0, xp1, xp2⟩ := xp.three
  have xpl := xp.lt
  obtain ⟨zy0, zy1, zy2⟩ := zy.three
  have zyl := zy.lt
  by_cases x1 : apE t [x] 0 = 0
  · have f3 := F3.out x1
    by_cases x2 : spE (.node 3 0 [t]) [x, y] = 4
    · rw [x1, x2]
      go_wp2_with fail
      go_ret
      exact ⟨rfl, hb.trans (((Below.refl _ _).alloc (Nat.le_refl _) _).mono hb.size)⟩
    · obtain ⟨f6, f7⟩ := f3.resolve_left x2
      rw [f7] at HVp
      rw [x1, f6]
      rw [f6] at x2
      generalize spE (apT t [x] 0) [y] = E at *
      have dx2 : decide (E = 4) = false := by simpa using x2
      have dx3 : decide (E = E) = true := by simp
      go_wp2_with fail
      refine (termSame (spT (apT t [x] 0) [y]) (spT (apT t [x] 0) [y]) _ _ _ (Rd.keep ((Below.refl _ _).alloc (Nat.le_refl _) _) _ _ HVp.out) (Rd.keep ((Below.refl _ _).alloc (Nat.le_refl _) _) _ _ HVq.out)).mono ?_
      rw [sam_refl]
      rintro e u9 ⟨rfl, hb2⟩
      go_wp2_with fail
      go_ret
      exact ⟨rfl, hb.trans ((((Below.refl _ _).alloc (Nat.le_refl _) _).trans (hb2.mono (by simp))).mono hb.size)⟩
  · have dx1 : decide (apE t [x] 0 = 0) = false := by simpa using x1
    go_wp2_with fail
    go_ret
    exact ⟨rfl, hb.trans (((Below.refl _ _).alloc (Nat.le_refl _) _).mono hb.size)⟩
end Go.Proofs.Ytinjeocfnhhlmaa
