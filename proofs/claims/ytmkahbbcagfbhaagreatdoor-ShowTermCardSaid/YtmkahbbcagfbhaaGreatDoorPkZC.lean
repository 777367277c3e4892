/-
  The walk of ShowTerm. No statement is proved here.
-/
import Derived.Test.YtmkahbbcagfbhaaGreatDoorPkGC
import Derived.Test.YtmkahbbcagfbhaaGreatDoorSa
namespace Go.Proofs.YtmkahbbcagfbhaaGreatDoor
open Go.ChangeShapes Go.WideShapes Go.ChangeAt Go.RowKit
set_option linter.unusedVariables false
/-- two variables, as they were -/
structure TwB (w wx : World) (tm ta : TypeId) (cm ca : Array Value) : Prop where
  below : Below w.heap.size w wx
  bm : BoxX wx w.heap.size tm cm
  ba : BoxX wx (w.heap.size + 1) ta ca
theorem TwB.keep {w wx wy : World} {tm ta : TypeId} {cm ca : Array Value} (h : TwB w wx tm ta cm ca) (hb : Below wx.heap.size wx wy) : TwB w wy tm ta cm ca :=
  ⟨h.below.trans (hb.mono h.below.size), h.bm.keep hb h.bm.lt, h.ba.keep hb h.ba.lt⟩
set_option maxRecDepth 100000 in
set_option maxHeartbeats 8000000 in
theorem showTermC (ds : List (ByteArray × T)) (m a : T) (vm va : Value) (SA : Option Addr) (sn sc : Nat) (w : World) (hD : DS w ds SA sn sc) (hm : Rd w m vm) (ha : Rd w a va) :
    Calls Tryz.prog 4 #[.slice SA sn sc, vm, va] w fun e w' => e = .returned (.bool true) ∧ Below w.heap.size w w' := by
  obtain ⟨k, h, A, n, c, rfl⟩ := hm.full
  obtain ⟨k2, h2, A2, n2, c2, rfl⟩ := ha.full
  obtain ⟨W, hW⟩ : ∃ W, (w.alloc (.cells #[.int .i64 k, .int .i64 h, .slice A n c] 36)).alloc (.cells #[.int .i64 k2, .int .i64 h2, .slice A2 n2 c2] 36) = W := ⟨_, rfl⟩
  have htw : TwB w W 36 36 #[.int .i64 k, .int .i64 h, .slice A n c] #[.int .i64 k2, .int .i64 h2, .slice A2 n2 c2] := by
    have hb1 : Below (w.alloc (.cells #[.int .i64 k, .int .i64 h, .slice A n c] 36)).heap.size (w.alloc (.cells #[.int .i64 k, .int .i64 h, .slice A n c] 36)) W := by rw [← hW]; exact (Below.refl _ _).alloc (Nat.le_refl _) _
    have x0 := BoxX.new w 36 #[.int .i64 k, .int .i64 h, .slice A n c]
    have x1 : BoxX W (w.alloc (.cells #[.int .i64 k, .int .i64 h, .slice A n c] 36)).heap.size 36 #[.int .i64 k2, .int .i64 h2, .slice A2 n2 c2] := by rw [← hW]; exact BoxX.new _ _ _
    refine ⟨by rw [← hW]; exact ((Below.refl _ _).alloc (Nat.le_refl _) _).alloc (by simp) _, x0.keep hb1 x0.lt, ?_⟩
    simpa using x1
  have hln := hD.len
  have hle := hD.le
  have hcp := hD.cap
  unfold maxLen at hcp
  have HX := Lib.hid htw
  have HM := Lib.hid hm
  have HN := Lib.hid ha
  have HD := Lib.hid hD
  have HA := Lib.hid (sAwakeC W)
  clear htw hm ha hD
  subst hW
  go_enter Tryz.func4, Tryz.ntmps4
  go_wp2_with fail
  refine HA.out.mono ?_
  rintro e w1 ⟨rfl, hb1⟩
  have HX1 := Lib.hid (HX.out.keep hb1)
  clear HA hb1 HX
  have HF := Lib.hid (fewC (ds.map (·.2)) SA sn sc w1 (HD.out.keep HX1.out.below).dl)
  obtain ⟨r1, hr1⟩ : ∃ r, fwQ (ds.map (·.2)) sn = r := ⟨_, rfl⟩
  rw [hr1] at HF
  have HR1 := Lib.hid hr1
  clear hr1
  go_wp2_with fail
  refine HF.out.mono ?_
  rintro e w2 ⟨rfl, hb2⟩
  have HX2 := Lib.hid (HX1.out.keep hb2)
  clear HF hb2 HX1
  have HG := Lib.hid (sLightC ds SA sn sc w2 (HD.out.keep HX2.out.below))
  obtain ⟨r2, hr2⟩ : ∃ r, (ds.all fun d => decide (d.1.size ≤ 100)) = r := ⟨_, rfl⟩
  rw [hr2] at HG
  have HR2 := Lib.hid hr2
  clear hr2
  go_wp2_with fail
  refine HG.out.mono ?_
  rintro e w3 ⟨rfl, hb3⟩
  have HX3 := Lib.hid (HX2.out.keep hb3)
  clear HG hb3 HX2
  have c0 := HX3.out.bm.cell 0
  have c1 := HX3.out.bm.cell 1
  have c2 := HX3.out.bm.cell 2
  have e0 := HX3.out.ba.cell 0
  have e1 := HX3.out.ba.cell 1
  have e2 := HX3.out.ba.cell 2
  simp only [List.getElem?_toArray, List.getElem?_cons_zero, List.getElem?_cons_succ] at c0 c1 c2 e0 e1 e2
  have HL := Lib.hid (refLight m 500 60 _ w3 (Rd.keep HX3.out.below _ _ HM.out))
  obtain ⟨r3, hr3⟩ : ∃ r, ltB m 500 60 = r := ⟨_, rfl⟩
  rw [hr3] at HL
  have HR3 := Lib.hid hr3
  clear hr3
  go_wp2_with fail
  refine HL.out.mono ?_
  rintro e w4 ⟨rfl, hb4⟩
  have HX4 := Lib.hid (HX3.out.keep hb4)
  clear HL hb4 HX3 c0 c1 c2 e0 e1 e2
  have c0 := HX4.out.bm.cell 0
  have c1 := HX4.out.bm.cell 1
  have c2 := HX4.out.bm.cell 2
  have e0 := HX4.out.ba.cell 0
  have e1 := HX4.out.ba.cell 1
  have e2 := HX4.out.ba.cell 2
  simp only [List.getElem?_toArray, List.getElem?_cons_zero, List.getElem?_cons_succ] at c0 c1 c2 e0 e1 e2
  have HL := Lib.hid (refLight a 500 60 _ w4 (Rd.keep HX4.out.below _ _ HN.out))
  obtain ⟨r4, hr4⟩ : ∃ r, ltB a 500 60 = r := ⟨_, rfl⟩
  rw [hr4] at HL
  have HR4 := Lib.hid hr4
  clear hr4
  go_wp2_with fail
  refine HL.out.mono ?_
  rintro e w5 ⟨rfl, hb5⟩
  have HX5 := Lib.hid (HX4.out.keep hb5)
  clear HL hb5 HX4 c0 c1 c2 e0 e1 e2
  have c0 := HX5.out.bm.cell 0
  have c1 := HX5.out.bm.cell 1
  have c2 := HX5.out.bm.cell 2
  have e0 := HX5.out.ba.cell 0
  have e1 := HX5.out.ba.cell 1
  have e2 := HX5.out.ba.cell 2
  simp only [List.getElem?_toArray, List.getElem?_cons_zero, List.getElem?_cons_succ] at c0 c1 c2 e0 e1 e2
  cases r1 with
  | false =>
    go_wp2_with fail
    go_ret
    exact ⟨rfl, HX5.out.below⟩
  | true =>
  cases r2 with
  | false =>
    go_wp2_with fail
    go_ret
    exact ⟨rfl, HX5.out.below⟩
  | true =>
  cases r3 with
  | false =>
    go_wp2_with fail
    go_ret
    exact ⟨rfl, HX5.out.below⟩
  | true =>
  cases r4 with
  | false =>
    go_wp2_with fail
    go_ret
    exact ⟨rfl, HX5.out.below⟩
  | true =>
  obtain ⟨hlow, h30⟩ := few_low HR1.out
  have HS := Lib.hid (light_of HR2.out)
  obtain ⟨ec, hec⟩ : ∃ ec, ckT (wS ds) [] m a = ec := ⟨_, rfl⟩
  have hck := vCheckTermC (wS ds) [] m a SA sn sc none 0 0 none 0 0 _ _ w5 (HD.out.keep HX5.out.below).ck (Rd.keep HX5.out.below _ _ HM.out) (Rd.keep HX5.out.below _ _ HN.out) hlow (lo_ltA HR3.out) (lo_ltA HR4.out)
  rw [hec] at hck
  have HK := Lib.hid hck
  have HE := Lib.hid hec
  clear hck hec hlow HR1 HR2 HR3 HR4
  go_wp2_with fail
  refine HK.out.mono ?_
  rintro e w6 ⟨rfl, hb6⟩
  have HX6 := Lib.hid (HX5.out.keep hb6)
  clear HK hb6 HX5 c0 c1 c2 e0 e1 e2
  by_cases hec0 : ec = 0
  rotate_left
  · have d1 : (ec == 0) = false := by simpa using hec0
    clear HE
    go_wp2_with fail
    go_ret
    exact ⟨rfl, HX6.out.below⟩
  subst hec0
  obtain ⟨l, hsh, hkd⟩ := ck_show HE.out
  have HSH := Lib.hid (And.intro hsh hkd)
  clear hsh hkd HE
  have HC := Lib.hid (sDeclsC ds SA sn sc w6 (HD.out.keep HX6.out.below) HS.out (by omega))
  go_wp2_with fail
  refine HC.out.mono ?_
  rintro e w7 ⟨hb7, A7, n7, c7, e7, rfl, hres7⟩
  have HX7 := Lib.hid (HX6.out.keep hb7)
  have H7 := Lib.hid (show e7 = 0 → GdD ds by
    rcases hres7 with ⟨l, h1, h2, _⟩ | ⟨_, h2, _⟩
    · exact fun _ => gd_of h1
    · exact fun h => absurd h h2)
  clear HC hb7 hres7 HX6
  have c0 := HX7.out.bm.cell 0
  have c1 := HX7.out.bm.cell 1
  have c2 := HX7.out.bm.cell 2
  have e0 := HX7.out.ba.cell 0
  have e1 := HX7.out.ba.cell 1
  have e2 := HX7.out.ba.cell 2
  simp only [List.getElem?_toArray, List.getElem?_cons_zero, List.getElem?_cons_succ] at c0 c1 c2 e0 e1 e2
  have HT := Lib.hid (sTermC ds m _ SA sn sc w7 (Rd.keep HX7.out.below _ _ HM.out) (HD.out.keep HX7.out.below) HS.out)
  go_wp2_with fail
  refine HT.out.mono ?_
  rintro e w8 ⟨hb8, A8, n8, c8, e8, rfl, hres8⟩
  have HX8 := Lib.hid (HX7.out.keep hb8)
  obtain ⟨rfl, hy8⟩ : e8 = 0 ∧ YRow w8 w7.heap.size (.slice A8 n8 c8) n8 l := by
    rcases hres8 with ⟨l', h1, h2, h3⟩ | ⟨h1, _⟩
    · rw [HSH.out.1] at h1; cases h1; exact ⟨h2, h3⟩
    · rw [HSH.out.1] at h1; cases h1
  have HY8 := Lib.hid hy8.yl
  have h8len := hy8.len
  have h8le := hy8.yl.le
  have h8cp := hy8.yl.cap
  unfold maxLen at h8cp
  clear HT hb8 hres8 hy8 HX7 c0 c1 c2 e0 e1 e2
  by_cases he7 : e7 = 0
  rotate_left
  · have d7 : (e7 == 0) = false := by simpa using he7
    clear H7
    go_wp2_with fail
    go_ret
    exact ⟨rfl, HX8.out.below⟩
  subst he7
  by_cases hbig : 20000 < n8
  · have d6 : decide ((20000 : Int) < (n8 : Int)) = true := by simp; omega
    go_wp2_with fail
    go_ret
    exact ⟨rfl, HX8.out.below⟩
  have d6 : decide ((20000 : Int) < (n8 : Int)) = false := by simp; omega
  have HRT := Lib.hid (show_read (H7.out rfl) HSH.out.1 HSH.out.2 (by omega))
  have HP := Lib.hid (pTermTopC l A8 n8 c8 ds SA sn sc w8 HY8.out (HD.out.keep HX8.out.below) (by omega))
  clear H7 HSH
  go_wp2_with fail
  refine HP.out.mono ?_
  rintro e w9 ⟨hb9, k9, g9, A9, n9, c9, e9, rfl, hres9⟩
  obtain ⟨rfl, hrd9⟩ : e9 = 0 ∧ Rd w9 m (.agg #[.int .i64 k9, .int .i64 g9, .slice A9 n9 c9]) := by
    rcases hres9 with ⟨t', h1, h2, h3⟩ | ⟨h1, _⟩
    · rw [HRT.out] at h1; cases h1; exact ⟨h2, h3⟩
    · rw [HRT.out] at h1; cases h1
  have HX9 := Lib.hid (HX8.out.keep hb9)
  obtain ⟨W9, hW9⟩ : ∃ W9, w9.alloc (.cells #[.int .i64 k9, .int .i64 g9, .slice A9 n9 c9] 36) = W9 := ⟨_, rfl⟩
  have hbW : Below w9.heap.size w9 W9 := by rw [← hW9]; exact (Below.refl _ _).alloc (Nat.le_refl _) _
  have x9 : BoxX W9 w9.heap.size 36 #[.int .i64 k9, .int .i64 g9, .slice A9 n9 c9] := by rw [← hW9]; exact BoxX.new _ _ _
  have HXW := Lib.hid (HX9.out.keep hbW)
  have c0 := HXW.out.bm.cell 0
  have c1 := HXW.out.bm.cell 1
  have c2 := HXW.out.bm.cell 2
  have e0 := HXW.out.ba.cell 0
  have e1 := HXW.out.ba.cell 1
  have e2 := HXW.out.ba.cell 2
  simp only [List.getElem?_toArray, List.getElem?_cons_zero, List.getElem?_cons_succ] at c0 c1 c2 e0 e1 e2
  have q0 := x9.cell 0
  have q1 := x9.cell 1
  have q2 := x9.cell 2
  simp only [List.getElem?_toArray, List.getElem?_cons_zero, List.getElem?_cons_succ] at q0 q1 q2
  have hS9 := termSame m m _ _ W9 (Rd.keep HXW.out.below _ _ HM.out) (Rd.keep hbW _ _ hrd9)
  rw [sam_refl] at hS9
  have HS9 := Lib.hid hS9
  clear HP hb9 hres9 HRT hrd9 HX8 HX9 hbW x9 hS9 HY8 d6
  go_wp2_with fail
  refine HS9.out.mono ?_
  rintro e w10 ⟨rfl, hb10⟩
  have HB10 := Lib.hid (HXW.out.keep hb10).below
  clear HS9 hb10 q0 q1 q2 c0 c1 c2 e0 e1 e2
  go_wp2_with fail
  go_ret
  exact ⟨rfl, HB10.out⟩
end Go.Proofs.YtmkahbbcagfbhaaGreatDoor
