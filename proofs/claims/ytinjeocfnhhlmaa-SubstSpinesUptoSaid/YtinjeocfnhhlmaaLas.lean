/-
  The walk of the law SubstSpines.
-/
import Derived.Test.YtinjeocfnhhlmaaTo
namespace Go.Proofs.Ytinjeocfnhhlmaa
open Go.ChangeShapes Go.WideShapes Go.ChangeAt Go.RowKit
set_option linter.unusedVariables false

theorem lo_may' {t : T} {s d : Int} (h : ltB t s d = true) : myB t = true → LoT t := fun hm => okT_mono (by omega) _ (okT_of t ((myB_iff t).1 hm).1 (low_of h))
/-- the document's Under tells what package subst's does -/
theorem rnd_undX {w : World} {L : List T} {A : Option Addr} {s d : Int} (hx : ∀ i t, L[i]? = some t → RdAt w A i t) (hn : ∀ x ∈ L, nd x ≤ 1048576) (hl : ∀ x ∈ L, ltB x s d = true) : rndX L = undX L := by
  rw [rndX, undX]
  congr 1
  refine List.map_congr_left fun x hx' => ?_
  obtain ⟨i, hi⟩ := List.getElem?_of_mem hx'
  obtain ⟨b, o, v0, v1, v2, _, _, _, _, hr⟩ := hx i x hi
  exact rup_eq hr (hn x hx') (hl x hx')
theorem SEnd.tells {M : List T} {s : Int} {w w' : World} {e : Ending} (h : SEnd M s w e w') : ∃ A n c, e = .returned (.agg #[.slice A n c, .int .i64 s]) ∧ M.length = n ∧ n ≤ c ∧ c ≤ maxLen ∧ (∀ i t, M[i]? = some t → RdAt w' A i t) ∧ Below w.heap.size w w' := by
  obtain ⟨A, n, c, e1, hr, hb⟩ := h
  exact ⟨A, n, c, e1, hr.len, hr.le, hr.cap, fun i t ht => rdFAt_rd (hr.at_ i t ht), hb⟩

set_option maxRecDepth 100000 in
set_option maxHeartbeats 8000000 in
theorem substSpinesC (t : T) (L : List T) (Al : Option Addr) (nl cl : Nat) (k : Int) (v : Value) (w : World) (hvt : Rd w t v) (hn : L.length = nl) (hc : nl ≤ cl) (hm : cl ≤ maxLen) (hx : ∀ i t, L[i]? = some t → RdAt w Al i t) (hnt : nd t ≤ 1048576) (hnL : ndL L ≤ 1048576) :
    Calls Try.prog 16 #[v, .slice Al nl cl, .int .i64 k] w fun e w' => e = .returned (.bool true) ∧ Below w.heap.size w w' := by
  obtain ⟨kt, ht, At, nt, ct, rfl⟩ := hvt.full
  obtain ⟨W, hW⟩ : ∃ W, w.alloc (.cells #[.int .i64 kt, .int .i64 ht, .slice At nt ct] 24) = W := ⟨_, rfl⟩
  have hb : Below w.heap.size w W := by rw [← hW]; exact (Below.refl _ _).alloc (Nat.le_refl _) _
  have x0 : Box W w.heap.size 24 #[.int .i64 kt, .int .i64 ht, .slice At nt ct] := by rw [← hW]; exact Box.new _ _ _
  have HW := Lib.hid hW; clear hW
  have HV := Lib.hid hvt; clear hvt
  have HN := Lib.hid hn; clear hn
  have HX := Lib.hid hx; clear hx
  have HMM := Lib.hid hm; clear hm
  have HNL := Lib.hid (show ∀ x ∈ L, nd x ≤ 1048576 from fun x hx => by have := nd_mem hx; omega)
  have hl9 : nl ≤ 1048576 := by have := (wdL_nd L).2; have := HN.out; omega
  go_enter Try.func16, Try.ntmps16
  go_wp2_with fail
  rw [HW.out]
  clear HW
  refine (awakeU _).mono ?_
  rintro e w1 ⟨rfl, hb1⟩
  replace x0 := x0.keep hb1 x0.lt
  replace hb := hb.trans (hb1.mono hb.size)
  clear hb1
  obtain ⟨c0, c1, c2⟩ := x0.three
  go_wp2_with fail
  refine (refLight t 5000 80 _ _ (Rd.keep hb _ _ HV.out)).mono ?_
  generalize hq : ltB t 5000 80 = F at *
  rintro e w2 ⟨rfl, hb1⟩
  have HQ := Lib.hid hq; clear hq
  clear c0 c1 c2
  replace x0 := x0.keep hb1 x0.lt
  replace hb := hb.trans (hb1.mono hb.size)
  clear hb1
  go_wp2_with fail
  refine (lightsC L Al nl cl 5000 80 _ HN.out hc HMM.out (fun i u hu => RdAt.keep hb (HX.out i u hu))).mono ?_
  generalize hq : lsB L 5000 80 = G at *
  rintro e w3 ⟨rfl, hb1⟩
  have HQL := Lib.hid hq; clear hq
  replace x0 := x0.keep hb1 x0.lt
  replace hb := hb.trans (hb1.mono hb.size)
  clear hb1
  cases F
  · go_wp2_with fail
    go_ret
    exact ⟨rfl, hb⟩
  cases G
  · go_wp2_with fail
    go_ret
    exact ⟨rfl, hb⟩
  have hlt : ∀ x ∈ L, ltB x 5000 80 = true := by
    have := HQL.out
    unfold lsB at this
    rw [Bool.and_eq_true] at this
    exact lights_all this.2
  have h60 : L.length ≤ 60 := by
    have := HQL.out
    unfold lsB at this
    rw [Bool.and_eq_true] at this
    exact of_decide_eq_true this.1
  have hn60 : nl ≤ 60 := by have := HN.out; omega
  clear h60
  have HLT := Lib.hid hlt; clear hlt HQL
  obtain ⟨c0, c1, c2⟩ := x0.three
  have l0 := x0.lt
  go_wp2_with fail
  refine (SpineC (t := t) (L := L) (Rd.keep hb _ _ HV.out) HN.out hc HMM.out (fun i u hu => RdAt.keep hb (HX.out i u hu)) (fun h => lo_may' HQ.out h) (fun x hx h => lo_may' (HLT.out x hx) h) (by omega)).mono ?_
  rintro e w4 ⟨ka, ha, Aa, na, ca, rfl, hrd, hb1⟩
  have hra := RdF.rd _ _ hrd
  clear hrd c0 c1 c2 l0
  obtain ⟨W4, hW4⟩ : ∃ W4, w4.alloc (.cells #[.int .i64 ka, .int .i64 ha, .slice Aa na ca] 24) = W4 := ⟨_, rfl⟩
  have hbA : Below w4.heap.size w4 W4 := by rw [← hW4]; exact (Below.refl _ _).alloc (Nat.le_refl _) _
  have xa : Box W4 w4.heap.size 24 #[.int .i64 ka, .int .i64 ha, .slice Aa na ca] := by rw [← hW4]; exact Box.new _ _ _
  have hb2 := hb1.trans (hbA.mono hb1.size)
  have HVA := Lib.hid (Rd.keep hbA _ _ hra); clear hra
  have z0 := x0.keep hb1 x0.lt
  have hbB := hb.trans (hb2.mono hb.size)
  obtain ⟨c0, c1, c2⟩ := z0.three
  have l0 := z0.lt
  have HW4 := Lib.hid hW4; clear hW4 hbA hb1 hb2 x0 z0
  go_wp2_with fail
  rw [HW4.out]
  clear HW4
  refine (rSpineC (t := t) (L := L) (Rd.keep hbB _ _ HV.out) HN.out hc HMM.out (fun i u hu => RdAt.keep hbB (HX.out i u hu)) (by omega) (by omega) (fun h => lo_may' HQ.out h) (fun x hx h => lo_may' (HLT.out x hx) h)).mono ?_
  rintro e w5 ⟨kb, hb_, Ab, nb, cb, rfl, hrb, hb1⟩
  clear c0 c1 c2 l0
  obtain ⟨W5, hW5⟩ : ∃ W5, w5.alloc (.cells #[.int .i64 kb, .int .i64 hb_, .slice Ab nb cb] 24) = W5 := ⟨_, rfl⟩
  have hbA : Below w5.heap.size w5 W5 := by rw [← hW5]; exact (Below.refl _ _).alloc (Nat.le_refl _) _
  have hb2 := hb1.trans (hbA.mono hb1.size)
  have HVB := Lib.hid (Rd.keep hbA _ _ hrb); clear hrb
  replace HVA := Lib.hid (Rd.keep hb2 _ _ HVA.out)
  have za := xa.keep hb1 xa.lt
  have hbC := hbB.trans (hb2.mono hbB.size)
  obtain ⟨a0, a1, a2⟩ := za.three
  have la := za.lt
  have HW5 := Lib.hid hW5; clear hW5 hbA hb1 hb2 xa za hb hbB
  go_wp2_with fail
  rw [HW5.out]
  clear HW5
  refine (refSame (spT t L) (spT t L) _ _ _ HVA.out HVB.out).mono ?_
  rw [sam_refl]
  rintro e w6 ⟨rfl, hb1⟩
  replace hbC := hbC.trans (hb1.mono hbC.size)
  clear hb1 a0 a1 a2 la HVA HVB
  generalize spE t L = E at *
  have dE : decide (E = E) = true := by simp
  have hU := UnderC (L := L) (A := Al) (n := nl) (c := cl) (sh := 3) (w := w6) HN.out hc HMM.out (fun i u hu => RdAt.keep hbC (HX.out i u hu)) HNL.out (by omega)
  rw [show wrap64 (3 + 1) = 4 by unfold wrap64; omega] at hU
  have HU := Lib.hid hU; clear hU
  go_wp2_with fail
  refine HU.out.mono ?_
  clear HU
  rintro e w7 hse
  obtain ⟨A7, n7, c7, rfl, m1, m2, m3, m4, hb1⟩ := hse.tells
  clear hse
  obtain ⟨W7, hW7⟩ : ∃ W7, w7.alloc (.cells #[.slice A7 n7 c7, .int .i64 4] 45) = W7 := ⟨_, rfl⟩
  have hbA : Below w7.heap.size w7 W7 := by rw [← hW7]; exact (Below.refl _ _).alloc (Nat.le_refl _) _
  have x7 : Box W7 w7.heap.size 45 #[.slice A7 n7 c7, .int .i64 4] := by rw [← hW7]; exact Box.new _ _ _
  have hbD := hbC.trans ((hb1.trans (hbA.mono hb1.size)).mono hbC.size)
  have HM7 := Lib.hid (show (undX L).length = n7 ∧ n7 ≤ c7 ∧ c7 ≤ maxLen ∧ ∀ i t, (undX L)[i]? = some t → RdAt W7 A7 i t from ⟨m1, m2, m3, fun i u hu => RdAt.keep hbA (m4 i u hu)⟩)
  have hU := runderC (M := L) (A := Al) (n := nl) (c := cl) (s := 3) (w := W7) HN.out hc HMM.out (fun i u hu => RdAt.keep hbD (HX.out i u hu)) HNL.out (by omega)
  rw [show wrap64 (3 + 1) = 4 by unfold wrap64; omega, rnd_undX HX.out HNL.out HLT.out] at hU
  have HU := Lib.hid hU; clear hU
  have HW7 := Lib.hid hW7; clear hW7 m1 m2 m3 m4 hb1 hbA hbC
  go_wp2_with fail
  rw [HW7.out]
  clear HW7
  refine HU.out.mono ?_
  clear HU
  rintro e w8 hse
  obtain ⟨A8, n8, c8, rfl, m1, m2, m3, m4, hb1⟩ := hse.tells
  clear hse
  obtain rfl : n7 = n8 := HM7.out.1.symm.trans m1
  obtain ⟨W8, hW8⟩ : ∃ W8, w8.alloc (.cells #[.slice A8 n7 c8, .int .i64 4] 45) = W8 := ⟨_, rfl⟩
  have hbA : Below w8.heap.size w8 W8 := by rw [← hW8]; exact (Below.refl _ _).alloc (Nat.le_refl _) _
  have x8 : Box W8 w8.heap.size 45 #[.slice A8 n7 c8, .int .i64 4] := by rw [← hW8]; exact Box.new _ _ _
  have y7 := x7.keep hb1 x7.lt
  have hb2 := hb1.trans (hbA.mono hb1.size)
  replace x7 := x7.keep hb2 x7.lt
  have hbE := hbD.trans (hb2.mono hbD.size)
  have hL := rlistC (undX L) A7 A8 n7 c7 c8 W8 HM7.out.1 HM7.out.2.1 HM7.out.2.2.1 m2 (fun i u hu => RdAt.keep hb2 (HM7.out.2.2.2 i u hu)) (fun i u hu => RdAt.keep hbA (m4 i u hu))
  have HL := Lib.hid hL; clear hL
  have HW8 := Lib.hid hW8; clear hW8 m1 m2 m3 m4 hb1 hb2 hbA hbD HM7
  obtain ⟨c0, c1⟩ := y7.two
  have l0 := y7.lt
  go_wp2_with fail
  rw [HW8.out]
  clear HW8
  refine HL.out.mono ?_
  clear HL c0 c1 l0 y7
  rintro e w9 ⟨rfl, hb1⟩
  replace x7 := x7.keep hb1 x7.lt
  replace x8 := x8.keep hb1 x8.lt
  replace hbE := hbE.trans (hb1.mono hbE.size)
  clear hb1
  have HU := Lib.hid (SameC k w9)
  go_wp2_with fail
  refine HU.out.mono ?_
  clear HU
  rintro e w10 hse
  obtain ⟨A10, n10, c10, rfl, m1, m2, m3, m4, hb1⟩ := hse.tells
  clear hse
  obtain ⟨s10, hs10⟩ : ∃ s10 : Int, (clN k : Int) = s10 := ⟨_, rfl⟩
  rw [hs10]
  obtain ⟨W10, hW10⟩ : ∃ W10, w10.alloc (.cells #[.slice A10 n10 c10, .int .i64 s10] 45) = W10 := ⟨_, rfl⟩
  have hbA : Below w10.heap.size w10 W10 := by rw [← hW10]; exact (Below.refl _ _).alloc (Nat.le_refl _) _
  have x10 : Box W10 w10.heap.size 45 #[.slice A10 n10 c10, .int .i64 s10] := by rw [← hW10]; exact Box.new _ _ _
  have hb2 := hb1.trans (hbA.mono hb1.size)
  replace x7 := x7.keep hb2 x7.lt
  replace x8 := x8.keep hb2 x8.lt
  replace hbE := hbE.trans (hb2.mono hbE.size)
  have HM10 := Lib.hid (show (vsL (clN k)).length = n10 ∧ n10 ≤ c10 ∧ c10 ≤ maxLen ∧ ∀ i t, (vsL (clN k))[i]? = some t → RdAt W10 A10 i t from ⟨m1, m2, m3, fun i u hu => RdAt.keep hbA (m4 i u hu)⟩)
  have hU := rsameC k W10
  rw [hs10] at hU
  have HU := Lib.hid hU; clear hU hs10
  have HW10 := Lib.hid hW10; clear hW10 m1 m2 m3 m4 hb1 hb2 hbA
  go_wp2_with fail
  rw [HW10.out]
  clear HW10
  refine HU.out.mono ?_
  clear HU
  rintro e w11 hse
  obtain ⟨A11, n11, c11, rfl, m1, m2, m3, m4, hb1⟩ := hse.tells
  clear hse
  obtain rfl : n10 = n11 := HM10.out.1.symm.trans m1
  obtain ⟨W11, hW11⟩ : ∃ W11, w11.alloc (.cells #[.slice A11 n10 c11, .int .i64 s10] 45) = W11 := ⟨_, rfl⟩
  have hbA : Below w11.heap.size w11 W11 := by rw [← hW11]; exact (Below.refl _ _).alloc (Nat.le_refl _) _
  have x11 : Box W11 w11.heap.size 45 #[.slice A11 n10 c11, .int .i64 s10] := by rw [← hW11]; exact Box.new _ _ _
  have y10 := x10.keep hb1 x10.lt
  have hb2 := hb1.trans (hbA.mono hb1.size)
  replace x7 := x7.keep hb2 x7.lt
  replace x8 := x8.keep hb2 x8.lt
  replace x10 := x10.keep hb2 x10.lt
  replace hbE := hbE.trans (hb2.mono hbE.size)
  have hL := rlistC (vsL (clN k)) A10 A11 n10 c10 c11 W11 HM10.out.1 HM10.out.2.1 HM10.out.2.2.1 m2 (fun i u hu => RdAt.keep hb2 (HM10.out.2.2.2 i u hu)) (fun i u hu => RdAt.keep hbA (m4 i u hu))
  have HL := Lib.hid hL; clear hL
  have HW11 := Lib.hid hW11; clear hW11 m1 m2 m3 m4 hb1 hb2 hbA HM10
  obtain ⟨c0, c1⟩ := y10.two
  have l0 := y10.lt
  go_wp2_with fail
  rw [HW11.out]
  clear HW11
  refine HL.out.mono ?_
  clear HL c0 c1 l0 y10
  rintro e w12 ⟨rfl, hb1⟩
  replace x7 := x7.keep hb1 x7.lt
  replace x8 := x8.keep hb1 x8.lt
  replace x10 := x10.keep hb1 x10.lt
  replace x11 := x11.keep hb1 x11.lt
  replace hbE := hbE.trans (hb1.mono hbE.size)
  clear hb1
  obtain ⟨a0, a1⟩ := x7.two
  obtain ⟨b0, b1⟩ := x8.two
  obtain ⟨c0, c1⟩ := x10.two
  obtain ⟨d0, d1⟩ := x11.two
  have dS : decide (s10 = s10) = true := by simp
  go_wp2_with fail
  go_ret
  exact ⟨by simp, hbE⟩
end Go.Proofs.Ytinjeocfnhhlmaa
