/-
  The walk of the law MetaNone.
-/
import Derived.Test.YtaccaamdbfccmaaKn
namespace Go.Proofs.Ytaccaamdbfccmaa
open Go.ChangeShapes Go.WideShapes Go.ChangeAt Go.RowKit
set_option linter.unusedVariables false

set_option maxRecDepth 100000 in
set_option maxHeartbeats 8000000 in
theorem metaNoneC (t : T) (L : List T) (AL : Option Addr) (nL cL : Nat) (n : Int) (v : Value) (w : World) (hvt : Rd w t v) (hnL : L.length = nL) (hcL : nL ≤ cL) (hmL : cL ≤ maxLen) (hxL : ∀ i t, L[i]? = some t → RdAt w AL i t) :
    Calls Try.prog 4 #[v, .slice AL nL cL, .int .i64 n] w fun e w' => e = .returned (.bool true) ∧ Below w.heap.size w w' := by
  have hmmL := hmL
  have HXL := Lib.hid hxL; clear hxL
  have HNL := Lib.hid hnL; clear hnL
  obtain ⟨kt, ht, At, nt, ct, rfl⟩ := hvt.full
  have HVt := Lib.hid hvt; clear hvt
  obtain ⟨W0, hW0⟩ : ∃ W0, (w.alloc (.cells #[.int .i64 kt, .int .i64 ht, .slice At nt ct] 24)) = W0 := ⟨_, rfl⟩
  have hb : Below w.heap.size w W0 := by rw [← hW0]; exact ((Below.refl _ _).alloc (Nat.le_refl _) _)
  have bxt : Box W0 (w.heap.size) 24 #[.int .i64 kt, .int .i64 ht, .slice At nt ct] := by rw [← hW0]; exact (Box.new w _ _)
  replace HVt := Lib.hid (Rd.keep hb _ _ HVt.out)
  have HW0 := Lib.hid hW0; clear hW0
  go_enter Try.func4, Try.ntmps4
  go_wp2_with fail
  rw [HW0.out]
  clear HW0
  refine (awakeM _).mono ?_
  rintro e w1 ⟨rfl, hb1⟩
  replace bxt := bxt.keep hb1 bxt.lt
  replace HVt := Lib.hid (Rd.keep hb1 _ _ HVt.out)
  replace hb := hb.trans (hb1.mono hb.size)
  clear hb1
  obtain ⟨bxt0, bxt1, bxt2⟩ := bxt.three
  have bxtl := bxt.lt
  go_wp2_with fail
  refine (refLight t 5000 80 _ _ HVt.out).mono ?_
  have HLt : Hid (ltB t 5000 80 = true → ltB t 5000 80 = true) := Lib.hid fun e => e
  generalize hqt : ltB t 5000 80 = Rt at *
  rintro e w2t ⟨rfl, hb1⟩
  have HQt := Lib.hid hqt; clear hqt HLt
  clear bxt0 bxt1 bxt2 bxtl
  replace bxt := bxt.keep hb1 bxt.lt
  replace HVt := Lib.hid (Rd.keep hb1 _ _ HVt.out)
  replace hb := hb.trans (hb1.mono hb.size)
  clear hb1
  obtain ⟨bxt0, bxt1, bxt2⟩ := bxt.three
  have bxtl := bxt.lt
  go_wp2_with fail
  refine (lightsC L AL nL cL 5000 80 _ HNL.out hcL hmL (fun i u hu => RdAt.keep hb (HXL.out i u hu))).mono ?_
  generalize hqL : lsB L 5000 80 = RL at *
  rintro e w2L ⟨rfl, hb1⟩
  have HQL := Lib.hid hqL; clear hqL
  clear bxt0 bxt1 bxt2 bxtl
  replace bxt := bxt.keep hb1 bxt.lt
  replace HVt := Lib.hid (Rd.keep hb1 _ _ HVt.out)
  replace hb := hb.trans (hb1.mono hb.size)
  clear hb1
  obtain ⟨bxt0, bxt1, bxt2⟩ := bxt.three
  have bxtl := bxt.lt
  cases Rt
  · go_wp2_with fail
    go_ret
    exact ⟨rfl, hb⟩
  cases RL
  · go_wp2_with fail
    go_ret
    exact ⟨rfl, hb⟩
  go_wp2_with fail
  refine (myC t _ _ HVt.out).mono ?_
  generalize hqt : myB t = Mt at *
  rintro e w3t ⟨rfl, hb1⟩
  have HMt := Lib.hid hqt; clear hqt
  clear bxt0 bxt1 bxt2 bxtl
  replace bxt := bxt.keep hb1 bxt.lt
  replace HVt := Lib.hid (Rd.keep hb1 _ _ HVt.out)
  replace hb := hb.trans (hb1.mono hb.size)
  clear hb1
  obtain ⟨bxt0, bxt1, bxt2⟩ := bxt.three
  have bxtl := bxt.lt
  cases Mt
  · go_wp2_with fail
    go_ret
    exact ⟨rfl, hb⟩
  have KNt : Hid (Kn 5000 80 t) := Lib.hid (kn_of HQt.out HMt.out); clear HQt HMt
  unfold maxLen at hmL
  by_cases x1 : n < 0
  · have dx1 : decide (n < 0) = true := by simpa using x1
    go_wp2_with fail
    go_ret
    exact ⟨rfl, hb⟩
  have dx1 : decide (n < 0) = false := by simpa using x1
  by_cases x2 : 1000 < n
  · have dx2 : decide (1000 < n) = true := by simpa using x2
    go_wp2_with fail
    go_ret
    exact ⟨rfl, hb⟩
  have dx2 : decide (1000 < n) = false := by simpa using x2
  clear bxt0 bxt1 bxt2 bxtl
  go_wp2_with fail
  go_loopw [10] (fun i wr => ∃ (j : Nat), j ≤ nL ∧ i = .int .i64 j ∧ Hid (∀ (m : Nat) (x : T), m < j → L[m]? = some x → myB x = true) ∧ Below w3t.heap.size w3t wr) (fun i _ => nL - (intOf i).toNat)
  case atStart => exact ⟨0, Nat.zero_le _, rfl, Lib.hid (fun m x h => by omega), Below.refl _ _⟩
  case round =>
    obtain ⟨j, hj, rfl, HS, hbr⟩ := hrel
    have hbW : Below w.heap.size w wr := hb.trans (hbr.mono hb.size)
    by_cases hlt : j < nL
    · obtain ⟨x, ht⟩ := at_of HNL.out hlt
      obtain ⟨b, o, k2, h2, A2, n2, c2', rfl, c0, c1, c2, hr⟩ := (RdAt.keep hbW (HXL.out j x ht)).full
      have HT := Lib.hid ht; clear ht
      have HR := Lib.hid hr; clear hr
      have hi0 : (0 : Int) ≤ j := by omega
      have hi1 : (j : Int) < nL := by omega
      go_wp2_with fail
      refine (myC x _ _ HR.out).mono ?_
      generalize hqm : myB x = M at *
      rintro e w5 ⟨rfl, hb1⟩
      have HMx := Lib.hid hqm; clear hqm
      clear c0 c1 c2
      replace hbr := hbr.trans (hb1.mono hbr.size)
      clear hb1 hbW
      cases M
      · go_wp2_with fail
        go_ret
        exact ⟨rfl, hb.trans (hbr.mono hb.size)⟩
      · go_wp2_with fail
        go_roundw
        case rel => exact ⟨j + 1, by omega, by go_num, Lib.hid (fun m y hm hy => by
            by_cases hmj : m < j
            · exact HS.out m y hmj hy
            · have : m = j := by omega
              subst this
              have e := HT.out.symm.trans hy
              cases e
              exact HMx.out), hbr⟩
        case measure => simp [intOf]; omega
    · have hjn : j = nL := by omega
      subst hjn
      have y0 := bxt.keep hbr bxt.lt
      obtain ⟨t0, t1, t2⟩ := y0.three
      have HVt' := Lib.hid (Rd.keep hbr _ _ HVt.out)
      have hq := HQL.out
      unfold lsB at hq
      rw [Bool.and_eq_true] at hq
      have h60 : L.length ≤ 60 := of_decide_eq_true hq.1
      have hKL : ∀ x ∈ L, Kn 5000 80 x := fun x hx => by
        obtain ⟨i, hi⟩ := List.getElem?_of_mem hx
        have hlt : i < j := by have := (List.getElem?_eq_some_iff.1 hi).1; have := HNL.out; omega
        exact kn_of (lights_all hq.2 x hx) (HS.out i x hlt hi)
      have HF := Lib.hid fun W (h : Below wr.heap.size wr W) => FillC (n := n) W ⟨fun x hx _ => okT_mono (by omega) _ (hKL x hx).ok, HNL.out, hcL, hmmL, fun i u hu => RdAt.keep (hbW.trans (h.mono hbW.size)) (HXL.out i u hu)⟩ (Rd.keep h _ _ HVt'.out) (fun _ => okT_mono (by omega) _ KNt.out.ok)
      have HF0 := Lib.hid fun W (h : Below wr.heap.size wr W) => FillC (th := []) (A := none) (m := 0) (cL := 0) (n := n) W ⟨fun x hx => by (cases hx), rfl, Nat.le_refl _, Nat.zero_le _, fun i u hu => by simp at hu⟩ (Rd.keep h _ _ HVt'.out) (fun _ => okT_mono (by omega) _ KNt.out.ok)
      have f1 : hasB t = false → fiR L n t = .ok t := fun e => none_tells KNt.out.my (fun x hx => (hKL x hx).my) h60 (by omega) e
      have f0 : hasB t = false → fiR [] n t = .ok t := fun e => none_tells KNt.out.my (fun x hx => by cases hx) (by simp) (by omega) e
      have f2 : hasB t = true → fiR [] n t = .error 2 := fun e => has_tells KNt.out.my (by omega) e
      have HE := Lib.hid (And.intro f1 (And.intro f0 f2))
      clear hKL f1 f0 f2 hq
      go_wp2_with fail
      refine (metasC t _ _ HVt'.out).mono ?_
      generalize hqh : hasB t = bh at *
      rintro e w6 ⟨rfl, hb1⟩
      have HE' := HE; clear HE
      have y1 := y0.keep hb1 y0.lt
      clear t0 t1 t2 hqh
      obtain ⟨t0, t1, t2⟩ := y1.three
      have hb2 := hbW.trans (hb1.mono hbW.size)
      cases bh
      · obtain ⟨e1, e0, _⟩ := HE'.out
        have q1 := HF.out w6 hb1
        rw [e1 (by trivial)] at q1
        have Q1 := Lib.hid q1
        have E0 := Lib.hid (e0 (by trivial))
        clear q1 e1 e0 HE' HF
        go_wp2_with fail
        refine Q1.out.mono ?_
        rintro e w7 ⟨ka, ha, Aa, na, ca, rfl, hrd, hb3⟩
        have HB7 := Lib.hid hb3
        have hbD : Below w7.heap.size w7 (w7.alloc (.cells #[.int .i64 ka, .int .i64 ha, .slice Aa na ca] 24)) := (Below.refl _ _).alloc (Nat.le_refl _) _
        have yw := y1.keep hb3 y1.lt
        have y2 := yw.keep hbD yw.lt
        have xa := Box.new w7 24 #[.int .i64 ka, .int .i64 ha, .slice Aa na ca]
        have HVa := Lib.hid (Rd.keep hbD _ _ (RdF.rd _ _ hrd))
        have hb4 := hb2.trans ((hb3.trans (hbD.mono hb3.size)).mono hb2.size)
        have hb5 := hb1.trans ((hb3.trans (hbD.mono hb3.size)).mono hb1.size)
        generalize hWd : w7.alloc (.cells #[.int .i64 ka, .int .i64 ha, .slice Aa na ca] 24) = Wd at *
        have HWd := Lib.hid hWd; clear hWd
        clear t0 t1 t2 hrd hbD hb3
        obtain ⟨t0, t1, t2⟩ := yw.three
        have lt2 := yw.lt
        go_wp2_with fail
        rw [HWd.out]
        have q0 := HF0.out Wd hb5
        rw [E0.out] at q0
        refine q0.mono ?_
        clear q0
        rintro e w8 ⟨kb, hb_, Ab, nb, cb, rfl, hrd, hb6⟩
        have hbD : Below w8.heap.size w8 (w8.alloc (.cells #[.int .i64 kb, .int .i64 hb_, .slice Ab nb cb] 24)) := (Below.refl _ _).alloc (Nat.le_refl _) _
        have hb7 := hb6.trans (hbD.mono hb6.size)
        have y3 := y2.keep hb6 y2.lt
        have za := xa.keep hb6 xa.lt
        have ly3 := y3.lt
        have lza := za.lt
        replace HVa := Lib.hid (Rd.keep hb7 _ _ HVa.out)
        have HVt2 := Lib.hid (Rd.keep (hb5.trans (hb7.mono hb5.size)) _ _ HVt'.out)
        have HB8 := Lib.hid (hb4.trans (hb7.mono hb4.size))
        generalize hWe : w8.alloc (.cells #[.int .i64 kb, .int .i64 hb_, .slice Ab nb cb] 24) = We at *
        have HWe := Lib.hid hWe; clear hWe
        clear t0 t1 t2 hrd hbD hb6 hb7 y0 y1 y2 xa yw
        obtain ⟨t0, t1, t2⟩ := y3.three
        obtain ⟨a0, a1, a2⟩ := za.three
        go_wp2_with fail
        rw [HWe.out]
        refine (termSame t t _ _ _ HVa.out HVt2.out).mono ?_
        rw [sam_refl]
        rintro e w9 ⟨rfl, hb9⟩
        go_wp2_with fail
        go_ret
        exact ⟨rfl, HB8.out.trans (hb9.mono HB8.out.size)⟩
      · obtain ⟨_, _, e2⟩ := HE'.out
        have E2 := Lib.hid (e2 (by trivial))
        clear e2 HE'
        go_wp2_with fail
        refine (HF.out w6 hb1).mono ?_
        clear HF
        intro e w7 hE
        have hb3 := hE.below
        obtain ⟨ka, ha, Aa, na, ca, ec, rfl, hout, hfr⟩ := (hE.cen (X := fun _ => False) (c := 0)).uni
        clear hE hout hfr
        have hbD : Below w7.heap.size w7 (w7.alloc (.cells #[.int .i64 ka, .int .i64 ha, .slice Aa na ca] 24)) := (Below.refl _ _).alloc (Nat.le_refl _) _
        have yw := y1.keep hb3 y1.lt
        have y2 := yw.keep hbD yw.lt
        have hb4 := hb2.trans ((hb3.trans (hbD.mono hb3.size)).mono hb2.size)
        have hb5 := hb1.trans ((hb3.trans (hbD.mono hb3.size)).mono hb1.size)
        generalize hWd : w7.alloc (.cells #[.int .i64 ka, .int .i64 ha, .slice Aa na ca] 24) = Wd at *
        have HWd := Lib.hid hWd; clear hWd
        clear t0 t1 t2 hbD hb3
        obtain ⟨t0, t1, t2⟩ := yw.three
        have lt2 := yw.lt
        go_wp2_with fail
        rw [HWd.out]
        have q0 := HF0.out Wd hb5
        rw [E2.out] at q0
        refine q0.mono ?_
        clear q0
        rintro e w8 ⟨rfl, hne, hb6⟩
        clear t0 t1 t2 y0 y1 y2 yw hne
        have HB8 := Lib.hid (hb4.trans (hb6.mono hb4.size))
        go_wp2_with fail
        go_ret
        exact ⟨rfl, HB8.out.alloc HB8.out.size _⟩
end Go.Proofs.Ytaccaamdbfccmaa
