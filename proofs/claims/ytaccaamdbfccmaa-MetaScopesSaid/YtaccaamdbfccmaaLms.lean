/-
  The walk of the law MetaScopes.
-/
import Derived.Test.YtaccaamdbfccmaaKn
namespace Go.Proofs.Ytaccaamdbfccmaa
open Go.ChangeShapes Go.WideShapes Go.ChangeAt Go.RowKit
set_option linter.unusedVariables false

set_option maxRecDepth 100000 in
set_option maxHeartbeats 8000000 in
theorem metaScopesC (t : T) (L : List T) (Al : Option Addr) (nl cl : Nat) (n around : Int) (v : Value) (w : World) (hvt : Rd w t v) (hn : L.length = nl) (hc : nl ≤ cl) (hm : cl ≤ maxLen) (hx : ∀ i t, L[i]? = some t → RdAt w Al i t) :
    Calls Try.prog 7 #[v, .slice Al nl cl, .int .i64 n, .int .i64 around] w fun e w' => e = .returned (.bool true) ∧ Below w.heap.size w w' := by
  have hmm := hm
  have HX := Lib.hid hx; clear hx
  have HN := Lib.hid hn; clear hn
  obtain ⟨kt, ht, At, nt, ct, rfl⟩ := hvt.full
  have HVt := Lib.hid hvt; clear hvt
  obtain ⟨W0, hW0⟩ : ∃ W0, (w.alloc (.cells #[.int .i64 kt, .int .i64 ht, .slice At nt ct] 24)) = W0 := ⟨_, rfl⟩
  have hb : Below w.heap.size w W0 := by rw [← hW0]; exact ((Below.refl _ _).alloc (Nat.le_refl _) _)
  have bxt : Box W0 (w.heap.size) 24 #[.int .i64 kt, .int .i64 ht, .slice At nt ct] := by rw [← hW0]; exact (Box.new w _ _)
  replace HVt := Lib.hid (Rd.keep hb _ _ HVt.out)
  have HW0 := Lib.hid hW0; clear hW0
  go_enter Try.func7, Try.ntmps7
  go_wp2_with fail
  rw [HW0.out]
  clear HW0
  refine (awakeM _).mono ?_
  rintro e w1 ⟨rfl, hb1⟩
  replace bxt := bxt.keep hb1 bxt.lt
  replace HVt := Lib.hid (Rd.keep hb1 _ _ HVt.out)
  replace hb := hb.trans (hb1.mono hb.size)
  clear hb1
  obtain ⟨bxt0, bxt1, bxt2⟩ := bxt.three
  have bxtl := bxt.lt
  go_wp2_with fail
  refine (refLight t 300 60 _ _ HVt.out).mono ?_
  have HLt : Hid (ltB t 300 60 = true → ltB t 300 60 = true) := Lib.hid fun e => e
  generalize hqt : ltB t 300 60 = Rt at *
  rintro e w2t ⟨rfl, hb1⟩
  have HQt := Lib.hid hqt; clear hqt HLt
  clear bxt0 bxt1 bxt2 bxtl
  replace bxt := bxt.keep hb1 bxt.lt
  replace HVt := Lib.hid (Rd.keep hb1 _ _ HVt.out)
  replace hb := hb.trans (hb1.mono hb.size)
  clear hb1
  obtain ⟨bxt0, bxt1, bxt2⟩ := bxt.three
  have bxtl := bxt.lt
  go_wp2_with fail
  refine (lightsC L Al nl cl 300 60 _ HN.out hc hm (fun i u hu => RdAt.keep hb (HX.out i u hu))).mono ?_
  generalize hqL : lsB L 300 60 = RL at *
  rintro e w2L ⟨rfl, hb1⟩
  have HQL := Lib.hid hqL; clear hqL
  clear bxt0 bxt1 bxt2 bxtl
  replace bxt := bxt.keep hb1 bxt.lt
  replace HVt := Lib.hid (Rd.keep hb1 _ _ HVt.out)
  replace hb := hb.trans (hb1.mono hb.size)
  clear hb1
  obtain ⟨bxt0, bxt1, bxt2⟩ := bxt.three
  have bxtl := bxt.lt
  go_wp2_with fail
  refine (bareC t _ _ HVt.out).mono ?_
  generalize hqB : barB t = RB at *
  rintro e w2B ⟨rfl, hb1⟩
  have HQB := Lib.hid hqB; clear hqB
  clear bxt0 bxt1 bxt2 bxtl
  replace bxt := bxt.keep hb1 bxt.lt
  replace HVt := Lib.hid (Rd.keep hb1 _ _ HVt.out)
  replace hb := hb.trans (hb1.mono hb.size)
  clear hb1
  obtain ⟨bxt0, bxt1, bxt2⟩ := bxt.three
  have bxtl := bxt.lt
  cases Rt
  · go_wp2_with fail
    go_ret
    exact ⟨rfl, hb⟩
  cases RL
  · go_wp2_with fail
    go_ret
    exact ⟨rfl, hb⟩
  cases RB
  · go_wp2_with fail
    go_ret
    exact ⟨rfl, hb⟩
  by_cases x1 : n < 0
  · have dx1 : decide (n < 0) = true := by simpa using x1
    go_wp2_with fail
    go_ret
    exact ⟨rfl, hb⟩
  have dx1 : decide (n < 0) = false := by simpa using x1
  by_cases x2 : 20 < n
  · have dx2 : decide (20 < n) = true := by simpa using x2
    go_wp2_with fail
    go_ret
    exact ⟨rfl, hb⟩
  have dx2 : decide (20 < n) = false := by simpa using x2
  by_cases x3 : around < 0
  · have dx3 : decide (around < 0) = true := by simpa using x3
    go_wp2_with fail
    go_ret
    exact ⟨rfl, hb⟩
  have dx3 : decide (around < 0) = false := by simpa using x3
  by_cases x4 : 20 < around
  · have dx4 : decide (20 < around) = true := by simpa using x4
    go_wp2_with fail
    go_ret
    exact ⟨rfl, hb⟩
  have dx4 : decide (20 < around) = false := by simpa using x4
  go_wp2_with fail
  refine (myC t _ _ HVt.out).mono ?_
  generalize hqt : myB t = Mt at *
  rintro e w3t ⟨rfl, hb1⟩
  have HMt := Lib.hid hqt; clear hqt
  clear bxt0 bxt1 bxt2 bxtl
  replace bxt := bxt.keep hb1 bxt.lt
  replace HVt := Lib.hid (Rd.keep hb1 _ _ HVt.out)
  replace hb := hb.trans (hb1.mono hb.size)
  clear hb1
  obtain ⟨bxt0, bxt1, bxt2⟩ := bxt.three
  have bxtl := bxt.lt
  cases Mt
  · go_wp2_with fail
    go_ret
    exact ⟨rfl, hb⟩
  have KNt : Hid (Kn 300 60 t) := Lib.hid (kn_of HQt.out HMt.out); clear HQt HMt
  unfold maxLen at hm
  have hwp : wrap64 (n + around) = n + around := wrap_small (by omega) (by omega)
  go_wp2_with fail
  refine (scopedC t (n + around) nl _ _ HVt.out hwp).mono ?_
  generalize hqs : scB t (n + around) nl = S at *
  rintro e w4 ⟨rfl, hb1⟩
  have HSt := Lib.hid hqs; clear hqs hwp
  clear bxt0 bxt1 bxt2 bxtl
  replace bxt := bxt.keep hb1 bxt.lt
  replace HVt := Lib.hid (Rd.keep hb1 _ _ HVt.out)
  replace hb := hb.trans (hb1.mono hb.size)
  clear hb1
  obtain ⟨bxt0, bxt1, bxt2⟩ := bxt.three
  have bxtl := bxt.lt
  cases S
  · go_wp2_with fail
    go_ret
    exact ⟨rfl, hb⟩
  clear bxt0 bxt1 bxt2 bxtl
  go_wp2_with fail
  have hws : wrap64 (n + around) = n + around := wrap_small (by omega) (by omega)
  have hwv : wrap64 around = around := wrap_small (by omega) (by omega)
  go_loopw [13] (fun i wr => ∃ (j : Nat), j ≤ nl ∧ i = .int .i64 j ∧ Hid (∀ (m : Nat) (x : T), m < j → L[m]? = some x → myB x = true ∧ scB x around 5 = true) ∧ Below w4.heap.size w4 wr) (fun i _ => nl - (intOf i).toNat)
  case atStart => exact ⟨0, Nat.zero_le _, rfl, Lib.hid (fun m x h => by omega), Below.refl _ _⟩
  case round =>
    obtain ⟨j, hj, rfl, HS, hbr⟩ := hrel
    have hbW : Below w.heap.size w wr := hb.trans (hbr.mono hb.size)
    by_cases hlt : j < nl
    · obtain ⟨x, ht⟩ := at_of HN.out hlt
      obtain ⟨b, o, k2, h2, A2, n2, c2', rfl, c0, c1, c2, hr⟩ := (RdAt.keep hbW (HX.out j x ht)).full
      have HT := Lib.hid ht; clear ht
      have HR := Lib.hid hr; clear hr
      have hi0 : (0 : Int) ≤ j := by omega
      have hi1 : (j : Int) < nl := by omega
      go_wp2_with fail
      refine (myC x _ _ HR.out).mono ?_
      generalize hqm : myB x = M at *
      rintro e w5 ⟨rfl, hb1⟩
      have HMx := Lib.hid hqm; clear hqm
      replace c0 := (hb1.cell (cell_lt c0)).trans c0
      replace c1 := (hb1.cell (cell_lt c1)).trans c1
      replace c2 := (hb1.cell (cell_lt c2)).trans c2
      replace HR := Lib.hid (Rd.keep hb1 _ _ HR.out)
      replace hbr := hbr.trans (hb1.mono hbr.size)
      clear hb1 hbW
      cases M
      · go_wp2_with fail
        go_ret
        exact ⟨rfl, hb.trans (hbr.mono hb.size)⟩
      · go_wp2_with fail
        refine (scopedC x around 5 _ _ HR.out hwv).mono ?_
        generalize hqs : scB x around 5 = S at *
        rintro e w6 ⟨rfl, hb1⟩
        have HSx := Lib.hid hqs; clear hqs
        clear c0 c1 c2
        replace hbr := hbr.trans (hb1.mono hbr.size)
        clear hb1
        cases S
        · go_wp2_with fail
          go_ret
          exact ⟨rfl, hb.trans (hbr.mono hb.size)⟩
        · go_wp2_with fail
          go_roundw
          case rel => exact ⟨j + 1, by omega, by go_num, Lib.hid (fun m y hm hy => by
              by_cases hmj : m < j
              · exact HS.out m y hmj hy
              · have : m = j := by omega
                subst this
                have e := HT.out.symm.trans hy
                cases e
                exact ⟨HMx.out, HSx.out⟩), hbr⟩
          case measure => simp [intOf]; omega
    · have hjn : j = nl := by omega
      subst hjn
      obtain ⟨t0, t1, t2⟩ := (bxt.keep hbr bxt.lt).three
      have HVt' := Lib.hid (Rd.keep hbr _ _ HVt.out)
      have hKL : ∀ x ∈ L, Kn 300 60 x ∧ scB x around 5 = true := fun x hx => by
        obtain ⟨i, hi⟩ := List.getElem?_of_mem hx
        have hlt : i < j := by have := (List.getElem?_eq_some_iff.1 hi).1; have := HN.out; omega
        obtain ⟨q1, q2⟩ := HS.out i x hlt hi
        have hq := HQL.out
        unfold lsB at hq
        rw [Bool.and_eq_true] at hq
        exact ⟨kn_of (lights_all hq.2 x hx) q1, q2⟩
      have f1 : ∀ u, fiR L n t = .ok u → scB u (n + around) 5 = true := fun u hu => scopes_fill KNt.out (fun x hx => (hKL x hx).1) (fun x hx => (hKL x hx).2) HQB.out (by omega) (by omega) (by rw [HN.out]; exact HSt.out) hu
      have F1 := Lib.hid f1; clear f1
      have hF := FillC (n := n) wr ⟨fun x hx _ => okT_mono (by omega) _ (hKL x hx).1.ok, HN.out, hc, hmm, fun i u hu => RdAt.keep hbW (HX.out i u hu)⟩ HVt'.out (fun _ => okT_mono (by omega) _ KNt.out.ok)
      clear hKL
      go_wp2_with fail
      refine hF.mono ?_
      clear hF
      cases hfr : fiR L n t with
      | error ec =>
        rintro e w7 ⟨rfl, hne, hb1⟩
        have hne' : (ec != 0) = true := by simpa using hne
        clear t0 t1 t2 hfr hne
        replace hbW := hbW.trans (hb1.mono hbW.size)
        go_wp2_with fail
        go_ret
        exact ⟨rfl, hbW.alloc hbW.size _⟩
      | ok u =>
        rintro e w7 ⟨kq, hq, Aq, nq, cq, rfl, hrd, hb1⟩
        have HVq := Lib.hid (RdF.rd _ _ hrd); clear hrd
        have hf2 := F1.out u hfr
        have F2 := Lib.hid hf2
        clear t0 t1 t2 hfr hf2 F1
        replace hbW := hbW.trans (hb1.mono hbW.size)
        go_wp2_with fail
        refine (scopedC u (n + around) 5 _ _ (Rd.keep ((Below.refl _ _).alloc (Nat.le_refl _) _) _ _ HVq.out) hws).mono ?_
        rw [F2.out]
        rintro e w8 ⟨rfl, hb2⟩
        go_wp2_with fail
        go_ret
        exact ⟨rfl, hbW.trans ((((Below.refl _ _).alloc (Nat.le_refl _) _).trans (hb2.mono (by simp))).mono hbW.size)⟩
end Go.Proofs.Ytaccaamdbfccmaa
