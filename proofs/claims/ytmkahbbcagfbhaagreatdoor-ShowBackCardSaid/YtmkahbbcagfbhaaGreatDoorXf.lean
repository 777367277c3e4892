/-
  Contract of package lex's next. No statement is proved here.
-/
import Derived.Test.YtmkahbbcagfbhaaGreatDoorXe
namespace Go.Proofs.YtmkahbbcagfbhaaGreatDoor
open Go.ChangeShapes Go.WideShapes Go.ChangeAt Go.RowKit
set_option linter.unusedVariables false

section
variable {P : Program} {c : Code} {Q : Exit → Act → World → Prop} {a : Act} {w : World}
theorem fwdX_normal : fwdX P c Q .normal a w = Q .normal a w := rfl
theorem fwdX_ret : fwdX P c Q .ret a w = Q .ret a w := rfl
end
/-- what is told behind a rune -/
def NxX (w : World) (R : Nat) (l : List UInt8) (lv : Value) (r : Bool × List Tk × Int × Bool) (e : Ending) (w' : World) : Prop :=
  e = .returned (.bool r.1) ∧ NdX w R l lv r.2.1 r.2.2.1 r.2.2.2 w'
theorem NdX.trans {w w1 w2 : World} {R : Nat} {l : List UInt8} {lv lv1 : Value} {o : List Tk} {fr : Int} {nt : Bool} (hk : KpX w w1 R lv.ownBlock) (hn : NwX w lv lv1) (h : NdX w1 R l lv1 o fr nt w2) : NdX w R l lv o fr nt w2 := by
  obtain ⟨lv2, n2, h1, h2, h3, h4⟩ := h
  exact ⟨lv2, n2, h1, hk.trans hn h2, hn.trans hk.size h3, h4⟩
set_option maxRecDepth 100000 in
set_option maxHeartbeats 4000000 in
theorem xNextC (l : List UInt8) (o : List Tk) (fr : Int) (nt : Bool) (R : Nat) (lv : Value) (n pos : Nat) (c : Int) (w : World) (h : RdX w R l lv n o fr nt) (hf : fr = -1 ∨ ∃ f : Nat, fr = (f : Int) ∧ f ≤ pos) (hp : pos ≤ l.length) (hn : n ≤ 900000)
    (hc0 : 0 ≤ c) (hc1 : c ≤ 1114111) (r : Bool × List Tk × Int × Bool) (hr : nxt l pos o fr nt c = r) :
    Calls Tryz.prog 68 #[.pointer (some ⟨R, 0, none⟩), .int .i64 pos, .int .i32 c] w (NxX w R l lv r) := by
  obtain ⟨A, cc, rfl, hnc, hcm⟩ := h.row.full
  have hlen := h.row.len
  have hlt := h.box.lt
  obtain ⟨p0, p1, p2, p3⟩ := h.cells4
  have g2 := h.box.frozen 2
  have g3 := h.box.frozen 3
  have HL := Lib.hid hlen
  have HR := Lib.hid hr
  clear hlen hr
  have HQ := Lib.hid (show (fun e w' => NxX w R l (.slice A n cc) r e w') = NxX w R l (.slice A n cc) r from rfl)
  cases nt with
  | true =>
    obtain ⟨q, hq⟩ : ∃ q, decide (c ≠ 10) = q := ⟨_, rfl⟩
    have hk := h.putNote q
    have HK := Lib.hid hk
    have HP := Lib.hid ((KpX.refl w R (Value.slice A n cc).ownBlock).setCell 3 (.bool q))
    have HE := Lib.hid (show r = (true, o, fr, q) by rw [← HR.out, ← hq]; rfl)
    have hq1 : (!(c == 10)) = q := by rw [← hq]; by_cases hc : c = 10 <;> simp [hc]
    have hq2 : (c != 10) = q := hq1
    clear h hk hf hp hc0 hc1 HR HQ hq
    rw [HE.out]
    clear HE
    go_enter Tryz.func68, Tryz.ntmps68
    go_wp2_with fail
    refine wp_scope_fwd ?_
    go_hide hQ
    go_wp2_with fail
    go_step3
    subst hQ
    refine ⟨_, rfl, ?_⟩
    go_wp2_with fail
    rw [Exit.noGoto_ret]
    go_ret
    exact ⟨rfl, _, n, HK.out, HP.out, NwX.refl _ _, Nat.le_of_eq HL.out.symm⟩
  | false =>
    by_cases g1 : nmI c = true
    · have hfr : nxt l pos o fr false c = (true, o, if fr = -1 then (pos : Int) else fr, false) := by unfold nxt; simp [g1]
      have HE := Lib.hid (show r = (true, o, if fr = -1 then (pos : Int) else fr, false) by rw [← HR.out]; exact hfr)
      clear hfr HR HQ
      rcases hf with rfl | ⟨f, rfl, hfp⟩
      · have hk := h.putFrom (pos : Int)
        have HK := Lib.hid hk
        have HP := Lib.hid ((KpX.refl w R (Value.slice A n cc).ownBlock).setCell 2 (.int .i64 (pos : Int)))
        rw [if_pos rfl] at HE
        rw [HE.out]
        clear HE h hk hp hc0 hc1
        go_enter Tryz.func68, Tryz.ntmps68
        go_wp2_with fail
        refine wp_scope_fwd ?_
        go_hide hQ
        go_wp2_with (refine (xInNameC _ _).mono ?_; rintro e w' ⟨rfl, rfl⟩; rw [g1])
        go_step3
        subst hQ
        refine ⟨_, rfl, ?_⟩
        go_wp2_with fail
        rw [Exit.noGoto_ret]
        go_ret
        exact ⟨rfl, _, n, HK.out, HP.out, NwX.refl _ _, Nat.le_of_eq HL.out.symm⟩
      · have HK := Lib.hid h
        have hf1 : ((f : Int) == -1) = false := by simp
        have hf2 : ¬ ((f : Int) = -1) := by omega
        rw [if_neg hf2] at HE
        rw [HE.out]
        clear HE h hp hc0 hc1
        go_enter Tryz.func68, Tryz.ntmps68
        go_wp2_with fail
        refine wp_scope_fwd ?_
        go_hide hQ
        go_wp2_with (refine (xInNameC _ _).mono ?_; rintro e w' ⟨rfl, rfl⟩; rw [g1])
        go_step3
        subst hQ
        refine ⟨_, rfl, ?_⟩
        go_wp2_with fail
        rw [Exit.noGoto_ret]
        go_ret
        exact ⟨rfl, _, n, HK.out, KpX.refl _ _ _, NwX.refl _ _, Nat.le_of_eq HL.out.symm⟩
    · have g1' : nmI c = false := by simpa using g1
      have HCE := Lib.hid (xEndNameC l o fr false R _ n pos w h hf hp (by omega))
      have HM := Lib.hid (fun (W : World) => xContainsC ⟨#[40, 41, 91, 93, 123, 125, 58, 46]⟩ c W (by decide) (by decide) hc0 hc1 _ (ix_marks c hc0))
      have HB := Lib.hid (fun (W : World) => xContainsC ⟨#[32, 9, 10]⟩ c W (by decide) (by decide) hc0 hc1 _ (ix_between c hc0))
      have HF := Lib.hid (show (fluP l pos o fr).length ≤ o.length + 1 by unfold fluP; split; omega; rw [List.length_append]; exact Nat.le_refl _)
      generalize hfo : fluP l pos o fr = fo at *
      by_cases g4 : c = 37
      · subst g4
        have HE := Lib.hid (show r = (true, fo, -1, true) by rw [← HR.out]; unfold nxt; rw [hfo]; simp [g1'])
        rw [HE.out]
        clear HE h hf hp hc0 hc1 HR HQ HM HB g1 hfo
        go_enter Tryz.func68, Tryz.ntmps68
        go_wp2_with fail
        refine wp_scope_fwd ?_
        go_hide hQ
        go_wp2_with (refine (xInNameC _ _).mono ?_; rintro e w' ⟨rfl, hw⟩; rw [g1', hw]; clear hw)
        refine HCE.out.mono ?_
        rintro e w1 ⟨rfl, lv1, n1, hd1, hk1, hn1, hl1⟩
        obtain ⟨A1, c1, rfl, hnc1, hcm1⟩ := hd1.row.full
        obtain ⟨q0, q1, q2, q3⟩ := hd1.cells4
        have f3 := hd1.box.frozen 3
        have HK := Lib.hid (hd1.putNote true)
        have HP := Lib.hid (hk1.trans hn1 ((KpX.refl w1 R (Value.slice A1 n1 c1).ownBlock).setCell 3 (.bool true)))
        have HN := Lib.hid hn1
        have HL1 := Lib.hid hl1
        clear hd1 hk1 hn1 hl1 HCE p0 p1 p2 p3 g2 g3 hlt
        go_wp2_with fail
        go_step3
        subst hQ
        refine ⟨_, rfl, ?_⟩
        go_wp2_with fail
        rw [Exit.noGoto_ret]
        go_ret
        exact ⟨rfl, _, n1, HK.out, HP.out, HN.out, HL1.out⟩
      · have g4' : (c == 37) = false := by simpa using g4
        by_cases g5 : mkI c = true
        · have HE := Lib.hid (show r = (true, fo ++ [(1, Utf8.encode c)], -1, false) by rw [← HR.out]; unfold nxt; rw [hfo]; simp [g1', g4, g5])
          obtain ⟨s, hs⟩ : ∃ s, Utf8.encode c = s := ⟨_, rfl⟩
          rw [hs] at HE
          have hconv : ∀ W, (convert 21 9 (.int .i32 c)).run Tryz.prog W = .ok (.string s) W := fun W => by
            rw [run_convert_int_string W _ _ .i32 c (by rw [Tryz.underlying21]; rfl) Tryz.underlying9, hs]
          rw [g5] at HM
          rw [HE.out]
          clear HE h hf hp hc0 hc1 HR HQ HB g1 hfo hs
          go_enter Tryz.func68, Tryz.ntmps68
          go_wp2_with fail
          refine wp_scope_fwd ?_
          go_hide hQ
          go_wp2_with (refine (xInNameC _ _).mono ?_; rintro e w' ⟨rfl, hw⟩; rw [g1', hw]; clear hw)
          refine HCE.out.mono ?_
          rintro e w1 ⟨rfl, lv1, n1, hd1, hk1, hn1, hl1⟩
          clear HCE p0 p1 p2 p3 g2 g3 hlt
          go_wp2_with fail
          refine (HM.out _).mono ?_
          rintro e w2 ⟨rfl, hb2⟩
          have hd2 := hd1.below hb2
          have HN := Lib.hid hn1
          obtain ⟨A1, c1, rfl, hnc1, hcm1⟩ := hd1.row.full
          obtain ⟨q0, q1, q2, q3⟩ := hd2.cells4
          obtain ⟨g7, cap7, w7, hrun7, hbx7, hrow7, hkp7, hnw7, hbw7⟩ := hd2.app (k := 1) (s := s) ((Below.refl _ w2).alloc (Nat.le_refl _) (.cells #[.int .i64 1, .string s] 79)) (heap_alloc_new w2 _) (by have := hd1.row.len; have := HF.out; have := HL.out; omega)
          have b1 : w7.cell? ⟨R, 1, none⟩ = some (.slice A1 n1 c1) := hbx7.cell 1
          have f1 := hbx7.frozen 1
          have HK := Lib.hid (RdX.put hbx7 hrow7)
          have hk2 := hk1.trans hn1 (KpX.of_below (R := R) (row := (Value.slice A1 n1 c1).ownBlock) hb2)
          have HP := Lib.hid (hk2.trans (hn1.trans hk1.size (fun g hg => .inl hg) : NwX w _ (Value.slice A1 n1 c1)) (hkp7.setCell 1 (.slice (some ⟨g7, 0, none⟩) (n1 + 1) cap7)))
          have HN7 := Lib.hid (NwX.trans hk2.size hn1 hnw7)
          have HL1 := Lib.hid hl1
          clear hd1 hk1 hn1 hl1 hb2 hd2 hkp7 hnw7 hbw7 hrow7 hbx7 hk2 q0 q2 q3
          go_wp2_with fail
          go_step3
          subst hQ
          refine ⟨_, rfl, ?_⟩
          go_wp2_with (at_builtin; first | (refine Lib.wpList_append_run _ rfl _ _ _ _ rfl _ _ rfl rfl _ _ hrun7 ?_; clear hrun7))
          rw [Exit.noGoto_ret]
          go_ret
          exact ⟨rfl, _, n1 + 1, HK.out, HP.out, HN7.out, by rw [List.length_append]; have := HL1.out; simp; omega⟩
        · have g5' : mkI c = false := by simpa using g5
          have HE := Lib.hid (show r = (blI c, fo, -1, false) by rw [← HR.out]; unfold nxt; rw [hfo]; simp [g1', g4, g5'])
          rw [g5'] at HM
          rw [HE.out]
          clear HE h hf hp hc0 hc1 HR HQ g1 g5 hfo
          generalize blI c = bb at *
          go_enter Tryz.func68, Tryz.ntmps68
          go_wp2_with fail
          refine wp_scope_fwd ?_
          go_hide hQ
          go_wp2_with (refine (xInNameC _ _).mono ?_; rintro e w' ⟨rfl, hw⟩; rw [g1', hw]; clear hw)
          refine HCE.out.mono ?_
          rintro e w1 ⟨rfl, lv1, n1, hd1, hk1, hn1, hl1⟩
          clear HCE p0 p1 p2 p3 g2 g3 hlt
          go_wp2_with fail
          refine (HM.out _).mono ?_
          rintro e w2 ⟨rfl, hb2⟩
          go_wp2_with fail
          refine (HB.out _).mono ?_
          rintro e w3 ⟨rfl, hb3⟩
          go_wp2_with fail
          subst hQ
          go_ret
          have hb := hb2.trans (hb3.mono hb2.size)
          exact ⟨rfl, lv1, n1, hd1.below hb, hk1.trans hn1 (KpX.of_below hb), hn1, hl1⟩
end Go.Proofs.YtmkahbbcagfbhaaGreatDoor
