/-
  The contracts of package subst's apply and spine, whatever the fuel. No statement is proved here.
-/
import Derived.Test.YtloeainlpcnhnaaGreatWf
namespace Go.Proofs.YtloeainlpcnhnaaGreat
open Go.ChangeShapes Go.WideShapes Go.ChangeAt Go.RowKit
set_option linter.unusedVariables false

theorem Stp.weaken {pw ps : Nat} {X Y : Nat → Prop} {w w' : World} {mv mv' : Value} (h : Stp ps ps X w mv Y w' mv') : Stp pw ps X w mv Y w' mv' :=
  ⟨h.adv, h.fr.mono fun i _ e => by
    rcases e with e | e | e
    · exact .inr (.inl e)
    · exact .inr (.inl e)
    · exact .inr (.inr e), h.mvs⟩
theorem Stp.ofFr {pw ps : Nat} {X : Nat → Prop} {w w' : World} {mv : Value} (h : Fr (fun k => k = pw) w w') (hX : X pw) : Stp pw ps X w mv X w' mv :=
  ⟨Adv.fr h fun i _ e => by subst e; exact hX, h.mono fun i _ e => .inl e, fun _ e _ => e⟩
theorem Sc.ofFr {pw : Nat} {X : Nat → Prop} {w w' : World} {ps : Nat} {L : List T} {sh : Int} {A : Option Addr} {n c : Nat} {mv : Value} (h : Sc X w ps L sh A n c mv) (hf : Fr (fun k => k = pw) w w') (hX : X pw) (hne : pw ≠ ps) (hmn : mv ≠ .map (some pw)) : Sc X w' ps L sh A n c mv :=
  h.adv (Adv.fr hf fun i _ e => by subst e; exact hX) (hf.block _ h.box.lt (fun e => hne e.symm)) (fun pm e => hf.block _ (h.mapLt e) (fun e' => hmn (e' ▸ e))) fun b hb => Nat.lt_of_lt_of_le (h.bnd b hb) hf.size

set_option maxRecDepth 100000 in
set_option maxHeartbeats 4000000 in
theorem applyC {f : Nat} (hA : ApC f) : ApC (f + 1) := by
  intro L sh u t n v w pw ps X A m c mv hf hu hn hs ht hnt hX hne hwk hsc hv
  obtain ⟨k, h, xs⟩ := t
  obtain ⟨An, nn, cc, rfl, wfk, wfh, hl, hnc, hcm, hxs⟩ := RdF_node.1 hv
  clear hxs hl
  have lpw := hwk.lt
  have lps := hsc.box.lt
  have hSP := spineC hA
  have HF := Lib.hid hf; clear hf
  have HX := Lib.hid hX; clear hX
  have HAP := Lib.hid hA; clear hA
  have HSPC := Lib.hid hSP; clear hSP
  have HSC := Lib.hid hsc; clear hsc
  have HV := Lib.hid hv; clear hv
  have HS := Lib.hid hs; clear hs
  have HT := Lib.hid ht; clear ht
  have HWF := Lib.hid (And.intro wfk wfh); clear wfk wfh
  have q0 := hwk.one.1
  have q1 := hwk.one.2
  obtain ⟨W, hW⟩ : ∃ W, ((w.setCell ⟨pw, 0, none⟩ (.int .i64 ((n : Int) + 1))).alloc (.cells #[.int .i64 k, .int .i64 h, .slice An nn cc] 44)).alloc (.cells #[.int .i64 0, .int .i64 0, .slice none 0 0] 44) = W := ⟨_, rfl⟩
  have sz : (w.setCell ⟨pw, 0, none⟩ (.int .i64 ((n : Int) + 1))).heap.size = w.heap.size := by simp [World.setCell]
  have hb : Below w.heap.size (w.setCell ⟨pw, 0, none⟩ (.int .i64 ((n : Int) + 1))) W := by rw [← hW]; exact ((Below.refl _ _).alloc (by omega) _).alloc (by simp) _
  have x0 : Box W w.heap.size 44 #[.int .i64 k, .int .i64 h, .slice An nn cc] := by rw [← hW]; exact ((Box.new _ _ _).at (by omega)).alloc _
  have x1 : Box W (w.heap.size + 1) 44 #[.int .i64 0, .int .i64 0, .slice none 0 0] := by rw [← hW]; exact (Box.new _ _ _).at (by simp [sz])
  have xw : wkB W pw (n + 1) := by
    have := (hwk.set (.int .i64 ((n : Int) + 1))).keep hb (by omega)
    exact this
  have hfrW : Fr (fun k => k = pw) w W := by
    refine ⟨hb.os, hb.tape, hb.output, by have := hb.size; omega, fun i hi e => (hb.block i hi).trans (Below.heap_setCell _ _ _ _ e)⟩
  have hmvpw := HSC.out.mapNe hwk
  have hnew : ∀ b, b < w.heap.size → (X b ∨ b = w.heap.size + 1) → X b := fun b hl e => by
    rcases e with e | e
    · exact e
    · omega
  have st0 : Stp pw ps X w mv (fun b => X b ∨ b = w.heap.size + 1) W mv := ⟨⟨hfrW.size, fun _ h => .inl h, hnew, fun b hl e => hfrW.block b hl fun e' => e (by rw [e']; exact HX.out)⟩, hfrW.mono fun i _ e => .inl e, fun _ e _ => e⟩
  have sc0 : Sc (fun b => X b ∨ b = w.heap.size + 1) W ps L sh A m c mv := HSC.out.adv st0.adv (hfrW.block ps lps (fun e => hne e.symm)) (fun pm e => hfrW.block _ (HSC.out.mapLt e) (fun e' => hmvpw (e' ▸ e))) (fun b e => by
    rcases e with e | e
    · exact Nat.lt_of_lt_of_le (HSC.out.bnd b e) hfrW.size
    · rw [e]; exact x1.lt)
  have rv0 := RX.adv HV.out st0.adv
  clear hb sz hnew hwk
  have HST := Lib.hid st0; clear st0
  have HSC0 := Lib.hid sc0; clear sc0
  have HV0 := Lib.hid rv0; clear rv0
  have HFR := Lib.hid hfrW; clear hfrW
  have HMV := Lib.hid hmvpw; clear hmvpw
  have HW := Lib.hid hW; clear hW
  have hbt1 : bt n - sh ≤ bt (n + 1) - sh := by have : bt n ≤ bt (n + 1) := bt_mono (by omega)
                                                omega
  by_cases hlim : 40000 < n + 1
  · have hap : ap (f + 1) L sh u (.node k h xs) n = .error 4 := by rw [ap, if_pos hlim]
    have HE := Lib.hid hap; clear hap
    have d1 : (40000 : Int) < n + 1 := by omega
    go_enter Tryz.func127, Tryz.ntmps127
    go_wp2_with fail
    rw [HW.out]
    refine ⟨rfl, ?_⟩
    rw [HE.out]
    exact ⟨rfl, HST.out.fr⟩
  · have d1 : ¬ (40000 : Int) < n + 1 := by omega
    have hArg := argsC HAP.out L sh u k h xs (n + 1) An nn cc W pw ps (fun b => X b ∨ b = w.heap.size + 1) A m c mv (by have := HF.out; omega) (by omega) (by omega) (HS.out.mono (bt_mono (by omega))) (HT.out.mono hbt1) hnt (.inl HX.out) hne xw HSC0.out HV0.out
    have HArg := Lib.hid hArg; clear hArg
    have HLIM := Lib.hid hlim; clear hlim
    obtain ⟨c0, c1, c2⟩ := x0.three
    go_enter Tryz.func127, Tryz.ntmps127
    go_wp2_with fail
    rw [HW.out]
    clear HW q0 q1 c0 c1 c2
    refine HArg.out.mono ?_
    cases hres : apL (fun u' x m => ap f L sh u' x m) k xs.length u xs 0 (n + 1) with
    | error ec =>
      rintro e w2 ⟨rfl, hfr⟩
      have heq : ap (f + 1) L sh u (.node k h xs) n = .error ec := by rw [ap, if_neg HLIM.out, hres]
      have HE := Lib.hid heq; clear heq
      go_wp2_with fail
      refine ⟨rfl, ?_⟩
      rw [HE.out]
      exact ⟨rfl, HST.out.fr.trans hfr fun i hi e => e⟩
    | ok p =>
      obtain ⟨ys, n1⟩ := p
      rintro e w2 ⟨A2, m2, c2, X2, mv2, rfl, hrl, hsc2, hst2, hwk2⟩
      have nx : ∀ {b : Nat} {cs : Array Value} {ty : TypeId}, w.heap.size ≤ b → Box W b ty cs → ¬ (b = pw ∨ b = ps ∨ mv = .map (some b)) := fun hb bx e => by
        rcases e with e | e | e
        · omega
        · omega
        · exact HSC0.out.mapNe bx e
      have y0 := x0.fr hst2.fr (nx (Nat.le_refl _) x0)
      have y1 := x1.fr hst2.fr (nx (by omega) x1)
      have hgL := apL_good (A := fun u' x m => ap f L sh u' x m) (n0 := n) (sh := sh) (fun v x m hv hm1 hm2 hx => ap_good f L sh v x m hm1 hm2 (HS.out.mono (bt_mono hv)) hx) xs 0 (n + 1) (by omega) (by omega) (by omega) (fun x hx => (HT.out.args hx).mono hbt1) ys n1 hres
      obtain ⟨g1, g2, g3, g4, g5⟩ := hgL
      have heq : ap (f + 1) L sh u (.node k h xs) n = if k = 4 ∧ (u : Int) ≤ h then sp f (mpT L sh (h - u) u) ys n1 else .ok (.node k h ys, n1) := by rw [ap, if_neg HLIM.out, hres]
      have HEQ := Lib.hid heq; clear heq hres
      clear x0 x1 nx
      have HRL := Lib.hid hrl; clear hrl
      have HSC2 := Lib.hid hsc2; clear hsc2
      have HST2 := Lib.hid hst2; clear hst2
      have HG := Lib.hid (And.intro g3 (And.intro g4 g5)); clear g3 g4 g5
      obtain ⟨c0, c1, c2'⟩ := y0.three
      have l0 := y0.lt
      have l1 := y1.lt
      have lw2 := hwk2.lt
      have hX2 : X2 pw := HST2.out.adv.more _ (.inl HX.out)
      have hX2p : X2 (w.heap.size + 1) := HST2.out.adv.more _ (.inr rfl)
      have HX2 := Lib.hid hX2; clear hX2
      have HX2P := Lib.hid hX2p; clear hX2p
      by_cases hvar : k = 4 ∧ (u : Int) ≤ h
      · have heq := HEQ.out
        rw [if_pos hvar] at heq
        have HE := Lib.hid heq; clear heq HEQ
        obtain ⟨rfl, hvar⟩ := hvar
        have d2 : decide ((u : Int) ≤ h) = true := by simpa using hvar
        have hh := HT.out.ok
        rw [okT] at hh
        have hh1 := (hh.1 rfl).1
        have hh2 := (hh.1 rfl).2
        clear hh
        have hsl := HS.out.lo
        have hsh := HS.out.hi
        have hbn : bt n ≤ 1125899906842624 := by unfold bt btB; omega
        have hmp := mapsC ps HSC2.out (h - u) u (HS.out.mono (bt_mono (show n ≤ n1 by omega))) (by unfold bt btB; omega) (by omega) (by omega) (by omega)
        have HMP := Lib.hid hmp; clear hmp
        have hsub : (h : Int) - u ≤ 1125899906842624 := by omega
        obtain ⟨mw1, mw2⟩ := way_mp (u := u) (fr := h - u) HS.out (by omega) (by omega)
        have hmid : bt n + u ≤ bt n1 := by unfold bt btB; omega
        have HMW := Lib.hid (mw1.mono hmid); clear mw1
        go_wp2_with fail
        refine HMP.out.mono ?_
        rintro e w3 ⟨k3, h3, A3, n3, c3, X3, mv3, rfl, hrx3, hsc3, hst3⟩
        have nx : ∀ {b : Nat} {cs : Array Value} {ty : TypeId}, b ≠ ps → Box w2 b ty cs → ¬ (b = ps ∨ b = ps ∨ mv2 = .map (some b)) := fun hb bx e => by
          rcases e with e | e | e
          · exact hb e
          · exact hb e
          · exact HSC2.out.mapNe bx e
        have z1 := y1.fr hst3.fr (nx (by omega) y1)
        have zw := hwk2.fr hst3.fr (nx hne hwk2)
        have hX3 : X3 pw := hst3.adv.more _ HX2.out
        have hX3p : X3 (w.heap.size + 1) := hst3.adv.more _ HX2P.out
        have lz := z1.lt
        have hsp := HSPC.out (mpT L sh (h - u) u) ys n1 _ A2 m2 c2 w3 pw X3 (by have := HF.out; omega) g2 HMW.out HG.out.2.1 (by omega) (by have := HG.out.2.2; omega) hX3 hsc3.bnd zw hrx3 (HRL.out.adv hst3.adv)
        have HSP := Lib.hid hsp; clear hsp
        have HST3 := Lib.hid (hst3.weaken (pw := pw)); clear hst3
        have HSC3 := Lib.hid hsc3; clear hsc3
        clear hrx3 nx c0 c1 c2' y0 y1
        have hmn3 := HSC3.out.mapNe zw
        have HMN3 := Lib.hid hmn3; clear hmn3
        have hmn4 := HSC3.out.mapNe z1
        have HMN4 := Lib.hid hmn4; clear hmn4
        have HX3 := Lib.hid hX3; clear hX3
        have HX3P := Lib.hid hX3p; clear hX3p
        go_wp2_with fail
        refine HSP.out.mono ?_
        cases hres2 : sp f (mpT L sh (h - u) u) ys n1 with
        | error ec =>
          rintro e w4 ⟨rfl, hfr4⟩
          have heq : ap (f + 1) L sh u (.node 4 h xs) n = .error ec := by rw [HE.out, hres2]
          have HE2 := Lib.hid heq; clear heq hres2
          go_wp2_with fail
          refine ⟨rfl, ?_⟩
          rw [HE2.out]
          exact ⟨rfl, ((HST.out.trans HST2.out).trans HST3.out).fr.trans hfr4 fun i hi e => .inl e⟩
        | ok p =>
          obtain ⟨t4, n4⟩ := p
          rintro e w4 ⟨k4, h4, A4, m4, c4, rfl, hrx4, hfr4, hwk4⟩
          have heq : ap (f + 1) L sh u (.node 4 h xs) n = .ok (t4, n4) := by rw [HE.out, hres2]
          have v1 := z1.fr hfr4 (by omega)
          have hfin : AEnd pw ps X w L sh A m c mv (ap (f + 1) L sh u (.node 4 h xs) n) (.returned (.agg #[.int .i64 k4, .int .i64 h4, .slice A4 m4 c4])) (((w4.setCell ⟨w.heap.size + 1, 0, none⟩ (.int .i64 k4)).setCell ⟨w.heap.size + 1, 1, none⟩ (.int .i64 h4)).setCell ⟨w.heap.size + 1, 2, none⟩ (.slice A4 m4 c4)) := by
            rw [heq]
            have hsc4 := HSC3.out.ofFr hfr4 HX3.out hne HMN3.out
            refine ⟨_, _, _, _, _, X3, mv3, rfl, RX.adv hrx4 (Adv.set3 HX3P.out _ _ _), ?_, ?_, hwk4.other3 (by omega) _ _ _⟩
            · exact ((hsc4.setCell HX3P.out (by dsimp only; omega) HMN4.out _).setCell HX3P.out (by dsimp only; omega) HMN4.out _).setCell HX3P.out (by dsimp only; omega) HMN4.out _
            · exact (((((HST.out.trans HST2.out).trans HST3.out).trans (Stp.ofFr hfr4 HX3.out)).setCell (by dsimp only; omega) _).setCell (by dsimp only; omega) _).setCell (by dsimp only; omega) _
          have HFIN := Lib.hid hfin; clear hfin heq hres2 hrx4 hwk4 hfr4
          obtain ⟨r0, r1, r2⟩ := v1.three
          have f0 := v1.frozen 0
          have f1 := v1.frozen 1
          have f2 := v1.frozen 2
          go_wp2_with fail
          refine bodyPost_ret (v := .agg #[.int .i64 k4, .int .i64 h4, .slice A4 m4 c4]) (by simp [results, Tryz.results127, go_sem, r0, r1, r2]) rfl ?_
          exact HFIN.out
      · have heq := HEQ.out
        rw [if_neg hvar] at heq
        have HE := Lib.hid heq; clear heq HEQ
        obtain ⟨r0, r1, r2⟩ := y1.three
        have f0 := y1.frozen 0
        have f1 := y1.frozen 1
        have f2 := y1.frozen 2
        have hfin : AEnd pw ps X w L sh A m c mv (ap (f + 1) L sh u (.node k h xs) n) (.returned (.agg #[.int .i64 k, .int .i64 h, .slice A2 m2 c2])) (((w2.setCell ⟨w.heap.size + 1, 0, none⟩ (.int .i64 k)).setCell ⟨w.heap.size + 1, 1, none⟩ (.int .i64 h)).setCell ⟨w.heap.size + 1, 2, none⟩ (.slice A2 m2 c2)) := by
          rw [HE.out]
          have hmn := HSC2.out.mapNe y1
          refine ⟨_, _, _, _, _, X2, mv2, rfl, RX.adv (RdF_node.2 ⟨_, _, _, rfl, HWF.out.1, HWF.out.2, HRL.out.len, HRL.out.le, HRL.out.cap, HRL.out.at_⟩) (Adv.set3 HX2P.out _ _ _), ?_, ?_, hwk2.other3 (by omega) _ _ _⟩
          · exact ((HSC2.out.setCell HX2P.out (by dsimp only; omega) hmn _).setCell HX2P.out (by dsimp only; omega) hmn _).setCell HX2P.out (by dsimp only; omega) hmn _
          · exact (((HST.out.trans HST2.out).setCell (by dsimp only; omega) _).setCell (by dsimp only; omega) _).setCell (by dsimp only; omega) _
        have HFIN := Lib.hid hfin; clear hfin
        have d2 : (k == 4) = false ∨ (k == 4) = true ∧ decide ((u : Int) ≤ h) = false := by
          by_cases e : k = 4
          · exact .inr ⟨by simpa using e, by simp; omega⟩
          · exact .inl (by simpa using e)
        clear hvar
        rcases d2 with d2 | ⟨d2, d3⟩
        all_goals
          go_wp2_with fail
          refine bodyPost_ret (v := .agg #[.int .i64 k, .int .i64 h, .slice A2 m2 c2]) (by simp [results, Tryz.results127, go_sem, r0, r1, r2]) rfl ?_
          exact HFIN.out

theorem apC : ∀ f : Nat, ApC f
  | 0 => fun L sh u t n v w pw ps X A m c mv hf hu hn => by omega
  | f + 1 => applyC (apC f)
theorem spC (f : Nat) : SpC f := spineC (apC f)
end Go.Proofs.YtloeainlpcnhnaaGreat
