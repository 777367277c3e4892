/- Texts of one proof, put together. No statement is proved here. -/
import Derived.Test.YtbbjjdnnlnabaaaGreatPkWf
import Derived.Defers
import Derived.Recover
import Derived.Laws.Pointers
namespace Go.Proofs.YtbbjjdnnlnabaaaGreat
open Go.ChangeShapes Go.WideShapes Go.ChangeAt Go.RowKit
set_option linter.unusedVariables false
set_option linter.unusedSimpArgs false
set_option maxRecDepth 100000
set_option maxHeartbeats 4000000
theorem Stp.weaken {pw ps : Nat} {X Y : Nat → Prop} {w w' : World} {mv mv' : Value} (h : Stp ps ps X w mv Y w' mv') : Stp pw ps X w mv Y w' mv' :=
  ⟨h.adv, h.fr.mono fun i _ e => by
    rcases e with e | e | e
    · exact .inr (.inl e)
    · exact .inr (.inl e)
    · exact .inr (.inr e), h.mvs⟩
theorem Stp.ofFr {pw ps : Nat} {X : Nat → Prop} {w w' : World} {mv : Value} (h : Fr (fun k => k = pw) w w') (hX : X pw) : Stp pw ps X w mv X w' mv :=
  ⟨Adv.fr h fun i _ e => by subst e; exact hX, h.mono fun i _ e => .inl e, fun _ e _ => e⟩
theorem Sc.ofFr {pw : Nat} {X : Nat → Prop} {w w' : World} {ps : Nat} {L : List T} {sh : Int} {A : Option Addr} {n c : Nat} {mv : Value} (h : Sc X w ps L sh A n c mv) (hf : Fr (fun k => k = pw) w w') (hX : X pw) (hne : pw ≠ ps) (hmn : mv ≠ .map (some pw)) : Sc X w' ps L sh A n c mv :=
  h.adv (Adv.fr hf fun i _ e => by subst e; exact hX) (hf.block _ h.box.lt (fun e => hne e.symm)) (fun pm e => hf.block _ (h.mapLt e) (fun e' => hmn (e' ▸ e))) fun b hb => Nat.lt_of_lt_of_le (h.bnd b hb) hf.size
theorem applyC {f : Nat} (hA : ApC f) : ApC (f + 1) := by
  intro L sh u t n v w pw ps X A m c mv hf hu hn hs ht hnt hX hne hwk hsc hv
  obtain ⟨k, h, xs⟩ := t
  obtain ⟨An, nn, cc, rfl, wfk, wfh, hl, hnc, hcm, hxs⟩ := RdF_node.1 hv
  clear hxs hl
  have lpw := hwk.lt
  have lps := hsc.box.lt
  have hSP := spineC hA
  have HF := Lib.hid hf; clear hf
  have HX := Lib.hid hX; clear hX
  have HAP := Lib.hid hA; clear hA
  have HSPC := Lib.hid hSP; clear hSP
  have HSC := Lib.hid hsc; clear hsc
  have HV := Lib.hid hv; clear hv
  have HS := Lib.hid hs; clear hs
  have HT := Lib.hid ht; clear ht
  have HWF := Lib.hid (And.intro wfk wfh); clear wfk wfh
  have q0 := hwk.one.1
  have q1 := hwk.one.2
  obtain ⟨W, hW⟩ : ∃ W, ((w.setCell ⟨pw, 0, none⟩ (.int .i64 ((n : Int) + 1))).alloc (.cells #[.int .i64 k, .int .i64 h, .slice An nn cc] 39)).alloc (.cells #[.int .i64 0, .int .i64 0, .slice none 0 0] 39) = W := ⟨_, rfl⟩
  have sz : (w.setCell ⟨pw, 0, none⟩ (.int .i64 ((n : Int) + 1))).heap.size = w.heap.size := by simp [World.setCell]
  have hb : Below w.heap.size (w.setCell ⟨pw, 0, none⟩ (.int .i64 ((n : Int) + 1))) W := by rw [← hW]; exact ((Below.refl _ _).alloc (by omega) _).alloc (by simp) _
  have x0 : Box W w.heap.size 39 #[.int .i64 k, .int .i64 h, .slice An nn cc] := by rw [← hW]; exact ((Box.new _ _ _).at (by omega)).alloc _
  have x1 : Box W (w.heap.size + 1) 39 #[.int .i64 0, .int .i64 0, .slice none 0 0] := by rw [← hW]; exact (Box.new _ _ _).at (by simp [sz])
  have xw : wkB W pw (n + 1) := by
    have := (hwk.set (.int .i64 ((n : Int) + 1))).keep hb (by omega)
    exact this
  have hfrW : Fr (fun k => k = pw) w W := by
    refine ⟨hb.os, hb.tape, hb.output, by have := hb.size; omega, fun i hi e => (hb.block i hi).trans (Below.heap_setCell _ _ _ _ e)⟩
  have hmvpw := HSC.out.mapNe hwk
  have hnew : ∀ b, b < w.heap.size → (X b ∨ b = w.heap.size + 1) → X b := fun b hl e => by
    rcases e with e | e
    · exact e
    · omega
  have st0 : Stp pw ps X w mv (fun b => X b ∨ b = w.heap.size + 1) W mv := ⟨⟨hfrW.size, fun _ h => .inl h, hnew, fun b hl e => hfrW.block b hl fun e' => e (by rw [e']; exact HX.out)⟩, hfrW.mono fun i _ e => .inl e, fun _ e _ => e⟩
  have sc0 : Sc (fun b => X b ∨ b = w.heap.size + 1) W ps L sh A m c mv := HSC.out.adv st0.adv (hfrW.block ps lps (fun e => hne e.symm)) (fun pm e => hfrW.block _ (HSC.out.mapLt e) (fun e' => hmvpw (e' ▸ e))) (fun b e => by
    rcases e with e | e
    · exact Nat.lt_of_lt_of_le (HSC.out.bnd b e) hfrW.size
    · rw [e]; exact x1.lt)
  have rv0 := RX.adv HV.out st0.adv
  clear hb sz hnew hwk
  have HST := Lib.hid st0; clear st0
  have HSC0 := Lib.hid sc0; clear sc0
  have HV0 := Lib.hid rv0; clear rv0
  have HFR := Lib.hid hfrW; clear hfrW
  have HMV := Lib.hid hmvpw; clear hmvpw
  have HW := Lib.hid hW; clear hW
  have hbt1 : bt n - sh ≤ bt (n + 1) - sh := by have : bt n ≤ bt (n + 1) := bt_mono (by omega)
                                                omega
  by_cases hlim : 40000 < n + 1
  · have hap : ap (f + 1) L sh u (.node k h xs) n = .error 4 := by rw [ap, if_pos hlim]
    have HE := Lib.hid hap; clear hap
    have d1 : (40000 : Int) < n + 1 := by omega
    go_enter Tryz.func118, Tryz.ntmps118
    go_wp2_with fail
    rw [HW.out]
    refine ⟨rfl, ?_⟩
    rw [HE.out]
    exact ⟨rfl, HST.out.fr⟩
  · have d1 : ¬ (40000 : Int) < n + 1 := by omega
    have hArg := argsC HAP.out L sh u k h xs (n + 1) An nn cc W pw ps (fun b => X b ∨ b = w.heap.size + 1) A m c mv (by have := HF.out; omega) (by omega) (by omega) (HS.out.mono (bt_mono (by omega))) (HT.out.mono hbt1) hnt (.inl HX.out) hne xw HSC0.out HV0.out
    have HArg := Lib.hid hArg; clear hArg
    have HLIM := Lib.hid hlim; clear hlim
    obtain ⟨c0, c1, c2⟩ := x0.three
    go_enter Tryz.func118, Tryz.ntmps118
    go_wp2_with fail
    rw [HW.out]
    clear HW q0 q1 c0 c1 c2
    refine HArg.out.mono ?_
    cases hres : apL (fun u' x m => ap f L sh u' x m) k xs.length u xs 0 (n + 1) with
    | error ec =>
      rintro e w2 ⟨rfl, hfr⟩
      have heq : ap (f + 1) L sh u (.node k h xs) n = .error ec := by rw [ap, if_neg HLIM.out, hres]
      have HE := Lib.hid heq; clear heq
      go_wp2_with fail
      refine ⟨rfl, ?_⟩
      rw [HE.out]
      exact ⟨rfl, HST.out.fr.trans hfr fun i hi e => e⟩
    | ok p =>
      obtain ⟨ys, n1⟩ := p
      rintro e w2 ⟨A2, m2, c2, X2, mv2, rfl, hrl, hsc2, hst2, hwk2⟩
      have nx : ∀ {b : Nat} {cs : Array Value} {ty : TypeId}, w.heap.size ≤ b → Box W b ty cs → ¬ (b = pw ∨ b = ps ∨ mv = .map (some b)) := fun hb bx e => by
        rcases e with e | e | e
        · omega
        · omega
        · exact HSC0.out.mapNe bx e
      have y0 := x0.fr hst2.fr (nx (Nat.le_refl _) x0)
      have y1 := x1.fr hst2.fr (nx (by omega) x1)
      have hgL := apL_good (A := fun u' x m => ap f L sh u' x m) (n0 := n) (sh := sh) (fun v x m hv hm1 hm2 hx => ap_good f L sh v x m hm1 hm2 (HS.out.mono (bt_mono hv)) hx) xs 0 (n + 1) (by omega) (by omega) (by omega) (fun x hx => (HT.out.args hx).mono hbt1) ys n1 hres
      obtain ⟨g1, g2, g3, g4, g5⟩ := hgL
      have heq : ap (f + 1) L sh u (.node k h xs) n = if k = 4 ∧ (u : Int) ≤ h then sp f (mpT L sh (h - u) u) ys n1 else .ok (.node k h ys, n1) := by rw [ap, if_neg HLIM.out, hres]
      have HEQ := Lib.hid heq; clear heq hres
      clear x0 x1 nx
      have HRL := Lib.hid hrl; clear hrl
      have HSC2 := Lib.hid hsc2; clear hsc2
      have HST2 := Lib.hid hst2; clear hst2
      have HG := Lib.hid (And.intro g3 (And.intro g4 g5)); clear g3 g4 g5
      obtain ⟨c0, c1, c2'⟩ := y0.three
      have l0 := y0.lt
      have l1 := y1.lt
      have lw2 := hwk2.lt
      have hX2 : X2 pw := HST2.out.adv.more _ (.inl HX.out)
      have hX2p : X2 (w.heap.size + 1) := HST2.out.adv.more _ (.inr rfl)
      have HX2 := Lib.hid hX2; clear hX2
      have HX2P := Lib.hid hX2p; clear hX2p
      by_cases hvar : k = 4 ∧ (u : Int) ≤ h
      · have heq := HEQ.out
        rw [if_pos hvar] at heq
        have HE := Lib.hid heq; clear heq HEQ
        obtain ⟨rfl, hvar⟩ := hvar
        have d2 : decide ((u : Int) ≤ h) = true := by simpa using hvar
        have hh := HT.out.ok
        rw [okT] at hh
        have hh1 := (hh.1 rfl).1
        have hh2 := (hh.1 rfl).2
        clear hh
        have hsl := HS.out.lo
        have hsh := HS.out.hi
        have hbn : bt n ≤ 1125899906842624 := by unfold bt btB; omega
        have hmp := mapsC ps HSC2.out (h - u) u (HS.out.mono (bt_mono (show n ≤ n1 by omega))) (by unfold bt btB; omega) (by omega) (by omega) (by omega)
        have HMP := Lib.hid hmp; clear hmp
        have hsub : (h : Int) - u ≤ 1125899906842624 := by omega
        obtain ⟨mw1, mw2⟩ := way_mp (u := u) (fr := h - u) HS.out (by omega) (by omega)
        have hmid : bt n + u ≤ bt n1 := by unfold bt btB; omega
        have HMW := Lib.hid (mw1.mono hmid); clear mw1
        go_wp2_with fail
        refine HMP.out.mono ?_
        rintro e w3 ⟨k3, h3, A3, n3, c3, X3, mv3, rfl, hrx3, hsc3, hst3⟩
        have nx : ∀ {b : Nat} {cs : Array Value} {ty : TypeId}, b ≠ ps → Box w2 b ty cs → ¬ (b = ps ∨ b = ps ∨ mv2 = .map (some b)) := fun hb bx e => by
          rcases e with e | e | e
          · exact hb e
          · exact hb e
          · exact HSC2.out.mapNe bx e
        have z1 := y1.fr hst3.fr (nx (by omega) y1)
        have zw := hwk2.fr hst3.fr (nx hne hwk2)
        have hX3 : X3 pw := hst3.adv.more _ HX2.out
        have hX3p : X3 (w.heap.size + 1) := hst3.adv.more _ HX2P.out
        have lz := z1.lt
        have hsp := HSPC.out (mpT L sh (h - u) u) ys n1 _ A2 m2 c2 w3 pw X3 (by have := HF.out; omega) g2 HMW.out HG.out.2.1 (by omega) (by have := HG.out.2.2; omega) hX3 hsc3.bnd zw hrx3 (HRL.out.adv hst3.adv)
        have HSP := Lib.hid hsp; clear hsp
        have HST3 := Lib.hid (hst3.weaken (pw := pw)); clear hst3
        have HSC3 := Lib.hid hsc3; clear hsc3
        clear hrx3 nx c0 c1 c2' y0 y1
        have hmn3 := HSC3.out.mapNe zw
        have HMN3 := Lib.hid hmn3; clear hmn3
        have hmn4 := HSC3.out.mapNe z1
        have HMN4 := Lib.hid hmn4; clear hmn4
        have HX3 := Lib.hid hX3; clear hX3
        have HX3P := Lib.hid hX3p; clear hX3p
        go_wp2_with fail
        refine HSP.out.mono ?_
        cases hres2 : sp f (mpT L sh (h - u) u) ys n1 with
        | error ec =>
          rintro e w4 ⟨rfl, hfr4⟩
          have heq : ap (f + 1) L sh u (.node 4 h xs) n = .error ec := by rw [HE.out, hres2]
          have HE2 := Lib.hid heq; clear heq hres2
          go_wp2_with fail
          refine ⟨rfl, ?_⟩
          rw [HE2.out]
          exact ⟨rfl, ((HST.out.trans HST2.out).trans HST3.out).fr.trans hfr4 fun i hi e => .inl e⟩
        | ok p =>
          obtain ⟨t4, n4⟩ := p
          rintro e w4 ⟨k4, h4, A4, m4, c4, rfl, hrx4, hfr4, hwk4⟩
          have heq : ap (f + 1) L sh u (.node 4 h xs) n = .ok (t4, n4) := by rw [HE.out, hres2]
          have v1 := z1.fr hfr4 (by omega)
          have hfin : AEnd pw ps X w L sh A m c mv (ap (f + 1) L sh u (.node 4 h xs) n) (.returned (.agg #[.int .i64 k4, .int .i64 h4, .slice A4 m4 c4])) (((w4.setCell ⟨w.heap.size + 1, 0, none⟩ (.int .i64 k4)).setCell ⟨w.heap.size + 1, 1, none⟩ (.int .i64 h4)).setCell ⟨w.heap.size + 1, 2, none⟩ (.slice A4 m4 c4)) := by
            rw [heq]
            have hsc4 := HSC3.out.ofFr hfr4 HX3.out hne HMN3.out
            refine ⟨_, _, _, _, _, X3, mv3, rfl, RX.adv hrx4 (Adv.set3 HX3P.out _ _ _), ?_, ?_, hwk4.other3 (by omega) _ _ _⟩
            · exact ((hsc4.setCell HX3P.out (by dsimp only; omega) HMN4.out _).setCell HX3P.out (by dsimp only; omega) HMN4.out _).setCell HX3P.out (by dsimp only; omega) HMN4.out _
            · exact (((((HST.out.trans HST2.out).trans HST3.out).trans (Stp.ofFr hfr4 HX3.out)).setCell (by dsimp only; omega) _).setCell (by dsimp only; omega) _).setCell (by dsimp only; omega) _
          have HFIN := Lib.hid hfin; clear hfin heq hres2 hrx4 hwk4 hfr4
          obtain ⟨r0, r1, r2⟩ := v1.three
          have f0 := v1.frozen 0
          have f1 := v1.frozen 1
          have f2 := v1.frozen 2
          go_wp2_with fail
          refine bodyPost_ret (v := .agg #[.int .i64 k4, .int .i64 h4, .slice A4 m4 c4]) (by simp [results, Tryz.results118, go_sem, r0, r1, r2]) rfl ?_
          exact HFIN.out
      · have heq := HEQ.out
        rw [if_neg hvar] at heq
        have HE := Lib.hid heq; clear heq HEQ
        obtain ⟨r0, r1, r2⟩ := y1.three
        have f0 := y1.frozen 0
        have f1 := y1.frozen 1
        have f2 := y1.frozen 2
        have hfin : AEnd pw ps X w L sh A m c mv (ap (f + 1) L sh u (.node k h xs) n) (.returned (.agg #[.int .i64 k, .int .i64 h, .slice A2 m2 c2])) (((w2.setCell ⟨w.heap.size + 1, 0, none⟩ (.int .i64 k)).setCell ⟨w.heap.size + 1, 1, none⟩ (.int .i64 h)).setCell ⟨w.heap.size + 1, 2, none⟩ (.slice A2 m2 c2)) := by
          rw [HE.out]
          have hmn := HSC2.out.mapNe y1
          refine ⟨_, _, _, _, _, X2, mv2, rfl, RX.adv (RdF_node.2 ⟨_, _, _, rfl, HWF.out.1, HWF.out.2, HRL.out.len, HRL.out.le, HRL.out.cap, HRL.out.at_⟩) (Adv.set3 HX2P.out _ _ _), ?_, ?_, hwk2.other3 (by omega) _ _ _⟩
          · exact ((HSC2.out.setCell HX2P.out (by dsimp only; omega) hmn _).setCell HX2P.out (by dsimp only; omega) hmn _).setCell HX2P.out (by dsimp only; omega) hmn _
          · exact (((HST.out.trans HST2.out).setCell (by dsimp only; omega) _).setCell (by dsimp only; omega) _).setCell (by dsimp only; omega) _
        have HFIN := Lib.hid hfin; clear hfin
        have d2 : (k == 4) = false ∨ (k == 4) = true ∧ decide ((u : Int) ≤ h) = false := by
          by_cases e : k = 4
          · exact .inr ⟨by simpa using e, by simp; omega⟩
          · exact .inl (by simpa using e)
        clear hvar
        rcases d2 with d2 | ⟨d2, d3⟩
        all_goals
          go_wp2_with fail
          refine bodyPost_ret (v := .agg #[.int .i64 k, .int .i64 h, .slice A2 m2 c2]) (by simp [results, Tryz.results118, go_sem, r0, r1, r2]) rfl ?_
          exact HFIN.out
theorem apC : ∀ f : Nat, ApC f
  | 0 => fun L sh u t n v w pw ps X A m c mv hf hu hn => by omega
  | f + 1 => applyC (apC f)
theorem assertStop (ec : Int) (W : World) : (Instr.typeAssert (.iface 150 (.agg #[.int .i64 ec])) 20 150 true).run Tryz.prog W = .ok (.tuple #[.agg #[.int .i64 ec], .bool true]) W := by kernel_rfl
theorem assertNil (W : World) : (Instr.typeAssert .nilIface 20 150 true).run Tryz.prog W = .ok (.tuple #[.agg #[.int .i64 0], .bool false]) W := by kernel_rfl
def CatchQ (pt pe : Nat) (ec : Int) (w : World) (e : Exit) (a : Act) (w' : World) : Prop :=
  e = .normal ∧ a.defers = [] ∧ Box w' pt 39 #[.int .i64 0, .int .i64 0, .slice none 0 0] ∧ Box w' pe 29 #[.int .i64 ec] ∧ Fr (fun k => k = pt ∨ k = pe) w w'
theorem catch_stop (pt pe : Nat) (ec : Int) (older : List PanicEntry) (w : World) (x0 x1 x2 y : Value) (ht : Box w pt 39 #[x0, x1, x2]) (he : Box w pe 29 #[y]) (hne : pt ≠ pe) :
    CallsD Tryz.prog 124 #[.pointer (some ⟨pt, 0, none⟩), .pointer (some ⟨pe, 0, none⟩)] (.panicking ({ v := .iface 150 (.agg #[.int .i64 ec]), recovered := false } :: older)) w fun e u' w' =>
      e = .returned (.tuple #[]) ∧ u' = .panicking ({ v := .iface 150 (.agg #[.int .i64 ec]), recovered := true } :: older) ∧
      Box w' pt 39 #[.int .i64 0, .int .i64 0, .slice none 0 0] ∧ Box w' pe 29 #[.int .i64 ec] ∧ Fr (fun k => k = pt ∨ k = pe) w w' := by
  refine callsD_of_wpS Tryz.func124 rfl fun c₀ cs hu => ?_
  apply wpS_seq
  apply wpS_region
  simp [wpOpsS, go_sem, recoverD, hu, Tryz.ntmps124, Exit.thenS]
  have hta := assertStop ec
  refine wpS_of_wp ?_
  have HU := Lib.hid hu; clear hu
  refine Code.wp_mono (Q := CatchQ pt pe ec w) (fun e a' w' hq => ?_) ?_
  · obtain ⟨rfl, hd, hq⟩ := hq
    cases c₀
    exact ⟨hd, _, rfl, .tuple #[], results_none rfl _ _ _, rfl, rfl, hq⟩
  simp only [Array.replicate_succ, Array.replicate_zero, List.push_toArray, List.append_toArray, List.nil_append, List.cons_append, List.setIfInBounds_toArray, List.set_cons_zero, List.set_cons_succ]
  go_wp2_with fail
  obtain ⟨W, hW⟩ : ∃ W, w.alloc (.cells #[.int .i64 ec] 150) = W := ⟨_, rfl⟩
  have hb : Below w.heap.size w W := by rw [← hW]; exact (Below.refl _ _).alloc (Nat.le_refl _) _
  have bt' := ht.keep hb ht.lt
  have be' := he.keep hb he.lt
  have bs' : Box W w.heap.size 150 #[.int .i64 ec] := by rw [← hW]; exact Box.new _ _ _
  have lt := ht.lt
  have le := he.lt
  rw [hW]
  clear hW ht he
  obtain ⟨t0, t1, t2⟩ := bt'.three
  have g0 := bt'.frozen 0
  have g1 := bt'.frozen 1
  have g2 := bt'.frozen 2
  have e0 := be'.one.1
  have e1 := be'.one.2
  have s0 := bs'.one.1
  have n1 : ¬ pe = pt := fun e => hne e.symm
  have n2 : ¬ w.heap.size = pt := by omega
  have n3 : ¬ w.heap.size = pe := by omega
  have HB := Lib.hid hb; clear hb
  go_region
  refine ⟨rfl, rfl, ?_, ?_, ?_⟩
  · exact (bt'.put3 _ _ _).other (fun e => hne e) _
  · exact (be'.other3 n1 _ _ _).set _
  · refine ⟨HB.out.os, HB.out.tape, HB.out.output, by have := HB.out.size; simpa [World.setCell] using this, fun i hi e => ?_⟩
    have h1 : i ≠ pt := fun e' => e (.inl e')
    have h2 : i ≠ pe := fun e' => e (.inr e')
    show (((((W.setCell _ _).setCell _ _).setCell _ _).setCell _ _).drew).heap[i]? = _
    exact (Below.heap_setCell _ _ _ _ h2).trans ((heap_other3 _ _ _ _ _ _ h1).trans (HB.out.block i hi))
def IdleQ (w : World) (e : Exit) (a : Act) (w' : World) : Prop := e = .normal ∧ a.defers = [] ∧ Below w.heap.size w w'
theorem catch_idle (pt pe : Nat) (w : World) :
    CallsD Tryz.prog 124 #[.pointer (some ⟨pt, 0, none⟩), .pointer (some ⟨pe, 0, none⟩)] .returning w fun e u' w' => e = .returned (.tuple #[]) ∧ u' = .returning ∧ Below w.heap.size w w' := by
  refine callsD_of_wpS Tryz.func124 rfl fun c₀ cs hu => ?_
  apply wpS_seq
  apply wpS_region
  simp [wpOpsS, go_sem, recoverD, hu, Tryz.ntmps124, Exit.thenS]
  have hta := assertNil
  refine wpS_of_wp ?_
  have HU := Lib.hid hu; clear hu
  refine Code.wp_mono (Q := IdleQ w) (fun e a' w' hq => ?_) ?_
  · obtain ⟨rfl, hd, hq⟩ := hq
    cases c₀
    have hu := HU.out
    simp only at hu
    subst hu
    exact ⟨hd, _, rfl, .tuple #[], results_none rfl _ _ _, rfl, rfl, hq⟩
  simp only [Array.replicate_succ, Array.replicate_zero, List.push_toArray, List.append_toArray, List.nil_append, List.cons_append, List.setIfInBounds_toArray, List.set_cons_zero, List.set_cons_succ]
  have hq : ∀ W, Sem.run Tryz.prog (binOp BinOp.neq 20 .nilIface .nilIface) W = .ok (.bool false) W := fun W => by kernel_rfl
  go_wp2_with fail
  exact ⟨rfl, rfl, (Below.refl _ _).alloc (Nat.le_refl _) _⟩
def anT : Res → T
  | .ok (t, _) => if myB t = true then t else .node 0 0 []
  | .error _ => .node 0 0 []
def anE : Res → Int
  | .ok (t, _) => if myB t = true then 0 else 4
  | .error e => e
def AnsEnd (r : Res) (w : World) (e : Ending) (w' : World) : Prop :=
  ∃ k h A n c, e = .returned (.tuple #[.agg #[.int .i64 k, .int .i64 h, .slice A n c], .int .i64 (anE r)]) ∧ RdF (fun b => w.heap.size ≤ b) w' (anT r) (.agg #[.int .i64 k, .int .i64 h, .slice A n c]) ∧ Below w.heap.size w w'
def MdEnd (pw q : Nat) (w : World) (r : Res) (e : Ending) (w' : World) : Prop :=
  match r with
  | .ok (t, _) => ∃ k h A n c, e = .returned (.agg #[.int .i64 k, .int .i64 h, .slice A n c]) ∧ RX (fun b => b = q) w' t (.agg #[.int .i64 k, .int .i64 h, .slice A n c]) ∧ Fr (fun k => k = pw) w w'
  | .error ec => e = .panicked (stopC ec) ∧ Fr (fun k => k = pw) w w'
theorem answerC (g : FuncId) (c1 c2 : Value) (hen : ∀ (args : Array Value) (W : World), Sem.run Tryz.prog (callFunc g args) W = .ok (.enter g args) W) (r : Res) (w : World)
    (hM : ∀ W pw q, Below w.heap.size w W → wkB W pw 0 → w.heap.size ≤ pw → w.heap.size ≤ q → q < W.heap.size → q ≠ pw → Calls Tryz.prog g #[.pointer (some ⟨pw, 0, none⟩), c1, c2] W (MdEnd pw q W r)) :
    Calls Tryz.prog 116 #[.func (.func g) #[] #[c1, c2]] w (AnsEnd r w) := by
  have hmf : ∀ (fn : Fn) (first cap : Array Value) (w : World), (Instr.makeFunc fn first cap).run Tryz.prog w = .ok (.func fn first cap) w := fun _ _ _ _ => rfl
  obtain ⟨W, hW⟩ : ∃ W, ((w.alloc (.cells #[.int .i64 0, .int .i64 0, .slice none 0 0] 39)).alloc (.cells #[.int .i64 0] 29)).alloc (.cells #[.int .i64 0] 153) = W := ⟨_, rfl⟩
  have hb : Below w.heap.size w W := by rw [← hW]; exact (((Below.refl _ _).alloc (Nat.le_refl _) _).alloc (by simp) _).alloc (by simp; omega) _
  have xT : Box W w.heap.size 39 #[.int .i64 0, .int .i64 0, .slice none 0 0] := by rw [← hW]; exact ((Box.new _ _ _).alloc _).alloc _
  have xE : Box W (w.heap.size + 1) 29 #[.int .i64 0] := by rw [← hW]; exact ((Box.new (w.alloc _) _ _).at (by simp)).alloc _
  have xW : wkB W (w.heap.size + 1 + 1) 0 := by rw [← hW]; exact (Box.new ((w.alloc _).alloc _) _ _).at (by simp)
  have HW := Lib.hid hW; clear hW
  have HM := Lib.hid (hM W _ w.heap.size hb xW (by omega) (Nat.le_refl _) xT.lt (by omega)); clear hM
  go_enter_defers Tryz.func116, Tryz.ntmps116
  go_wp2_with fail
  rw [HW.out]
  clear HW
  refine HM.out.mono ?_
  have hn0 : w.heap.size ≠ w.heap.size + 1 := by omega
  cases r with
  | error ec =>
    rintro e w1 ⟨rfl, hfr⟩
    have yT := xT.fr hfr (by omega)
    have yE := xE.fr hfr (by omega)
    go_wp2_with fail
    refine leaves_cons (f := 124) (args := #[.pointer (some ⟨w.heap.size, 0, none⟩), .pointer (some ⟨w.heap.size + 1, 0, none⟩)]) (by simp) (by simp [go_sem]) ?_
    refine (catch_stop w.heap.size (w.heap.size + 1) ec [] w1 _ _ _ _ yT yE hn0).mono ?_
    rintro e u' w2 ⟨rfl, rfl, zT, zE, hfr2⟩
    obtain ⟨t0, t1, t2⟩ := zT.three
    have e0 := zE.one.1
    have hfin : AnsEnd (.error ec) w (.returned (.tuple #[.agg #[.int .i64 0, .int .i64 0, .slice none 0 0], .int .i64 ec])) w2 := by
      refine ⟨_, _, _, _, _, rfl, RdF_node.2 ⟨none, 0, 0, rfl, by decide, by decide, rfl, Nat.le_refl _, Nat.zero_le _, fun i t ht => by simp at ht⟩, ?_⟩
      refine (hb.trans ((hfr.to_below (B := w.heap.size) (fun i e => by omega) hb.size))).trans (hfr2.to_below (fun i e => by omega) (by have := hb.size; have := hfr.size; omega))
    have HFIN := Lib.hid hfin; clear hfin
    simp [Leaves, settle, results, Tryz.results116, go_sem, t0, t1, t2, e0]
    exact HFIN.out
  | ok p =>
    obtain ⟨t, m⟩ := p
    rintro e w1 ⟨k, h, A, n, c, rfl, hrd, hfr⟩
    have yT := xT.fr hfr (by omega)
    have yE := xE.fr hfr (by omega)
    have hb1 : Below w.heap.size w w1 := hb.trans ((hfr.to_below (B := w.heap.size) (fun i e => by omega) hb.size))
    have lT := yT.lt
    clear hfr xT xE xW hb HM
    obtain ⟨t0, t1, t2⟩ := yT.three
    have f0 := yT.frozen 0
    have f1 := yT.frozen 1
    have f2 := yT.frozen 2
    have HRD := Lib.hid hrd; clear hrd
    go_wp2_with fail
    obtain ⟨W2, hW2⟩ : ∃ W2, ((w1.setCell ⟨w.heap.size, 0, none⟩ (.int .i64 k)).setCell ⟨w.heap.size, 1, none⟩ (.int .i64 h)).setCell ⟨w.heap.size, 2, none⟩ (.slice A n c) = W2 := ⟨_, rfl⟩
    have hb2 : Below w.heap.size w W2 := by rw [← hW2]; exact below_set3 hb1 (Nat.le_refl _) _ _ _
    have xT : Box W2 w.heap.size 39 #[.int .i64 k, .int .i64 h, .slice A n c] := by rw [← hW2]; exact yT.put3 _ _ _
    have xE : Box W2 (w.heap.size + 1) 29 #[.int .i64 0] := by rw [← hW2]; exact yE.other3 (by omega) _ _ _
    have rd2 : Rd W2 t (.agg #[.int .i64 k, .int .i64 h, .slice A n c]) := by rw [← hW2]; exact RX.rd (RX.adv HRD.out (Adv.set3 (X := fun b => b = w.heap.size) rfl _ _ _))
    rw [hW2]
    clear hW2 t0 t1 t2 f0 f1 f2 yT yE hb1 lT HRD
    have HR2 := Lib.hid rd2; clear rd2
    refine (myC t _ _ HR2.out).mono ?_
    rintro e w3 ⟨rfl, hb3⟩
    have yT := xT.keep hb3 xT.lt
    have yE := xE.keep hb3 xE.lt
    have HR3 := Lib.hid (Rd.keep hb3 _ _ HR2.out)
    replace hb2 := hb2.trans (hb3.mono hb2.size)
    clear hb3 xT xE HR2
    obtain ⟨t0, t1, t2⟩ := yT.three
    cases hmy : myB t
    · have hT : anT (.ok (t, m)) = .node 0 0 [] := by simp [anT, hmy]
      have hE : anE (.ok (t, m)) = 4 := by simp [anE, hmy]
      have HT := Lib.hid hT; clear hT
      have HE := Lib.hid hE; clear hE
      go_wp2_with fail
      refine leaves_cons (f := 124) (args := #[.pointer (some ⟨w.heap.size, 0, none⟩), .pointer (some ⟨w.heap.size + 1, 0, none⟩)]) (by simp) (by simp [go_sem]) ?_
      refine (catch_stop w.heap.size (w.heap.size + 1) 4 [] w3 _ _ _ _ yT yE hn0).mono ?_
      rintro e u' w4 ⟨rfl, rfl, zT, zE, hfr2⟩
      clear t0 t1 t2
      obtain ⟨t0, t1, t2⟩ := zT.three
      have e0 := zE.one.1
      have hfin : AnsEnd (.ok (t, m)) w (.returned (.tuple #[.agg #[.int .i64 0, .int .i64 0, .slice none 0 0], .int .i64 4])) w4 := by
        refine ⟨0, 0, none, 0, 0, by rw [HE.out], ?_, ?_⟩
        · rw [HT.out]
          exact RdF_node.2 ⟨none, 0, 0, rfl, by decide, by decide, rfl, Nat.le_refl _, Nat.zero_le _, fun i t ht => by simp at ht⟩
        · exact hb2.trans (hfr2.to_below (fun i e => by omega) hb2.size)
      have HFIN := Lib.hid hfin; clear hfin
      simp [Leaves, settle, results, Tryz.results116, go_sem, t0, t1, t2, e0]
      exact HFIN.out
    · have hT : anT (.ok (t, m)) = t := by simp [anT, hmy]
      have hE : anE (.ok (t, m)) = 0 := by simp [anE, hmy]
      have HT := Lib.hid hT; clear hT
      have HE := Lib.hid hE; clear hE
      have hwd : wd t ≤ 3518437208780 := by have := wd_nd t; have := ((myB_iff t).1 hmy).2.1; omega
      have HWD := Lib.hid hwd; clear hwd
      have HMY := Lib.hid hmy; clear hmy
      go_wp2_with fail
      refine (termOwn t _ _ HR3.out HWD.out).mono ?_
      rintro e w4 ⟨v4, rfl, how, hb4⟩
      obtain ⟨k4, h4, A4, n4, c4, rfl⟩ := how.full
      have zT := yT.keep hb4 yT.lt
      have zE := yE.keep hb4 yE.lt
      have HO := Lib.hid how; clear how
      replace hb2 := hb2.trans (hb4.mono hb2.size)
      have sz4 := yT.lt
      have sz6 := yE.lt
      have sz5 := hb4.size
      clear hb4 t0 t1 t2 HR3 yE
      obtain ⟨t0, t1, t2⟩ := zT.three
      have f0 := zT.frozen 0
      have f1 := zT.frozen 1
      have f2 := zT.frozen 2
      have e0 := zE.one.1
      have e1 := zE.one.2
      go_wp2_with fail
      refine leaves_cons (f := 124) (args := #[.pointer (some ⟨w.heap.size, 0, none⟩), .pointer (some ⟨w.heap.size + 1, 0, none⟩)]) (by simp) (by simp [go_sem]) ?_
      obtain ⟨W6, hW6⟩ : ∃ W6, (((w4.setCell ⟨w.heap.size, 0, none⟩ (.int .i64 k4)).setCell ⟨w.heap.size, 1, none⟩ (.int .i64 h4)).setCell ⟨w.heap.size, 2, none⟩ (.slice A4 n4 c4)).setCell ⟨w.heap.size + 1, 0, none⟩ (.int .i64 0) = W6 := ⟨_, rfl⟩
      have hb6 : Below w.heap.size w W6 := by rw [← hW6]; exact (below_set3 hb2 (Nat.le_refl _) _ _ _).setCell (by dsimp only; omega) _
      have vT : Box W6 w.heap.size 39 #[.int .i64 k4, .int .i64 h4, .slice A4 n4 c4] := by rw [← hW6]; exact (zT.put3 _ _ _).other (by dsimp only; omega) _
      have vE : Box W6 (w.heap.size + 1) 29 #[.int .i64 0] := by rw [← hW6]; exact (zE.other3 (by omega) _ _ _).set _
      have lE := zE.lt
      have rd6 : RdF (fun b => w.heap.size ≤ b) W6 t (.agg #[.int .i64 k4, .int .i64 h4, .slice A4 n4 c4]) := by
        rw [← hW6]
        refine RdF.moveX (fun b hb hl => ⟨by omega, ?_⟩) _ _ HO.out.rdF
        rw [Below.heap_setCell _ _ _ _ (by dsimp only; omega)]
        exact heap_other3 _ _ _ _ _ _ (by omega)
      rw [hW6]
      clear hW6 t0 t1 t2 f0 f1 f2 e0 e1 zT zE
      refine (catch_idle w.heap.size (w.heap.size + 1) W6).mono ?_
      rintro e u' w5 ⟨rfl, rfl, hb5⟩
      have uT := vT.keep hb5 vT.lt
      have uE := vE.keep hb5 vE.lt
      obtain ⟨t0, t1, t2⟩ := uT.three
      have e0 := uE.one.1
      have hfin : AnsEnd (.ok (t, m)) w (.returned (.tuple #[.agg #[.int .i64 k4, .int .i64 h4, .slice A4 n4 c4], .int .i64 0])) w5 := by
        refine ⟨k4, h4, A4, n4, c4, by rw [HE.out], ?_, hb6.trans (hb5.mono hb6.size)⟩
        rw [HT.out]
        exact RdF.moveX (fun b hb hl => ⟨hb, hb5.block b hl⟩) _ _ rd6
      have HFIN := Lib.hid hfin; clear hfin rd6
      simp [Leaves, settle, results, Tryz.results116, go_sem, t0, t1, t2, e0]
      exact HFIN.out
def fl : Nat := 40001
theorem fl_eq : fl = 40001 := rfl
def apR (t : T) (L : List T) (sh : Int) : Res := ap fl L sh 0 t 0
def apT (t : T) (L : List T) (sh : Int) : T := if (myB t && sbB L sh) = true then anT (apR t L sh) else .node 0 0 []
def apE (t : T) (L : List T) (sh : Int) : Int := if (myB t && sbB L sh) = true then anE (apR t L sh) else 1
def TEnd (t : T) (ec : Int) (w : World) (e : Ending) (w' : World) : Prop :=
  ∃ k h A n c, e = .returned (.tuple #[.agg #[.int .i64 k, .int .i64 h, .slice A n c], .int .i64 ec]) ∧ RdF (fun b => w.heap.size ≤ b) w' t (.agg #[.int .i64 k, .int .i64 h, .slice A n c]) ∧ Below w.heap.size w w'
abbrev LoT (t : T) : Prop := okT 281474976710656 t
theorem way_of {t : T} {M : Int} (hm : myB t = true) (hl : LoT t) (hM : 281474976710656 ≤ M) : Way M t :=
  ⟨((myB_iff t).1 hm).1, okT_mono hM _ hl⟩
theorem bt0 : bt 0 = 562949953421312 := by simp [btB]
theorem rd_rx {X : Nat → Prop} {w w' : World} (hb : Below w.heap.size w w') (hX : ∀ b, X b → w.heap.size ≤ b) (t : T) : ∀ v, Rd w t v → RX X w' t v := by
  induction t using T.ind with
  | step k h xs ih =>
    intro v hv
    obtain ⟨A, n, c, rfl, h1, h2, h3, h4, h5, h6⟩ := Rd_node.1 hv
    refine RdF_node.2 ⟨A, n, c, rfl, h1, h2, h3, h4, h5, fun i t ht => ?_⟩
    obtain ⟨b, o, v0, v1, v2, rfl, c0, c1, c2, hr⟩ := h6 i t ht
    have hl := cell_lt c0
    exact ⟨b, o, v0, v1, v2, rfl, fun e => by have := hX b e; dsimp only at hl; omega, (hb.cell hl).trans c0, (hb.cell (cell_lt c1)).trans c1, (hb.cell (cell_lt c2)).trans c2, ih t (List.mem_of_getElem? ht) _ hr⟩
theorem rd_rxl {X : Nat → Prop} {w w' : World} (hb : Below w.heap.size w w') (hX : ∀ b, X b → w.heap.size ≤ b) {xs : List T} {A : Option Addr} {n c : Nat} (hn : xs.length = n) (hc : n ≤ c) (hm : c ≤ maxLen) (hx : ∀ i t, xs[i]? = some t → RdAt w A i t) : RXL X w' xs A n c := by
  refine ⟨hn, hc, hm, fun i t ht => ?_⟩
  obtain ⟨b, o, v0, v1, v2, rfl, c0, c1, c2, hr⟩ := hx i t ht
  have hl := cell_lt c0
  exact ⟨b, o, v0, v1, v2, rfl, fun e => by have := hX b e; dsimp only at hl; omega, (hb.cell hl).trans c0, (hb.cell (cell_lt c1)).trans c1, (hb.cell (cell_lt c2)).trans c2, rd_rx hb hX t _ hr⟩
theorem appMade {w0 W : World} {t : T} {L : List T} {sh k h : Int} {At A : Option Addr} {nt ct n c pw q pt ps : Nat} (hb : Below w0.heap.size w0 W) (hpw : w0.heap.size ≤ pw) (hq : w0.heap.size ≤ q) (hqW : q < W.heap.size) (hne : q ≠ pw) (hwk : wkB W pw 0)
    (bt1 : Box W pt 39 #[.int .i64 k, .int .i64 h, .slice At nt ct]) (bs1 : Box W ps 105 #[.slice A n c, .int .i64 sh])
    (rt : Rd w0 t (.agg #[.int .i64 k, .int .i64 h, .slice At nt ct])) (hn : L.length = n) (hc : n ≤ c) (hm : c ≤ maxLen) (hx : ∀ i t, L[i]? = some t → RdAt w0 A i t)
    (hmy : myB t = true) (hsb : sbB L sh = true) (hlo : myB t = true → LoT t) (hlL : ∀ x ∈ L, myB x = true → LoT x) :
    Calls Tryz.prog 117 #[.pointer (some ⟨pw, 0, none⟩), .pointer (some ⟨pt, 0, none⟩), .pointer (some ⟨ps, 0, none⟩)] W (MdEnd pw q W (apR t L sh)) := by
  have hsb' : L.length ≤ 200 ∧ 0 ≤ sh ∧ sh ≤ 1048576 ∧ ∀ x ∈ L, myB x = true := by
    unfold sbB at hsb
    simp only [Bool.and_eq_true, decide_eq_true_eq, List.all_eq_true] at hsb
    exact ⟨hsb.1.1.1, hsb.1.1.2, hsb.1.2, hsb.2⟩
  obtain ⟨s1, s2, s3, s4⟩ := hsb'
  have lpw := hwk.lt
  obtain ⟨c0, c1, c2⟩ := bt1.three
  obtain ⟨d0, d1⟩ := bs1.two
  have lt := bt1.lt
  have ls := bs1.lt
  obtain ⟨W2, hW2⟩ : ∃ W2, (W.alloc (.cells #[.int .i64 0, .int .i64 0, .slice none 0 0] 39)).alloc (.cells #[.slice A n c, .int .i64 sh, .map none] 142) = W2 := ⟨_, rfl⟩
  have hb2 : Below W.heap.size W W2 := by rw [← hW2]; exact ((Below.refl _ _).alloc (Nat.le_refl _) _).alloc (by simp) _
  have xR : Box W2 W.heap.size 39 #[.int .i64 0, .int .i64 0, .slice none 0 0] := by rw [← hW2]; exact (Box.new _ _ _).alloc _
  have xS : Box W2 (W.heap.size + 1) 142 #[.slice A n c, .int .i64 sh, .map none] := by rw [← hW2]; exact (Box.new (W.alloc _) _ _).at (by simp)
  have hbW := hb.trans (hb2.mono hb.size)
  have sz0 := hb.size
  have hX : ∀ b, (b = pw ∨ b = q ∨ b = W.heap.size ∨ b = W.heap.size + 1) → w0.heap.size ≤ b := fun b e => by omega
  have hap := apC fl L sh 0 t 0 (.agg #[.int .i64 k, .int .i64 h, .slice At nt ct]) W2 pw (W.heap.size + 1) (fun b => b = pw ∨ b = q ∨ b = W.heap.size ∨ b = W.heap.size + 1) A n c (.map none) (by rw [fl_eq]; omega) (Nat.le_refl _) (by omega)
    ⟨s4, fun x hx => okT_mono (by rw [bt0]; omega) _ (hlL x hx (s4 x hx)), s2, s3⟩ (way_of hmy (hlo hmy) (by rw [bt0]; omega)) (by have := ((myB_iff t).1 hmy).2.1; omega) (.inl rfl) (by omega) (hwk.keep hb2 lpw)
    ⟨xS, .inr (.inr (.inr rfl)), fun b e => by have := xS.lt; have := hb2.size; omega, rd_rxl hbW hX hn hc hm hx, .inl rfl⟩ (rd_rx hbW hX t _ rt)
  rw [show ((0 : Nat) : Int) = 0 from rfl, ← apR] at hap
  generalize apR t L sh = r at hap ⊢
  have HAP := Lib.hid hap; clear hap
  have HW2 := Lib.hid hW2; clear hW2
  have HB2 := Lib.hid hb2; clear hb2
  clear hx rt hsb hlL s4 hX hbW
  go_enter Tryz.func117, Tryz.ntmps117
  go_wp2_with fail
  rw [HW2.out]
  clear HW2
  refine HAP.out.mono ?_
  clear HAP
  cases r with
  | error ec =>
    rintro e w3 ⟨rfl, hfr⟩
    go_wp2_with fail
    refine ⟨rfl, rfl, (Fr.below (X := fun k => k = pw) HB2.out).trans hfr fun i hi e => ?_⟩
    rcases e with e | e | e
    · exact e
    · omega
    · cases e
  | ok p =>
    obtain ⟨u, m⟩ := p
    rintro e w3 ⟨k3, h3, A3, n3, c3, X3, mv3, rfl, hrx, hsc, hst, hwk3⟩
    have yR := xR.fr hst.fr (by
      intro e
      rcases e with e | e | e
      · omega
      · omega
      · cases e)
    have hfin : MdEnd pw q W (.ok (u, m)) (.returned (.agg #[.int .i64 k3, .int .i64 h3, .slice A3 n3 c3])) (((w3.setCell ⟨W.heap.size, 0, none⟩ (.int .i64 k3)).setCell ⟨W.heap.size, 1, none⟩ (.int .i64 h3)).setCell ⟨W.heap.size, 2, none⟩ (.slice A3 n3 c3)) := by
      refine ⟨_, _, _, _, _, rfl, RX.mono (RX.adv (RX.mono (Y := fun b => b = q ∨ b = W.heap.size) hrx fun i _ e => hst.adv.more i (by omega)) (Adv.set3 (X := fun b => b = q ∨ b = W.heap.size) (.inr rfl) _ _ _)) (fun i _ e => .inl e), ?_⟩
      refine Fr.set3 ((Fr.below (X := fun k => k = pw) HB2.out).trans hst.fr fun i hi e => ?_) (fun h => absurd h (Nat.lt_irrefl _)) _ _ _
      rcases e with e | e | e
      · exact e
      · omega
      · cases e
    have HFIN := Lib.hid hfin; clear hfin hrx hsc hst hwk3 xR xS c0 c1 c2 d0 d1
    obtain ⟨r0, r1, r2⟩ := yR.three
    have f0 := yR.frozen 0
    have f1 := yR.frozen 1
    have f2 := yR.frozen 2
    go_wp2_with fail
    refine bodyPost_ret (v := .agg #[.int .i64 k3, .int .i64 h3, .slice A3 n3 c3]) (by simp [results, Tryz.results117, go_sem, r0, r1, r2]) rfl ?_
    exact HFIN.out
theorem entersApp (args : Array Value) (W : World) : Sem.run Tryz.prog (callFunc 117 args) W = .ok (.enter 117 args) W := by
  simp [callFunc, go_sem, Tryz.func117, Tryz.f117]
theorem rd_nil0 (ok : Nat → Prop) (w : World) : RdF ok w (.node 0 0 []) (.agg #[.int .i64 0, .int .i64 0, .slice none 0 0]) :=
  RdF_node.2 ⟨none, 0, 0, rfl, by decide, by decide, rfl, Nat.le_refl _, Nat.zero_le _, fun i t ht => by simp at ht⟩
theorem ApplyC {w : World} {t : T} {L : List T} {sh k h : Int} {At A : Option Addr} {nt ct n c : Nat} (rt : Rd w t (.agg #[.int .i64 k, .int .i64 h, .slice At nt ct])) (hn : L.length = n) (hc : n ≤ c) (hm : c ≤ maxLen) (hx : ∀ i t, L[i]? = some t → RdAt w A i t) (hlo : myB t = true → LoT t) (hlL : ∀ x ∈ L, myB x = true → LoT x) :
    Calls Tryz.prog 103 #[.agg #[.int .i64 k, .int .i64 h, .slice At nt ct], .agg #[.slice A n c, .int .i64 sh]] w (TEnd (apT t L sh) (apE t L sh) w) := by
  have hmf : ∀ (fn : Fn) (first cap : Array Value) (w : World), (Instr.makeFunc fn first cap).run Tryz.prog w = .ok (.func fn first cap) w := fun _ _ _ _ => rfl
  obtain ⟨W, hW⟩ : ∃ W, ((w.alloc (.cells #[.int .i64 k, .int .i64 h, .slice At nt ct] 39)).alloc (.cells #[.slice A n c, .int .i64 sh] 105)).alloc (.cells #[.int .i64 0, .int .i64 0, .slice none 0 0] 39) = W := ⟨_, rfl⟩
  have hb : Below w.heap.size w W := by rw [← hW]; exact (((Below.refl _ _).alloc (Nat.le_refl _) _).alloc (by simp) _).alloc (by simp; omega) _
  have xT : Box W w.heap.size 39 #[.int .i64 k, .int .i64 h, .slice At nt ct] := by rw [← hW]; exact ((Box.new _ _ _).alloc _).alloc _
  have xS : Box W (w.heap.size + 1) 105 #[.slice A n c, .int .i64 sh] := by rw [← hW]; exact ((Box.new (w.alloc _) _ _).at (by simp)).alloc _
  have xR : Box W (w.heap.size + 1 + 1) 39 #[.int .i64 0, .int .i64 0, .slice none 0 0] := by rw [← hW]; exact (Box.new ((w.alloc _).alloc _) _ _).at (by simp)
  have HW := Lib.hid hW; clear hW
  have HMY : Hid (∀ W', Below w.heap.size w W' → Calls Tryz.prog 59 #[.agg #[.int .i64 k, .int .i64 h, .slice At nt ct]] W' fun e w' => e = .returned (.bool (myB t)) ∧ Below W'.heap.size W' w') := Lib.hid fun W' h' => myC t _ _ (Rd.keep h' _ _ rt)
  have HSB : Hid (∀ W', Below w.heap.size w W' → Calls Tryz.prog 115 #[.agg #[.slice A n c, .int .i64 sh]] W' fun e w' => e = .returned (.bool (sbB L sh)) ∧ Below W'.heap.size W' w') := Lib.hid fun W' h' => sbMayC L A n c sh W' hn hc hm fun i t ht => RdAt.keep h' (hx i t ht)
  have HAN : Hid (myB t = true → sbB L sh = true → ∀ W', Below w.heap.size w W' → Box W' w.heap.size 39 #[.int .i64 k, .int .i64 h, .slice At nt ct] → Box W' (w.heap.size + 1) 105 #[.slice A n c, .int .i64 sh] →
      Calls Tryz.prog 116 #[.func (.func 117) #[] #[.pointer (some ⟨w.heap.size, 0, none⟩), .pointer (some ⟨w.heap.size + 1, 0, none⟩)]] W' (AnsEnd (apR t L sh) W')) := Lib.hid fun h1 h2 W' hb' b1 b2 => by
    refine answerC _ _ _ entersApp _ _ fun W2 pw q hb2 hwk hpw hq hqW hne => ?_
    have hsz := hb'.size
    exact appMade (hb'.trans (hb2.mono hb'.size)) (by omega) (by omega) hqW hne hwk (b1.keep hb2 b1.lt) (b2.keep hb2 b2.lt) rt hn hc hm hx h1 h2 hlo hlL
  have HTE : Hid (apT t L sh = (if (myB t && sbB L sh) = true then anT (apR t L sh) else .node 0 0 []) ∧ apE t L sh = (if (myB t && sbB L sh) = true then anE (apR t L sh) else 1)) := Lib.hid ⟨rfl, rfl⟩
  clear rt hx hlL hlo hn hc hm
  generalize apT t L sh = RT at *
  generalize apE t L sh = RE at *
  generalize apR t L sh = r at *
  obtain ⟨c0, c1, c2⟩ := xT.three
  go_enter Tryz.func103, Tryz.ntmps103
  go_wp2_with fail
  rw [HW.out]
  clear HW
  refine (HMY.out W hb).mono ?_
  clear HMY
  generalize myB t = M1 at *
  rintro e w1 ⟨rfl, hb1⟩
  replace xT := xT.keep hb1 xT.lt
  replace xS := xS.keep hb1 xS.lt
  replace xR := xR.keep hb1 xR.lt
  replace hb := hb.trans (hb1.mono hb.size)
  clear hb1 c0 c1 c2
  obtain ⟨s0, s1⟩ := xS.two
  obtain ⟨r0, r1, r2⟩ := xR.three
  have f0 := xR.frozen 0
  have f1 := xR.frozen 1
  have f2 := xR.frozen 2
  cases M1
  · go_wp2_with fail
    refine bodyPost_ret (v := .tuple #[.agg #[.int .i64 0, .int .i64 0, .slice none 0 0], .int .i64 1]) (by simp [results, Tryz.results103, go_sem, r0, r1, r2]) rfl ?_
    obtain ⟨h1, h2⟩ := HTE.out
    simp only [Bool.false_and, Bool.false_eq_true, if_false] at h1 h2
    rw [h1, h2]
    exact ⟨_, _, _, _, _, rfl, rd_nil0 _ _, below_set3 hb (by omega) _ _ _⟩
  go_wp2_with fail
  clear f0 f1 f2 r0 r1 r2 s0 s1
  refine (HSB.out w1 hb).mono ?_
  clear HSB
  generalize sbB L sh = M2 at *
  rintro e w2 ⟨rfl, hb1⟩
  replace xT := xT.keep hb1 xT.lt
  replace xS := xS.keep hb1 xS.lt
  replace xR := xR.keep hb1 xR.lt
  replace hb := hb.trans (hb1.mono hb.size)
  clear hb1
  obtain ⟨r0, r1, r2⟩ := xR.three
  have f0 := xR.frozen 0
  have f1 := xR.frozen 1
  have f2 := xR.frozen 2
  cases M2
  · go_wp2_with fail
    refine bodyPost_ret (v := .tuple #[.agg #[.int .i64 0, .int .i64 0, .slice none 0 0], .int .i64 1]) (by simp [results, Tryz.results103, go_sem, r0, r1, r2]) rfl ?_
    obtain ⟨h1, h2⟩ := HTE.out
    simp only [Bool.and_false, Bool.false_eq_true, if_false] at h1 h2
    rw [h1, h2]
    exact ⟨_, _, _, _, _, rfl, rd_nil0 _ _, below_set3 hb (by omega) _ _ _⟩
  go_wp2_with fail
  clear f0 f1 f2 r0 r1 r2
  have xR2 := xR.lt
  refine (HAN.out (by trivial) (by trivial) w2 hb xT xS).mono ?_
  rintro e w3 ⟨k3, h3, A3, n3, c3, rfl, hrd, hb1⟩
  replace xR := xR.keep hb1 xR.lt
  replace hb := hb.trans (hb1.mono hb.size)
  clear hb1
  obtain ⟨r0, r1, r2⟩ := xR.three
  have f0 := xR.frozen 0
  have f1 := xR.frozen 1
  have f2 := xR.frozen 2
  have HRD := Lib.hid hrd; clear hrd
  go_wp2_with fail
  refine bodyPost_ret (v := .tuple #[.agg #[.int .i64 k3, .int .i64 h3, .slice A3 n3 c3], .int .i64 (anE r)]) (by simp [results, Tryz.results103, go_sem, r0, r1, r2]) rfl ?_
  obtain ⟨h1, h2⟩ := HTE.out
  simp only [Bool.and_self, if_true] at h1 h2
  rw [h1, h2]
  have lw2 := xR2
  exact ⟨_, _, _, _, _, rfl, RdF.moveX (fun b hb' hl => ⟨by omega, heap_other3 _ _ _ _ _ _ (by omega)⟩) _ _ HRD.out, below_set3 hb (by omega) _ _ _⟩
def SEnd (L : List T) (sh : Int) (w : World) (e : Ending) (w' : World) : Prop :=
  ∃ A n c, e = .returned (.agg #[.slice A n c, .int .i64 sh]) ∧ RXL (fun b => b < w.heap.size) w' L A n c ∧ Below w.heap.size w w'
def vsL (n : Nat) : List T := (List.range n).map fun (i : Nat) => T.node 4 ((n : Int) - 1 - (i : Int)) []
theorem Box.put2 {w : World} {p : Nat} {ty : TypeId} {x0 x1 : Value} (h : Box w p ty #[x0, x1]) (u0 u1 : Value) : Box ((w.setCell ⟨p, 0, none⟩ u0).setCell ⟨p, 1, none⟩ u1) p ty #[u0, u1] := by
  have := (h.setAt 0 u0).setAt 1 u1
  simpa using this
theorem vsL_at (m : Nat) (i : Nat) (t : T) (h : (vsL m)[i]? = some t) : i < m ∧ t = .node 4 ((m : Int) - 1 - (i : Int)) [] := by
  unfold vsL at h
  rw [List.getElem?_map, Option.map_eq_some_iff] at h
  obtain ⟨k, hk, rfl⟩ := h
  obtain ⟨h1, h2⟩ := List.getElem?_eq_some_iff.1 hk
  rw [List.length_range] at h1
  rw [List.getElem_range] at h2
  subst h2
  exact ⟨h1, rfl⟩
theorem vsL_len (m : Nat) : (vsL m).length = m := by simp [vsL]
theorem rx_leaf' {ok : Nat → Prop} {w : World} {k h : Int} (hk : (Lit.int .i64 k).wf = true) (hh : (Lit.int .i64 h).wf = true) : RdF ok w (.node k h []) (.agg #[.int .i64 k, .int .i64 h, .slice none 0 0]) :=
  RdF_node.2 ⟨none, 0, 0, rfl, hk, hh, rfl, Nat.le_refl _, Nat.zero_le _, fun i t ht => by simp at ht⟩
end Go.Proofs.YtbbjjdnnlnabaaaGreat
