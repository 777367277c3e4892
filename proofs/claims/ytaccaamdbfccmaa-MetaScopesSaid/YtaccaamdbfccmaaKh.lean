/-
  Contract of package meta's fill. No statement is proved here.
-/
import Derived.Test.YtaccaamdbfccmaaKg
namespace Go.Proofs.Ytaccaamdbfccmaa
open Go.ChangeShapes Go.WideShapes Go.ChangeAt Go.RowKit
set_option linter.unusedVariables false
set_option maxRecDepth 100000

set_option maxHeartbeats 4000000 in
theorem fillC (th : List T) : ∀ t, FiC th t := by
  refine T.ind fun k h xs ih => ?_
  intro wB w pp A m cL n c v hb hpB hp hth hv hno h0 hn ho hc
  have hv' := hv
  obtain ⟨An, nn, cc, rfl, wfk, wfh, hl, hnc, hcm, hxs⟩ := Rd_node.1 hv
  have lp := hp.lt
  have szB := hb.size
  obtain ⟨W, hW⟩ : ∃ W, (((w.alloc (.cells #[.pointer (some ⟨pp, 0, none⟩)] 87)).alloc (.cells #[.int .i64 k, .int .i64 h, .slice An nn cc] 24)).alloc (.cells #[.int .i64 n] 3)).alloc (.cells #[.int .i64 0, .int .i64 0, .slice none 0 0] 24) = W := ⟨_, rfl⟩
  have hbW : Below w.heap.size w W := by rw [← hW]; exact ((((Below.refl _ _).alloc (Nat.le_refl _) _).alloc (by simp) _).alloc (by simp; omega) _).alloc (by simp; omega) _
  have x0 : Box W w.heap.size 87 #[.pointer (some ⟨pp, 0, none⟩)] := by rw [← hW]; exact (((Box.new _ _ _).alloc _).alloc _).alloc _
  have x1 : Box W (w.heap.size + 1) 24 #[.int .i64 k, .int .i64 h, .slice An nn cc] := by rw [← hW]; exact (((Box.new (w.alloc _) _ _).at (by simp)).alloc _).alloc _
  have x2 : Box W (w.heap.size + 1 + 1) 3 #[.int .i64 n] := by rw [← hW]; exact ((Box.new ((w.alloc _).alloc _) _ _).at (by simp)).alloc _
  have x3 : Box W (w.heap.size + 1 + 1 + 1) 24 #[.int .i64 0, .int .i64 0, .slice none 0 0] := by rw [← hW]; exact (Box.new (((w.alloc _).alloc _).alloc _) _ _).at (by simp)
  have hpW := hp.keep hbW lp
  have hbBW := hb.trans (hbW.mono hb.size)
  by_cases hk6 : k = 6
  · subst hk6
    have hBC := becomeC ih hbBW hpB hpW hth hv hno h0 hn ho hc
    generalize pf th n c (.node 6 h xs) = R at *
    have HBC := Lib.hid hBC; clear hBC
    have HW := Lib.hid hW; clear hW
    have HBW := Lib.hid hbW; clear hbW
    clear hv hv' hno ho hxs hn hc hth hp hpW hbBW hb ih wfk wfh
    go_enter Try.func47, Try.ntmps47
    go_wp2_with fail
    rw [HW.out]
    clear HW
    refine HBC.out.mono ?_
    clear HBC
    intro e w2 hE
    obtain ⟨k3, h3, A3, n3, c3, ec, rfl, hout, hfr⟩ := hE.uni
    have r2 := x3.fr hfr (by omega)
    have s2 := r2.lt
    have s5 := x3.lt
    have HO := Lib.hid hout
    have HFR := Lib.hid hfr
    clear hout hE hfr x0 x1 x2 x3
    obtain ⟨y0, y1, y2⟩ := r2.three
    have f0 := r2.frozen 0
    have f1 := r2.frozen 1
    have f2 := r2.frozen 2
    go_wp2_with fail
    refine bodyPost_ret (v := .tuple #[.agg #[.int .i64 k3, .int .i64 h3, .slice A3 n3 c3], .int .i64 ec]) (by simp [results, Try.results47, go_sem, y0, y1, y2]) rfl ?_
    have s4 := HFR.out.size
    refine CO.cen (HO.out.move (by omega) (fun g hg _ => heap_other3 _ _ _ _ _ _ (by omega)) fun _ _ _ hs => Box.other3 hs (by omega) _ _ _) ?_
    exact ((Fr.below (X := fun b => b = pp) HBW.out).trans HFR.out fun _ _ e => e).set3 (fun h => by omega) _ _ _
  · have hR := pf_node th n k h xs c hk6
    obtain ⟨_, hnos⟩ := node_parts hno
    have hos := ok_parts ho
    have hdp : dp (.node k h xs) = 1 + dpL xs := by rw [dp]
    have hnd : nd (.node k h xs) = 1 + ndL xs := by rw [nd]
    have hlen := (wdL_nd xs).2
    have hE := eachFC (X := fun b => b = pp) (St := fun c w' => ptB w' pp A m cL c) (p1 := .pointer (some ⟨w.heap.size, 0, none⟩)) (p2 := .pointer (some ⟨w.heap.size + 1 + 1, 0, none⟩)) (p3 := .pointer (some ⟨w.heap.size + 1, 0, none⟩)) (wB := wB) (w := W) (A := An) (n := nn) (c := cc) (c0 := c) (M := 1125899906842624) xs (fun i x c => pf th (n + bd k nn i) c x)
      hbBW hl hnc hcm (by omega) hxs (fun b e => by subst e; exact ⟨hpB, hpW.lt⟩) (fun c' W1 W2 _ hk hs => (hk pp rfl).trans hs) hpW (by omega)
      (fun i t c t1 c1 _ hr => by
        unfold pf at hr
        split at hr
        · cases hr
        · rename_i t' ht'
          cases hr
          have := fl_nd th t _ t' ht'
          omega)
      (fun i t v W' c' ht hrd hfr hst hlo => by
        have hmem := List.mem_of_getElem? ht
        have h1 := dpL_mem hmem
        have h2 := nd_mem hmem
        have hi : i < xs.length := (List.getElem?_eq_some_iff.1 ht).1
        have h3 : nd t ≤ ndL (xs.drop i) := by rw [drop_at ht, ndL]; omega
        have h4 : i ≤ maxLen := by unfold maxLen at hcm ⊢; omega
        exact closFC (ih t hmem) i v (hb.trans ((hbW.mono hb.size).trans (hfr.to_below (fun i e => by subst e; exact hpB) (by have := hbW.size; omega)))) hpB hst hth hrd (hnos t hmem) h0 (by omega) (hos t hmem) (by omega) (x0.fr hfr (by omega)) (x2.fr hfr (by omega)) (x1.fr hfr (by omega)) hnc hcm h4 (by omega) (by omega) (by omega))
    rw [ea_fill, show flL th k nn xs 0 n = flL th k xs.length xs 0 n from by rw [hl]] at hE
    have hnd2 : ∀ ys, flL th k xs.length xs 0 n = .ok ys → ndL ys ≤ 4000 * ndL xs := fun ys he => flL_nd th k xs.length xs 0 n ys he
    have herr : ∀ e, flL th k xs.length xs 0 n = .error e → e ≠ 0 := fun e he => flL_err th k xs.length xs 0 n e he
    obtain ⟨FR, hFR⟩ : ∃ FR, FR = flL th k xs.length xs 0 n := ⟨_, rfl⟩
    generalize pf th n c (.node k h xs) = R at *
    rw [← hFR] at hE hnd2 herr hR
    have hbnd : ∀ ys, FR = .ok ys → c + ndL ys + 1 ≤ 4611686018427387904 := fun ys he => by have := hnd2 ys he; omega
    have HWF := Lib.hid (And.intro wfk wfh)
    have HE := Lib.hid hE; clear hE
    have HW := Lib.hid hW; clear hW
    have HBW := Lib.hid hbW; clear hbW
    clear hv hv' hno ho hxs hn hc hth hp hpW hbBW hb ih hFR hnd2 wfk wfh hos hnos hdp hnd hlen hnc hcm hpB
    have e6 : (k == 6) = false := by simpa using hk6
    clear hk6
    go_enter Try.func47, Try.ntmps47
    go_wp2_with fail
    rw [HW.out]
    clear HW
    refine HE.out.mono ?_
    clear HE
    cases FR with
    | error ec =>
      rintro e w1 ⟨rfl, hne, hfr⟩
      have HR := Lib.hid (show R = .error ec from hR); clear hR
      have hne' : (ec != 0) = true := by simpa using hne
      have y3 := x3.fr hfr (by omega)
      have HFW := Lib.hid ((Fr.below (X := fun b => b = pp) HBW.out).trans hfr fun _ _ e => e); clear hfr
      have HNE := Lib.hid hne; clear hne
      clear x0 x1 x2 x3 herr hbnd
      obtain ⟨r0, r1, r2⟩ := y3.three
      have f0 := y3.frozen 0
      have f1 := y3.frozen 1
      have f2 := y3.frozen 2
      have ly := y3.lt
      go_wp2_with fail
      refine bodyPost_ret (v := .tuple #[zT, .int .i64 ec]) (by simp [results, Try.results47, go_sem, r0, r1, r2]) rfl ?_
      rw [HR.out]
      exact ⟨rfl, HNE.out, HFW.out.set3 (fun h => by omega) _ _ _⟩
    | ok ys =>
      rintro e w1 ⟨A9, n9, c9, rfl, hrl, hfr, hst⟩
      have HR := Lib.hid (show R = .ok (kp (c + ndL ys + 1) (.node k h (kpL c ys)), c + ndL ys + 1) from hR); clear hR
      have hbd := hbnd ys rfl
      have y0 := x0.fr hfr (by omega)
      have y1 := x1.fr hfr (by omega)
      have y3 := x3.fr hfr (by omega)
      have hsz := hfr.size
      have l3 := x3.lt
      have HFW := Lib.hid ((Fr.below (X := fun b => b = pp) HBW.out).trans hfr fun _ _ e => e); clear hfr
      clear x0 x1 x2 x3 herr hbnd
      have hnode : RX (fun b => b < W.heap.size) w1 (.node k h (kpL c ys)) (.agg #[.int .i64 k, .int .i64 h, .slice A9 n9 c9]) := RdF_node.2 ⟨A9, n9, c9, rfl, HWF.out.1, HWF.out.2, hrl.len, hrl.le, hrl.cap, hrl.at_⟩
      have hkp := keepPC (d := 1) (k := k) (h := h) (A2 := A9) (n2 := n9) (c2 := c9) w1 hst hbd
      obtain ⟨k', h', A', n', c', heq, hrx⟩ := kp_rx (x := c + ndL ys + 1) hnode
      rw [heq, show ((1 : Nat) : Int) = 1 from rfl] at hkp
      have HKP := Lib.hid hkp
      have HRX := Lib.hid hrx
      clear hkp heq hrx hnode hrl hst hbd
      obtain ⟨r0, r1, r2⟩ := y3.three
      obtain ⟨a0, a1, a2⟩ := y1.three
      have d0 := y0.one.1
      have f0 := y3.frozen 0
      have f1 := y3.frozen 1
      have f2 := y3.frozen 2
      have ly := y3.lt
      go_wp2_with fail
      refine HKP.out.mono ?_
      clear HKP
      rintro e w2 ⟨rfl, hfr2, hst2⟩
      have z3 := y3.fr hfr2 (by omega)
      have hsz2 := hfr2.size
      have HF2 := Lib.hid hfr2
      have HS2 := Lib.hid hst2
      clear hfr2 hst2 r0 r1 r2 f0 f1 f2 a0 a1 a2 d0 y0 y1 y3
      obtain ⟨r0, r1, r2⟩ := z3.three
      have f0 := z3.frozen 0
      have f1 := z3.frozen 1
      have f2 := z3.frozen 2
      have lz := z3.lt
      go_wp2_with fail
      refine bodyPost_ret (v := .tuple #[.agg #[.int .i64 k', .int .i64 h', .slice A' n' c'], .int .i64 0]) (by simp [results, Try.results47, go_sem, r0, r1, r2]) rfl ?_
      rw [HR.out]
      refine ⟨k', h', A', n', c', rfl, ?_, ((HFW.out.trans HF2.out fun _ _ e => e).set3 (fun h => by omega) _ _ _), Box.other3 HS2.out (by omega) _ _ _⟩
      exact RdF.moveX (fun b hb hl => ⟨by omega, (heap_other3 _ _ _ _ _ _ (by omega)).trans (HF2.out.block b hl (by omega))⟩) _ _ HRX.out
end Go.Proofs.Ytaccaamdbfccmaa
