/- Texts of one proof, put together. No statement is proved here. -/
import Derived.Test.YtbbjjdnnlnabaaaGreatPkKg
namespace Go.Proofs.YtbbjjdnnlnabaaaGreat
open Go.ChangeShapes Go.WideShapes Go.ChangeAt Go.RowKit
set_option linter.unusedVariables false
set_option linter.unusedSimpArgs false
set_option maxHeartbeats 4000000
set_option maxRecDepth 100000
theorem fillC (th : List T) : ∀ t, FiC th t := by
  refine T.ind fun k h xs ih => ?_
  intro wB w pp A m cL n c v hb hpB hp hth hv hno h0 hn ho hc
  have hv' := hv
  obtain ⟨An, nn, cc, rfl, wfk, wfh, hl, hnc, hcm, hxs⟩ := Rd_node.1 hv
  have lp := hp.lt
  have szB := hb.size
  obtain ⟨W, hW⟩ : ∃ W, (((w.alloc (.cells #[.pointer (some ⟨pp, 0, none⟩)] 117)).alloc (.cells #[.int .i64 k, .int .i64 h, .slice An nn cc] 39)).alloc (.cells #[.int .i64 n] 3)).alloc (.cells #[.int .i64 0, .int .i64 0, .slice none 0 0] 39) = W := ⟨_, rfl⟩
  have hbW : Below w.heap.size w W := by rw [← hW]; exact ((((Below.refl _ _).alloc (Nat.le_refl _) _).alloc (by simp) _).alloc (by simp; omega) _).alloc (by simp; omega) _
  have x0 : Box W w.heap.size 117 #[.pointer (some ⟨pp, 0, none⟩)] := by rw [← hW]; exact (((Box.new _ _ _).alloc _).alloc _).alloc _
  have x1 : Box W (w.heap.size + 1) 39 #[.int .i64 k, .int .i64 h, .slice An nn cc] := by rw [← hW]; exact (((Box.new (w.alloc _) _ _).at (by simp)).alloc _).alloc _
  have x2 : Box W (w.heap.size + 1 + 1) 3 #[.int .i64 n] := by rw [← hW]; exact ((Box.new ((w.alloc _).alloc _) _ _).at (by simp)).alloc _
  have x3 : Box W (w.heap.size + 1 + 1 + 1) 39 #[.int .i64 0, .int .i64 0, .slice none 0 0] := by rw [← hW]; exact (Box.new (((w.alloc _).alloc _).alloc _) _ _).at (by simp)
  have hpW := hp.keep hbW lp
  have hbBW := hb.trans (hbW.mono hb.size)
  by_cases hk6 : k = 6
  · subst hk6
    have hBC := becomeC ih hbBW hpB hpW hth hv hno h0 hn ho hc
    generalize pf th n c (.node 6 h xs) = R at *
    have HBC := Lib.hid hBC; clear hBC
    have HW := Lib.hid hW; clear hW
    have HBW := Lib.hid hbW; clear hbW
    clear hv hv' hno ho hxs hn hc hth hp hpW hbBW hb ih wfk wfh
    go_enter Tryz.func70, Tryz.ntmps70
    go_wp2_with fail
    rw [HW.out]
    clear HW
    refine HBC.out.mono ?_
    clear HBC
    intro e w2 hE
    obtain ⟨k3, h3, A3, n3, c3, ec, rfl, hout, hfr⟩ := hE.uni
    have r2 := x3.fr hfr (by omega)
    have s2 := r2.lt
    have s5 := x3.lt
    have HO := Lib.hid hout
    have HFR := Lib.hid hfr
    clear hout hE hfr x0 x1 x2 x3
    obtain ⟨y0, y1, y2⟩ := r2.three
    have f0 := r2.frozen 0
    have f1 := r2.frozen 1
    have f2 := r2.frozen 2
    go_wp2_with fail
    refine bodyPost_ret (v := .tuple #[.agg #[.int .i64 k3, .int .i64 h3, .slice A3 n3 c3], .int .i64 ec]) (by simp [results, Tryz.results70, go_sem, y0, y1, y2]) rfl ?_
    have s4 := HFR.out.size
    refine CO.cen (HO.out.move (by omega) (fun g hg _ => heap_other3 _ _ _ _ _ _ (by omega)) fun _ _ _ hs => Box.other3 hs (by omega) _ _ _) ?_
    exact ((Fr.below (X := fun b => b = pp) HBW.out).trans HFR.out fun _ _ e => e).set3 (fun h => by omega) _ _ _
  · have hR := pf_node th n k h xs c hk6
    obtain ⟨_, hnos⟩ := node_parts hno
    have hos := ok_parts ho
    have hdp : dp (.node k h xs) = 1 + dpL xs := by rw [dp]
    have hnd : nd (.node k h xs) = 1 + ndL xs := by rw [nd]
    have hlen := (wdL_nd xs).2
    have hE := eachFC (X := fun b => b = pp) (St := fun c w' => ptB w' pp A m cL c) (p1 := .pointer (some ⟨w.heap.size, 0, none⟩)) (p2 := .pointer (some ⟨w.heap.size + 1 + 1, 0, none⟩)) (p3 := .pointer (some ⟨w.heap.size + 1, 0, none⟩)) (wB := wB) (w := W) (A := An) (n := nn) (c := cc) (c0 := c) (M := 1125899906842624) xs (fun i x c => pf th (n + bd k nn i) c x)
      hbBW hl hnc hcm (by omega) hxs (fun b e => by subst e; exact ⟨hpB, hpW.lt⟩) (fun c' W1 W2 _ hk hs => (hk pp rfl).trans hs) hpW (by omega)
      (fun i t c t1 c1 _ hr => by
        unfold pf at hr
        split at hr
        · cases hr
        · rename_i t' ht'
          cases hr
          have := fl_nd th t _ t' ht'
          omega)
      (fun i t v W' c' ht hrd hfr hst hlo => by
        have hmem := List.mem_of_getElem? ht
        have h1 := dpL_mem hmem
        have h2 := nd_mem hmem
        have hi : i < xs.length := (List.getElem?_eq_some_iff.1 ht).1
        have h3 : nd t ≤ ndL (xs.drop i) := by rw [drop_at ht, ndL]; omega
        have h4 : i ≤ maxLen := by unfold maxLen at hcm ⊢; omega
        exact closFC (ih t hmem) i v (hb.trans ((hbW.mono hb.size).trans (hfr.to_below (fun i e => by subst e; exact hpB) (by have := hbW.size; omega)))) hpB hst hth hrd (hnos t hmem) h0 (by omega) (hos t hmem) (by omega) (x0.fr hfr (by omega)) (x2.fr hfr (by omega)) (x1.fr hfr (by omega)) hnc hcm h4 (by omega) (by omega) (by omega))
    rw [ea_fill, show flL th k nn xs 0 n = flL th k xs.length xs 0 n from by rw [hl]] at hE
    have hnd2 : ∀ ys, flL th k xs.length xs 0 n = .ok ys → ndL ys ≤ 4000 * ndL xs := fun ys he => flL_nd th k xs.length xs 0 n ys he
    have herr : ∀ e, flL th k xs.length xs 0 n = .error e → e ≠ 0 := fun e he => flL_err th k xs.length xs 0 n e he
    obtain ⟨FR, hFR⟩ : ∃ FR, FR = flL th k xs.length xs 0 n := ⟨_, rfl⟩
    generalize pf th n c (.node k h xs) = R at *
    rw [← hFR] at hE hnd2 herr hR
    have hbnd : ∀ ys, FR = .ok ys → c + ndL ys + 1 ≤ 4611686018427387904 := fun ys he => by have := hnd2 ys he; omega
    have HWF := Lib.hid (And.intro wfk wfh)
    have HE := Lib.hid hE; clear hE
    have HW := Lib.hid hW; clear hW
    have HBW := Lib.hid hbW; clear hbW
    clear hv hv' hno ho hxs hn hc hth hp hpW hbBW hb ih hFR hnd2 wfk wfh hos hnos hdp hnd hlen hnc hcm hpB
    have e6 : (k == 6) = false := by simpa using hk6
    clear hk6
    go_enter Tryz.func70, Tryz.ntmps70
    go_wp2_with fail
    rw [HW.out]
    clear HW
    refine HE.out.mono ?_
    clear HE
    cases FR with
    | error ec =>
      rintro e w1 ⟨rfl, hne, hfr⟩
      have HR := Lib.hid (show R = .error ec from hR); clear hR
      have hne' : (ec != 0) = true := by simpa using hne
      have y3 := x3.fr hfr (by omega)
      have HFW := Lib.hid ((Fr.below (X := fun b => b = pp) HBW.out).trans hfr fun _ _ e => e); clear hfr
      have HNE := Lib.hid hne; clear hne
      clear x0 x1 x2 x3 herr hbnd
      obtain ⟨r0, r1, r2⟩ := y3.three
      have f0 := y3.frozen 0
      have f1 := y3.frozen 1
      have f2 := y3.frozen 2
      have ly := y3.lt
      go_wp2_with fail
      refine bodyPost_ret (v := .tuple #[zT, .int .i64 ec]) (by simp [results, Tryz.results70, go_sem, r0, r1, r2]) rfl ?_
      rw [HR.out]
      exact ⟨rfl, HNE.out, HFW.out.set3 (fun h => by omega) _ _ _⟩
    | ok ys =>
      rintro e w1 ⟨A9, n9, c9, rfl, hrl, hfr, hst⟩
      have HR := Lib.hid (show R = .ok (kp (c + ndL ys + 1) (.node k h (kpL c ys)), c + ndL ys + 1) from hR); clear hR
      have hbd := hbnd ys rfl
      have y0 := x0.fr hfr (by omega)
      have y1 := x1.fr hfr (by omega)
      have y3 := x3.fr hfr (by omega)
      have hsz := hfr.size
      have l3 := x3.lt
      have HFW := Lib.hid ((Fr.below (X := fun b => b = pp) HBW.out).trans hfr fun _ _ e => e); clear hfr
      clear x0 x1 x2 x3 herr hbnd
      have hnode : RX (fun b => b < W.heap.size) w1 (.node k h (kpL c ys)) (.agg #[.int .i64 k, .int .i64 h, .slice A9 n9 c9]) := RdF_node.2 ⟨A9, n9, c9, rfl, HWF.out.1, HWF.out.2, hrl.len, hrl.le, hrl.cap, hrl.at_⟩
      have hkp := keepPC (d := 1) (k := k) (h := h) (A2 := A9) (n2 := n9) (c2 := c9) w1 hst hbd
      obtain ⟨k', h', A', n', c', heq, hrx⟩ := kp_rx (x := c + ndL ys + 1) hnode
      rw [heq, show ((1 : Nat) : Int) = 1 from rfl] at hkp
      have HKP := Lib.hid hkp
      have HRX := Lib.hid hrx
      clear hkp heq hrx hnode hrl hst hbd
      obtain ⟨r0, r1, r2⟩ := y3.three
      obtain ⟨a0, a1, a2⟩ := y1.three
      have d0 := y0.one.1
      have f0 := y3.frozen 0
      have f1 := y3.frozen 1
      have f2 := y3.frozen 2
      have ly := y3.lt
      go_wp2_with fail
      refine HKP.out.mono ?_
      clear HKP
      rintro e w2 ⟨rfl, hfr2, hst2⟩
      have z3 := y3.fr hfr2 (by omega)
      have hsz2 := hfr2.size
      have HF2 := Lib.hid hfr2
      have HS2 := Lib.hid hst2
      clear hfr2 hst2 r0 r1 r2 f0 f1 f2 a0 a1 a2 d0 y0 y1 y3
      obtain ⟨r0, r1, r2⟩ := z3.three
      have f0 := z3.frozen 0
      have f1 := z3.frozen 1
      have f2 := z3.frozen 2
      have lz := z3.lt
      go_wp2_with fail
      refine bodyPost_ret (v := .tuple #[.agg #[.int .i64 k', .int .i64 h', .slice A' n' c'], .int .i64 0]) (by simp [results, Tryz.results70, go_sem, r0, r1, r2]) rfl ?_
      rw [HR.out]
      refine ⟨k', h', A', n', c', rfl, ?_, ((HFW.out.trans HF2.out fun _ _ e => e).set3 (fun h => by omega) _ _ _), Box.other3 HS2.out (by omega) _ _ _⟩
      exact RdF.moveX (fun b hb hl => ⟨by omega, (heap_other3 _ _ _ _ _ _ (by omega)).trans (HF2.out.block b hl (by omega))⟩) _ _ HRX.out
end Go.Proofs.YtbbjjdnnlnabaaaGreat
namespace Go.Proofs.YtbbjjdnnlnabaaaGreat
open Go.ChangeShapes Go.WideShapes Go.ChangeAt Go.RowKit
set_option linter.unusedVariables false
set_option linter.unusedSimpArgs false
set_option maxHeartbeats 8000000
set_option maxRecDepth 100000
def thB (th : List T) : Bool := decide (th.length ≤ 200) && th.all myB
def fiR (th : List T) (n : Int) (t : T) : Except Int T :=
  if (thB th && decide (0 ≤ n) && decide (n ≤ 1000) && myB t) = true then
    match flT th t n with
    | .error e => .error e
    | .ok t' => if myB t' = true then .ok t' else .error 4
  else .error 1
def FnE (r : Except Int T) (w : World) (e : Ending) (w' : World) : Prop :=
  match r with
  | .error ec => e = .returned (.tuple #[zT, .int .i64 ec]) ∧ ec ≠ 0 ∧ Below w.heap.size w w'
  | .ok t => TEnd t 0 w e w'
theorem FnE.below {r : Except Int T} {w w' : World} {e : Ending} (h : FnE r w e w') : Below w.heap.size w w' := by
  cases r with
  | error ec => exact h.2.2
  | ok t =>
    obtain ⟨_, _, _, _, _, _, _, hb⟩ := h
    exact hb
def wc (r : Except Int T) (c : Nat) : Res :=
  match r with
  | .error e => .error e
  | .ok t => .ok (t, c)
theorem FnE.cen {X : Nat → Prop} {r : Except Int T} {c : Nat} {w w' : World} {e : Ending} (h : FnE r w e w') : CEn X (fun _ _ => True) w (wc r c) e w' := by
  cases r with
  | error ec =>
    obtain ⟨rfl, hne, hb⟩ := h
    exact ⟨rfl, hne, Fr.below hb⟩
  | ok t =>
    obtain ⟨k, h, A, n, cc, rfl, hr, hb⟩ := h
    exact ⟨k, h, A, n, cc, rfl, RdF.moveX (fun b hb _ => ⟨by omega, rfl⟩) _ _ hr, Fr.below hb, trivial⟩
theorem fne_of {r : Except Int T} {c : Nat} {w w' : World} {k h : Int} {A : Option Addr} {n cc : Nat} {ec : Int} (o : CO (fun _ _ => True) w.heap.size w' (wc r c) k h A n cc ec) (hb : Below w.heap.size w w') : FnE r w (.returned (.tuple #[.agg #[.int .i64 k, .int .i64 h, .slice A n cc], .int .i64 ec])) w' := by
  cases r with
  | error e' =>
    obtain ⟨rfl, hne, hz⟩ := o
    exact ⟨by rw [hz], hne, hb⟩
  | ok t =>
    obtain ⟨rfl, hr, _⟩ := o
    exact ⟨k, h, A, n, cc, rfl, RdF.moveX (fun b hb _ => ⟨by omega, rfl⟩) _ _ hr, hb⟩
theorem fi_bad {th : List T} {n : Int} {t : T} (h : (thB th && decide (0 ≤ n) && decide (n ≤ 1000) && myB t) = false) : fiR th n t = .error 1 := by
  unfold fiR; rw [h]; rfl
theorem fi_good {th : List T} {n : Int} {t : T} (h1 : thB th = true) (h2 : 0 ≤ n) (h3 : n ≤ 1000) (h4 : myB t = true) : fiR th n t = match flT th t n with
    | .error e => .error e
    | .ok t' => if myB t' = true then .ok t' else .error 4 := by
  unfold fiR; rw [h1, h4]; simp [h2, h3]
theorem byC {th : List T} {A : Option Addr} {m cL : Nat} (w : World) (hn : th.length = m) (hc : m ≤ cL) (hm : cL ≤ maxLen) (hx : ∀ i t, th[i]? = some t → RdAt w A i t) :
    Calls Tryz.prog 50 #[.slice A m cL] w fun e w' => ∃ pm pt, e = .returned (.func (.func 69) #[] #[.pointer (some ⟨pm, 0, none⟩), .pointer (some ⟨pt, 0, none⟩)]) ∧ Box w' pm 4 #[.bool (thB th)] ∧ Box w' pt 24 #[.slice A m cL] ∧ Below w.heap.size w w' := by
  have hmf : ∀ (fn : Fn) (first cap : Array Value) (w : World), (Instr.makeFunc fn first cap).run Tryz.prog w = .ok (.func fn first cap) w := fun _ _ _ _ => rfl
  have hb : Below w.heap.size w (w.alloc (.cells #[.slice A m cL] 24)) := (Below.refl _ _).alloc (Nat.le_refl _) _
  have x0 := Box.new w 24 #[.slice A m cL]
  have HC := Lib.hid (containsC th A m cL (w.alloc (.cells #[.slice A m cL] 24)) hn hc hm fun i t ht => RdAt.keep hb (hx i t ht))
  obtain ⟨β, hβ⟩ : ∃ β, th.all myB = β := ⟨_, rfl⟩
  have hT : thB th = (decide (m ≤ 200) && β) := by rw [thB, hn, hβ]
  rw [hβ] at HC
  rw [hT]
  clear hT hβ hx hn hc hm
  by_cases hl : m ≤ 200
  · have d1 : decide ((m : Int) ≤ 200) = true := by simp; omega
    have d2 : decide (m ≤ 200) = true := by simpa using hl
    rw [d2]
    clear d2 hl
    go_enter Tryz.func50, Tryz.ntmps50
    go_wp2_with fail
    refine HC.out.mono ?_
    clear HC
    rintro e w1 ⟨rfl, hb1⟩
    have y0 := x0.keep hb1 x0.lt
    have hbw := hb.trans (hb1.mono hb.size)
    have hfin : ∀ v, Box (w1.alloc (.cells #[v] 4)) w1.heap.size 4 #[v] ∧ Box (w1.alloc (.cells #[v] 4)) w.heap.size 24 #[.slice A m cL] ∧ Below w.heap.size w (w1.alloc (.cells #[v] 4)) := fun v => ⟨Box.new _ _ _, y0.alloc _, hbw.alloc hbw.size _⟩
    have HFIN := Lib.hid hfin
    clear hfin y0 hbw hb1 hb x0
    cases β
    all_goals
      go_wp2_with fail
      go_ret
      exact ⟨_, _, rfl, (HFIN.out _).1, (HFIN.out _).2.1, (HFIN.out _).2.2⟩
  · have d1 : decide ((m : Int) ≤ 200) = false := by simp; omega
    have d2 : decide (m ≤ 200) = false := by simpa using hl
    rw [d2]
    have HFIN := Lib.hid fun v => (⟨(Box.new _ _ _).at (by simp), x0.alloc _, hb.alloc hb.size _⟩ : Box ((w.alloc (.cells #[.slice A m cL] 24)).alloc (.cells #[v] 4)) (w.heap.size + 1) 4 #[v] ∧ Box ((w.alloc (.cells #[.slice A m cL] 24)).alloc (.cells #[v] 4)) w.heap.size 24 #[.slice A m cL] ∧ Below w.heap.size w ((w.alloc (.cells #[.slice A m cL] 24)).alloc (.cells #[v] 4)))
    clear d2 hl HC x0 hb
    go_enter Tryz.func50, Tryz.ntmps50
    go_wp2_with fail
    go_ret
    exact ⟨_, _, rfl, (HFIN.out _).1, (HFIN.out _).2.1, (HFIN.out _).2.2⟩
theorem byFC {th : List T} {t : T} {A : Option Addr} {m cL : Nat} {n : Int} {pm pt : Nat} {k h : Int} {At : Option Addr} {nt ct : Nat} (w : World) (hn : th.length = m) (hc : m ≤ cL) (hm : cL ≤ maxLen) (hx : ∀ i t, th[i]? = some t → RdAt w A i t)
    (xm : Box w pm 4 #[.bool (thB th)]) (xt : Box w pt 24 #[.slice A m cL]) (hv : Rd w t (.agg #[.int .i64 k, .int .i64 h, .slice At nt ct])) (hok : ∀ x ∈ th, myB x = true → okT 2199023255552 x) (ho : myB t = true → okT 2199023255552 t) :
    Calls Tryz.prog 69 #[.agg #[.int .i64 k, .int .i64 h, .slice At nt ct], .int .i64 n, .pointer (some ⟨pm, 0, none⟩), .pointer (some ⟨pt, 0, none⟩)] w (FnE (fiR th n t) w) := by
  obtain ⟨W, hW⟩ : ∃ W, (w.alloc (.cells #[.int .i64 k, .int .i64 h, .slice At nt ct] 39)).alloc (.cells #[.int .i64 0, .int .i64 0, .slice none 0 0] 39) = W := ⟨_, rfl⟩
  have hb : Below w.heap.size w W := by rw [← hW]; exact ((Below.refl _ _).alloc (Nat.le_refl _) _).alloc (by simp) _
  have x0 : Box W w.heap.size 39 #[.int .i64 k, .int .i64 h, .slice At nt ct] := by rw [← hW]; exact (Box.new _ _ _).alloc _
  have x1 : Box W (w.heap.size + 1) 39 #[.int .i64 0, .int .i64 0, .slice none 0 0] := by rw [← hW]; exact (Box.new (w.alloc _) _ _).at (by simp)
  have lm := xm.lt
  have lt := xt.lt
  have lm1 : pm < w.heap.size + 1 := by omega
  have m0 := xm.one.1
  have HBAD : Hid ((thB th && decide (0 ≤ n) && decide (n ≤ 1000) && myB t) = false → ∀ w', Below w.heap.size w w' → FnE (fiR th n t) w (.returned (.tuple #[zT, .int .i64 1])) w') := Lib.hid fun h w' hb' => by
    rw [fi_bad h]
    exact ⟨rfl, by decide, hb'⟩
  have HMN := Lib.hid (mayNotC t _ W (Rd.keep hb _ _ hv))
  have HGO : Hid (thB th = true → 0 ≤ n → n ≤ 1000 → myB t = true → fiR th n t = (match flT th t n with
    | .error e => .error e
    | .ok t' => if myB t' = true then .ok t' else .error 4) ∧ ∀ W' pp, Below w.heap.size w W' → w.heap.size ≤ pp → ptB W' pp A m cL 0 → Calls Tryz.prog 70 #[.pointer (some ⟨pp, 0, none⟩), .agg #[.int .i64 k, .int .i64 h, .slice At nt ct], .int .i64 n] W' (CEn (fun b => b = pp) (fun c w' => ptB w' pp A m cL c) W' (pf th n 0 t))) := Lib.hid fun h1 h2 h3 h4 => by
    refine ⟨fi_good h1 h2 h3 h4, fun W' pp hb' hpp hpt => ?_⟩
    have hall : ∀ x ∈ th, myB x = true := by
      unfold thB at h1
      rw [Bool.and_eq_true] at h1
      exact List.all_eq_true.1 h1.2
    obtain ⟨a1, a2, a3⟩ := (myB_iff t).1 h4
    exact fillC th t w W' pp A m cL n 0 _ hb' hpp hpt ⟨hall, fun x hx => hok x hx (hall x hx), hn, hc, hm, hx⟩ hv a1 h2 (by omega) (ho h4) (by omega)
  have HXT := Lib.hid xt
  have HB := Lib.hid hb
  clear hx hv hok ho hn hc hm xt xm
  generalize fiR th n t = R at *
  generalize hpf : pf th n 0 t = P at *
  have hpf' : P = match flT th t n with
    | .error e => .error e
    | .ok t' => .ok (kp (nd t') t', nd t') := by rw [← hpf, pf]; simp only [Nat.zero_add] <;> (cases flT th t n <;> rfl)
  generalize flT th t n = FR at *
  clear hpf
  have HPF := Lib.hid hpf'; clear hpf'
  generalize thB th = bT at *
  generalize myB t = bM at *
  have HW := Lib.hid hW; clear hW hb
  obtain ⟨r0, r1, r2⟩ := x1.three
  have f0 := x1.frozen 0
  have f1 := x1.frozen 1
  have f2 := x1.frozen 2
  cases bT
  · go_enter Tryz.func69, Tryz.ntmps69
    go_wp2_with fail
    refine bodyPost_ret (v := .tuple #[zT, .int .i64 1]) (by simp [results, Tryz.results69, go_sem]) rfl ?_
    exact HBAD.out (by simp) _ (((Below.refl _ _).alloc (Nat.le_refl _) _).alloc (by simp) _)
  by_cases h2 : n < 0
  · have d1 : decide (n < 0) = true := by simpa using h2
    have d2 : decide (0 ≤ n) = false := by simp; omega
    rw [d2] at HBAD
    clear d2 h2
    go_enter Tryz.func69, Tryz.ntmps69
    go_wp2_with fail
    refine bodyPost_ret (v := .tuple #[zT, .int .i64 1]) (by simp [results, Tryz.results69, go_sem]) rfl ?_
    exact HBAD.out (by simp) _ (((Below.refl _ _).alloc (Nat.le_refl _) _).alloc (by simp) _)
  have d1 : decide (n < 0) = false := by simpa using h2
  by_cases h3 : 1000 < n
  · have d3 : decide (1000 < n) = true := by simpa using h3
    have d2 : decide (n ≤ 1000) = false := by simp; omega
    rw [d2] at HBAD
    clear d2 h2 h3
    go_enter Tryz.func69, Tryz.ntmps69
    go_wp2_with fail
    refine bodyPost_ret (v := .tuple #[zT, .int .i64 1]) (by simp [results, Tryz.results69, go_sem]) rfl ?_
    exact HBAD.out (by simp) _ (((Below.refl _ _).alloc (Nat.le_refl _) _).alloc (by simp) _)
  have d3 : decide (1000 < n) = false := by simpa using h3
  have HN := Lib.hid (And.intro (show 0 ≤ n by omega) (show n ≤ 1000 by omega)); clear h2 h3
  go_enter Tryz.func69, Tryz.ntmps69
  go_wp2_with fail
  rw [HW.out]
  clear HW
  refine HMN.out.mono ?_
  clear HMN
  rintro e w1 ⟨rfl, hb1⟩
  have y0 := x0.keep hb1 x0.lt
  have y1 := x1.keep hb1 x1.lt
  have hbw := HB.out.trans (hb1.mono HB.out.size)
  have yt := HXT.out.keep hbw lt
  have l1 := y1.lt
  have l0 := y0.lt
  clear x0 x1 hb1 r0 r1 r2 f0 f1 f2 HB HXT
  obtain ⟨r0, r1, r2⟩ := y1.three
  have f0 := y1.frozen 0
  have f1 := y1.frozen 1
  have f2 := y1.frozen 2
  cases bM
  · have HBW := Lib.hid hbw; clear hbw
    go_wp2_with fail
    refine bodyPost_ret (v := .tuple #[zT, .int .i64 1]) (by simp [results, Tryz.results69, go_sem, r0, r1, r2]) rfl ?_
    exact HBAD.out (by simp) _ (below_set3 HBW.out (by omega) _ _ _)
  obtain ⟨hR, hFI⟩ := HGO.out (by trivial) HN.out.1 HN.out.2 (by trivial)
  have HRR := Lib.hid hR; clear hR
  obtain ⟨W2, hW2⟩ : ∃ W2, w1.alloc (.cells #[.slice A m cL, .int .i64 0] 99) = W2 := ⟨_, rfl⟩
  have hb2 : Below w1.heap.size w1 W2 := by rw [← hW2]; exact (Below.refl _ _).alloc (Nat.le_refl _) _
  have z0 := y0.keep hb2 y0.lt
  have z1 := y1.keep hb2 y1.lt
  have lz1 := z1.lt
  have zp : ptB W2 w1.heap.size A m cL 0 := by rw [← hW2]; exact Box.new _ _ _
  have hbw2 := hbw.trans (hb2.mono hbw.size)
  have hsw := hbw.size
  have HF := Lib.hid (hFI W2 w1.heap.size hbw2 hsw zp); clear hFI HGO
  have HBW := Lib.hid hbw2; clear hbw2 hbw hb2
  have HW2 := Lib.hid hW2; clear hW2
  have t0 := yt.one.1
  obtain ⟨a0, a1, a2⟩ := y0.three
  obtain ⟨b0, b1, b2⟩ := z0.three
  go_wp2_with fail
  rw [HW2.out]
  clear HW2
  refine HF.out.mono ?_
  clear HF
  rw [HPF.out]
  clear HPF HBAD
  cases FR with
  | error ec =>
    have HR := Lib.hid (show R = .error ec from HRR.out); clear HRR
    rintro e w3 ⟨rfl, hne, hfr⟩
    have hne' : (ec != 0) = true := by simpa using hne
    have hne2 : (ec == 0) = false := by simpa using hne
    have u1 := z1.fr hfr (by omega)
    have HB3 := Lib.hid (HBW.out.trans (hfr.to_below (B := w.heap.size) (fun i e => by omega) HBW.out.size)); clear hfr
    have HNE := Lib.hid hne; clear hne
    clear y0 y1 yt z0 z1 zp t0 a0 a1 a2 b0 b1 b2 r0 r1 r2 f0 f1 f2
    obtain ⟨r0, r1, r2⟩ := u1.three
    have f0 := u1.frozen 0
    have f1 := u1.frozen 1
    have f2 := u1.frozen 2
    have lu := u1.lt
    have hszw := HB3.out.size
    go_wp2_with fail
    refine bodyPost_ret (v := .tuple #[zT, .int .i64 ec]) (by simp [results, Tryz.results69, go_sem, r0, r1, r2, lu]) rfl ?_
    rw [HR.out]
    refine ⟨rfl, HNE.out, ?_⟩
    exact (below_set3 HB3.out (by omega) _ _ _).alloc (by simp [World.setCell]; omega) _
  | ok t' =>
    rintro e w3 ⟨k3, h3, A3, n3, c3, rfl, hrx, hfr, hst⟩
    have u1 := z1.fr hfr (by omega)
    have HB3 := Lib.hid (HBW.out.trans (hfr.to_below (B := w.heap.size) (fun i e => by omega) HBW.out.size)); clear hfr hst
    have hbD : Below w3.heap.size w3 (w3.alloc (.cells #[.int .i64 k3, .int .i64 h3, .slice A3 n3 c3] 39)) := (Below.refl _ _).alloc (Nat.le_refl _) _
    have u2 := u1.keep hbD u1.lt
    have xq := Box.new w3 39 #[.int .i64 k3, .int .i64 h3, .slice A3 n3 c3]
    have hrD : RX (fun b => b < W2.heap.size) (w3.alloc (.cells #[.int .i64 k3, .int .i64 h3, .slice A3 n3 c3] 39)) (kp (nd t') t') (.agg #[.int .i64 k3, .int .i64 h3, .slice A3 n3 c3]) := RdF.moveX (fun b hb hl => ⟨hb, hbD.block b hl⟩) _ _ hrx
    have HMN := Lib.hid (mayNotC _ _ _ (RX.rd hrD))
    rw [my_kp] at HMN
    have HRD := Lib.hid hrD
    replace HB3 := Lib.hid (HB3.out.trans (hbD.mono HB3.out.size))
    clear y0 y1 yt z0 z1 zp t0 a0 a1 a2 b0 b1 b2 r0 r1 r2 f0 f1 f2 hrx hrD hbD u1
    have hkm : myB t' = true → kp (nd t') t' = t' := kp_my
    generalize kp (nd t') t' = kt at *
    have HKM := Lib.hid hkm; clear hkm
    obtain ⟨bm, hbm⟩ : ∃ bm, myB t' = bm := ⟨_, rfl⟩
    have hR : R = if myB t' = true then .ok t' else .error 4 := HRR.out
    clear HRR
    rw [hbm] at HMN HKM hR
    have HR := Lib.hid hR; clear hR hbm
    have hszw := HB3.out.size
    go_wp2_with fail
    refine HMN.out.mono ?_
    clear HMN
    rintro e w4 ⟨rfl, hb4⟩
    have v1 := u2.keep hb4 u2.lt
    have vq := xq.keep hb4 xq.lt
    replace HRD := Lib.hid (RdF.moveX (ok' := fun b => ¬ b < W2.heap.size) (fun b hb hl => ⟨hb, hb4.block b hl⟩) _ _ HRD.out)
    replace HB3 := Lib.hid (HB3.out.trans (hb4.mono HB3.out.size))
    have hbl := HBW.out.size
    clear hb4 u2 xq
    obtain ⟨r0, r1, r2⟩ := v1.three
    obtain ⟨q0, q1, q2⟩ := vq.three
    have f0 := v1.frozen 0
    have f1 := v1.frozen 1
    have f2 := v1.frozen 2
    have lu := v1.lt
    cases bm
    · go_wp2_with fail
      refine bodyPost_ret (v := .tuple #[zT, .int .i64 4]) (by simp [results, Tryz.results69, go_sem, r0, r1, r2]) rfl ?_
      rw [HR.out]
      exact ⟨rfl, by decide, below_set3 HB3.out (by omega) _ _ _⟩
    · go_wp2_with fail
      refine bodyPost_ret (v := .tuple #[.agg #[.int .i64 k3, .int .i64 h3, .slice A3 n3 c3], .int .i64 0]) (by simp [results, Tryz.results69, go_sem, r0, r1, r2]) rfl ?_
      have hk := HKM.out (by trivial)
      subst hk
      rw [HR.out]
      exact ⟨k3, h3, A3, n3, c3, rfl, RdF.moveX (fun b hb hl => ⟨by omega, heap_other3 _ _ _ _ _ _ (by omega)⟩) _ _ HRD.out, below_set3 HB3.out (by omega) _ _ _⟩
end Go.Proofs.YtbbjjdnnlnabaaaGreat
namespace Go.Proofs.YtbbjjdnnlnabaaaGreat
open Go.ChangeShapes Go.WideShapes Go.ChangeAt Go.RowKit
set_option linter.unusedVariables false
set_option linter.unusedSimpArgs false
set_option maxHeartbeats 4000000
set_option maxRecDepth 100000
structure ThI (th : List T) (w : World) (A : Option Addr) (m cL : Nat) : Prop where
  ok : ∀ x ∈ th, myB x = true → okT 2199023255552 x
  len : th.length = m
  le : m ≤ cL
  cap : cL ≤ maxLen
  at_ : ∀ i x, th[i]? = some x → RdAt w A i x
theorem ThI.keep {th : List T} {w w' : World} {A : Option Addr} {m cL : Nat} (h : ThI th w A m cL) (hb : Below w.heap.size w w') : ThI th w' A m cL :=
  ⟨h.ok, h.len, h.le, h.cap, fun i x hx => RdAt.keep hb (h.at_ i x hx)⟩
theorem FillC {th : List T} {t : T} {A : Option Addr} {m cL : Nat} {n : Int} {v : Value} (w : World) (hth : ThI th w A m cL) (hv : Rd w t v) (ho : myB t = true → okT 2199023255552 t) :
    Calls Tryz.prog 36 #[v, .slice A m cL, .int .i64 n] w (FnE (fiR th n t) w) := by
  obtain ⟨k, h, At, nt, ct, rfl⟩ := hv.full
  obtain ⟨W, hW⟩ : ∃ W, (w.alloc (.cells #[.int .i64 k, .int .i64 h, .slice At nt ct] 39)).alloc (.cells #[.int .i64 0, .int .i64 0, .slice none 0 0] 39) = W := ⟨_, rfl⟩
  have hb : Below w.heap.size w W := by rw [← hW]; exact ((Below.refl _ _).alloc (Nat.le_refl _) _).alloc (by simp) _
  have x0 : Box W w.heap.size 39 #[.int .i64 k, .int .i64 h, .slice At nt ct] := by rw [← hW]; exact (Box.new _ _ _).alloc _
  have x1 : Box W (w.heap.size + 1) 39 #[.int .i64 0, .int .i64 0, .slice none 0 0] := by rw [← hW]; exact (Box.new (w.alloc _) _ _).at (by simp)
  have HBY := Lib.hid fun W' (h' : Below w.heap.size w W') => byC W' hth.len hth.le hth.cap (hth.keep h').at_
  have HCL := Lib.hid fun W' (h' : Below w.heap.size w W') pm pt hm ht => byFC (n := n) (pm := pm) (pt := pt) W' hth.len hth.le hth.cap (hth.keep h').at_ hm ht (Rd.keep h' _ _ hv) hth.ok ho
  have HW := Lib.hid hW; clear hW hth hv ho
  generalize fiR th n t = R at *
  obtain ⟨a0, a1, a2⟩ := x0.three
  have HB := Lib.hid hb
  go_enter Tryz.func36, Tryz.ntmps36
  go_wp2_with fail
  rw [HW.out]
  clear HW
  have hcur : Below W.heap.size W W.drew := (Below.refl _ W).drew
  have szW := HB.out.size
  go_region_held3 (fun w' => w'.cell? ⟨w.heap.size, 0, none⟩ = some (.int .i64 k) ∧ w'.cell? ⟨w.heap.size, 1, none⟩ = some (.int .i64 h) ∧ w'.cell? ⟨w.heap.size, 2, none⟩ = some (.slice At nt ct))
    (first | exact ⟨a0, a1, a2⟩ | exact ⟨q1.three.1, q1.three.2.1, q1.three.2.2⟩ | exact ⟨r1.three.1, r1.three.2.1, r1.three.2.2⟩ | exact ⟨o1.three.1, o1.three.2.1, o1.three.2.2⟩)
    (first
      | (go_at_call 50
         refine (HBY.out _ (HB.out.trans (hcur.mono HB.out.size))).mono ?_
         rintro e w1 ⟨pm, pt, rfl, xm, xt, hb1⟩
         replace hcur := hcur.trans (hb1.mono hcur.size)
         have q1 := x0.keep hcur x0.lt
         have q2 := x1.keep hcur x1.lt
         have HXM := Lib.hid xm
         have HXT := Lib.hid xt
         clear hb1 xm xt)
      | (go_at_call 69
         refine (HCL.out _ (HB.out.trans (hcur.mono HB.out.size)) pm pt HXM.out HXT.out).mono ?_
         intro e w2 hE
         have hbE := hE.below
         obtain ⟨k3, h3, A3, n3, c3, ec, rfl, hout, hfr⟩ := (hE.cen (X := fun _ => False) (c := 0)).uni
         have r1 := q1.keep hbE q1.lt
         have r2 := q2.keep hbE q2.lt
         have s2 := r2.lt
         have s3 := hcur.size
         have s5 := x1.lt
         have HO := Lib.hid hout
         have HBE := Lib.hid hbE
         have HCU := Lib.hid hcur
         clear hout hE hfr hbE
         obtain ⟨y0, y1, y2⟩ := r2.three
         have f0 := r2.frozen 0
         have f1 := r2.frozen 1
         have f2 := r2.frozen 2
         have o1 := r1.other3 (a := w.heap.size + 1) (by omega) (.int .i64 k3) (.int .i64 h3) (.slice A3 n3 c3)))
  clear o1
  go_wp2_with fail
  refine bodyPost_ret (v := .tuple #[.agg #[.int .i64 k3, .int .i64 h3, .slice A3 n3 c3], .int .i64 ec]) (by simp [results, Tryz.results36, go_sem, y0, y1, y2]) rfl ?_
  exact fne_of (HO.out.move (B' := w.heap.size) (by omega) (fun g hg _ => heap_other3 _ _ _ _ _ _ (by omega)) fun _ _ _ _ => trivial) (below_set3 ((HB.out.trans (HCU.out.mono HB.out.size)).trans (HBE.out.mono (by omega))) (by omega) _ _ _)
end Go.Proofs.YtbbjjdnnlnabaaaGreat
