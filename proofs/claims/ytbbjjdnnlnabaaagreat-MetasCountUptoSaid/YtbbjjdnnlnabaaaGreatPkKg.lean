/- Texts of one proof, put together. No statement is proved here. -/
import Derived.Test.YtbbjjdnnlnabaaaGreatPkK
namespace Go.Proofs.YtbbjjdnnlnabaaaGreat
open Go.ChangeShapes Go.WideShapes Go.ChangeAt Go.RowKit
set_option linter.unusedVariables false
set_option linter.unusedSimpArgs false
set_option maxHeartbeats 1000000
set_option maxRecDepth 100000
theorem node_parts {k h : Int} {xs : List T} (h1 : nodB (.node k h xs) = true) : okN k h xs.length = true ∧ ∀ x ∈ xs, nodB x = true := by
  rw [nodB, Bool.and_eq_true] at h1
  exact ⟨h1.1, fun x hx => nodL_mem h1.2 hx⟩
theorem ok_parts {M k h : Int} {xs : List T} (h1 : okT M (.node k h xs)) : ∀ x ∈ xs, okT M x := fun x hx => by
  rw [okT] at h1
  exact okL_mem h1.2 hx
theorem RXL.adv' {B : Nat} {w w' : World} {xs : List T} {A : Option Addr} {n c : Nat} (h : RXL (fun b => b < B) w xs A n c) (hb : Below w.heap.size w w') : RXL (fun b => b < B) w' xs A n c :=
  ⟨h.len, h.le, h.cap, fun i t ht => RdFAt.moveX (fun b hb' hl => ⟨hb', hb.block b hl⟩) (h.at_ i t ht)⟩
theorem rx_of {B B' : Nat} {w w' : World} {t : T} {v : Value} (h : RdF (fun b => B' ≤ b) w t v) (hB : B ≤ B') (hm : ∀ b, B' ≤ b → b < w.heap.size → w'.heap[b]? = w.heap[b]?) : RX (fun b => b < B) w' t v := RdF.moveX (fun b hb hl => ⟨by omega, hm b hb hl⟩) _ _ h
theorem kp_rx {B : Nat} {w : World} {t : T} {k h : Int} {A : Option Addr} {n cc x : Nat} (hr : RX (fun b => b < B) w t (.agg #[.int .i64 k, .int .i64 h, .slice A n cc])) : ∃ k' h' A' n' c', (if 4000 < x then Value.agg #[.int .i64 7, .int .i64 0, .slice none 0 0] else .agg #[.int .i64 k, .int .i64 h, .slice A n cc]) = .agg #[.int .i64 k', .int .i64 h', .slice A' n' c'] ∧ RX (fun b => b < B) w (kp x t) (.agg #[.int .i64 k', .int .i64 h', .slice A' n' c']) := by
  unfold kp
  by_cases hx : 4000 < x
  · rw [if_pos hx, if_pos hx]
    exact ⟨7, 0, none, 0, 0, rfl, RdF_node.2 ⟨none, 0, 0, rfl, by decide, by decide, rfl, Nat.le_refl _, Nat.zero_le _, fun i t ht => by simp at ht⟩⟩
  · rw [if_neg hx, if_neg hx]
    exact ⟨k, h, A, n, cc, rfl, hr⟩
theorem becomeC {th : List T} {h : Int} {xs : List T} (hF : ∀ x ∈ xs, FiC th x) {wB w : World} {pp : Nat} {A : Option Addr} {m cL : Nat} {n : Int} {c : Nat} {An : Option Addr} {nn cc : Nat}
    (hb : Below wB.heap.size wB w) (hpB : wB.heap.size ≤ pp) (hp : ptB w pp A m cL c) (hth : ThK th wB A m cL) (hv : Rd wB (.node 6 h xs) (.agg #[.int .i64 6, .int .i64 h, .slice An nn cc])) (hno : nodB (.node 6 h xs) = true)
    (h0 : 0 ≤ n) (hn : n + dp (.node 6 h xs) ≤ 4000) (ho : okT 2199023255552 (.node 6 h xs)) (hc : c + 4000 * nd (.node 6 h xs) ≤ 1125899906842624) :
    Calls Tryz.prog 87 #[.pointer (some ⟨pp, 0, none⟩), .agg #[.int .i64 6, .int .i64 h, .slice An nn cc], .int .i64 n] w (CEn (fun b => b = pp) (fun c w' => ptB w' pp A m cL c) w (pf th n c (.node 6 h xs))) := by
  obtain ⟨An', nn', cc', e, _, wfh, hl, hnc, hcm, hxs⟩ := Rd_node.1 hv
  simp only [Value.agg.injEq] at e
  have e' : An = An' ∧ nn = nn' ∧ cc = cc' := by simpa using e
  obtain ⟨rfl, rfl, rfl⟩ := e'
  clear e
  obtain ⟨hok, hnos⟩ := node_parts hno
  have hh0 : 0 ≤ h := by rcases okN_cases hok with ⟨e, _⟩ | ⟨e, _⟩ | ⟨e, _⟩ | ⟨e, he⟩ | ⟨e, he⟩ | ⟨e, he⟩ | ⟨e, he⟩ <;> first | exact he | omega
  have hos := ok_parts ho
  have hdp : dp (.node 6 h xs) = 1 + dpL xs := by rw [dp]
  have hnd : nd (.node 6 h xs) = 1 + ndL xs := by rw [nd]
  have hlen := (wdL_nd xs).2
  have lp := hp.lt
  have szB := hb.size
  obtain ⟨W, hW⟩ : ∃ W, (((w.alloc (.cells #[.pointer (some ⟨pp, 0, none⟩)] 117)).alloc (.cells #[.int .i64 6, .int .i64 h, .slice An nn cc] 39)).alloc (.cells #[.int .i64 n] 3)).alloc (.cells #[.int .i64 0, .int .i64 0, .slice none 0 0] 39) = W := ⟨_, rfl⟩
  have hbW : Below w.heap.size w W := by rw [← hW]; exact ((((Below.refl _ _).alloc (Nat.le_refl _) _).alloc (by simp) _).alloc (by simp; omega) _).alloc (by simp; omega) _
  have x0 : Box W w.heap.size 117 #[.pointer (some ⟨pp, 0, none⟩)] := by rw [← hW]; exact (((Box.new _ _ _).alloc _).alloc _).alloc _
  have x1 : Box W (w.heap.size + 1) 39 #[.int .i64 6, .int .i64 h, .slice An nn cc] := by rw [← hW]; exact (((Box.new (w.alloc _) _ _).at (by simp)).alloc _).alloc _
  have x2 : Box W (w.heap.size + 1 + 1) 3 #[.int .i64 n] := by rw [← hW]; exact ((Box.new ((w.alloc _).alloc _) _ _).at (by simp)).alloc _
  have x3 : Box W (w.heap.size + 1 + 1 + 1) 39 #[.int .i64 0, .int .i64 0, .slice none 0 0] := by rw [← hW]; exact (Box.new (((w.alloc _).alloc _).alloc _) _ _).at (by simp)
  have hpW := hp.keep hbW lp
  have hE := eachBC (X := fun b => b = pp) (St := fun c w' => ptB w' pp A m cL c) (p1 := .pointer (some ⟨w.heap.size, 0, none⟩)) (p2 := .pointer (some ⟨w.heap.size + 1 + 1, 0, none⟩)) (wB := wB) (w := W) (A := An) (n := nn) (c := cc) (c0 := c) (M := 1125899906842624) xs (fun _ x c => po th n c x)
    (hb.trans (hbW.mono hb.size)) hl hnc hcm (by omega) hxs (fun b e => by subst e; exact ⟨hpB, hpW.lt⟩) (fun c' W1 W2 _ hk hs => (hk pp rfl).trans hs) hpW (by omega)
    (fun i t c t1 c1 _ hr => by
      unfold po at hr
      split at hr
      · cases hr
      · cases hr; omega)
    (fun i t v W' c' ht hrd hfr hst hlo => by
      have hmem := List.mem_of_getElem? ht
      have h1 := dpL_mem hmem
      have h2 := nd_mem hmem
      exact closBC (hF t hmem) i v (hb.trans ((hbW.mono hb.size).trans (hfr.to_below (fun i e => by subst e; exact hpB) (by have := hbW.size; omega)))) hst hth hrd (hnos t hmem) h0 (by omega) (hos t hmem) (by omega) (x0.fr hfr (by omega)) (x2.fr hfr (by omega)))
  rw [ea_own, show flL th 6 xs.length xs 0 n = flL th 6 nn xs 0 n from by rw [hl]] at hE
  have hR := pf_meta th n h xs c
  rw [hl, hth.len] at hR
  generalize pf th n c (.node 6 h xs) = R at *
  have HW := Lib.hid hW; clear hW
  have HB := Lib.hid hb; clear hb
  have HBW := Lib.hid hbW; clear hbW
  have HTH := Lib.hid hth; clear hth
  have HO := Lib.hid ho
  clear hv hno ho hxs hnos hos hF
  go_enter Tryz.func87, Tryz.ntmps87
  go_wp2_with fail
  rw [HW.out]
  clear HW
  refine hE.mono ?_
  clear hE
  obtain ⟨FR, hFR⟩ : ∃ FR, FR = flL th 6 nn xs 0 n := ⟨_, rfl⟩
  have herr : ∀ e, flL th 6 nn xs 0 n = .error e → e ≠ 0 := fun e he => flL_err th 6 nn xs 0 n e he
  have hhd : ∀ ys, flL th 6 nn xs 0 n = .ok ys → ys.length = nn ∧ ∀ y ∈ ys, LoT y := fun ys he => ⟨by rw [flL_len th 6 nn xs 0 n ys he, hl], fun y hy => okT_mono (M := hB (dpL xs)) (by unfold hB; omega) _ (okL_mem (flL_heads (th := th) HTH.out.ok 6 nn xs 0 n ys h0 (by omega) (by have h9 := HO.out; rw [okT] at h9; exact h9.2) he) hy)⟩
  have hnd2 : ∀ ys, flL th 6 nn xs 0 n = .ok ys → ndL ys ≤ 4000 * ndL xs := fun ys he => flL_nd th 6 nn xs 0 n ys he
  rw [← hFR] at herr hhd hnd2 hR ⊢
  have hc4 : c ≤ 1125899906842624 := by omega
  clear hFR hdp hnd hlen hn hc hcm hnc wfh hok szB
  cases FR with
  | error ec =>
    rintro e w1 ⟨rfl, hne, hfr⟩
    have HR := Lib.hid (show R = .error ec from hR); clear hR
    have hne' : (ec != 0) = true := by simpa using hne
    have hfw : Fr (fun b => b = pp) w w1 := (Fr.below (X := fun b => b = pp) HBW.out).trans hfr fun _ _ e => e
    have y3 := x3.fr hfr (by omega)
    have HFW := Lib.hid hfw; clear hfw hfr
    have HNE := Lib.hid hne; clear hne
    clear x0 x1 x2 x3 hpW herr hhd hnd2 hp
    obtain ⟨r0, r1, r2⟩ := y3.three
    have f0 := y3.frozen 0
    have f1 := y3.frozen 1
    have f2 := y3.frozen 2
    have ly := y3.lt
    go_wp2_with fail
    refine bodyPost_ret (v := .tuple #[zT, .int .i64 ec]) (by simp [results, Tryz.results87, go_sem, r0, r1, r2]) rfl ?_
    rw [HR.out]
    exact ⟨rfl, HNE.out, HFW.out.set3 (fun h => by omega) _ _ _⟩
  | ok ys =>
    rintro e w1 ⟨A9, n9, c9, rfl, hrl, hfr, hst⟩
    obtain ⟨hyl, hyo⟩ := hhd ys rfl
    have hfw : Fr (fun b => b = pp) w w1 := (Fr.below (X := fun b => b = pp) HBW.out).trans hfr fun _ _ e => e
    have y0 := x0.fr hfr (by omega)
    have y1 := x1.fr hfr (by omega)
    have y2 := x2.fr hfr (by omega)
    have y3 := x3.fr hfr (by omega)
    have HFW := Lib.hid hfw; clear hfw hfr
    have HRL := Lib.hid hrl; clear hrl
    have HST := Lib.hid (show ptB w1 pp A m cL c from hst)
    obtain ⟨p0, p1⟩ := hst.two
    have lp1 := hst.lt
    clear x0 x1 x2 x3 hpW herr hhd hp hst
    obtain ⟨r0, r1, r2⟩ := y3.three
    obtain ⟨a0, a1, a2⟩ := y1.three
    have d0 := y0.one.1
    have e0 := y2.one.1
    have f0 := y3.frozen 0
    have f1 := y3.frozen 1
    have f2 := y3.frozen 2
    have ly := y3.lt
    have hS : w1.cell? ⟨w.heap.size + 1, 1, none⟩ = some (.int .i64 h) ∧ w1.cell? ⟨w.heap.size, 0, none⟩ = some (.pointer (some ⟨pp, 0, none⟩)) ∧ w1.cell? ⟨pp, 0, none⟩ = some (.slice A m cL) := ⟨a1, d0, p0⟩
    by_cases hlt : (m : Int) ≤ h
    · have d1 : decide ((m : Int) ≤ h) = true := by simpa using hlt
      have HR : Hid (R = .error 2) := Lib.hid (by rw [hR]; simp only [if_pos hlt])
      clear hR
      go_wp2_with fail
      go_region_held3 (fun w' => w'.cell? ⟨w.heap.size + 1, 1, none⟩ = some (.int .i64 h) ∧ w'.cell? ⟨w.heap.size, 0, none⟩ = some (.pointer (some ⟨pp, 0, none⟩)) ∧ w'.cell? ⟨pp, 0, none⟩ = some (.slice A m cL))
        (exact hS) (fail)
      go_wp2_with fail
      refine bodyPost_ret (v := .tuple #[zT, .int .i64 2]) (by simp [results, Tryz.results87, go_sem, r0, r1, r2]) rfl ?_
      rw [HR.out]
      exact ⟨rfl, by decide, (HFW.out.set3 (a := w.heap.size + 1 + 1 + 1) (fun h => by omega) _ _ _).then ((Below.refl _ _).drew)⟩
    · have d1 : decide ((m : Int) ≤ h) = false := by simpa using hlt
      go_wp2_with fail
      go_region_held3 (fun w' => w'.cell? ⟨w.heap.size + 1, 1, none⟩ = some (.int .i64 h) ∧ w'.cell? ⟨w.heap.size, 0, none⟩ = some (.pointer (some ⟨pp, 0, none⟩)) ∧ w'.cell? ⟨pp, 0, none⟩ = some (.slice A m cL))
        (exact hS) (fail)
      have hCN := containsC (ys.map fun y => kp (nd y) y) A9 n9 c9 w1.drew HRL.out.len HRL.out.le HRL.out.cap fun i t ht => RdAt.keep ((Below.refl _ _).drew) (rdFAt_rd (HRL.out.at_ i t ht))
      rw [all_kp] at hCN
      obtain ⟨β, hβ⟩ : ∃ β, ys.all myB = β := ⟨_, rfl⟩
      have HBE := Lib.hid hβ
      rw [hβ] at hCN hR
      clear hβ
      go_wp2_with fail
      refine hCN.mono ?_
      clear hCN
      rintro e w2 ⟨rfl, hb2⟩
      have hb2' : Below w1.heap.size w1 w2 := (Below.refl _ w1).drew.trans (hb2.mono (Nat.le_refl _))
      replace y0 := y0.keep hb2' y0.lt
      replace y1 := y1.keep hb2' y1.lt
      replace y2 := y2.keep hb2' y2.lt
      replace y3 := y3.keep hb2' y3.lt
      replace HST := Lib.hid (HST.out.keep hb2' HST.out.lt)
      replace HFW := Lib.hid (HFW.out.then hb2')
      replace HRL := Lib.hid (HRL.out.adv' hb2')
      clear hb2 hb2' r0 r1 r2 a0 a1 a2 d0 e0 f0 f1 f2 ly p0 p1 lp1 hS
      obtain ⟨r0, r1, r2⟩ := y3.three
      have f0 := y3.frozen 0
      have f1 := y3.frozen 1
      have f2 := y3.frozen 2
      have ly := y3.lt
      cases β
      · have HR : Hid (R = .error 4) := Lib.hid (by
          have hlt' : ¬ (m : Int) ≤ h := by omega
          rw [hR]; simp only [if_neg hlt']; simp)
        clear hR
        go_wp2_with fail
        refine bodyPost_ret (v := .tuple #[zT, .int .i64 4]) (by simp [results, Tryz.results87, go_sem, r0, r1, r2]) rfl ?_
        rw [HR.out]
        exact ⟨rfl, by decide, HFW.out.set3 (fun h => by omega) _ _ _⟩
      · have hmy := HBE.out
        rw [map_kp hmy] at HRL
        have hlh : h.toNat < th.length := by rw [HTH.out.len]; omega
        obtain ⟨x, hx⟩ : ∃ x, th.getD h.toNat (.node 0 0 []) = x := ⟨_, rfl⟩
        have hxm : x ∈ th := by rw [← hx]; exact getD_mem _ hlh
        have hxe : th[h.toNat]? = some x := by rw [← hx, List.getD_eq_getElem?_getD, List.getElem?_eq_getElem hlh]; rfl
        rw [hx] at hR
        obtain ⟨b, o, k2, h2, A2, n2, c2, hAe, c0', c1', c2', hrx⟩ := (HTH.out.at_ _ _ hxe).full
        subst hAe
        have hbB : Below wB.heap.size wB w2 := HB.out.trans (HFW.out.to_below (fun i e => by subst e; exact hpB) HB.out.size)
        have q0 := (hbB.cell (cell_lt c0')).trans c0'
        have q1 := (hbB.cell (cell_lt c1')).trans c1'
        have q2 := (hbB.cell (cell_lt c2')).trans c2'
        have lq := cell_lt q0
        dsimp only at lq
        have HRX := Lib.hid (Rd.keep hbB _ _ hrx)
        have HAP : Hid (∀ W', Hid (Below w2.heap.size w2 W') → Calls Tryz.prog 103 #[.agg #[.int .i64 k2, .int .i64 h2, .slice A2 n2 c2], .agg #[.slice A9 n9 c9, .int .i64 n]] W' (fun e w' => TEnd (apT x ys n) (apE x ys n) W' e w' ∧ Hid (Below w2.heap.size w2 w'))) := Lib.hid fun W' h' => by
          have := ApplyC (w := W') (t := x) (L := ys) (sh := n) (Rd.keep h'.out _ _ HRX.out) HRL.out.len HRL.out.le HRL.out.cap (fun i u hu => RdAt.keep h'.out (rdFAt_rd (HRL.out.at_ i u hu))) (fun _ => okT_mono (by omega) _ (HTH.out.ok x hxm)) (fun y hy _ => hyo y hy)
          exact this.mono fun e w' h'' => ⟨h'', by obtain ⟨_, _, _, _, _, _, _, hb'⟩ := h''; exact cur_trans h' hb'⟩
        have hndx : apE x ys n = 0 → nd (apT x ys n) ≤ 4000 := fun e => by
          obtain ⟨_, _, _, _, hm⟩ := ap_zero e
          exact ((myB_iff _).1 hm).2.1
        have hR' : apE x ys n = 0 ∧ R = .ok (kp (c + nd (apT x ys n)) (apT x ys n), c + nd (apT x ys n)) ∨ apE x ys n ≠ 0 ∧ R = .error (apE x ys n) := by
          rw [hR]
          have hlt' : ¬ (m : Int) ≤ h := by omega
          simp only [if_neg hlt']
          by_cases hz : apE x ys n = 0
          · exact .inl ⟨hz, by simp [hz]⟩
          · exact .inr ⟨hz, by simp [hz]⟩
        clear hR hxe hx hlh hrx hmy
        have HND := Lib.hid hndx; clear hndx
        generalize apT x ys n = RT at *
        generalize apE x ys n = RE at *
        have HRR := Lib.hid hR'; clear hR'
        have HK : Hid (∀ w', Hid (Below w2.heap.size w2 w') → (w'.cell? ⟨w.heap.size, 0, none⟩ = some (.pointer (some ⟨pp, 0, none⟩)) ∧ w'.cell? ⟨pp, 0, none⟩ = some (.slice (some ⟨b, o, none⟩) m cL) ∧ w'.cell? ⟨w.heap.size + 1, 1, none⟩ = some (.int .i64 h) ∧ w'.cell? ⟨b, o + h.toNat * 3, none⟩ = some (.int .i64 k2) ∧ w'.cell? ⟨b, o + h.toNat * 3 + 1, none⟩ = some (.int .i64 h2) ∧ w'.cell? ⟨b, o + h.toNat * 3 + 2, none⟩ = some (.slice A2 n2 c2) ∧ w'.cell? ⟨w.heap.size + 1 + 1, 0, none⟩ = some (.int .i64 n) ∧ Hid (Below w2.heap.size w2 w'))) := Lib.hid fun w' h' => by
          have s0 := y0.keep h'.out y0.lt
          have s1 := y1.keep h'.out y1.lt
          have s2 := y2.keep h'.out y2.lt
          have sp := HST.out.keep h'.out HST.out.lt
          exact ⟨s0.one.1, sp.two.1, s1.three.2.1, (h'.out.cell lq).trans q0, (h'.out.cell (cell_lt q1)).trans q1, (h'.out.cell (cell_lt q2)).trans q2, s2.one.1, h'⟩
        have hcu0 : Hid (Below w2.heap.size w2 w2.drew) := cur_drew
        clear c0' c1' c2'
        have hi0 : h < m := by omega
        go_wp2_with fail
        go_region_held3 (fun w' => w'.cell? ⟨w.heap.size, 0, none⟩ = some (.pointer (some ⟨pp, 0, none⟩)) ∧ w'.cell? ⟨pp, 0, none⟩ = some (.slice (some ⟨b, o, none⟩) m cL) ∧ w'.cell? ⟨w.heap.size + 1, 1, none⟩ = some (.int .i64 h) ∧ w'.cell? ⟨b, o + h.toNat * 3, none⟩ = some (.int .i64 k2) ∧ w'.cell? ⟨b, o + h.toNat * 3 + 1, none⟩ = some (.int .i64 h2) ∧ w'.cell? ⟨b, o + h.toNat * 3 + 2, none⟩ = some (.slice A2 n2 c2) ∧ w'.cell? ⟨w.heap.size + 1 + 1, 0, none⟩ = some (.int .i64 n) ∧ Hid (Below w2.heap.size w2 w'))
          (first | exact HK.out _ (by assumption) | exact HK.out _ (cur_alloc (by assumption) _) | exact HK.out _ (cur_alloc (cur_alloc (by assumption) _) _) | exact HK.out _ (cur_set3 (by assumption) (by omega) _ _ _))
          (first
            | (go_at_call 103
               with_reducible refine Calls.mono (HAP.out _ ?hh) ?_
               case hh => first | assumption | exact Lib.hid (((Below.refl _ _).alloc (Nat.le_refl _) _).drew) | exact Lib.hid (((Below.refl _ _).drew).alloc (Nat.le_refl _) _)
               rintro e w9 ⟨⟨kq, hq, Aq, nq, cq, rfl, hrd, hb9⟩, hcu9⟩
               first | (have zP := Box.keepC (cs := #[.int .i64 0, .int .i64 0, .slice none 0 0]) (ty := 39) (by first | exact zP | exact zP.alloc _ | exact Box.new _ _ _ | exact (Box.new _ _ _).alloc _) hb9; have lzhb9 := zP.lt) | skip
               have hs9 := hcu9.out.size
               have HRq := Lib.hid hrd
               first | (obtain ⟨z0, z1, z2⟩ := zP.three; have fz0 := zP.frozen 0; have fz1 := zP.frozen 1; have fz2 := zP.frozen 2) | skip
               clear hrd hb9))
        all_goals first
          | (obtain ⟨W6, hWf⟩ : ∃ Wf, w9.alloc (.cells #[.int .i64 kq, .int .i64 hq, .slice Aq nq cq] 39) = Wf := ⟨_, rfl⟩
             obtain ⟨pq, hpe⟩ : ∃ p, p = w9.heap.size := ⟨_, rfl⟩
             have hlw : w2.heap.size ≤ pq := by rw [hpe]; exact hs9
             have xq : Box W6 pq 39 #[.int .i64 kq, .int .i64 hq, .slice Aq nq cq] := by rw [hpe, ← hWf]; exact Box.new _ _ _
             have hbF : Below w2.heap.size w2 W6 := by rw [← hWf]; exact (cur_alloc (by assumption) _).out
             have HRX6 : Hid (RX (fun b => b < w2.heap.size) W6 RT (.agg #[.int .i64 kq, .int .i64 hq, .slice Aq nq cq])) := Lib.hid (by rw [← hWf]; exact rx_of HRq.out (by first | omega | (simp; done) | (simp; omega)) fun b hb hl => Below.heap_alloc _ _ _ hl)
             rw [hWf, ← hpe]
             clear hWf hpe)
          | (obtain ⟨W6, hWf⟩ : ∃ Wf, ((w9.setCell ⟨w2.heap.size, 0, none⟩ (.int .i64 kq)).setCell ⟨w2.heap.size, 1, none⟩ (.int .i64 hq)).setCell ⟨w2.heap.size, 2, none⟩ (.slice Aq nq cq) = Wf := ⟨_, rfl⟩
             obtain ⟨pq, hpe⟩ : ∃ p, p = w2.heap.size := ⟨_, rfl⟩
             have hlw : w2.heap.size ≤ pq := by rw [hpe]; exact Nat.le_refl _
             have xq : Box W6 pq 39 #[.int .i64 kq, .int .i64 hq, .slice Aq nq cq] := by rw [hpe, ← hWf]; exact zP.put3 _ _ _
             have hbF : Below w2.heap.size w2 W6 := by rw [← hWf]; exact (cur_set3 (by assumption) (by omega) _ _ _).out
             have HRX6 : Hid (RX (fun b => b < w2.heap.size) W6 RT (.agg #[.int .i64 kq, .int .i64 hq, .slice Aq nq cq])) := Lib.hid (by rw [← hWf]; exact rx_of HRq.out (by first | omega | (simp; done) | (simp; omega)) fun b hb hl => heap_other3 _ _ _ _ _ _ (by simp at hb; omega))
             rw [hWf, ← hpe]
             clear hWf hpe)
        all_goals
          replace y0 := y0.keep hbF y0.lt
          replace y3 := y3.keep hbF y3.lt
          replace HST := Lib.hid (HST.out.keep hbF HST.out.lt)
          replace HFW := Lib.hid (HFW.out.then hbF)
          clear hbF HK HAP HRX
          try clear zP
          clear r0 r1 r2 f0 f1 f2 q0 q1 q2
          have ly3 := y3.lt
          obtain ⟨r0, r1, r2⟩ := y3.three
          have f0 := y3.frozen 0
          have f1 := y3.frozen 1
          have f2 := y3.frozen 2
          have lyq := xq.lt
          rcases HRR.out with ⟨hz, hr⟩ | ⟨hz, hr⟩
          · have hndx := HND.out hz
            subst hz
            have HR := Lib.hid hr; clear hr HRR
            obtain ⟨k', h', A', n', c', heq, hrx⟩ := kp_rx (x := c + nd RT) HRX6.out
            have HRX7 := Lib.hid hrx; clear hrx
            have HSZ : Hid (∀ W', Below W6.heap.size W6 W' → Calls Tryz.prog 105 #[.agg #[.int .i64 kq, .int .i64 hq, .slice Aq nq cq]] W' fun e w' => e = .returned (.int .i64 (nd RT : Nat)) ∧ Below W'.heap.size W' w') := Lib.hid fun W' hW' => by
              have := sizeC RT _ W' (Rd.keep hW' _ _ (RX.rd HRX6.out))
              rw [szW_small (by omega)] at this
              exact this
            have HKP : Hid (∀ W', Below W6.heap.size W6 W' → Calls Tryz.prog 90 #[.pointer (some ⟨pp, 0, none⟩), .agg #[.int .i64 kq, .int .i64 hq, .slice Aq nq cq], .int .i64 (nd RT : Nat)] W' fun e w' => e = .returned (.agg #[.int .i64 k', .int .i64 h', .slice A' n' c']) ∧ Fr (fun b => b = pp) W6 w' ∧ ptB w' pp (some ⟨b, o, none⟩) m cL (c + nd RT)) := Lib.hid fun W' hW' => by
              have := keepPC (d := nd RT) (k := kq) (h := hq) (A2 := Aq) (n2 := nq) (c2 := cq) W' (HST.out.keep hW' HST.out.lt) (by omega)
              rw [heq] at this
              exact this.mono fun e w' ⟨h1, h2, h3⟩ => ⟨h1, (Fr.below (X := fun b => b = pp) hW').trans h2 fun _ _ e => e, h3⟩
            clear heq
            go_wp2_with fail
            have d0 := y0.one.1
            obtain ⟨z0, z1, z2⟩ := xq.three
            have hcur : Below W6.heap.size W6 W6.drew := (Below.refl _ _).drew
            go_region_held3 (fun w' => w'.cell? ⟨w.heap.size, 0, none⟩ = some (.pointer (some ⟨pp, 0, none⟩)) ∧ w'.cell? ⟨pq, 0, none⟩ = some (.int .i64 kq) ∧ w'.cell? ⟨pq, 1, none⟩ = some (.int .i64 hq) ∧ w'.cell? ⟨pq, 2, none⟩ = some (.slice Aq nq cq))
              (first | exact ⟨d0, z0, z1, z2⟩ | exact ⟨m0.one.1, mq.three.1, mq.three.2.1, mq.three.2.2⟩ | exact ⟨n0.one.1, nQ.three.1, nQ.three.2.1, nQ.three.2.2⟩ | exact ⟨o0.one.1, oq.three.1, oq.three.2.1, oq.three.2.2⟩)
              (first
                | (go_at_call 105
                   refine (HSZ.out _ hcur).mono ?_
                   rintro e w7 ⟨rfl, hb7⟩
                   replace hcur := hcur.trans (hb7.mono hcur.size)
                   have m0 := y0.keep hcur y0.lt
                   have mq := xq.keep hcur xq.lt
                   clear hb7)
                | (go_at_call 90
                   refine (HKP.out _ hcur).mono ?_
                   rintro e w8 ⟨rfl, hfr8, hst8⟩
                   have n0 := y0.fr hfr8 (by omega)
                   have nQ := xq.fr hfr8 (by omega)
                   have n3 := y3.fr hfr8 (by omega)
                   have s8 := n3.lt
                   have HFR8 := Lib.hid hfr8
                   have HST8 := Lib.hid hst8
                   clear hfr8 hst8 r0 r1 r2 f0 f1 f2
                   obtain ⟨r0, r1, r2⟩ := n3.three
                   have f0 := n3.frozen 0
                   have f1 := n3.frozen 1
                   have f2 := n3.frozen 2
                   have o0 := n0.other3 (a := w.heap.size + 1 + 1 + 1) (by omega) (.int .i64 k') (.int .i64 h') (.slice A' n' c')
                   have oq := nQ.other3 (a := w.heap.size + 1 + 1 + 1) (by omega) (.int .i64 k') (.int .i64 h') (.slice A' n' c')))
            clear o0 oq n0 nQ z0 z1 z2 d0
            go_wp2_with fail
            refine bodyPost_ret (v := .tuple #[.agg #[.int .i64 k', .int .i64 h', .slice A' n' c'], .int .i64 0]) (by simp [results, Tryz.results87, go_sem, r0, r1, r2]) rfl ?_
            rw [HR.out]
            refine ⟨k', h', A', n', c', rfl, ?_, ((HFW.out.trans HFR8.out fun _ _ e => e).set3 (fun h => by omega) _ _ _), Box.other3 HST8.out (by omega) _ _ _⟩
            exact RdF.moveX (fun b hb hl => ⟨by omega, (heap_other3 _ _ _ _ _ _ (by omega)).trans (HFR8.out.block b hl (by omega))⟩) _ _ HRX7.out
          · have hne' : (RE != 0) = true := by simpa using hz
            have HR := Lib.hid hr
            have HZ := Lib.hid hz
            clear hr hz HRR
            go_wp2_with fail
            refine bodyPost_ret (v := .tuple #[zT, .int .i64 RE]) (by simp [results, Tryz.results87, go_sem, r0, r1, r2]) rfl ?_
            rw [HR.out]
            exact ⟨rfl, HZ.out, HFW.out.set3 (fun h => by omega) _ _ _⟩
end Go.Proofs.YtbbjjdnnlnabaaaGreat
