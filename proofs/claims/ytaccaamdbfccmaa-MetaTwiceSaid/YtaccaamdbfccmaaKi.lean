/-
  Contracts of package meta's by, of the closure that it tells, and of Fill. No statement is proved here.
-/
import Derived.Test.YtaccaamdbfccmaaKh
namespace Go.Proofs.Ytaccaamdbfccmaa
open Go.ChangeShapes Go.WideShapes Go.ChangeAt Go.RowKit
set_option linter.unusedVariables false
set_option maxRecDepth 100000

/-- may these be terms for metas? -/
def thB (th : List T) : Bool := decide (th.length ≤ 200) && th.all myB
/-- what Fill tells -/
def fiR (th : List T) (n : Int) (t : T) : Except Int T :=
  if (thB th && decide (0 ≤ n) && decide (n ≤ 1000) && myB t) = true then
    match flT th t n with
    | .error e => .error e
    | .ok t' => if myB t' = true then .ok t' else .error 4
  else .error 1
def exT : Except Int T → T
  | .ok t => t
  | .error _ => .node 0 0 []
def exE : Except Int T → Int
  | .ok _ => 0
  | .error e => e
/-- how Fill ends -/
def FnE (r : Except Int T) (w : World) (e : Ending) (w' : World) : Prop :=
  match r with
  | .error ec => e = .returned (.tuple #[zT, .int .i64 ec]) ∧ ec ≠ 0 ∧ Below w.heap.size w w'
  | .ok t => TEnd t 0 w e w'
theorem FnE.tend {r : Except Int T} {w w' : World} {e : Ending} (h : FnE r w e w') : TEnd (exT r) (exE r) w e w' := by
  cases r with
  | error ec =>
    obtain ⟨rfl, _, hb⟩ := h
    exact ⟨0, 0, none, 0, 0, rfl, rd_nil0 _ _, hb⟩
  | ok t => exact h
theorem FnE.below {r : Except Int T} {w w' : World} {e : Ending} (h : FnE r w e w') : Below w.heap.size w w' := by
  cases r with
  | error ec => exact h.2.2
  | ok t =>
    obtain ⟨_, _, _, _, _, _, _, hb⟩ := h
    exact hb
/-- with a count that stays -/
def wc (r : Except Int T) (c : Nat) : Res :=
  match r with
  | .error e => .error e
  | .ok t => .ok (t, c)
theorem FnE.cen {X : Nat → Prop} {r : Except Int T} {c : Nat} {w w' : World} {e : Ending} (h : FnE r w e w') : CEn X (fun _ _ => True) w (wc r c) e w' := by
  cases r with
  | error ec =>
    obtain ⟨rfl, hne, hb⟩ := h
    exact ⟨rfl, hne, Fr.below hb⟩
  | ok t =>
    obtain ⟨k, h, A, n, cc, rfl, hr, hb⟩ := h
    exact ⟨k, h, A, n, cc, rfl, RdF.moveX (fun b hb _ => ⟨by omega, rfl⟩) _ _ hr, Fr.below hb, trivial⟩
theorem fne_of {r : Except Int T} {c : Nat} {w w' : World} {k h : Int} {A : Option Addr} {n cc : Nat} {ec : Int} (o : CO (fun _ _ => True) w.heap.size w' (wc r c) k h A n cc ec) (hb : Below w.heap.size w w') : FnE r w (.returned (.tuple #[.agg #[.int .i64 k, .int .i64 h, .slice A n cc], .int .i64 ec])) w' := by
  cases r with
  | error e' =>
    obtain ⟨rfl, hne, hz⟩ := o
    exact ⟨by rw [hz], hne, hb⟩
  | ok t =>
    obtain ⟨rfl, hr, _⟩ := o
    exact ⟨k, h, A, n, cc, rfl, RdF.moveX (fun b hb _ => ⟨by omega, rfl⟩) _ _ hr, hb⟩
theorem fi_bad {th : List T} {n : Int} {t : T} (h : (thB th && decide (0 ≤ n) && decide (n ≤ 1000) && myB t) = false) : fiR th n t = .error 1 := by
  unfold fiR; rw [h]; rfl
theorem fi_good {th : List T} {n : Int} {t : T} (h1 : thB th = true) (h2 : 0 ≤ n) (h3 : n ≤ 1000) (h4 : myB t = true) : fiR th n t = match flT th t n with
    | .error e => .error e
    | .ok t' => if myB t' = true then .ok t' else .error 4 := by
  unfold fiR; rw [h1, h4]; simp [h2, h3]

set_option maxHeartbeats 4000000 in
theorem byC {th : List T} {A : Option Addr} {m cL : Nat} (w : World) (hn : th.length = m) (hc : m ≤ cL) (hm : cL ≤ maxLen) (hx : ∀ i t, th[i]? = some t → RdAt w A i t) :
    Calls Try.prog 30 #[.slice A m cL] w fun e w' => ∃ pm pt, e = .returned (.func (.func 46) #[] #[.pointer (some ⟨pm, 0, none⟩), .pointer (some ⟨pt, 0, none⟩)]) ∧ Box w' pm 4 #[.bool (thB th)] ∧ Box w' pt 22 #[.slice A m cL] ∧ Below w.heap.size w w' := by
  have hmf : ∀ (fn : Fn) (first cap : Array Value) (w : World), (Instr.makeFunc fn first cap).run Try.prog w = .ok (.func fn first cap) w := fun _ _ _ _ => rfl
  have hb : Below w.heap.size w (w.alloc (.cells #[.slice A m cL] 22)) := (Below.refl _ _).alloc (Nat.le_refl _) _
  have x0 := Box.new w 22 #[.slice A m cL]
  have HC := Lib.hid (containsC th A m cL (w.alloc (.cells #[.slice A m cL] 22)) hn hc hm fun i t ht => RdAt.keep hb (hx i t ht))
  obtain ⟨β, hβ⟩ : ∃ β, th.all myB = β := ⟨_, rfl⟩
  have hT : thB th = (decide (m ≤ 200) && β) := by rw [thB, hn, hβ]
  rw [hβ] at HC
  rw [hT]
  clear hT hβ hx hn hc hm
  by_cases hl : m ≤ 200
  · have d1 : decide ((m : Int) ≤ 200) = true := by simp; omega
    have d2 : decide (m ≤ 200) = true := by simpa using hl
    rw [d2]
    clear d2 hl
    go_enter Try.func30, Try.ntmps30
    go_wp2_with fail
    refine HC.out.mono ?_
    clear HC
    rintro e w1 ⟨rfl, hb1⟩
    have y0 := x0.keep hb1 x0.lt
    have hbw := hb.trans (hb1.mono hb.size)
    have hfin : ∀ v, Box (w1.alloc (.cells #[v] 4)) w1.heap.size 4 #[v] ∧ Box (w1.alloc (.cells #[v] 4)) w.heap.size 22 #[.slice A m cL] ∧ Below w.heap.size w (w1.alloc (.cells #[v] 4)) := fun v => ⟨Box.new _ _ _, y0.alloc _, hbw.alloc hbw.size _⟩
    have HFIN := Lib.hid hfin
    clear hfin y0 hbw hb1 hb x0
    cases β
    all_goals
      go_wp2_with fail
      go_ret
      exact ⟨_, _, rfl, (HFIN.out _).1, (HFIN.out _).2.1, (HFIN.out _).2.2⟩
  · have d1 : decide ((m : Int) ≤ 200) = false := by simp; omega
    have d2 : decide (m ≤ 200) = false := by simpa using hl
    rw [d2]
    have HFIN := Lib.hid fun v => (⟨(Box.new _ _ _).at (by simp), x0.alloc _, hb.alloc hb.size _⟩ : Box ((w.alloc (.cells #[.slice A m cL] 22)).alloc (.cells #[v] 4)) (w.heap.size + 1) 4 #[v] ∧ Box ((w.alloc (.cells #[.slice A m cL] 22)).alloc (.cells #[v] 4)) w.heap.size 22 #[.slice A m cL] ∧ Below w.heap.size w ((w.alloc (.cells #[.slice A m cL] 22)).alloc (.cells #[v] 4)))
    clear d2 hl HC x0 hb
    go_enter Try.func30, Try.ntmps30
    go_wp2_with fail
    go_ret
    exact ⟨_, _, rfl, (HFIN.out _).1, (HFIN.out _).2.1, (HFIN.out _).2.2⟩

set_option maxHeartbeats 8000000 in
theorem byFC {th : List T} {t : T} {A : Option Addr} {m cL : Nat} {n : Int} {pm pt : Nat} {k h : Int} {At : Option Addr} {nt ct : Nat} (w : World) (hn : th.length = m) (hc : m ≤ cL) (hm : cL ≤ maxLen) (hx : ∀ i t, th[i]? = some t → RdAt w A i t)
    (xm : Box w pm 4 #[.bool (thB th)]) (xt : Box w pt 22 #[.slice A m cL]) (hv : Rd w t (.agg #[.int .i64 k, .int .i64 h, .slice At nt ct])) (hok : ∀ x ∈ th, myB x = true → okT 2199023255552 x) (ho : myB t = true → okT 2199023255552 t) :
    Calls Try.prog 46 #[.agg #[.int .i64 k, .int .i64 h, .slice At nt ct], .int .i64 n, .pointer (some ⟨pm, 0, none⟩), .pointer (some ⟨pt, 0, none⟩)] w (FnE (fiR th n t) w) := by
  obtain ⟨W, hW⟩ : ∃ W, (w.alloc (.cells #[.int .i64 k, .int .i64 h, .slice At nt ct] 24)).alloc (.cells #[.int .i64 0, .int .i64 0, .slice none 0 0] 24) = W := ⟨_, rfl⟩
  have hb : Below w.heap.size w W := by rw [← hW]; exact ((Below.refl _ _).alloc (Nat.le_refl _) _).alloc (by simp) _
  have x0 : Box W w.heap.size 24 #[.int .i64 k, .int .i64 h, .slice At nt ct] := by rw [← hW]; exact (Box.new _ _ _).alloc _
  have x1 : Box W (w.heap.size + 1) 24 #[.int .i64 0, .int .i64 0, .slice none 0 0] := by rw [← hW]; exact (Box.new (w.alloc _) _ _).at (by simp)
  have lm := xm.lt
  have lt := xt.lt
  have lm1 : pm < w.heap.size + 1 := by omega
  have m0 := xm.one.1
  have HBAD : Hid ((thB th && decide (0 ≤ n) && decide (n ≤ 1000) && myB t) = false → ∀ w', Below w.heap.size w w' → FnE (fiR th n t) w (.returned (.tuple #[zT, .int .i64 1])) w') := Lib.hid fun h w' hb' => by
    rw [fi_bad h]
    exact ⟨rfl, by decide, hb'⟩
  have HMN := Lib.hid (mayNotC t _ W (Rd.keep hb _ _ hv))
  have HGO : Hid (thB th = true → 0 ≤ n → n ≤ 1000 → myB t = true → fiR th n t = (match flT th t n with
    | .error e => .error e
    | .ok t' => if myB t' = true then .ok t' else .error 4) ∧ ∀ W' pp, Below w.heap.size w W' → w.heap.size ≤ pp → ptB W' pp A m cL 0 → Calls Try.prog 47 #[.pointer (some ⟨pp, 0, none⟩), .agg #[.int .i64 k, .int .i64 h, .slice At nt ct], .int .i64 n] W' (CEn (fun b => b = pp) (fun c w' => ptB w' pp A m cL c) W' (pf th n 0 t))) := Lib.hid fun h1 h2 h3 h4 => by
    refine ⟨fi_good h1 h2 h3 h4, fun W' pp hb' hpp hpt => ?_⟩
    have hall : ∀ x ∈ th, myB x = true := by
      unfold thB at h1
      rw [Bool.and_eq_true] at h1
      exact List.all_eq_true.1 h1.2
    obtain ⟨a1, a2, a3⟩ := (myB_iff t).1 h4
    exact fillC th t w W' pp A m cL n 0 _ hb' hpp hpt ⟨hall, fun x hx => hok x hx (hall x hx), hn, hc, hm, hx⟩ hv a1 h2 (by omega) (ho h4) (by omega)
  have HXT := Lib.hid xt
  have HB := Lib.hid hb
  clear hx hv hok ho hn hc hm xt xm
  generalize fiR th n t = R at *
  generalize hpf : pf th n 0 t = P at *
  have hpf' : P = match flT th t n with
    | .error e => .error e
    | .ok t' => .ok (kp (nd t') t', nd t') := by rw [← hpf, pf]; simp only [Nat.zero_add] <;> (cases flT th t n <;> rfl)
  generalize flT th t n = FR at *
  clear hpf
  have HPF := Lib.hid hpf'; clear hpf'
  generalize thB th = bT at *
  generalize myB t = bM at *
  have HW := Lib.hid hW; clear hW hb
  obtain ⟨r0, r1, r2⟩ := x1.three
  have f0 := x1.frozen 0
  have f1 := x1.frozen 1
  have f2 := x1.frozen 2
  cases bT
  · go_enter Try.func46, Try.ntmps46
    go_wp2_with fail
    refine bodyPost_ret (v := .tuple #[zT, .int .i64 1]) (by simp [results, Try.results46, go_sem]) rfl ?_
    exact HBAD.out (by simp) _ (((Below.refl _ _).alloc (Nat.le_refl _) _).alloc (by simp) _)
  by_cases h2 : n < 0
  · have d1 : decide (n < 0) = true := by simpa using h2
    have d2 : decide (0 ≤ n) = false := by simp; omega
    rw [d2] at HBAD
    clear d2 h2
    go_enter Try.func46, Try.ntmps46
    go_wp2_with fail
    refine bodyPost_ret (v := .tuple #[zT, .int .i64 1]) (by simp [results, Try.results46, go_sem]) rfl ?_
    exact HBAD.out (by simp) _ (((Below.refl _ _).alloc (Nat.le_refl _) _).alloc (by simp) _)
  have d1 : decide (n < 0) = false := by simpa using h2
  by_cases h3 : 1000 < n
  · have d3 : decide (1000 < n) = true := by simpa using h3
    have d2 : decide (n ≤ 1000) = false := by simp; omega
    rw [d2] at HBAD
    clear d2 h2 h3
    go_enter Try.func46, Try.ntmps46
    go_wp2_with fail
    refine bodyPost_ret (v := .tuple #[zT, .int .i64 1]) (by simp [results, Try.results46, go_sem]) rfl ?_
    exact HBAD.out (by simp) _ (((Below.refl _ _).alloc (Nat.le_refl _) _).alloc (by simp) _)
  have d3 : decide (1000 < n) = false := by simpa using h3
  have HN := Lib.hid (And.intro (show 0 ≤ n by omega) (show n ≤ 1000 by omega)); clear h2 h3
  go_enter Try.func46, Try.ntmps46
  go_wp2_with fail
  rw [HW.out]
  clear HW
  refine HMN.out.mono ?_
  clear HMN
  rintro e w1 ⟨rfl, hb1⟩
  have y0 := x0.keep hb1 x0.lt
  have y1 := x1.keep hb1 x1.lt
  have hbw := HB.out.trans (hb1.mono HB.out.size)
  have yt := HXT.out.keep hbw lt
  have l1 := y1.lt
  have l0 := y0.lt
  clear x0 x1 hb1 r0 r1 r2 f0 f1 f2 HB HXT
  obtain ⟨r0, r1, r2⟩ := y1.three
  have f0 := y1.frozen 0
  have f1 := y1.frozen 1
  have f2 := y1.frozen 2
  cases bM
  · have HBW := Lib.hid hbw; clear hbw
    go_wp2_with fail
    refine bodyPost_ret (v := .tuple #[zT, .int .i64 1]) (by simp [results, Try.results46, go_sem, r0, r1, r2]) rfl ?_
    exact HBAD.out (by simp) _ (below_set3 HBW.out (by omega) _ _ _)
  obtain ⟨hR, hFI⟩ := HGO.out (by trivial) HN.out.1 HN.out.2 (by trivial)
  have HRR := Lib.hid hR; clear hR
  obtain ⟨W2, hW2⟩ : ∃ W2, w1.alloc (.cells #[.slice A m cL, .int .i64 0] 72) = W2 := ⟨_, rfl⟩
  have hb2 : Below w1.heap.size w1 W2 := by rw [← hW2]; exact (Below.refl _ _).alloc (Nat.le_refl _) _
  have z0 := y0.keep hb2 y0.lt
  have z1 := y1.keep hb2 y1.lt
  have lz1 := z1.lt
  have zp : ptB W2 w1.heap.size A m cL 0 := by rw [← hW2]; exact Box.new _ _ _
  have hbw2 := hbw.trans (hb2.mono hbw.size)
  have hsw := hbw.size
  have HF := Lib.hid (hFI W2 w1.heap.size hbw2 hsw zp); clear hFI HGO
  have HBW := Lib.hid hbw2; clear hbw2 hbw hb2
  have HW2 := Lib.hid hW2; clear hW2
  have t0 := yt.one.1
  obtain ⟨a0, a1, a2⟩ := y0.three
  obtain ⟨b0, b1, b2⟩ := z0.three
  go_wp2_with fail
  rw [HW2.out]
  clear HW2
  refine HF.out.mono ?_
  clear HF
  rw [HPF.out]
  clear HPF HBAD
  cases FR with
  | error ec =>
    have HR := Lib.hid (show R = .error ec from HRR.out); clear HRR
    rintro e w3 ⟨rfl, hne, hfr⟩
    have hne' : (ec != 0) = true := by simpa using hne
    have hne2 : (ec == 0) = false := by simpa using hne
    have u1 := z1.fr hfr (by omega)
    have HB3 := Lib.hid (HBW.out.trans (hfr.to_below (B := w.heap.size) (fun i e => by omega) HBW.out.size)); clear hfr
    have HNE := Lib.hid hne; clear hne
    clear y0 y1 yt z0 z1 zp t0 a0 a1 a2 b0 b1 b2 r0 r1 r2 f0 f1 f2
    obtain ⟨r0, r1, r2⟩ := u1.three
    have f0 := u1.frozen 0
    have f1 := u1.frozen 1
    have f2 := u1.frozen 2
    have lu := u1.lt
    have hszw := HB3.out.size
    go_wp2_with fail
    refine bodyPost_ret (v := .tuple #[zT, .int .i64 ec]) (by simp [results, Try.results46, go_sem, r0, r1, r2, lu]) rfl ?_
    rw [HR.out]
    refine ⟨rfl, HNE.out, ?_⟩
    exact (below_set3 HB3.out (by omega) _ _ _).alloc (by simp [World.setCell]; omega) _
  | ok t' =>
    rintro e w3 ⟨k3, h3, A3, n3, c3, rfl, hrx, hfr, hst⟩
    have u1 := z1.fr hfr (by omega)
    have HB3 := Lib.hid (HBW.out.trans (hfr.to_below (B := w.heap.size) (fun i e => by omega) HBW.out.size)); clear hfr hst
    have hbD : Below w3.heap.size w3 (w3.alloc (.cells #[.int .i64 k3, .int .i64 h3, .slice A3 n3 c3] 24)) := (Below.refl _ _).alloc (Nat.le_refl _) _
    have u2 := u1.keep hbD u1.lt
    have xq := Box.new w3 24 #[.int .i64 k3, .int .i64 h3, .slice A3 n3 c3]
    have hrD : RX (fun b => b < W2.heap.size) (w3.alloc (.cells #[.int .i64 k3, .int .i64 h3, .slice A3 n3 c3] 24)) (kp (nd t') t') (.agg #[.int .i64 k3, .int .i64 h3, .slice A3 n3 c3]) := RdF.moveX (fun b hb hl => ⟨hb, hbD.block b hl⟩) _ _ hrx
    have HMN := Lib.hid (mayNotC _ _ _ (RX.rd hrD))
    rw [my_kp] at HMN
    have HRD := Lib.hid hrD
    replace HB3 := Lib.hid (HB3.out.trans (hbD.mono HB3.out.size))
    clear y0 y1 yt z0 z1 zp t0 a0 a1 a2 b0 b1 b2 r0 r1 r2 f0 f1 f2 hrx hrD hbD u1
    have hkm : myB t' = true → kp (nd t') t' = t' := kp_my
    generalize kp (nd t') t' = kt at *
    have HKM := Lib.hid hkm; clear hkm
    obtain ⟨bm, hbm⟩ : ∃ bm, myB t' = bm := ⟨_, rfl⟩
    have hR : R = if myB t' = true then .ok t' else .error 4 := HRR.out
    clear HRR
    rw [hbm] at HMN HKM hR
    have HR := Lib.hid hR; clear hR hbm
    have hszw := HB3.out.size
    go_wp2_with fail
    refine HMN.out.mono ?_
    clear HMN
    rintro e w4 ⟨rfl, hb4⟩
    have v1 := u2.keep hb4 u2.lt
    have vq := xq.keep hb4 xq.lt
    replace HRD := Lib.hid (RdF.moveX (ok' := fun b => ¬ b < W2.heap.size) (fun b hb hl => ⟨hb, hb4.block b hl⟩) _ _ HRD.out)
    replace HB3 := Lib.hid (HB3.out.trans (hb4.mono HB3.out.size))
    have hbl := HBW.out.size
    clear hb4 u2 xq
    obtain ⟨r0, r1, r2⟩ := v1.three
    obtain ⟨q0, q1, q2⟩ := vq.three
    have f0 := v1.frozen 0
    have f1 := v1.frozen 1
    have f2 := v1.frozen 2
    have lu := v1.lt
    cases bm
    · go_wp2_with fail
      refine bodyPost_ret (v := .tuple #[zT, .int .i64 4]) (by simp [results, Try.results46, go_sem, r0, r1, r2]) rfl ?_
      rw [HR.out]
      exact ⟨rfl, by decide, below_set3 HB3.out (by omega) _ _ _⟩
    · go_wp2_with fail
      refine bodyPost_ret (v := .tuple #[.agg #[.int .i64 k3, .int .i64 h3, .slice A3 n3 c3], .int .i64 0]) (by simp [results, Try.results46, go_sem, r0, r1, r2]) rfl ?_
      have hk := HKM.out (by trivial)
      subst hk
      rw [HR.out]
      exact ⟨k3, h3, A3, n3, c3, rfl, RdF.moveX (fun b hb hl => ⟨by omega, heap_other3 _ _ _ _ _ _ (by omega)⟩) _ _ HRD.out, below_set3 HB3.out (by omega) _ _ _⟩
end Go.Proofs.Ytaccaamdbfccmaa
