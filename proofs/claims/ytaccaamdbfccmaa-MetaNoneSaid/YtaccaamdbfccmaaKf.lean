/-
  Contracts of the closures within package meta's fill and become, given that of fill for what they are called with. No statement is proved here.
-/
import Derived.Test.YtaccaamdbfccmaaKe
import Derived.Test.YtaccaamdbfccmaaKd
namespace Go.Proofs.Ytaccaamdbfccmaa
open Go.ChangeShapes Go.WideShapes Go.ChangeAt Go.RowKit
set_option linter.unusedVariables false
set_option maxRecDepth 100000

/-- an answer, or noughts and an error -/
def CO (St : Nat → World → Prop) (B : Nat) (w' : World) (r : Res) (k h : Int) (A : Option Addr) (n cc : Nat) (ec : Int) : Prop :=
  match r with
  | .error e' => ec = e' ∧ e' ≠ 0 ∧ Value.agg #[.int .i64 k, .int .i64 h, .slice A n cc] = zT
  | .ok (t, c) => ec = 0 ∧ RX (fun b => b < B) w' t (.agg #[.int .i64 k, .int .i64 h, .slice A n cc]) ∧ St c w'
theorem CEn.uni {X : Nat → Prop} {St : Nat → World → Prop} {w w' : World} {r : Res} {e : Ending} (h : CEn X St w r e w') : ∃ k h A n cc ec, e = .returned (.tuple #[.agg #[.int .i64 k, .int .i64 h, .slice A n cc], .int .i64 ec]) ∧ CO St w.heap.size w' r k h A n cc ec ∧ Fr X w w' := by
  cases r with
  | error e' =>
    obtain ⟨rfl, hne, hfr⟩ := h
    exact ⟨0, 0, none, 0, 0, e', rfl, ⟨rfl, hne, rfl⟩, hfr⟩
  | ok p =>
    obtain ⟨t, c⟩ := p
    obtain ⟨k, h, A, n, cc, rfl, hr, hfr, hst⟩ := h
    exact ⟨k, h, A, n, cc, 0, rfl, ⟨rfl, hr, hst⟩, hfr⟩
theorem CO.cen {X : Nat → Prop} {St : Nat → World → Prop} {w w' : World} {r : Res} {k h : Int} {A : Option Addr} {n cc : Nat} {ec : Int} (c : CO St w.heap.size w' r k h A n cc ec) (hfr : Fr X w w') : CEn X St w r (.returned (.tuple #[.agg #[.int .i64 k, .int .i64 h, .slice A n cc], .int .i64 ec])) w' := by
  cases r with
  | error e' =>
    obtain ⟨rfl, hne, hz⟩ := c
    exact ⟨by rw [hz], hne, hfr⟩
  | ok p =>
    obtain ⟨t, x⟩ := p
    obtain ⟨rfl, hr, hst⟩ := c
    exact ⟨k, h, A, n, cc, rfl, hr, hfr, hst⟩
theorem CO.move {St St' : Nat → World → Prop} {B B' : Nat} {w w' : World} {r : Res} {k h : Int} {A : Option Addr} {n cc : Nat} {ec : Int} (c : CO St B w r k h A n cc ec) (hB : B' ≤ B) (hm : ∀ b, B ≤ b → b < w.heap.size → w'.heap[b]? = w.heap[b]?) (hst : ∀ t x, r = .ok (t, x) → St x w → St' x w') : CO St' B' w' r k h A n cc ec := by
  cases r with
  | error e' => exact c
  | ok p =>
    obtain ⟨t, x⟩ := p
    obtain ⟨rfl, hr, hs⟩ := c
    exact ⟨rfl, RdF.moveX (fun b hb hl => ⟨by omega, hm b (by omega) hl⟩) _ _ hr, hst t x rfl hs⟩

/-- what is asked of the terms for metas -/
structure ThK (th : List T) (wB : World) (A : Option Addr) (m cL : Nat) : Prop where
  my : ∀ x ∈ th, myB x = true
  ok : ∀ x ∈ th, okT 2199023255552 x
  len : th.length = m
  le : m ≤ cL
  cap : cL ≤ maxLen
  at_ : ∀ i x, th[i]? = some x → RdAt wB A i x
/-- fill's contract for one term -/
def FiC (th : List T) (t : T) : Prop :=
  ∀ (wB w : World) (pp : Nat) (A : Option Addr) (m cL : Nat) (n : Int) (c : Nat) (v : Value), Below wB.heap.size wB w → wB.heap.size ≤ pp → ptB w pp A m cL c → ThK th wB A m cL → Rd wB t v → nodB t = true →
    0 ≤ n → n + dp t ≤ 4000 → okT 2199023255552 t → c + 4000 * nd t ≤ 1125899906842624 →
    Calls Try.prog 47 #[.pointer (some ⟨pp, 0, none⟩), v, .int .i64 n] w (CEn (fun b => b = pp) (fun c w' => ptB w' pp A m cL c) w (pf th n c t))

set_option maxHeartbeats 4000000 in
theorem closFC {th : List T} {t : T} (hF : FiC th t) {wB w : World} {pp pP pN pT : Nat} {A : Option Addr} {m cL : Nat} {n : Int} {c : Nat} {k h : Int} {At : Option Addr} {nt ct : Nat} (i : Nat) (v : Value)
    (hb : Below wB.heap.size wB w) (hpB : wB.heap.size ≤ pp) (hp : ptB w pp A m cL c) (hth : ThK th wB A m cL) (hv : Rd wB t v) (hno : nodB t = true) (h0 : 0 ≤ n) (hn : n + 1 + dp t ≤ 4000) (ho : okT 2199023255552 t) (hc : c + 4000 * nd t ≤ 1125899906842624)
    (xP : Box w pP 87 #[.pointer (some ⟨pp, 0, none⟩)]) (xN : Box w pN 3 #[.int .i64 n]) (xT : Box w pT 24 #[.int .i64 k, .int .i64 h, .slice At nt ct]) (hnt : nt ≤ ct) (hct : ct ≤ maxLen) (hi : i ≤ maxLen) (hne1 : pP ≠ pp) (hne2 : pN ≠ pp) (hne3 : pT ≠ pp) :
    Calls Try.prog 61 #[.int .i64 i, v, .pointer (some ⟨pP, 0, none⟩), .pointer (some ⟨pN, 0, none⟩), .pointer (some ⟨pT, 0, none⟩)] w (CEn (fun b => b = pp) (fun c w' => ptB w' pp A m cL c) w (pf th (n + bd k nt i) c t)) := by
  obtain ⟨k2, h2, A2, n2, c2, rfl⟩ := hv.full
  have hbd : 0 ≤ bd k nt i ∧ bd k nt i ≤ 1 := by rw [bd_bdn]; have := bdn_le k nt i; omega
  obtain ⟨s, hs⟩ : ∃ s, s = n + bd k nt i := ⟨_, rfl⟩
  have hsum : IntKind.i64.wrap (n + bd k nt i) = s := by rw [hs, wrapEq, wrap_small (by omega) (by omega)]
  obtain ⟨W, hW⟩ : ∃ W, (w.alloc (.cells #[.int .i64 k2, .int .i64 h2, .slice A2 n2 c2] 24)).alloc (.cells #[.int .i64 0, .int .i64 0, .slice none 0 0] 24) = W := ⟨_, rfl⟩
  have hbW : Below w.heap.size w W := by rw [← hW]; exact ((Below.refl _ _).alloc (Nat.le_refl _) _).alloc (by simp) _
  have z1 : Box W w.heap.size 24 #[.int .i64 k2, .int .i64 h2, .slice A2 n2 c2] := by rw [← hW]; exact (Box.new _ _ _).alloc _
  have z2 : Box W (w.heap.size + 1) 24 #[.int .i64 0, .int .i64 0, .slice none 0 0] := by rw [← hW]; exact (Box.new (w.alloc _) _ _).at (by simp)
  have lP := xP.lt
  have lN := xN.lt
  have lT := xT.lt
  have lp := hp.lt
  replace xP := xP.keep hbW lP
  replace xN := xN.keep hbW lN
  replace xT := xT.keep hbW lT
  have HWW := Lib.hid hW; clear hW
  have HBD := Lib.hid fun W' => boundC k h At nt ct hnt hct i hi W'
  have HFI : Hid (∀ W', Below W.heap.size W W' → Calls Try.prog 47 #[.pointer (some ⟨pp, 0, none⟩), .agg #[.int .i64 k2, .int .i64 h2, .slice A2 n2 c2], .int .i64 (n + bd k nt i)] W' (CEn (fun b => b = pp) (fun c w' => ptB w' pp A m cL c) W' (pf th (n + bd k nt i) c t))) := Lib.hid fun W' hW' =>
    hF wB W' pp A m cL _ c _ (hb.trans ((hbW.trans (hW'.mono hbW.size)).mono hb.size)) hpB (hp.keep (hbW.trans (hW'.mono hbW.size)) lp) hth hv hno (by omega) (by omega) ho hc
  have HB := Lib.hid hbW; clear hbW hb
  have HP := Lib.hid hp; clear hp
  clear hth hv hF ho hc hn h0 hi hct hnt hpB
  rw [← hs] at HFI ⊢
  clear hs
  generalize bd k nt i = β at *
  generalize pf th s c t = R at *
  go_enter Try.func61, Try.ntmps61
  go_wp2_with fail
  rw [HWW.out]
  clear HWW
  obtain ⟨a0, a1, a2⟩ := z1.three
  obtain ⟨b0, b1, b2⟩ := xT.three
  have d0 := (xP.one).1
  have e0 := (xN.one).1
  have hcur : Below W.heap.size W W.drew := (Below.refl _ W).drew
  have szW := HB.out.size
  go_region_held3 (fun w' => w'.cell? ⟨w.heap.size, 0, none⟩ = some (.int .i64 k2) ∧ w'.cell? ⟨w.heap.size, 1, none⟩ = some (.int .i64 h2) ∧ w'.cell? ⟨w.heap.size, 2, none⟩ = some (.slice A2 n2 c2) ∧
      w'.cell? ⟨pP, 0, none⟩ = some (.pointer (some ⟨pp, 0, none⟩)) ∧ w'.cell? ⟨pN, 0, none⟩ = some (.int .i64 n) ∧ w'.cell? ⟨pT, 0, none⟩ = some (.int .i64 k) ∧ w'.cell? ⟨pT, 1, none⟩ = some (.int .i64 h) ∧ w'.cell? ⟨pT, 2, none⟩ = some (.slice At nt ct))
    (first | exact ⟨a0, a1, a2, d0, e0, b0, b1, b2⟩ | exact ⟨q1.three.1, q1.three.2.1, q1.three.2.2, qP.one.1, qN.one.1, qT.three.1, qT.three.2.1, qT.three.2.2⟩ | exact ⟨r1.three.1, r1.three.2.1, r1.three.2.2, rP.one.1, rN.one.1, rT.three.1, rT.three.2.1, rT.three.2.2⟩ | exact ⟨o1.three.1, o1.three.2.1, o1.three.2.2, oP.one.1, oN.one.1, oT.three.1, oT.three.2.1, oT.three.2.2⟩)
    (first
      | (go_at_call 62
         refine (HBD.out _).mono ?_
         rintro e w1 ⟨rfl, hb1⟩
         replace hcur := hcur.trans (hb1.mono hcur.size)
         have q1 := z1.keep hcur z1.lt
         have q2 := z2.keep hcur z2.lt
         have qT := xT.keep hcur xT.lt
         have qP := xP.keep hcur xP.lt
         have qN := xN.keep hcur xN.lt
         clear hb1)
      | (go_at_call 47
         refine (HFI.out _ hcur).mono ?_
         intro e w2 hE
         obtain ⟨k3, h3, A3, n3, c3, ec, rfl, hout, hfr⟩ := hE.uni
         have r1 := q1.fr hfr (by omega)
         have r2 := q2.fr hfr (by omega)
         have rT := qT.fr hfr hne3
         have rP := qP.fr hfr hne1
         have rN := qN.fr hfr hne2
         have s2 := r2.lt
         have HO := Lib.hid hout
         have HFR := Lib.hid hfr
         clear hout hE hfr
         obtain ⟨y0, y1, y2⟩ := r2.three
         have f0 := r2.frozen 0
         have f1 := r2.frozen 1
         have f2 := r2.frozen 2
         have o1 := r1.other3 (a := w.heap.size + 1) (by omega) (.int .i64 k3) (.int .i64 h3) (.slice A3 n3 c3)
         have oT := rT.other3 (a := w.heap.size + 1) (by omega) (.int .i64 k3) (.int .i64 h3) (.slice A3 n3 c3)
         have oP := rP.other3 (a := w.heap.size + 1) (by omega) (.int .i64 k3) (.int .i64 h3) (.slice A3 n3 c3)
         have oN := rN.other3 (a := w.heap.size + 1) (by omega) (.int .i64 k3) (.int .i64 h3) (.slice A3 n3 c3)))
  clear o1 oT oP oN
  go_wp2_with fail
  refine bodyPost_ret (v := .tuple #[.agg #[.int .i64 k3, .int .i64 h3, .slice A3 n3 c3], .int .i64 ec]) (by simp [results, Try.results61, go_sem, y0, y1, y2]) rfl ?_
  have s3 := hcur.size
  have s4 := HFR.out.size
  have s5 := z2.lt
  refine CO.cen (HO.out.move (by omega) (fun g hg _ => heap_other3 _ _ _ _ _ _ (by omega)) fun _ _ _ hs => Box.other3 hs (by omega) _ _ _) ?_
  exact ((Fr.below (X := fun b => b = pp) (HB.out.trans (hcur.mono HB.out.size))).trans HFR.out fun _ _ e => e).set3 (fun h => by omega) _ _ _

theorem CO.po {th : List T} {n : Int} {c : Nat} {t : T} {St St' : Nat → World → Prop} {B B' : Nat} {w w' : World} {k h : Int} {A : Option Addr} {nn cc : Nat} {ec : Int} (o : CO St B w (pf th n 0 t) k h A nn cc ec) (hB : B' ≤ B) (hm : ∀ b, B ≤ b → b < w.heap.size → w'.heap[b]? = w.heap[b]?) (hst : St' c w') : CO St' B' w' (po th n c t) k h A nn cc ec := by
  unfold Go.Proofs.Ytaccaamdbfccmaa.po
  cases hr : pf th n 0 t with
  | error e' => rw [hr] at o; exact o
  | ok p =>
    obtain ⟨t, x⟩ := p
    rw [hr] at o
    obtain ⟨rfl, hr, hs⟩ := o
    exact ⟨rfl, RdF.moveX (fun b hb hl => ⟨by omega, hm b (by omega) hl⟩) _ _ hr, hst⟩
set_option maxHeartbeats 4000000 in
theorem closBC {th : List T} {t : T} (hF : FiC th t) {wB w : World} {pp pP pN : Nat} {A : Option Addr} {m cL : Nat} {n : Int} {c : Nat} (i : Nat) (v : Value)
    (hb : Below wB.heap.size wB w) (hp : ptB w pp A m cL c) (hth : ThK th wB A m cL) (hv : Rd wB t v) (hno : nodB t = true) (h0 : 0 ≤ n) (hn : n + dp t ≤ 4000) (ho : okT 2199023255552 t) (hc : 4000 * nd t ≤ 1125899906842624)
    (xP : Box w pP 87 #[.pointer (some ⟨pp, 0, none⟩)]) (xN : Box w pN 3 #[.int .i64 n]) :
    Calls Try.prog 71 #[.int .i64 i, v, .pointer (some ⟨pP, 0, none⟩), .pointer (some ⟨pN, 0, none⟩)] w (CEn (fun b => b = pp) (fun c w' => ptB w' pp A m cL c) w (po th n c t)) := by
  obtain ⟨k2, h2, A2, n2, c2, rfl⟩ := hv.full
  obtain ⟨W, hW⟩ : ∃ W, ((w.alloc (.cells #[.int .i64 k2, .int .i64 h2, .slice A2 n2 c2] 24)).alloc (.cells #[.int .i64 0, .int .i64 0, .slice none 0 0] 24)).alloc (.cells #[.slice A m cL, .int .i64 0] 72) = W := ⟨_, rfl⟩
  have hbW : Below w.heap.size w W := by rw [← hW]; exact (((Below.refl _ _).alloc (Nat.le_refl _) _).alloc (by simp) _).alloc (by simp; omega) _
  have z1 : Box W w.heap.size 24 #[.int .i64 k2, .int .i64 h2, .slice A2 n2 c2] := by rw [← hW]; exact ((Box.new _ _ _).alloc _).alloc _
  have z2 : Box W (w.heap.size + 1) 24 #[.int .i64 0, .int .i64 0, .slice none 0 0] := by rw [← hW]; exact ((Box.new (w.alloc _) _ _).at (by simp)).alloc _
  have z3 : ptB W (w.heap.size + 1 + 1) A m cL 0 := by rw [← hW]; exact (Box.new ((w.alloc _).alloc _) _ _).at (by simp)
  have lP := xP.lt
  have lN := xN.lt
  have lp := hp.lt
  have hsB := hb.size
  have HFI := Lib.hid (hF wB W (w.heap.size + 1 + 1) A m cL n 0 _ (hb.trans (hbW.mono hb.size)) (by omega) z3 hth hv hno h0 hn ho (by omega))
  have HWW := Lib.hid hW; clear hW
  have HB := Lib.hid hbW; clear hb
  have HP := Lib.hid hp
  have d0 := (xP.one).1
  have e0 := (xN.one).1
  obtain ⟨p0, p1⟩ := hp.two
  obtain ⟨a0, a1, a2⟩ := z1.three
  have lP1 : pP < w.heap.size + 1 := by omega
  have lP2 : pP < w.heap.size + 1 + 1 := by omega
  have lN1 : pN < w.heap.size + 1 := by omega
  have lN2 : pN < w.heap.size + 1 + 1 := by omega
  clear hth hv hF ho hc hn h0 hbW xP xN hp hsB
  go_enter Try.func71, Try.ntmps71
  go_wp2_with fail
  rw [HWW.out]
  clear HWW
  refine HFI.out.mono ?_
  intro e w2 hE
  obtain ⟨k3, h3, A3, n3, c3, ec, rfl, hout, hfr⟩ := hE.uni
  have s5 := z2.lt
  have r2 := z2.fr hfr (by omega)
  have s2 := r2.lt
  have HO := Lib.hid hout
  have HFR := Lib.hid hfr
  clear hout hE hfr a0 a1 a2 d0 e0 p0 p1 z1 z2 z3 HFI
  obtain ⟨y0, y1, y2⟩ := r2.three
  have f0 := r2.frozen 0
  have f1 := r2.frozen 1
  have f2 := r2.frozen 2
  go_wp2_with fail
  refine bodyPost_ret (v := .tuple #[.agg #[.int .i64 k3, .int .i64 h3, .slice A3 n3 c3], .int .i64 ec]) (by simp [results, Try.results71, go_sem, y0, y1, y2]) rfl ?_
  have szW := HB.out.size
  have s4 := HFR.out.size
  have hbw : Below w.heap.size w w2 := HB.out.trans (HFR.out.to_below (fun i e => by omega) HB.out.size)
  refine CO.cen (HO.out.po (by omega) (fun g hg _ => heap_other3 _ _ _ _ _ _ (by omega)) (Box.other3 (HP.out.keep hbw lp) (by omega) _ _ _)) ?_
  exact (Fr.below (X := fun b => b = pp) hbw).set3 (fun h => by omega) _ _ _
end Go.Proofs.Ytaccaamdbfccmaa
