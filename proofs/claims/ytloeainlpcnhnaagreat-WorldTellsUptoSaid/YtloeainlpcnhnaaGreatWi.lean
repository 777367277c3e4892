/-
  The contracts of package subst's Apply and Spine. No statement is proved here.
-/
import Derived.Test.YtloeainlpcnhnaaGreatWh
namespace Go.Proofs.YtloeainlpcnhnaaGreat
open Go.ChangeShapes Go.WideShapes Go.ChangeAt Go.RowKit
set_option linter.unusedVariables false

def fl : Nat := 40001
theorem fl_eq : fl = 40001 := rfl
def apR (t : T) (L : List T) (sh : Int) : Res := ap fl L sh 0 t 0
def spR (t : T) (args : List T) : Res := sp fl t args 0
def apT (t : T) (L : List T) (sh : Int) : T := if (myB t && sbB L sh) = true then anT (apR t L sh) else .node 0 0 []
def apE (t : T) (L : List T) (sh : Int) : Int := if (myB t && sbB L sh) = true then anE (apR t L sh) else 1
def spT (t : T) (args : List T) : T := if (myB t && args.all myB) = true then anT (spR t args) else .node 0 0 []
def spE (t : T) (args : List T) : Int := if (myB t && args.all myB) = true then anE (spR t args) else 1
/-- an answer: a term and an error -/
def TEnd (t : T) (ec : Int) (w : World) (e : Ending) (w' : World) : Prop :=
  ∃ k h A n c, e = .returned (.tuple #[.agg #[.int .i64 k, .int .i64 h, .slice A n c], .int .i64 ec]) ∧ RdF (fun b => w.heap.size ≤ b) w' t (.agg #[.int .i64 k, .int .i64 h, .slice A n c]) ∧ Below w.heap.size w w'

/-- Heads of what a caller hands in -/
abbrev LoT (t : T) : Prop := okT 281474976710656 t
theorem way_of {t : T} {M : Int} (hm : myB t = true) (hl : LoT t) (hM : 281474976710656 ≤ M) : Way M t :=
  ⟨((myB_iff t).1 hm).1, okT_mono hM _ hl⟩
theorem bt0 : bt 0 = 562949953421312 := by simp [btB]
/-- terms that lie beside some new blocks -/
theorem rd_rx {X : Nat → Prop} {w w' : World} (hb : Below w.heap.size w w') (hX : ∀ b, X b → w.heap.size ≤ b) (t : T) : ∀ v, Rd w t v → RX X w' t v := by
  induction t using T.ind with
  | step k h xs ih =>
    intro v hv
    obtain ⟨A, n, c, rfl, h1, h2, h3, h4, h5, h6⟩ := Rd_node.1 hv
    refine RdF_node.2 ⟨A, n, c, rfl, h1, h2, h3, h4, h5, fun i t ht => ?_⟩
    obtain ⟨b, o, v0, v1, v2, rfl, c0, c1, c2, hr⟩ := h6 i t ht
    have hl := cell_lt c0
    exact ⟨b, o, v0, v1, v2, rfl, fun e => by have := hX b e; dsimp only at hl; omega, (hb.cell hl).trans c0, (hb.cell (cell_lt c1)).trans c1, (hb.cell (cell_lt c2)).trans c2, ih t (List.mem_of_getElem? ht) _ hr⟩
theorem rd_rxl {X : Nat → Prop} {w w' : World} (hb : Below w.heap.size w w') (hX : ∀ b, X b → w.heap.size ≤ b) {xs : List T} {A : Option Addr} {n c : Nat} (hn : xs.length = n) (hc : n ≤ c) (hm : c ≤ maxLen) (hx : ∀ i t, xs[i]? = some t → RdAt w A i t) : RXL X w' xs A n c := by
  refine ⟨hn, hc, hm, fun i t ht => ?_⟩
  obtain ⟨b, o, v0, v1, v2, rfl, c0, c1, c2, hr⟩ := hx i t ht
  have hl := cell_lt c0
  exact ⟨b, o, v0, v1, v2, rfl, fun e => by have := hX b e; dsimp only at hl; omega, (hb.cell hl).trans c0, (hb.cell (cell_lt c1)).trans c1, (hb.cell (cell_lt c2)).trans c2, rd_rx hb hX t _ hr⟩

set_option maxRecDepth 100000 in
set_option maxHeartbeats 2000000 in
theorem appMade {w0 W : World} {t : T} {L : List T} {sh k h : Int} {At A : Option Addr} {nt ct n c pw q pt ps : Nat} (hb : Below w0.heap.size w0 W) (hpw : w0.heap.size ≤ pw) (hq : w0.heap.size ≤ q) (hqW : q < W.heap.size) (hne : q ≠ pw) (hwk : wkB W pw 0)
    (bt1 : Box W pt 44 #[.int .i64 k, .int .i64 h, .slice At nt ct]) (bs1 : Box W ps 118 #[.slice A n c, .int .i64 sh])
    (rt : Rd w0 t (.agg #[.int .i64 k, .int .i64 h, .slice At nt ct])) (hn : L.length = n) (hc : n ≤ c) (hm : c ≤ maxLen) (hx : ∀ i t, L[i]? = some t → RdAt w0 A i t)
    (hmy : myB t = true) (hsb : sbB L sh = true) (hlo : myB t = true → LoT t) (hlL : ∀ x ∈ L, myB x = true → LoT x) :
    Calls Tryz.prog 126 #[.pointer (some ⟨pw, 0, none⟩), .pointer (some ⟨pt, 0, none⟩), .pointer (some ⟨ps, 0, none⟩)] W (MdEnd pw q W (apR t L sh)) := by
  have hsb' : L.length ≤ 200 ∧ 0 ≤ sh ∧ sh ≤ 1048576 ∧ ∀ x ∈ L, myB x = true := by
    unfold sbB at hsb
    simp only [Bool.and_eq_true, decide_eq_true_eq, List.all_eq_true] at hsb
    exact ⟨hsb.1.1.1, hsb.1.1.2, hsb.1.2, hsb.2⟩
  obtain ⟨s1, s2, s3, s4⟩ := hsb'
  have lpw := hwk.lt
  obtain ⟨c0, c1, c2⟩ := bt1.three
  obtain ⟨d0, d1⟩ := bs1.two
  have lt := bt1.lt
  have ls := bs1.lt
  obtain ⟨W2, hW2⟩ : ∃ W2, (W.alloc (.cells #[.int .i64 0, .int .i64 0, .slice none 0 0] 44)).alloc (.cells #[.slice A n c, .int .i64 sh, .map none] 144) = W2 := ⟨_, rfl⟩
  have hb2 : Below W.heap.size W W2 := by rw [← hW2]; exact ((Below.refl _ _).alloc (Nat.le_refl _) _).alloc (by simp) _
  have xR : Box W2 W.heap.size 44 #[.int .i64 0, .int .i64 0, .slice none 0 0] := by rw [← hW2]; exact (Box.new _ _ _).alloc _
  have xS : Box W2 (W.heap.size + 1) 144 #[.slice A n c, .int .i64 sh, .map none] := by rw [← hW2]; exact (Box.new (W.alloc _) _ _).at (by simp)
  have hbW := hb.trans (hb2.mono hb.size)
  have sz0 := hb.size
  have hX : ∀ b, (b = pw ∨ b = q ∨ b = W.heap.size ∨ b = W.heap.size + 1) → w0.heap.size ≤ b := fun b e => by omega
  have hap := apC fl L sh 0 t 0 (.agg #[.int .i64 k, .int .i64 h, .slice At nt ct]) W2 pw (W.heap.size + 1) (fun b => b = pw ∨ b = q ∨ b = W.heap.size ∨ b = W.heap.size + 1) A n c (.map none) (by rw [fl_eq]; omega) (Nat.le_refl _) (by omega)
    ⟨s4, fun x hx => okT_mono (by rw [bt0]; omega) _ (hlL x hx (s4 x hx)), s2, s3⟩ (way_of hmy (hlo hmy) (by rw [bt0]; omega)) (by have := ((myB_iff t).1 hmy).2.1; omega) (.inl rfl) (by omega) (hwk.keep hb2 lpw)
    ⟨xS, .inr (.inr (.inr rfl)), fun b e => by have := xS.lt; have := hb2.size; omega, rd_rxl hbW hX hn hc hm hx, .inl rfl⟩ (rd_rx hbW hX t _ rt)
  rw [show ((0 : Nat) : Int) = 0 from rfl, ← apR] at hap
  generalize apR t L sh = r at hap ⊢
  have HAP := Lib.hid hap; clear hap
  have HW2 := Lib.hid hW2; clear hW2
  have HB2 := Lib.hid hb2; clear hb2
  clear hx rt hsb hlL s4 hX hbW
  go_enter Tryz.func126, Tryz.ntmps126
  go_wp2_with fail
  rw [HW2.out]
  clear HW2
  refine HAP.out.mono ?_
  clear HAP
  cases r with
  | error ec =>
    rintro e w3 ⟨rfl, hfr⟩
    go_wp2_with fail
    refine ⟨rfl, rfl, (Fr.below (X := fun k => k = pw) HB2.out).trans hfr fun i hi e => ?_⟩
    rcases e with e | e | e
    · exact e
    · omega
    · cases e
  | ok p =>
    obtain ⟨u, m⟩ := p
    rintro e w3 ⟨k3, h3, A3, n3, c3, X3, mv3, rfl, hrx, hsc, hst, hwk3⟩
    have yR := xR.fr hst.fr (by
      intro e
      rcases e with e | e | e
      · omega
      · omega
      · cases e)
    have hfin : MdEnd pw q W (.ok (u, m)) (.returned (.agg #[.int .i64 k3, .int .i64 h3, .slice A3 n3 c3])) (((w3.setCell ⟨W.heap.size, 0, none⟩ (.int .i64 k3)).setCell ⟨W.heap.size, 1, none⟩ (.int .i64 h3)).setCell ⟨W.heap.size, 2, none⟩ (.slice A3 n3 c3)) := by
      refine ⟨_, _, _, _, _, rfl, RX.mono (RX.adv (RX.mono (Y := fun b => b = q ∨ b = W.heap.size) hrx fun i _ e => hst.adv.more i (by omega)) (Adv.set3 (X := fun b => b = q ∨ b = W.heap.size) (.inr rfl) _ _ _)) (fun i _ e => .inl e), ?_⟩
      refine Fr.set3 ((Fr.below (X := fun k => k = pw) HB2.out).trans hst.fr fun i hi e => ?_) (fun h => absurd h (Nat.lt_irrefl _)) _ _ _
      rcases e with e | e | e
      · exact e
      · omega
      · cases e
    have HFIN := Lib.hid hfin; clear hfin hrx hsc hst hwk3 xR xS c0 c1 c2 d0 d1
    obtain ⟨r0, r1, r2⟩ := yR.three
    have f0 := yR.frozen 0
    have f1 := yR.frozen 1
    have f2 := yR.frozen 2
    go_wp2_with fail
    refine bodyPost_ret (v := .agg #[.int .i64 k3, .int .i64 h3, .slice A3 n3 c3]) (by simp [results, Tryz.results126, go_sem, r0, r1, r2]) rfl ?_
    exact HFIN.out

theorem entersApp (args : Array Value) (W : World) : Sem.run Tryz.prog (callFunc 126 args) W = .ok (.enter 126 args) W := by
  simp [callFunc, go_sem, Tryz.func126, Tryz.f126]
theorem rd_nil0 (ok : Nat → Prop) (w : World) : RdF ok w (.node 0 0 []) (.agg #[.int .i64 0, .int .i64 0, .slice none 0 0]) :=
  RdF_node.2 ⟨none, 0, 0, rfl, by decide, by decide, rfl, Nat.le_refl _, Nat.zero_le _, fun i t ht => by simp at ht⟩

set_option maxRecDepth 100000 in
set_option maxHeartbeats 4000000 in
theorem ApplyC {w : World} {t : T} {L : List T} {sh k h : Int} {At A : Option Addr} {nt ct n c : Nat} (rt : Rd w t (.agg #[.int .i64 k, .int .i64 h, .slice At nt ct])) (hn : L.length = n) (hc : n ≤ c) (hm : c ≤ maxLen) (hx : ∀ i t, L[i]? = some t → RdAt w A i t) (hlo : myB t = true → LoT t) (hlL : ∀ x ∈ L, myB x = true → LoT x) :
    Calls Tryz.prog 110 #[.agg #[.int .i64 k, .int .i64 h, .slice At nt ct], .agg #[.slice A n c, .int .i64 sh]] w (TEnd (apT t L sh) (apE t L sh) w) := by
  have hmf : ∀ (fn : Fn) (first cap : Array Value) (w : World), (Instr.makeFunc fn first cap).run Tryz.prog w = .ok (.func fn first cap) w := fun _ _ _ _ => rfl
  obtain ⟨W, hW⟩ : ∃ W, ((w.alloc (.cells #[.int .i64 k, .int .i64 h, .slice At nt ct] 44)).alloc (.cells #[.slice A n c, .int .i64 sh] 118)).alloc (.cells #[.int .i64 0, .int .i64 0, .slice none 0 0] 44) = W := ⟨_, rfl⟩
  have hb : Below w.heap.size w W := by rw [← hW]; exact (((Below.refl _ _).alloc (Nat.le_refl _) _).alloc (by simp) _).alloc (by simp; omega) _
  have xT : Box W w.heap.size 44 #[.int .i64 k, .int .i64 h, .slice At nt ct] := by rw [← hW]; exact ((Box.new _ _ _).alloc _).alloc _
  have xS : Box W (w.heap.size + 1) 118 #[.slice A n c, .int .i64 sh] := by rw [← hW]; exact ((Box.new (w.alloc _) _ _).at (by simp)).alloc _
  have xR : Box W (w.heap.size + 1 + 1) 44 #[.int .i64 0, .int .i64 0, .slice none 0 0] := by rw [← hW]; exact (Box.new ((w.alloc _).alloc _) _ _).at (by simp)
  have HW := Lib.hid hW; clear hW
  have HMY : Hid (∀ W', Below w.heap.size w W' → Calls Tryz.prog 77 #[.agg #[.int .i64 k, .int .i64 h, .slice At nt ct]] W' fun e w' => e = .returned (.bool (myB t)) ∧ Below W'.heap.size W' w') := Lib.hid fun W' h' => myC t _ _ (Rd.keep h' _ _ rt)
  have HSB : Hid (∀ W', Below w.heap.size w W' → Calls Tryz.prog 124 #[.agg #[.slice A n c, .int .i64 sh]] W' fun e w' => e = .returned (.bool (sbB L sh)) ∧ Below W'.heap.size W' w') := Lib.hid fun W' h' => sbMayC L A n c sh W' hn hc hm fun i t ht => RdAt.keep h' (hx i t ht)
  have HAN : Hid (myB t = true → sbB L sh = true → ∀ W', Below w.heap.size w W' → Box W' w.heap.size 44 #[.int .i64 k, .int .i64 h, .slice At nt ct] → Box W' (w.heap.size + 1) 118 #[.slice A n c, .int .i64 sh] →
      Calls Tryz.prog 125 #[.func (.func 126) #[] #[.pointer (some ⟨w.heap.size, 0, none⟩), .pointer (some ⟨w.heap.size + 1, 0, none⟩)]] W' (AnsEnd (apR t L sh) W')) := Lib.hid fun h1 h2 W' hb' b1 b2 => by
    refine answerC _ _ _ entersApp _ _ fun W2 pw q hb2 hwk hpw hq hqW hne => ?_
    have hsz := hb'.size
    exact appMade (hb'.trans (hb2.mono hb'.size)) (by omega) (by omega) hqW hne hwk (b1.keep hb2 b1.lt) (b2.keep hb2 b2.lt) rt hn hc hm hx h1 h2 hlo hlL
  have HTE : Hid (apT t L sh = (if (myB t && sbB L sh) = true then anT (apR t L sh) else .node 0 0 []) ∧ apE t L sh = (if (myB t && sbB L sh) = true then anE (apR t L sh) else 1)) := Lib.hid ⟨rfl, rfl⟩
  clear rt hx hlL hlo hn hc hm
  generalize apT t L sh = RT at *
  generalize apE t L sh = RE at *
  generalize apR t L sh = r at *
  obtain ⟨c0, c1, c2⟩ := xT.three
  go_enter Tryz.func110, Tryz.ntmps110
  go_wp2_with fail
  rw [HW.out]
  clear HW
  refine (HMY.out W hb).mono ?_
  clear HMY
  generalize myB t = M1 at *
  rintro e w1 ⟨rfl, hb1⟩
  replace xT := xT.keep hb1 xT.lt
  replace xS := xS.keep hb1 xS.lt
  replace xR := xR.keep hb1 xR.lt
  replace hb := hb.trans (hb1.mono hb.size)
  clear hb1 c0 c1 c2
  obtain ⟨s0, s1⟩ := xS.two
  obtain ⟨r0, r1, r2⟩ := xR.three
  have f0 := xR.frozen 0
  have f1 := xR.frozen 1
  have f2 := xR.frozen 2
  cases M1
  · go_wp2_with fail
    refine bodyPost_ret (v := .tuple #[.agg #[.int .i64 0, .int .i64 0, .slice none 0 0], .int .i64 1]) (by simp [results, Tryz.results110, go_sem, r0, r1, r2]) rfl ?_
    obtain ⟨h1, h2⟩ := HTE.out
    simp only [Bool.false_and, Bool.false_eq_true, if_false] at h1 h2
    rw [h1, h2]
    exact ⟨_, _, _, _, _, rfl, rd_nil0 _ _, below_set3 hb (by omega) _ _ _⟩
  go_wp2_with fail
  clear f0 f1 f2 r0 r1 r2 s0 s1
  refine (HSB.out w1 hb).mono ?_
  clear HSB
  generalize sbB L sh = M2 at *
  rintro e w2 ⟨rfl, hb1⟩
  replace xT := xT.keep hb1 xT.lt
  replace xS := xS.keep hb1 xS.lt
  replace xR := xR.keep hb1 xR.lt
  replace hb := hb.trans (hb1.mono hb.size)
  clear hb1
  obtain ⟨r0, r1, r2⟩ := xR.three
  have f0 := xR.frozen 0
  have f1 := xR.frozen 1
  have f2 := xR.frozen 2
  cases M2
  · go_wp2_with fail
    refine bodyPost_ret (v := .tuple #[.agg #[.int .i64 0, .int .i64 0, .slice none 0 0], .int .i64 1]) (by simp [results, Tryz.results110, go_sem, r0, r1, r2]) rfl ?_
    obtain ⟨h1, h2⟩ := HTE.out
    simp only [Bool.and_false, Bool.false_eq_true, if_false] at h1 h2
    rw [h1, h2]
    exact ⟨_, _, _, _, _, rfl, rd_nil0 _ _, below_set3 hb (by omega) _ _ _⟩
  go_wp2_with fail
  clear f0 f1 f2 r0 r1 r2
  have xR2 := xR.lt
  refine (HAN.out (by trivial) (by trivial) w2 hb xT xS).mono ?_
  rintro e w3 ⟨k3, h3, A3, n3, c3, rfl, hrd, hb1⟩
  replace xR := xR.keep hb1 xR.lt
  replace hb := hb.trans (hb1.mono hb.size)
  clear hb1
  obtain ⟨r0, r1, r2⟩ := xR.three
  have f0 := xR.frozen 0
  have f1 := xR.frozen 1
  have f2 := xR.frozen 2
  have HRD := Lib.hid hrd; clear hrd
  go_wp2_with fail
  refine bodyPost_ret (v := .tuple #[.agg #[.int .i64 k3, .int .i64 h3, .slice A3 n3 c3], .int .i64 (anE r)]) (by simp [results, Tryz.results110, go_sem, r0, r1, r2]) rfl ?_
  obtain ⟨h1, h2⟩ := HTE.out
  simp only [Bool.and_self, if_true] at h1 h2
  rw [h1, h2]
  have lw2 := xR2
  exact ⟨_, _, _, _, _, rfl, RdF.moveX (fun b hb' hl => ⟨by omega, heap_other3 _ _ _ _ _ _ (by omega)⟩) _ _ HRD.out, below_set3 hb (by omega) _ _ _⟩
end Go.Proofs.YtloeainlpcnhnaaGreat
