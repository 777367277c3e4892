/-
  How package subst's apply, args and spine end; the contract of args, given that of apply. No statement is proved here.
-/
import Derived.Test.YtloeainlpcnhnaaGreatWd
import Derived.Deep.RegionHeld3
namespace Go.Proofs.YtloeainlpcnhnaaGreat
open Go.ChangeShapes Go.WideShapes Go.ChangeAt Go.RowKit
set_option linter.unusedVariables false

/-- the panic by which an error leaves all of it -/
abbrev stopC (e : Int) : List PanicEntry := [{ v := .iface 151 (.agg #[.int .i64 e]), recovered := false }]
abbrev wkB (w : World) (pw n : Nat) : Prop := Box w pw 154 #[.int .i64 (n : Int)]
/-- how apply ends -/
def AEnd (pw ps : Nat) (X : Nat → Prop) (w : World) (L : List T) (sh : Int) (A : Option Addr) (n c : Nat) (mv : Value) (r : Res) (e : Ending) (w' : World) : Prop :=
  match r with
  | .ok (t, m) => ∃ k h A' n' c' X' mv', e = .returned (.agg #[.int .i64 k, .int .i64 h, .slice A' n' c']) ∧ RX X' w' t (.agg #[.int .i64 k, .int .i64 h, .slice A' n' c']) ∧ Sc X' w' ps L sh A n c mv' ∧ Stp pw ps X w mv X' w' mv' ∧ wkB w' pw m
  | .error ec => e = .panicked (stopC ec) ∧ Fr (fun k => k = pw ∨ k = ps ∨ mv = .map (some k)) w w'
/-- how args ends -/
def LEnd (pw ps : Nat) (X : Nat → Prop) (w : World) (L : List T) (sh : Int) (A : Option Addr) (n c : Nat) (mv : Value) (r : Except Int (List T × Nat)) (e : Ending) (w' : World) : Prop :=
  match r with
  | .ok (ys, m) => ∃ A' n' c' X' mv', e = .returned (.slice A' n' c') ∧ RXL X' w' ys A' n' c' ∧ Sc X' w' ps L sh A n c mv' ∧ Stp pw ps X w mv X' w' mv' ∧ wkB w' pw m
  | .error ec => e = .panicked (stopC ec) ∧ Fr (fun k => k = pw ∨ k = ps ∨ mv = .map (some k)) w w'
/-- how spine ends -/
def PEnd (pw : Nat) (X : Nat → Prop) (w : World) (r : Res) (e : Ending) (w' : World) : Prop :=
  match r with
  | .ok (t, m) => ∃ k h A' n' c', e = .returned (.agg #[.int .i64 k, .int .i64 h, .slice A' n' c']) ∧ RX X w' t (.agg #[.int .i64 k, .int .i64 h, .slice A' n' c']) ∧ Fr (fun k => k = pw) w w' ∧ wkB w' pw m
  | .error ec => e = .panicked (stopC ec) ∧ Fr (fun k => k = pw) w w'

def ApC (f : Nat) : Prop := ∀ (L : List T) (sh : Int) (u : Nat) (t : T) (n : Nat) (v : Value) (w : World) (pw ps : Nat) (X : Nat → Prop) (A : Option Addr) (m c : Nat) (mv : Value),
  40001 ≤ n + f → u ≤ n → n ≤ 40000 → Sub (bt n) L sh → Way (bt n - sh) t → nd t ≤ 200000000 → X pw → pw ≠ ps → wkB w pw n → Sc X w ps L sh A m c mv → RX X w t v →
  Calls Tryz.prog 127 #[.pointer (some ⟨pw, 0, none⟩), v, .pointer (some ⟨ps, 0, none⟩), .int .i64 u] w (AEnd pw ps X w L sh A m c mv (ap f L sh u t n))
def SpC (f : Nat) : Prop := ∀ (t : T) (args : List T) (n : Nat) (v : Value) (A : Option Addr) (m c : Nat) (w : World) (pw : Nat) (X : Nat → Prop),
  40001 ≤ n + f → n ≤ 40000 → Way (bt n) t → WayL (bt n) args → nd t ≤ 200000000 → ndL args ≤ 200000000 → X pw → (∀ b, X b → b < w.heap.size) → wkB w pw n → RX X w t v → RXL X w args A m c →
  Calls Tryz.prog 141 #[.pointer (some ⟨pw, 0, none⟩), v, .slice A m c] w (PEnd pw X w (sp f t args n))

theorem Sc.mapNe {X : Nat → Prop} {w : World} {ps : Nat} {L : List T} {sh : Int} {A : Option Addr} {n c : Nat} {mv : Value} (h : Sc X w ps L sh A n c mv) {b : Nat} {ty : TypeId} {cs : Array Value} (hb : Box w b ty cs) : mv ≠ .map (some b) := fun e => by
  rcases h.found with e1 | ⟨pm', es, cl, e1, _, hm, _⟩
  · rw [e] at e1; cases e1
  · rw [e] at e1; cases e1
    unfold Box at hb
    rw [hb] at hm
    cases hm
/-- fewer blocks that are written -/
theorem Sc.less {X Y : Nat → Prop} {w : World} {ps : Nat} {L : List T} {sh : Int} {A : Option Addr} {n c : Nat} {mv : Value} (h : Sc Y w ps L sh A n c mv) (h1 : ∀ b, X b → Y b) (h2 : X ps) (h3 : ∀ pm, mv = .map (some pm) → X pm) : Sc X w ps L sh A n c mv := by
  refine ⟨h.box, h2, fun b hb => h.bnd b (h1 b hb), h.list.mono fun i _ e => h1 i e, ?_⟩
  rcases h.found with rfl | ⟨pm, es, cl, rfl, hx, hm, hok⟩
  · exact .inl rfl
  · exact .inr ⟨pm, es, cl, rfl, h3 pm rfl, hm, hok.keys, hok.one, fun x hx fr u hk h0 h1' => (hok.ok x hx fr u hk h0 h1').mono fun i _ e => h1 i e⟩
theorem Kids.moveX {w w' : World} {ok ok' : Nat → Prop} {cs : Array Value} {ys : List T} (hk : Kids w ok cs ys) (hm : ∀ b, ok b → b < w.heap.size → ok' b ∧ w'.heap[b]? = w.heap[b]?) : Kids w' ok' cs ys := fun i t ht => by
  obtain ⟨k, h, A, n, c, e0, e1, e2, hr⟩ := hk i t ht
  exact ⟨k, h, A, n, c, e0, e1, e2, RdF.moveX hm _ _ hr⟩
theorem Kids.rxl {X Y : Nat → Prop} {w : World} {cs : Array Value} {ys : List T} {b n : Nat} {ty : TypeId} (hk : Kids w (fun b => ¬ Y b) cs ys) (hb : Box w b ty cs) (hl : ys.length = n) (hm : n ≤ maxLen) (hX : ¬ X b) (hY : ∀ i, X i → Y i) : RXL X w ys (some ⟨b, 0, none⟩) n n := by
  refine ⟨hl, Nat.le_refl _, hm, fun i t ht => ?_⟩
  obtain ⟨k, h, A, n', c, e0, e1, e2, hr⟩ := hk i t ht
  refine ⟨b, 0, _, _, _, rfl, hX, ?_, ?_, ?_, RX.mono hr fun i _ e => hY i e⟩
  · rw [Nat.zero_add, hb.cell]; exact e0
  · rw [Nat.zero_add, hb.cell]; exact e1
  · rw [Nat.zero_add, hb.cell]; exact e2
theorem sboundN (k h : Int) (A : Option Addr) (n c : Nat) (hc : n ≤ c) (hm : c ≤ maxLen) (i : Nat) (hi : i ≤ maxLen) (w : World) :
    Calls Tryz.prog 116 #[.agg #[.int .i64 k, .int .i64 h, .slice A n c], .int .i64 i] w fun e w' => e = .returned (.int .i64 (bdn k n i : Nat)) ∧ Below w.heap.size w w' := by
  rw [← bd_bdn]; exact boundC k h A n c hc hm i hi w

theorem Stp.more {pw ps : Nat} {X Y : Nat → Prop} {w w' : World} {mv : Value} (h : Below w.heap.size w w') (h1 : ∀ b, X b → Y b) (h2 : ∀ b, b < w.heap.size → Y b → X b) : Stp pw ps X w mv Y w' mv :=
  ⟨⟨h.size, h1, h2, fun b hb _ => h.block b hb⟩, Fr.below h, fun _ e _ => e⟩
def contL (ys : List T) (r : Except Int (List T × Nat)) : Except Int (List T × Nat) :=
  match r with
  | .error e => .error e
  | .ok (zs, m) => .ok (ys ++ zs, m)
theorem contL_nil (r : Except Int (List T × Nat)) : contL [] r = r := by
  cases r with
  | error e => rfl
  | ok p => obtain ⟨zs, m⟩ := p; rfl
/-- what holds at the head of args' loop -/
structure ArI (f : Nat) (L : List T) (sh : Int) (u : Nat) (k h : Int) (xs : List T) (n0 : Nat) (An : Option Addr) (n c : Nat) (w : World) (pw ps : Nat) (X : Nat → Prop) (A : Option Addr) (m cL : Nat) (mv : Value) (j : Nat) (wr : World)
    (cs : Array Value) (ys : List T) (n1 : Nat) (Y : Nat → Prop) (mv1 : Value) : Prop where
  row : Box wr (w.heap.size + 1) 44 cs
  size : cs.size = n * 3
  len : ys.length = j
  kids : Kids wr (fun b => ¬ Y b) cs ys
  own : Y (w.heap.size + 1)
  box : Box wr w.heap.size 44 #[.int .i64 k, .int .i64 h, .slice An n c]
  sc : Sc Y wr ps L sh A m cL mv1
  st : Stp pw ps X w mv Y wr mv1
  wk : wkB wr pw n1
  lo : n0 ≤ n1
  hi : n1 ≤ 40000
  eq : apL (fun u' x m => ap f L sh u' x m) k xs.length u xs 0 n0 = contL ys (apL (fun u' x m => ap f L sh u' x m) k xs.length u (xs.drop j) j n1)
theorem Stp.setCell {pw ps : Nat} {X Y : Nat → Prop} {w w' : World} {mv mv' : Value} (h : Stp pw ps X w mv Y w' mv') {a : Addr} (ha : w.heap.size ≤ a.block) (v : Value) : Stp pw ps X w mv Y (w'.setCell a v) mv' :=
  ⟨⟨by simpa [World.setCell] using h.adv.size, h.adv.more, h.adv.new, fun b hb e => (Below.heap_setCell _ _ _ _ (by omega)).trans (h.adv.block b hb e)⟩,
    ⟨h.fr.os, h.fr.tape, h.fr.output, by simpa [World.setCell] using h.fr.size, fun b hb e => (Below.heap_setCell _ _ _ _ (by omega)).trans (h.fr.block b hb e)⟩, h.mvs⟩
theorem Adv.setCell {X : Nat → Prop} {w : World} {a : Addr} (ha : X a.block) (v : Value) : Adv X w X (w.setCell a v) :=
  ⟨by simp [World.setCell], fun _ h => h, fun _ _ h => h, fun b hb e => Below.heap_setCell _ _ _ _ (fun e' => e (e' ▸ ha))⟩
theorem Sc.setCell {X : Nat → Prop} {w : World} {ps : Nat} {L : List T} {sh : Int} {A : Option Addr} {n c : Nat} {mv : Value} (h : Sc X w ps L sh A n c mv) {a : Addr} (ha : X a.block) (h1 : ps ≠ a.block) (h2 : mv ≠ .map (some a.block)) (v : Value) : Sc X (w.setCell a v) ps L sh A n c mv :=
  h.adv (Adv.setCell ha v) (Below.heap_setCell _ _ _ _ h1) (fun pm e => Below.heap_setCell _ _ _ _ (fun e' => h2 (e' ▸ e))) (fun b hb => by simpa [World.setCell] using h.bnd b hb)
set_option maxRecDepth 100000 in
set_option maxHeartbeats 4000000 in
theorem argsC {f : Nat} (hA : ApC f) (L : List T) (sh : Int) (u : Nat) (k h : Int) (xs : List T) (n0 : Nat) (An : Option Addr) (n c : Nat) (w : World) (pw ps : Nat) (X : Nat → Prop) (A : Option Addr) (m cL : Nat) (mv : Value)
    (hf : 40001 ≤ n0 + f) (hu : u + 1 ≤ n0) (hn0 : n0 ≤ 40000) (hs : Sub (bt n0) L sh) (hw : Way (bt n0 - sh) (.node k h xs)) (hnd : nd (.node k h xs) ≤ 200000000) (hX : X pw) (hne : pw ≠ ps) (hwk : wkB w pw n0) (hsc : Sc X w ps L sh A m cL mv)
    (hv : RX X w (.node k h xs) (.agg #[.int .i64 k, .int .i64 h, .slice An n c])) :
    Calls Tryz.prog 140 #[.pointer (some ⟨pw, 0, none⟩), .agg #[.int .i64 k, .int .i64 h, .slice An n c], .pointer (some ⟨ps, 0, none⟩), .int .i64 u] w (LEnd pw ps X w L sh A m cL mv (apL (fun u' x m => ap f L sh u' x m) k xs.length u xs 0 n0)) := by
  obtain ⟨An', n', c', ev, _, _, hn, hc, hm, hx⟩ := RdF_node.1 hv
  have ev' : An = An' ∧ n = n' ∧ c = c' := by simpa using ev
  obtain ⟨rfl, rfl, rfl⟩ := ev'
  clear ev
  have hMM := hm
  unfold maxLen at hm
  have hnl : n ≤ 200000000 := by rw [nd] at hnd; have := (wdL_nd xs).2; omega
  obtain ⟨i0, hi, hz0, hz1, hz2⟩ := info_parts infoTerm
  have hmk : ∀ W : World, (Instr.makeSlice 24 (.int .i64 n) (.int .i64 n)).run Tryz.prog W = .ok (.slice (some ⟨W.heap.size, 0, none⟩) n n) (W.alloc (.cells (madeCells #[.int .i64 0, .int .i64 0, .slice none 0 0] (n * 3)) 44)) := by
    intro W
    have := run_make W 24 44 i0 _ Tryz.underlying24 hi hz0 .i64 .i64 (n : Int) (n : Int) (by omega) (Int.le_refl _) (by rw [hz2]; omega) (by omega)
    rw [hz1] at this
    simpa [Value.cells] using this
  clear hi hz0 hz1 hz2
  have HN := Lib.hid hn; clear hn
  have HSC := Lib.hid hsc; clear hsc
  have HV := Lib.hid hv; clear hv
  have HX := Lib.hid hx; clear hx
  have HWK := Lib.hid hwk; clear hwk
  have HS := Lib.hid hs; clear hs
  have HW := Lib.hid hw; clear hw
  have HND := Lib.hid hnd; clear hnd
  have HXP := Lib.hid hX; clear hX
  have HAP := Lib.hid hA; clear hA
  have lpw := HWK.out.lt
  have lps := HSC.out.box.lt
  by_cases h0 : n = 0
  · subst h0
    have hxs : xs = [] := List.length_eq_zero_iff.1 HN.out
    go_enter Tryz.func140, Tryz.ntmps140
    go_wp2_with fail
    go_ret
    have hb : Below w.heap.size w (w.alloc (.cells #[.int .i64 k, .int .i64 h, .slice An 0 c] 44)) := (Below.refl _ _).alloc (Nat.le_refl _) _
    rw [hxs, apL]
    exact ⟨none, 0, 0, X, mv, rfl, ⟨rfl, Nat.le_refl _, Nat.zero_le _, fun i t ht => by simp at ht⟩, HSC.out.below hb, Stp.below hb, HWK.out.keep hb lpw⟩
  · have e0 : ((n : Int) == 0) = false := by rw [beq_eq_false_iff_ne]; omega
    go_enter Tryz.func140, Tryz.ntmps140
    go_wp2_with fail
    have hcs := size_madeCells #[.int .i64 0, .int .i64 0, .slice none 0 0] (n * 3)
    generalize madeCells #[.int .i64 0, .int .i64 0, .slice none 0 0] (n * 3) = cs0 at *
    obtain ⟨W, hW⟩ : ∃ W, (w.alloc (.cells #[.int .i64 k, .int .i64 h, .slice An n c] 44)).alloc (.cells cs0 44) = W := ⟨_, rfl⟩
    have hb : Below w.heap.size w W := by rw [← hW]; exact ((Below.refl _ _).alloc (Nat.le_refl _) _).alloc (by simp) _
    have x0 : Box W w.heap.size 44 #[.int .i64 k, .int .i64 h, .slice An n c] := by rw [← hW]; exact (Box.new _ _ _).alloc _
    have x1 : Box W (w.heap.size + 1) 44 cs0 := by rw [← hW]; exact (Box.new (w.alloc _) _ _).at (by simp)
    rw [hW]
    clear hW hmk
    have HCS := Lib.hid hcs; clear hcs
    go_loopw [23] (fun i wr => ∃ (j : Nat) (cs : Array Value) (ys : List T) (n1 : Nat) (Y : Nat → Prop) (mv1 : Value), j ≤ n ∧ i = .int .i64 j ∧ Hid (ArI f L sh u k h xs n0 An n c w pw ps X A m cL mv j wr cs ys n1 Y mv1)) (fun i _ => n - (intOf i).toNat)
    case atStart =>
      have hY2 : ∀ b, b < w.heap.size → (X b ∨ b = w.heap.size + 1) → X b := fun b hl e => by
        rcases e with e | e
        · exact e
        · omega
      refine ⟨0, cs0, [], n0, fun b => X b ∨ b = w.heap.size + 1, mv, Nat.zero_le _, rfl, Lib.hid ⟨x1, HCS.out, rfl, fun i t ht => by simp at ht, .inr rfl, x0, ?_, Stp.more hb (fun _ h => .inl h) hY2, HWK.out.keep hb lpw, Nat.le_refl _, hn0, ?_⟩⟩
      · exact HSC.out.more hb (fun _ h => .inl h) hY2 (fun b e => by
          rcases e with e | e
          · exact Nat.lt_of_lt_of_le (HSC.out.bnd b e) hb.size
          · rw [e]; exact x1.lt)
      · rw [List.drop_zero, contL_nil]
    case round =>
      obtain ⟨j, cs, ys, n1, Y, mv1, hj, rfl, HI⟩ := hrel
      clear x0 x1 hb HCS
      by_cases hlt : j < n
      · obtain ⟨t, ht⟩ := at_of HN.out hlt
        obtain ⟨b, o, k2, h2, A2, n2a, c2', rfl, c0, c1, c2, hr⟩ := (RdFAt.moveX (fun b hb hl => ⟨fun e => hb (HI.out.st.adv.new b hl e), HI.out.st.adv.block b hl hb⟩) (HX.out j t ht)).full
        have HT := Lib.hid ht; clear ht
        have hi0 : (0 : Int) ≤ j := by omega
        have hi1 : (j : Int) < n := by omega
        go_wp2_with fail
        have hbA : Below wr.heap.size wr (wr.alloc (.cells #[.int .i64 k2, .int .i64 h2, .slice A2 n2a c2'] 44)) := (Below.refl _ wr).alloc (Nat.le_refl _) _
        have xa := Box.new wr 44 #[.int .i64 k2, .int .i64 h2, .slice A2 n2a c2']
        generalize wr.alloc (.cells #[.int .i64 k2, .int .i64 h2, .slice A2 n2a c2'] 44) = Wa at *
        clear c0 c1 c2
        have HR := Lib.hid (RX.adv hr (Adv.below (X := Y) hbA)); clear hr
        have hl1 := HI.out.lo
        have hl2 := HI.out.hi
        obtain ⟨β, hβ⟩ : ∃ β, bdn k n j = β := ⟨_, rfl⟩
        have hβ1 : β ≤ 1 := by rw [← hβ]; exact bdn_le _ _ _
        have xb := HI.out.box.keep hbA HI.out.box.lt
        have HBD : Hid (∀ W', Calls Tryz.prog 116 #[.agg #[.int .i64 k, .int .i64 h, .slice (some ⟨b, o, none⟩) n c], .int .i64 j] W' fun e w' => e = .returned (.int .i64 (β : Nat)) ∧ Below W'.heap.size W' w') := Lib.hid fun W' => by
          rw [← hβ]; exact sboundN k h _ n c hc hMM j (by unfold maxLen; omega) W'
        have hst := HI.out.st.fr.size
        have hmem : t ∈ xs := List.mem_of_getElem? HT.out
        have hbt := bt_mono hl1
        have hndt : nd t ≤ 200000000 := by have h1 := HND.out; rw [nd] at h1; have := nd_mem hmem; omega
        have HAC : Hid (∀ W', Below Wa.heap.size Wa W' → Calls Tryz.prog 127 #[.pointer (some ⟨pw, 0, none⟩), .agg #[.int .i64 k2, .int .i64 h2, .slice A2 n2a c2'], .pointer (some ⟨ps, 0, none⟩), .int .i64 ((u : Int) + (β : Int))] W' (AEnd pw ps Y W' L sh A m cL mv1 (ap f L sh (u + β) t n1))) := Lib.hid fun W' hW' => by
          have hbW := hbA.trans (hW'.mono hbA.size)
          rw [show (u : Int) + (β : Int) = ((u + β : Nat) : Int) by omega]
          exact HAP.out L sh (u + β) t n1 _ W' pw ps Y A m cL mv1 (by omega) (by omega) hl2 (HS.out.mono hbt) ((HW.out.args hmem).mono (by omega)) hndt (HI.out.st.adv.more _ HXP.out) hne (HI.out.wk.keep hbW HI.out.wk.lt) (HI.out.sc.below hbW) (RX.adv HR.out (Adv.below hW'))
        have HEQ := HI.out.eq
        rw [drop_at HT.out, apL, HN.out, hβ] at HEQ
        have HEQ' := Lib.hid HEQ; clear HEQ
        have hw1 : IntKind.i64.wrap ((u : Int) + (β : Int)) = (u : Int) + (β : Int) := by rw [wrapEq, wrap_small (by omega) (by omega)]
        have hS : Wa.cell? ⟨wr.heap.size, 0, none⟩ = some (.int .i64 k2) ∧ Wa.cell? ⟨wr.heap.size, 1, none⟩ = some (.int .i64 h2) ∧ Wa.cell? ⟨wr.heap.size, 2, none⟩ = some (.slice A2 n2a c2') ∧ Wa.cell? ⟨w.heap.size, 0, none⟩ = some (.int .i64 k) ∧ Wa.cell? ⟨w.heap.size, 1, none⟩ = some (.int .i64 h) ∧ Wa.cell? ⟨w.heap.size, 2, none⟩ = some (.slice (some ⟨b, o, none⟩) n c) := ⟨xa.three.1, xa.three.2.1, xa.three.2.2, xb.three.1, xb.three.2.1, xb.three.2.2⟩
        have HKS : Hid (∀ w', Below Wa.heap.size Wa w' → (w'.cell? ⟨wr.heap.size, 0, none⟩ = some (.int .i64 k2) ∧ w'.cell? ⟨wr.heap.size, 1, none⟩ = some (.int .i64 h2) ∧ w'.cell? ⟨wr.heap.size, 2, none⟩ = some (.slice A2 n2a c2') ∧ w'.cell? ⟨w.heap.size, 0, none⟩ = some (.int .i64 k) ∧ w'.cell? ⟨w.heap.size, 1, none⟩ = some (.int .i64 h) ∧ w'.cell? ⟨w.heap.size, 2, none⟩ = some (.slice (some ⟨b, o, none⟩) n c))) := Lib.hid fun w' h => by
          have s1 := xa.keep h xa.lt
          have s2 := xb.keep h xb.lt
          exact ⟨s1.three.1, s1.three.2.1, s1.three.2.2, s2.three.1, s2.three.2.1, s2.three.2.2⟩
        have hcur : Below Wa.heap.size Wa Wa.drew := (Below.refl _ Wa).drew
        have hbWa := hbA
        clear hS hβ
        cases hres : ap f L sh (u + β) t n1 with
        | error ec =>
          rw [hres] at HAC
          have hap : apL (fun u' x m => ap f L sh u' x m) k xs.length u xs 0 n0 = .error ec := by rw [HN.out, HEQ'.out, hres]; rfl
          have HERR : Hid (∀ W' w8, Below Wa.heap.size Wa W' → Fr (fun k => k = pw ∨ k = ps ∨ mv1 = .map (some k)) W' w8 → LEnd pw ps X w L sh A m cL mv (apL (fun u' x m => ap f L sh u' x m) k xs.length u xs 0 n0) (.panicked (stopC ec)) w8) := Lib.hid fun W' w8 h1 h2 => by
            rw [hap]
            refine ⟨rfl, (HI.out.st.fr.then (hbWa.trans (h1.mono hbWa.size))).trans h2 fun i hi e => ?_⟩
            rcases e with e | e | e
            · exact .inl e
            · exact .inr (.inl e)
            · exact .inr (.inr (HI.out.st.mvs i e hi))
          clear hres hap
          obtain ⟨q0, q1, q2, q3, q4, q5⟩ := HKS.out _ (Below.refl _ _)
          go_region_with
            (first
              | (go_at_call 116
                 with_reducible refine (HBD.out _).mono ?_
                 rintro e w8 ⟨rfl, hb1⟩
                 replace hcur := hcur.trans (hb1.mono hcur.size)
                 clear hb1
                 obtain ⟨q0, q1, q2, q3, q4, q5⟩ := HKS.out _ hcur)
              | (go_at_call 127
                 with_reducible refine (HAC.out _ hcur).mono ?_
                 rintro e w8 ⟨rfl, hfr⟩
                 suffices hfk : wpAny Tryz.prog .any #[] (fun _ _ _ => True) 0 #[] { tmps := #[], defers := [] } w8 from ⟨rfl, HERR.out _ _ hcur hfr⟩))
          all_goals trivial
        | ok p =>
          obtain ⟨t', n2⟩ := p
          rw [hres] at HAC
          have hap : apL (fun u' x m => ap f L sh u' x m) k xs.length u xs 0 n0 = contL (ys ++ [t']) (apL (fun u' x m => ap f L sh u' x m) k xs.length u (xs.drop (j + 1)) (j + 1) n2) := by
            rw [HN.out, HEQ'.out, hres]
            simp only [contL]
            cases apL (fun u' x m => ap f L sh u' x m) k n u (xs.drop (j + 1)) (j + 1) n2 with
            | error e => rfl
            | ok q => obtain ⟨zs, m'⟩ := q; simp
          have HAPP := Lib.hid hap; clear hap
          have hgood := ap_good f L sh (u + β) t n1 (by omega) hl2 (HS.out.mono hbt) ((HW.out.args hmem).mono (Int.sub_le_sub_right hbt _)) t' n2 hres
          have HG := Lib.hid hgood; clear hgood
          have HRE := Lib.hid hres; clear hres
          have HF1 : Hid (∀ W' w9, Below Wa.heap.size Wa W' → Fr (fun k => k = pw ∨ k = ps ∨ mv1 = .map (some k)) W' w9 → Box w9 wr.heap.size 44 #[.int .i64 k2, .int .i64 h2, .slice A2 n2a c2'] ∧ Box w9 w.heap.size 44 #[.int .i64 k, .int .i64 h, .slice (some ⟨b, o, none⟩) n c] ∧ Box w9 (w.heap.size + 1) 44 cs) := Lib.hid fun W' w9 h1 h2 => by
            have hbW := hbWa.trans (h1.mono hbWa.size)
            have hsc := HI.out.sc.below hbW
            have a1 := xa.keep h1 xa.lt
            have a2 := xb.keep h1 xb.lt
            have a3 := HI.out.row.keep hbW HI.out.row.lt
            have l1 := HI.out.wk.lt
            have l2 := HI.out.sc.box.lt
            exact ⟨a1.fr h2 (fun e => by
              rcases e with e | e | e
              · omega
              · omega
              · exact hsc.mapNe a1 e), a2.fr h2 (fun e => by
              rcases e with e | e | e
              · omega
              · omega
              · exact hsc.mapNe a2 e), a3.fr h2 (fun e => by
              rcases e with e | e | e
              · omega
              · omega
              · exact hsc.mapNe a3 e)⟩
          have lrow := HI.out.row.lt
          go_region_held3 (fun w' => w'.cell? ⟨wr.heap.size, 0, none⟩ = some (.int .i64 k2) ∧ w'.cell? ⟨wr.heap.size, 1, none⟩ = some (.int .i64 h2) ∧ w'.cell? ⟨wr.heap.size, 2, none⟩ = some (.slice A2 n2a c2') ∧ w'.cell? ⟨w.heap.size, 0, none⟩ = some (.int .i64 k) ∧ w'.cell? ⟨w.heap.size, 1, none⟩ = some (.int .i64 h) ∧ w'.cell? ⟨w.heap.size, 2, none⟩ = some (.slice (some ⟨b, o, none⟩) n c))
            (first | exact HKS.out _ hcur | exact HFIN.out | exact HFIN3.out)
            (first
              | (go_at_call 116
                 with_reducible refine (HBD.out _).mono ?_
                 rintro e w8 ⟨rfl, hb1⟩
                 replace hcur := hcur.trans (hb1.mono hcur.size)
                 clear hb1)
              | (go_at_call 127
                 with_reducible refine (HAC.out _ hcur).mono ?_
                 rintro e w9 ⟨k3, h3, A3, n3, c3, Y3, mv3, rfl, hrx, hsc3, hst3, hwk3⟩
                 obtain ⟨y1, y2, y3⟩ := HF1.out _ _ hcur hst3.fr
                 have HFIN := (show w9.cell? ⟨wr.heap.size, 0, none⟩ = some (.int .i64 k2) ∧ w9.cell? ⟨wr.heap.size, 1, none⟩ = some (.int .i64 h2) ∧ w9.cell? ⟨wr.heap.size, 2, none⟩ = some (.slice A2 n2a c2') ∧ w9.cell? ⟨w.heap.size, 0, none⟩ = some (.int .i64 k) ∧ w9.cell? ⟨w.heap.size, 1, none⟩ = some (.int .i64 h) ∧ w9.cell? ⟨w.heap.size, 2, none⟩ = some (.slice (some ⟨b, o, none⟩) n c) from ⟨y1.three.1, y1.three.2.1, y1.three.2.2, y2.three.1, y2.three.2.1, y2.three.2.2⟩)
                 have HFIN3 := (show (((w9.setCell ⟨w.heap.size + 1, j * 3, none⟩ (.int .i64 k3)).setCell ⟨w.heap.size + 1, j * 3 + 1, none⟩ (.int .i64 h3)).setCell ⟨w.heap.size + 1, j * 3 + 2, none⟩ (.slice A3 n3 c3)).cell? ⟨wr.heap.size, 0, none⟩ = some (.int .i64 k2) ∧ (((w9.setCell ⟨w.heap.size + 1, j * 3, none⟩ (.int .i64 k3)).setCell ⟨w.heap.size + 1, j * 3 + 1, none⟩ (.int .i64 h3)).setCell ⟨w.heap.size + 1, j * 3 + 2, none⟩ (.slice A3 n3 c3)).cell? ⟨wr.heap.size, 1, none⟩ = some (.int .i64 h2) ∧ (((w9.setCell ⟨w.heap.size + 1, j * 3, none⟩ (.int .i64 k3)).setCell ⟨w.heap.size + 1, j * 3 + 1, none⟩ (.int .i64 h3)).setCell ⟨w.heap.size + 1, j * 3 + 2, none⟩ (.slice A3 n3 c3)).cell? ⟨wr.heap.size, 2, none⟩ = some (.slice A2 n2a c2') ∧ (((w9.setCell ⟨w.heap.size + 1, j * 3, none⟩ (.int .i64 k3)).setCell ⟨w.heap.size + 1, j * 3 + 1, none⟩ (.int .i64 h3)).setCell ⟨w.heap.size + 1, j * 3 + 2, none⟩ (.slice A3 n3 c3)).cell? ⟨w.heap.size, 0, none⟩ = some (.int .i64 k) ∧ (((w9.setCell ⟨w.heap.size + 1, j * 3, none⟩ (.int .i64 k3)).setCell ⟨w.heap.size + 1, j * 3 + 1, none⟩ (.int .i64 h3)).setCell ⟨w.heap.size + 1, j * 3 + 2, none⟩ (.slice A3 n3 c3)).cell? ⟨w.heap.size, 1, none⟩ = some (.int .i64 h) ∧ (((w9.setCell ⟨w.heap.size + 1, j * 3, none⟩ (.int .i64 k3)).setCell ⟨w.heap.size + 1, j * 3 + 1, none⟩ (.int .i64 h3)).setCell ⟨w.heap.size + 1, j * 3 + 2, none⟩ (.slice A3 n3 c3)).cell? ⟨w.heap.size, 2, none⟩ = some (.slice (some ⟨b, o, none⟩) n c) from by
                    have z1 := ((y1.other (a := ⟨w.heap.size + 1, j * 3, none⟩) (by dsimp only; omega) (.int .i64 k3)).other (a := ⟨w.heap.size + 1, j * 3 + 1, none⟩) (by dsimp only; omega) (.int .i64 h3)).other (a := ⟨w.heap.size + 1, j * 3 + 2, none⟩) (by dsimp only; omega) (.slice A3 n3 c3)
                    have z2 := ((y2.other (a := ⟨w.heap.size + 1, j * 3, none⟩) (by dsimp only; omega) (.int .i64 k3)).other (a := ⟨w.heap.size + 1, j * 3 + 1, none⟩) (by dsimp only; omega) (.int .i64 h3)).other (a := ⟨w.heap.size + 1, j * 3 + 2, none⟩) (by dsimp only; omega) (.slice A3 n3 c3)
                    exact ⟨z1.three.1, z1.three.2.1, z1.three.2.2, z2.three.1, z2.three.2.1, z2.three.2.2⟩)
                 replace HFIN := Lib.hid HFIN
                 replace HFIN3 := Lib.hid HFIN3
                 obtain ⟨u0, hu0⟩ := y3.there (i := j * 3) (by rw [HI.out.size]; omega)
                 obtain ⟨u1, hu1⟩ := y3.there (i := j * 3 + 1) (by rw [HI.out.size]; omega)
                 obtain ⟨u2, hu2⟩ := y3.there (i := j * 3 + 2) (by rw [HI.out.size]; omega)
                 have f0 := y3.frozen (j * 3)
                 have f1 := y3.frozen (j * 3 + 1)
                 have f2 := y3.frozen (j * 3 + 2)
                 have HY := Lib.hid (And.intro y2 y3)
                 clear y1 y2 y3
                 have HCU := Lib.hid hcur
                 clear hcur
                 have HH := Lib.hid (And.intro hrx (And.intro hsc3 (And.intro hst3 hwk3)))
                 clear hrx hsc3 hst3 hwk3))
          go_wp2_with fail
          go_roundw
          case rel =>
            obtain ⟨hrx, hsc3, hst3, hwk3⟩ := HH.out
            obtain ⟨y2, y3⟩ := HY.out
            obtain ⟨g1, g2, g3, g4⟩ := HG.out
            have hbW := hbWa.trans (HCU.out.mono hbWa.size)
            have adv := (Adv.below (X := Y) hbW).trans hst3.adv
            have hown : Y3 (w.heap.size + 1) := adv.more _ HI.out.own
            have hmn : mv3 ≠ .map (some (w.heap.size + 1)) := hsc3.mapNe y3
            have l1 := HI.out.wk.lt
            have l2 := HI.out.sc.box.lt
            have l3 := HI.out.sc.bnd
            have hset : ∀ g, ¬ Y3 g → g < w9.heap.size → (((w9.setCell ⟨w.heap.size + 1, j * 3, none⟩ (.int .i64 k3)).setCell ⟨w.heap.size + 1, j * 3 + 1, none⟩ (.int .i64 h3)).setCell ⟨w.heap.size + 1, j * 3 + 2, none⟩ (.slice A3 n3 c3)).heap[g]? = w9.heap[g]? := fun g hg _ => by
              have hgne : g ≠ w.heap.size + 1 := fun e => hg (e ▸ hown)
              rw [Below.heap_setCell _ _ _ _ hgne, Below.heap_setCell _ _ _ _ hgne, Below.heap_setCell _ _ _ _ hgne]
            refine ⟨j + 1, _, ys ++ [t'], n2, Y3, mv3, by omega, by go_num, Lib.hid ⟨((y3.setAt _ _).setAt _ _).setAt _ _, by simp [HI.out.size], by simp [HI.out.len], ?_, hown, ?_, ?_, ?_, ?_, by omega, g2, HAPP.out⟩⟩
            · exact Kids.snoc (HI.out.kids.moveX fun b hb hl => ⟨fun e => hb (adv.new b hl e), adv.block b hl hb⟩) HI.out.len hset (RdF.moveX (fun b hb hl => ⟨hb, hset b hb hl⟩) _ _ hrx) (by rw [HI.out.size]; omega)
            · exact ((y2.other (by dsimp only; omega) _).other (by dsimp only; omega) _).other (by dsimp only; omega) _
            · exact ((hsc3.setCell hown (by dsimp only; omega) hmn _).setCell hown (by dsimp only; omega) hmn _).setCell hown (by dsimp only; omega) hmn _
            · exact (((HI.out.st.trans ((Stp.below hbW).trans hst3)).setCell (by dsimp only; omega) _).setCell (by dsimp only; omega) _).setCell (by dsimp only; omega) _
            · exact ((hwk3.other (by dsimp only; omega) _).other (by dsimp only; omega) _).other (by dsimp only; omega) _
          case measure => simp [intOf]; omega
      · obtain rfl : j = n := by omega
        go_wp2_with fail
        go_ret
        have he := HI.out.eq
        rw [drop_all HN.out (Nat.le_refl _), apL] at he
        have he' : apL (fun u' x m => ap f L sh u' x m) k xs.length u xs 0 n0 = .ok (ys, n1) := by rw [he]; simp [contL]
        rw [he']
        have hsc := HI.out.sc
        have hbn := HSC.out.bnd
        have hX1 : ∀ b, (Y b ∧ b ≠ w.heap.size + 1) → Y b := fun b h => h.1
        have hmore : ∀ b, X b → (Y b ∧ b ≠ w.heap.size + 1) := fun b h => ⟨HI.out.st.adv.more b h, by have := hbn b h; omega⟩
        refine ⟨_, _, _, fun b => Y b ∧ b ≠ w.heap.size + 1, mv1, rfl, HI.out.kids.rxl HI.out.row HI.out.len (by unfold maxLen; omega) (fun h => h.2 rfl) hX1, hsc.less hX1 (hmore _ HSC.out.own) (fun pm e => ⟨?_, fun e2 => hsc.mapNe HI.out.row (e2 ▸ e)⟩), ⟨⟨HI.out.st.adv.size, hmore, fun b hb h => HI.out.st.adv.new b hb h.1, HI.out.st.adv.block⟩, HI.out.st.fr, HI.out.st.mvs⟩, HI.out.wk⟩
        rcases hsc.found with e1 | ⟨pm', es, cl, e1, hxp, _, _⟩
        · rw [e] at e1; cases e1
        · rw [e] at e1; cases e1; exact hxp
end Go.Proofs.YtloeainlpcnhnaaGreat
