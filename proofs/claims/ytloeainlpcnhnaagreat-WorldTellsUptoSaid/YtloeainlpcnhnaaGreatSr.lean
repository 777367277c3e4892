/-
  Contract of package node's walk through a term: each node rebuilt, its Args by a closure, free variables by a method value.
-/
import Derived.Test.YtloeainlpcnhnaaGreatSe
namespace Go.Proofs.YtloeainlpcnhnaaGreat
open Go.ChangeShapes Go.WideShapes Go.ChangeAt Go.RowKit
set_option linter.unusedVariables false

theorem Box.other3 {w : World} {b : Nat} {ty : TypeId} {cs : Array Value} (h : Box w b ty cs) {a : Nat} (hne : b ≠ a) (u0 u1 u2 : Value) : Box (((w.setCell ⟨a, 0, none⟩ u0).setCell ⟨a, 1, none⟩ u1).setCell ⟨a, 2, none⟩ u2) b ty cs :=
  ((h.other (a := ⟨a, 0, none⟩) hne u0).other (a := ⟨a, 1, none⟩) hne u1).other (a := ⟨a, 2, none⟩) hne u2
theorem heap_other3 (w : World) (a : Nat) (u0 u1 u2 : Value) (g : Nat) (hne : g ≠ a) : (((w.setCell ⟨a, 0, none⟩ u0).setCell ⟨a, 1, none⟩ u1).setCell ⟨a, 2, none⟩ u2).heap[g]? = w.heap[g]? := by
  rw [Below.heap_setCell _ _ _ _ hne, Below.heap_setCell _ _ _ _ hne, Below.heap_setCell _ _ _ _ hne]
theorem below_set3 {B : Nat} {w w' : World} (h : Below B w w') {a : Nat} (hl : B ≤ a) (u0 u1 u2 : Value) : Below B w (((w'.setCell ⟨a, 0, none⟩ u0).setCell ⟨a, 1, none⟩ u1).setCell ⟨a, 2, none⟩ u2) :=
  ((h.setCell (by exact hl) u0).setCell (by exact hl) u1).setCell (by exact hl) u2

/-- a number that a method value tells, of numbers from 0 on, in worlds behind one -/
def ToB (g : FuncId) (m : Value) (tf : Int → Option Int) (w0 : World) : Prop :=
  ∀ (x : Int) (w : World), 0 ≤ x → Below w0.heap.size w0 w → Calls Tryz.prog g #[m, .int .i64 x] w fun e w' => ∃ y, e = .returned (.tuple #[.int .i64 y, .bool (tf x).isSome]) ∧ (∀ f, tf x = some f → y = f) ∧ Below w.heap.size w w'
/-- what is told: a term of its own and true, or noughts and false -/
def ROut (o : Option T) (w w' : World) (v : Value) (bo : Bool) : Prop :=
  (∃ t, o = some t ∧ bo = true ∧ OwT w' w.heap.size t v) ∨ (o = none ∧ bo = false ∧ v = .agg #[.int .i64 0, .int .i64 0, .slice none 0 0])
theorem REnd.uni {o : Option T} {w w' : World} {e : Ending} (h : REnd o w e w') : ∃ k h A n c bo, e = .returned (.tuple #[.agg #[.int .i64 k, .int .i64 h, .slice A n c], .bool bo]) ∧ ROut o w w' (.agg #[.int .i64 k, .int .i64 h, .slice A n c]) bo ∧ Below w.heap.size w w' := by
  obtain ⟨hb, ⟨t, v, ho, rfl, how⟩ | ⟨ho, rfl⟩⟩ := h
  · obtain ⟨k, h, A, n, c, rfl⟩ := how.full
    exact ⟨k, h, A, n, c, true, rfl, .inl ⟨t, ho, rfl, how⟩, hb⟩
  · exact ⟨0, 0, none, 0, 0, false, rfl, .inr ⟨ho, rfl, rfl⟩, hb⟩
theorem ROut.rend {o : Option T} {w w' : World} {v : Value} {bo : Bool} (h : ROut o w w' v bo) (hb : Below w.heap.size w w') : REnd o w (.returned (.tuple #[v, .bool bo])) w' := by
  rcases h with ⟨t, ho, rfl, how⟩ | ⟨ho, rfl, rfl⟩
  · exact ⟨hb, .inl ⟨t, v, ho, rfl, how⟩⟩
  · exact ⟨hb, .inr ⟨ho, rfl⟩⟩
theorem OwT.move {w w' : World} {lo lo' : Nat} {t : T} {v : Value} (h : OwT w lo t v) (hl : lo' ≤ lo) (hm : ∀ g, lo ≤ g → g < w.heap.size → w'.heap[g]? = w.heap[g]?) : OwT w' lo' t v := by
  obtain ⟨k, g, xs⟩ := t
  obtain ⟨A, n, c, rfl, h1, h2, h3, h4, h5, h6⟩ := h
  refine ⟨A, n, c, rfl, h1, h2, h3, h4, h5, ?_⟩
  rcases h6 with rfl | ⟨b, cs, rfl, hb, hbox, hsz, hk⟩
  · exact .inl rfl
  · exact .inr ⟨b, cs, rfl, by omega, (hm b hb hbox.lt).trans hbox, hsz, hk.move fun g hg hg' => hm g (by omega) hg'⟩
theorem ROut.move {o : Option T} {w0 w w' w1 : World} {v : Value} {bo : Bool} (h : ROut o w w' v bo) (hl : w0.heap.size ≤ w.heap.size) (hm : ∀ g, w.heap.size ≤ g → g < w'.heap.size → w1.heap[g]? = w'.heap[g]?) : ROut o w0 w1 v bo := by
  rcases h with ⟨t, ho, rfl, how⟩ | ⟨ho, rfl, rfl⟩
  · exact .inl ⟨t, ho, rfl, how.move hl hm⟩
  · exact .inr ⟨ho, rfl, rfl⟩

set_option maxRecDepth 100000 in
set_option maxHeartbeats 4000000 in
theorem closureC {g : FuncId} {m : Value} {tf : Int → Option Int} (t : T) (k h : Int) (A : Option Addr) (n c : Nat) (hc : n ≤ c) (hm : c ≤ maxLen) (i : Nat) (hi : i ≤ maxLen) (b : Int) (v : Value) (w : World) (pT pB pF : Nat)
    (ih : ∀ (v : Value) (w' : World), Below w.heap.size w w' → Rd w' t v → Calls Tryz.prog 148 #[v, .int .i64 (wrap64 (b + bd k n i)), .func (.func g) #[m] #[]] w' (REnd (rn tf t (wrap64 (b + bd k n i))) w'))
    (xT : Box w pT 44 #[.int .i64 k, .int .i64 h, .slice A n c]) (xB : Box w pB 3 #[.int .i64 b]) (xF : Box w pF 161 #[.func (.func g) #[m] #[]]) (hv : Rd w t v) :
    Calls Tryz.prog 150 #[.int .i64 i, v, .pointer (some ⟨pB, 0, none⟩), .pointer (some ⟨pT, 0, none⟩), .pointer (some ⟨pF, 0, none⟩)] w (REnd (rn tf t (wrap64 (b + bd k n i))) w) := by
  obtain ⟨k2, h2, A2, n2, c2, rfl⟩ := hv.full
  have HV := Lib.hid hv; clear hv
  have IH := Lib.hid ih; clear ih
  have HC := Lib.hid hc; clear hc
  have HM := Lib.hid hm; clear hm
  have HI := Lib.hid hi; clear hi
  obtain ⟨W, hW⟩ : ∃ W, (w.alloc (.cells #[.int .i64 k2, .int .i64 h2, .slice A2 n2 c2] 44)).alloc (.cells #[.int .i64 0, .int .i64 0, .slice none 0 0] 44) = W := ⟨_, rfl⟩
  have hb : Below w.heap.size w W := by rw [← hW]; exact ((Below.refl _ _).alloc (Nat.le_refl _) _).alloc (by simp) _
  have z1 : Box W w.heap.size 44 #[.int .i64 k2, .int .i64 h2, .slice A2 n2 c2] := by rw [← hW]; exact (Box.new _ _ _).alloc _
  have z2 : Box W (w.heap.size + 1) 44 #[.int .i64 0, .int .i64 0, .slice none 0 0] := by rw [← hW]; exact (Box.new (w.alloc _) _ _).at (by simp)
  have lT := xT.lt
  have lB := xB.lt
  have lF := xF.lt
  replace xT := xT.keep hb lT
  replace xB := xB.keep hb lB
  replace xF := xF.keep hb lF
  have HWW := Lib.hid hW; clear hW
  go_enter Tryz.func150, Tryz.ntmps150
  go_wp2_with fail
  rw [HWW.out]
  clear HWW
  obtain ⟨a0, a1, a2⟩ := z1.three
  obtain ⟨b0, b1, b2⟩ := xT.three
  have d0 := (xB.one).1
  have e0 := (xF.one).1
  have HBD := Lib.hid (boundC k h A n c HC.out HM.out i HI.out W.drew)
  have hsum : IntKind.i64.wrap (b + bd k n i) = wrap64 (b + bd k n i) := wrapEq _
  go_region_held3 (fun w' => w'.cell? ⟨w.heap.size, 0, none⟩ = some (.int .i64 k2) ∧ w'.cell? ⟨w.heap.size, 1, none⟩ = some (.int .i64 h2) ∧ w'.cell? ⟨w.heap.size, 2, none⟩ = some (.slice A2 n2 c2) ∧
      w'.cell? ⟨pB, 0, none⟩ = some (.int .i64 b) ∧ w'.cell? ⟨pT, 0, none⟩ = some (.int .i64 k) ∧ w'.cell? ⟨pT, 1, none⟩ = some (.int .i64 h) ∧ w'.cell? ⟨pT, 2, none⟩ = some (.slice A n c) ∧ w'.cell? ⟨pF, 0, none⟩ = some (.func (.func g) #[m] #[]))
    (first | exact ⟨a0, a1, a2, d0, b0, b1, b2, e0⟩ | exact ⟨q1.three.1, q1.three.2.1, q1.three.2.2, qB.one.1, qT.three.1, qT.three.2.1, qT.three.2.2, qF.one.1⟩ | exact ⟨r1.three.1, r1.three.2.1, r1.three.2.2, rB.one.1, rT.three.1, rT.three.2.1, rT.three.2.2, rF.one.1⟩ | exact ⟨o1.three.1, o1.three.2.1, o1.three.2.2, oB.one.1, oT.three.1, oT.three.2.1, oT.three.2.2, oF.one.1⟩)
    (first
      | (go_at_call 116
         refine HBD.out.mono ?_
         rintro e w1 ⟨rfl, hb1⟩
         have q1 := (show Box W.drew _ _ _ from z1).keep hb1 z1.lt
         have q2 := (show Box W.drew _ _ _ from z2).keep hb1 z2.lt
         have qT := (show Box W.drew _ _ _ from xT).keep hb1 xT.lt
         have qB := (show Box W.drew _ _ _ from xB).keep hb1 xB.lt
         have qF := (show Box W.drew _ _ _ from xF).keep hb1 xF.lt
         have hbw : Below w.heap.size w w1 := hb.drew.trans (hb1.mono hb.size)
         clear hb1)
      | (go_at_call 148
         refine (IH.out _ _ hbw (Rd.keep hbw _ _ HV.out)).mono ?_
         intro e w2 hE
         obtain ⟨k3, h3, A3, n3, c3, bo, rfl, hout, hb2⟩ := hE.uni
         have r1 := q1.keep hb2 q1.lt
         have r2 := q2.keep hb2 q2.lt
         have rT := qT.keep hb2 qT.lt
         have rB := qB.keep hb2 qB.lt
         have rF := qF.keep hb2 qF.lt
         have hbw2 : Below w.heap.size w w2 := hbw.trans (hb2.mono hbw.size)
         have s1 := hbw.size
         have s2 := q2.lt
         have HO := Lib.hid hout; clear hout hb2 hE
         obtain ⟨y0, y1, y2⟩ := r2.three
         have f0 := r2.frozen 0
         have f1 := r2.frozen 1
         have f2 := r2.frozen 2
         have o1 := r1.other3 (a := w.heap.size + 1) (by omega) (.int .i64 k3) (.int .i64 h3) (.slice A3 n3 c3)
         have oT := rT.other3 (a := w.heap.size + 1) (by omega) (.int .i64 k3) (.int .i64 h3) (.slice A3 n3 c3)
         have oB := rB.other3 (a := w.heap.size + 1) (by omega) (.int .i64 k3) (.int .i64 h3) (.slice A3 n3 c3)
         have oF := rF.other3 (a := w.heap.size + 1) (by omega) (.int .i64 k3) (.int .i64 h3) (.slice A3 n3 c3)))
  clear o1 oT oB oF
  go_wp2_with fail
  refine bodyPost_ret (v := .tuple #[.agg #[.int .i64 k3, .int .i64 h3, .slice A3 n3 c3], .bool bo]) (by simp [results, Tryz.results150, go_sem, y0, y1, y2]) rfl ?_
  exact (HO.out.move s1 fun g hg _ => heap_other3 _ _ _ _ _ _ (by omega)).rend (below_set3 hbw2 (by omega) _ _ _)

theorem OwL.owT {w : World} {lo n : Nat} {ys : List T} {v : Value} {k h : Int} (hl : OwL w lo n ys v) (hk : (Lit.int .i64 k).wf = true) (hh : (Lit.int .i64 h).wf = true) (hn : n ≤ maxLen) : OwT w lo (.node k h ys) (.agg #[.int .i64 k, .int .i64 h, v]) := by
  obtain ⟨hy, ⟨rfl, rfl⟩ | ⟨b, cs, rfl, hb, hx, hs, hkd⟩⟩ := hl
  · exact ⟨none, 0, 0, rfl, hk, hh, hy, Nat.le_refl _, Nat.zero_le _, .inl rfl⟩
  · exact ⟨_, n, n, rfl, hk, hh, hy, Nat.le_refl _, hn, .inr ⟨b, cs, rfl, hb, hx, hs, hkd⟩⟩
theorem OwL.move {w w' : World} {lo lo' n : Nat} {ys : List T} {v : Value} (h : OwL w lo n ys v) (hl : lo' ≤ lo) (hm : ∀ g, lo ≤ g → g < w.heap.size → w'.heap[g]? = w.heap[g]?) : OwL w' lo' n ys v := by
  obtain ⟨hy, h | ⟨b, cs, rfl, hb, hx, hs, hkd⟩⟩ := h
  · exact ⟨hy, .inl h⟩
  · exact ⟨hy, .inr ⟨b, cs, rfl, by omega, (hm b hb hx.lt).trans hx, hs, hkd.move fun g hg hg' => hm g (by omega) hg'⟩⟩
theorem OwL.full {w : World} {lo n : Nat} {ys : List T} {v : Value} (h : OwL w lo n ys v) : ∃ A c, v = .slice A n c := by
  obtain ⟨hy, ⟨rfl, rfl⟩ | ⟨b, cs, rfl, hb, hx, hs, hkd⟩⟩ := h
  · exact ⟨none, 0, rfl⟩
  · exact ⟨_, _, rfl⟩
theorem wf_wrap64 (x : Int) : (Lit.int .i64 (wrap64 x)).wf = true := by
  have h : -9223372036854775808 ≤ wrap64 x ∧ wrap64 x ≤ 9223372036854775807 := by unfold wrap64; omega
  simpa [Lit.wf, IntKind.min, IntKind.max, IntKind.signed, IntKind.bits] using h

set_option maxRecDepth 100000 in
set_option maxHeartbeats 8000000 in
theorem renumC {g : FuncId} {m : Value} {tf : Int → Option Int} (w0 : World) (HT : ToB g m tf w0) (hen : ∀ (args : Array Value) (W : World), Sem.run Tryz.prog (callFunc g args) W = .ok (.enter g args) W) (t : T) : ∀ (b : Int) (v : Value) (w : World), 0 ≤ b → b + nd t ≤ 1099511627776 → Below w0.heap.size w0 w → Rd w t v → wd t ≤ 3518437208780 → Calls Tryz.prog 148 #[v, .int .i64 b, .func (.func g) #[m] #[]] w (REnd (rn tf t b) w) := by
  induction t using T.ind with
  | step k h xs ih =>
    intro b v w hb0 hbn h0w hv hwd
    have hbh : wrap64 b = b := wrap_small (by omega) (by rw [nd] at hbn; omega)
    obtain ⟨A, n, c, rfl, hk, hh, hn, hc, hm, hx⟩ := Rd_node.1 hv
    clear hv
    have hwd' : n ≤ 3518437208780 ∧ ∀ t ∈ xs, wd t ≤ 3518437208780 := by
      rw [wd] at hwd
      exact ⟨by omega, fun t ht => by have := wd_mem ht; omega⟩
    obtain ⟨hn40, hwds⟩ := hwd'
    clear hwd
    obtain ⟨W, hW⟩ : ∃ W, (((w.alloc (.cells #[.int .i64 k, .int .i64 h, .slice A n c] 44)).alloc (.cells #[.int .i64 b] 3)).alloc (.cells #[.func (.func g) #[m] #[]] 161)).alloc (.cells #[.int .i64 0, .int .i64 0, .slice none 0 0] 44) = W := ⟨_, rfl⟩
    have hb : Below w.heap.size w W := by rw [← hW]; exact ((((Below.refl _ _).alloc (Nat.le_refl _) _).alloc (by simp) _).alloc (by simp; omega) _).alloc (by simp; omega) _
    have xT : Box W w.heap.size 44 #[.int .i64 k, .int .i64 h, .slice A n c] := by rw [← hW]; exact (((Box.new _ _ _).alloc _).alloc _).alloc _
    have xB : Box W (w.heap.size + 1) 3 #[.int .i64 b] := by rw [← hW]; exact (((Box.new (w.alloc _) _ _).at (by simp)).alloc _).alloc _
    have xF : Box W (w.heap.size + 1 + 1) 161 #[.func (.func g) #[m] #[]] := by rw [← hW]; exact ((Box.new ((w.alloc _).alloc _) _ _).at (by simp)).alloc _
    have xR : Box W (w.heap.size + 1 + 1 + 1) 44 #[.int .i64 0, .int .i64 0, .slice none 0 0] := by rw [← hW]; exact (Box.new (((w.alloc _).alloc _).alloc _) _ _).at (by simp)
    have hE : ∀ W', Below W.heap.size W W' → Calls Tryz.prog 149 #[.slice A n c, .func (.func 150) #[] #[.pointer (some ⟨w.heap.size + 1, 0, none⟩), .pointer (some ⟨w.heap.size, 0, none⟩), .pointer (some ⟨w.heap.size + 1 + 1, 0, none⟩)]] W' (EEnd (rnL tf k xs.length xs 0 b) n W') := fun W' hW' => by
      rw [rnL_each, hn]
      refine eachC xs A n c _ _ _ (fun i t => rn tf t (wrap64 (b + bd k n i))) W' hn hc hm hn40 (fun i t ht => RdAt.keep (hb.trans (hW'.mono hb.size)) (hx i t ht)) fun i t v W2 hit hb2 hv => ?_
      have hin : i < n := by have := (List.getElem?_eq_some_iff.1 hit).1; omega
      have hbb : Below W.heap.size W W2 := hW'.trans (hb2.mono hW'.size)
      have hmt := nd_mem (List.mem_of_getElem? hit)
      have hbd : bd k n i = 0 ∨ bd k n i = 1 := by rw [bd]; split <;> simp
      have hws : wrap64 (b + bd k n i) = b + bd k n i := wrap_small (by omega) (by rw [nd] at hbn; omega)
      have h0b : Below w0.heap.size w0 W2 := h0w.trans ((hb.trans (hbb.mono hb.size)).mono h0w.size)
      exact closureC t k h A n c hc hm i (by omega) b v W2 _ _ _ (fun v w' hbw hv => ih t (List.mem_of_getElem? hit) _ v w' (by omega) (by rw [nd] at hbn; omega) (h0b.trans (hbw.mono h0b.size)) hv (hwds t (List.mem_of_getElem? hit))) (xT.keep hbb xT.lt) (xB.keep hbb xB.lt) (xF.keep hbb xF.lt) hv
    have HE := Lib.hid hE; clear hE
    have hrn : rn tf (.node k h xs) b = (rnH tf k h b).bind fun h' => (rnL tf k xs.length xs 0 b).map (.node k h') := by rw [rn]
    have HRN := Lib.hid hrn; clear hrn
    have h0W : Below w0.heap.size w0 W := h0w.trans (hb.mono h0w.size)
    have HTT := Lib.hid (show ∀ x, 0 ≤ x → Calls Tryz.prog g #[m, .int .i64 x] W fun e w' => ∃ y, e = .returned (.tuple #[.int .i64 y, .bool (tf x).isSome]) ∧ (∀ f, tf x = some f → y = f) ∧ Below W.heap.size W w' from fun x hx => HT x W hx h0W)
    have HB0 := Lib.hid hb0
    clear hb0 hbn h0w hbh h0W
    have HEN := hen
    clear ih hwds hx
    have HWW := Lib.hid hW; clear hW
    have HN := Lib.hid hn; clear hn
    have HMM := Lib.hid (show n ≤ maxLen from Nat.le_trans hc hm)
    by_cases hvar : k = 4 ∧ b ≤ h
    · obtain ⟨rfl, hbh⟩ := hvar
      have d1 : decide (b ≤ h) = true := by simpa using hbh
      have hwf : Hid (h ≤ 9223372036854775807) := Lib.hid (by simp [Lit.wf, IntKind.min, IntKind.max, IntKind.signed, IntKind.bits] at hh; omega)
      have hH : rnH tf 4 h b = (tf (wrap64 (h - b))).map (fun f => wrap64 (f + b)) := by rw [rnH, if_pos ⟨rfl, hbh⟩]
      have hsub : IntKind.i64.wrap (h - b) = wrap64 (h - b) := wrapEq _
      have HHH := Lib.hid hH; clear hH
      go_enter Tryz.func148, Tryz.ntmps148
      go_wp2_with fail
      rw [HWW.out]
      clear HWW
      refine (HTT.out (wrap64 (h - b)) (by have hw := hwf.out; have hb0 := HB0.out; rw [wrap_small (by omega) (by omega)]; omega)).mono ?_
      rintro e w1 ⟨y, rfl, hy, hb1⟩
      cases htf : tf (wrap64 (h - b)) with
      | none =>
        clear hy
        have zR := xR.keep hb1 xR.lt
        have HB := Lib.hid (hb.trans (hb1.mono hb.size))
        clear hb1
        obtain ⟨y0, y1, y2⟩ := zR.three
        have f0 := zR.frozen 0
        have f1 := zR.frozen 1
        have f2 := zR.frozen 2
        simp only [Option.isSome_none]
        go_wp2_with fail
        refine bodyPost_ret (v := .tuple #[.agg #[.int .i64 0, .int .i64 0, .slice none 0 0], .bool false]) (by simp [results, Tryz.results148, go_sem, y0, y1, y2]) rfl ?_
        exact ⟨below_set3 HB.out (by omega) _ _ _, .inr ⟨by rw [HRN.out, HHH.out, htf]; rfl, rfl⟩⟩
      | some f =>
        obtain rfl : f = y := (hy f htf).symm
        clear hy
        have hr : rn tf (.node 4 h xs) b = (rnL tf 4 xs.length xs 0 b).map (.node 4 (wrap64 (f + b))) := by rw [HRN.out, HHH.out, htf]; rfl
        have HR := Lib.hid hr; clear hr HHH HRN
        generalize rn tf (.node 4 h xs) b = R at *
        generalize rnL tf 4 xs.length xs 0 b = L at *
        have hsum : IntKind.i64.wrap (f + b) = wrap64 (f + b) := wrapEq _
        simp only [Option.isSome_some]
        clear htf
        obtain ⟨c0, c1, c2⟩ := (xT.keep hb1 xT.lt).three
        have d0 := (xB.keep hb1 xB.lt).one.1
        have e0 := (xF.keep hb1 xF.lt).one.1
        go_wp2_with fail
        clear c0 c1 c2 d0 e0
        refine (HE.out _ hb1).mono ?_
        rintro e w2 ⟨hb2, ⟨ys, v', hL, rfl, how⟩ | ⟨hL, rfl⟩⟩
        · obtain ⟨A', c', rfl⟩ := how.full
          have s1 : W.heap.size ≤ w1.heap.size := (show Below W.heap.size W w1 from hb1).size
          have hbw : Below W.heap.size W w2 := (show Below W.heap.size W w1 from hb1).trans (hb2.mono s1)
          have l3 := xR.lt
          have zT := xT.keep hbw xT.lt
          have zR := xR.keep hbw xR.lt
          have HB := Lib.hid (hb.trans (hbw.mono hb.size))
          have HO := Lib.hid how; clear how
          clear hb2 hbw
          obtain ⟨c0, c1, c2⟩ := zT.three
          obtain ⟨y0, y1, y2⟩ := zR.three
          have f0 := zR.frozen 0
          have f1 := zR.frozen 1
          have f2 := zR.frozen 2
          go_wp2_with fail
          refine bodyPost_ret (v := .tuple #[.agg #[.int .i64 4, .int .i64 (wrap64 (f + b)), .slice A' n c'], .bool true]) (by simp [results, Tryz.results148, go_sem, y0, y1, y2]) rfl ?_
          refine ⟨below_set3 HB.out (by omega) _ _ _, .inl ⟨_, _, by rw [HR.out, hL]; rfl, rfl, ?_⟩⟩
          exact (HO.out.move (by have := hb.size; omega) fun g hg _ => heap_other3 _ _ _ _ _ _ (by omega)).owT hk (wf_wrap64 _) HMM.out
        · have s1 : W.heap.size ≤ w1.heap.size := (show Below W.heap.size W w1 from hb1).size
          have hbw : Below W.heap.size W w2 := (show Below W.heap.size W w1 from hb1).trans (hb2.mono s1)
          have zR := xR.keep hbw xR.lt
          have HB := Lib.hid (hb.trans (hbw.mono hb.size))
          clear hb2 hbw
          obtain ⟨y0, y1, y2⟩ := zR.three
          have f0 := zR.frozen 0
          have f1 := zR.frozen 1
          have f2 := zR.frozen 2
          go_wp2_with fail
          refine bodyPost_ret (v := .tuple #[.agg #[.int .i64 0, .int .i64 0, .slice none 0 0], .bool false]) (by simp [results, Tryz.results148, go_sem, y0, y1, y2]) rfl ?_
          exact ⟨below_set3 HB.out (by omega) _ _ _, .inr ⟨by rw [HR.out, hL]; rfl, rfl⟩⟩
    · have hH : rnH tf k h b = some h := by rw [rnH, if_neg hvar]
      have hr : rn tf (.node k h xs) b = (rnL tf k xs.length xs 0 b).map (.node k h) := by rw [HRN.out, hH]; rfl
      have HR := Lib.hid hr; clear hr hH HRN
      generalize rn tf (.node k h xs) b = R at *
      generalize rnL tf k xs.length xs 0 b = L at *
      by_cases hk4 : k = 4
      · subst hk4
        have d1 : decide (b ≤ h) = false := by simp; omega
        clear hvar
        go_enter Tryz.func148, Tryz.ntmps148
        go_wp2_with fail
        rw [HWW.out]
        clear HWW
        refine (HE.out _ (Below.refl _ _)).mono ?_
        rintro e w2 ⟨hb2, ⟨ys, v', hL, rfl, how⟩ | ⟨hL, rfl⟩⟩
        · obtain ⟨A', c', rfl⟩ := how.full
          have s1 : W.heap.size ≤ W.heap.size := (show Below W.heap.size W W from (Below.refl _ _)).size
          have hbw : Below W.heap.size W w2 := (show Below W.heap.size W W from (Below.refl _ _)).trans (hb2.mono s1)
          have l3 := xR.lt
          have zT := xT.keep hbw xT.lt
          have zR := xR.keep hbw xR.lt
          have HB := Lib.hid (hb.trans (hbw.mono hb.size))
          have HO := Lib.hid how; clear how
          clear hb2 hbw
          obtain ⟨c0, c1, c2⟩ := zT.three
          obtain ⟨y0, y1, y2⟩ := zR.three
          have f0 := zR.frozen 0
          have f1 := zR.frozen 1
          have f2 := zR.frozen 2
          go_wp2_with fail
          refine bodyPost_ret (v := .tuple #[.agg #[.int .i64 4, .int .i64 h, .slice A' n c'], .bool true]) (by simp [results, Tryz.results148, go_sem, y0, y1, y2]) rfl ?_
          refine ⟨below_set3 HB.out (by omega) _ _ _, .inl ⟨_, _, by rw [HR.out, hL]; rfl, rfl, ?_⟩⟩
          exact (HO.out.move (by have := hb.size; omega) fun g hg _ => heap_other3 _ _ _ _ _ _ (by omega)).owT hk hh HMM.out
        · have s1 : W.heap.size ≤ W.heap.size := (show Below W.heap.size W W from (Below.refl _ _)).size
          have hbw : Below W.heap.size W w2 := (show Below W.heap.size W W from (Below.refl _ _)).trans (hb2.mono s1)
          have zR := xR.keep hbw xR.lt
          have HB := Lib.hid (hb.trans (hbw.mono hb.size))
          clear hb2 hbw
          obtain ⟨y0, y1, y2⟩ := zR.three
          have f0 := zR.frozen 0
          have f1 := zR.frozen 1
          have f2 := zR.frozen 2
          go_wp2_with fail
          refine bodyPost_ret (v := .tuple #[.agg #[.int .i64 0, .int .i64 0, .slice none 0 0], .bool false]) (by simp [results, Tryz.results148, go_sem, y0, y1, y2]) rfl ?_
          exact ⟨below_set3 HB.out (by omega) _ _ _, .inr ⟨by rw [HR.out, hL]; rfl, rfl⟩⟩
      · have e1 : (k == 4) = false := by simpa using hk4
        clear hvar
        have HK4 := Lib.hid hk4; clear hk4
        go_enter Tryz.func148, Tryz.ntmps148
        go_wp2_with fail
        rw [HWW.out]
        clear HWW
        refine (HE.out _ (Below.refl _ _)).mono ?_
        rintro e w2 ⟨hb2, ⟨ys, v', hL, rfl, how⟩ | ⟨hL, rfl⟩⟩
        · obtain ⟨A', c', rfl⟩ := how.full
          have s1 : W.heap.size ≤ W.heap.size := (show Below W.heap.size W W from (Below.refl _ _)).size
          have hbw : Below W.heap.size W w2 := (show Below W.heap.size W W from (Below.refl _ _)).trans (hb2.mono s1)
          have l3 := xR.lt
          have zT := xT.keep hbw xT.lt
          have zR := xR.keep hbw xR.lt
          have HB := Lib.hid (hb.trans (hbw.mono hb.size))
          have HO := Lib.hid how; clear how
          clear hb2 hbw
          obtain ⟨c0, c1, c2⟩ := zT.three
          obtain ⟨y0, y1, y2⟩ := zR.three
          have f0 := zR.frozen 0
          have f1 := zR.frozen 1
          have f2 := zR.frozen 2
          go_wp2_with fail
          refine bodyPost_ret (v := .tuple #[.agg #[.int .i64 k, .int .i64 h, .slice A' n c'], .bool true]) (by simp [results, Tryz.results148, go_sem, y0, y1, y2]) rfl ?_
          refine ⟨below_set3 HB.out (by omega) _ _ _, .inl ⟨_, _, by rw [HR.out, hL]; rfl, rfl, ?_⟩⟩
          exact (HO.out.move (by have := hb.size; omega) fun g hg _ => heap_other3 _ _ _ _ _ _ (by omega)).owT hk hh HMM.out
        · have s1 : W.heap.size ≤ W.heap.size := (show Below W.heap.size W W from (Below.refl _ _)).size
          have hbw : Below W.heap.size W w2 := (show Below W.heap.size W W from (Below.refl _ _)).trans (hb2.mono s1)
          have zR := xR.keep hbw xR.lt
          have HB := Lib.hid (hb.trans (hbw.mono hb.size))
          clear hb2 hbw
          obtain ⟨y0, y1, y2⟩ := zR.three
          have f0 := zR.frozen 0
          have f1 := zR.frozen 1
          have f2 := zR.frozen 2
          go_wp2_with fail
          refine bodyPost_ret (v := .tuple #[.agg #[.int .i64 0, .int .i64 0, .slice none 0 0], .bool false]) (by simp [results, Tryz.results148, go_sem, y0, y1, y2]) rfl ?_
          exact ⟨below_set3 HB.out (by omega) _ _ _, .inr ⟨by rw [HR.out, hL]; rfl, rfl⟩⟩
theorem ToC.at {g : FuncId} {m : Value} {tf : Int → Option Int} (h : ToC g m tf) (w0 : World) : ToB g m tf w0 := fun x w _ _ => (h x w).mono fun e w' ⟨e1, e2⟩ => ⟨_, e1, fun f hf => by rw [hf]; rfl, e2⟩
set_option maxRecDepth 100000 in
set_option maxHeartbeats 4000000 in
/-- Renumber -/
theorem RenumC {g : FuncId} {m : Value} {tf : Int → Option Int} (hen : ∀ (args : Array Value) (W : World), Sem.run Tryz.prog (callFunc g args) W = .ok (.enter g args) W) (t : T) (v : Value) (w : World) (HT : ToB g m tf w) (hn : nd t ≤ 1048576) (hv : Rd w t v) : Calls Tryz.prog 144 #[v, .func (.func g) #[m] #[]] w (REnd (rn tf t 0) w) := by
  have hwd : wd t ≤ 3518437208780 := by have := wd_nd t; omega
  obtain ⟨k, h, A, n, c, rfl⟩ := hv.full
  have HV := Lib.hid hv; clear hv
  have HTT := Lib.hid HT; clear HT
  obtain ⟨W, hW⟩ : ∃ W, (w.alloc (.cells #[.int .i64 k, .int .i64 h, .slice A n c] 44)).alloc (.cells #[.int .i64 0, .int .i64 0, .slice none 0 0] 44) = W := ⟨_, rfl⟩
  have hb : Below w.heap.size w W := by rw [← hW]; exact ((Below.refl _ _).alloc (Nat.le_refl _) _).alloc (by simp) _
  have xT : Box W w.heap.size 44 #[.int .i64 k, .int .i64 h, .slice A n c] := by rw [← hW]; exact (Box.new _ _ _).alloc _
  have xR : Box W (w.heap.size + 1) 44 #[.int .i64 0, .int .i64 0, .slice none 0 0] := by rw [← hW]; exact (Box.new (w.alloc _) _ _).at (by simp)
  have HWW := Lib.hid hW; clear hW
  have HR : Hid (Calls Tryz.prog 148 #[.agg #[.int .i64 k, .int .i64 h, .slice A n c], .int .i64 0, .func (.func g) #[m] #[]] W (REnd (rn tf t 0) W)) := Lib.hid (renumC w HTT.out hen t 0 _ W (Int.le_refl _) (by omega) hb (Rd.keep hb _ _ HV.out) hwd)
  clear hwd hn
  obtain ⟨c0, c1, c2⟩ := xT.three
  go_enter Tryz.func144, Tryz.ntmps144
  go_wp2_with fail
  rw [HWW.out]
  clear HWW
  refine HR.out.mono ?_
  intro e w3 hE
  obtain ⟨k3, h3, A3, n3, c3, bo, rfl, hout, hb2⟩ := hE.uni
  have lR := xR.lt
  have zR := xR.keep hb2 lR
  have HB := Lib.hid (hb.trans (hb2.mono hb.size))
  have HO := Lib.hid hout; clear hout hb2 hE
  clear c0 c1 c2
  obtain ⟨r0, r1, r2⟩ := zR.three
  have f0 := zR.frozen 0
  have f1 := zR.frozen 1
  have f2 := zR.frozen 2
  go_wp2_with fail
  refine bodyPost_ret (v := .tuple #[.agg #[.int .i64 k3, .int .i64 h3, .slice A3 n3 c3], .bool bo]) (by simp [results, Tryz.results144, go_sem, r0, r1, r2]) rfl ?_
  exact (HO.out.move hb.size fun g hg _ => heap_other3 _ _ _ _ _ _ (by omega)).rend (below_set3 HB.out (by omega) _ _ _)
theorem entersUp (args : Array Value) (W : World) : Sem.run Tryz.prog (callFunc 145 args) W = .ok (.enter 145 args) W := by
  simp [callFunc, go_sem, Tryz.func145, Tryz.f145]
end Go.Proofs.YtloeainlpcnhnaaGreat
