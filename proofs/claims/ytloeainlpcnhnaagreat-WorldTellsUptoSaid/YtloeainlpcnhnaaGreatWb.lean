/-
  Contracts of package subst's keep and maps. No statement is proved here.
-/
import Derived.Test.YtloeainlpcnhnaaGreatWa
namespace Go.Proofs.YtloeainlpcnhnaaGreat
open Go.ChangeShapes Go.WideShapes Go.ChangeAt Go.RowKit
set_option linter.unusedVariables false

set_option maxRecDepth 100000 in
set_option maxHeartbeats 1000000 in
theorem keepMap (k h fr : Int) (u : Nat) (AT : Option Addr) (nT cT : Nat) (hf : (Lit.int .i64 fr).wf = true) (hu : (Lit.int .i64 (u : Int)).wf = true) (w : World) (ps pm : Nat) (x0 x1 : Value) (es : Array MapEntry) (cl : Nat)
    (bx : Box w ps 144 #[x0, x1, .map (some pm)]) (hm : w.heap[pm]? = some (.map es cl)) (hk : PlKeys es) (hno : ∀ x ∈ es.toList, x.key ≠ plK fr u) :
    Calls Tryz.prog 147 #[.pointer (some ⟨ps, 0, none⟩), plK fr u, .agg #[.int .i64 k, .int .i64 h, .slice AT nT cT]] w fun e w' => e = .returned (.tuple #[]) ∧
      ∃ w1, Below w.heap.size w w1 ∧ w'.heap = w1.heap.setIfInBounds pm (.map (es.push ⟨plK fr u, .agg #[.int .i64 k, .int .i64 h, .slice AT nT cT], cl⟩) (cl + 1)) ∧ w'.os = w1.os ∧ w'.tape = w1.tape ∧ w'.output = w1.output := by
  have lp := bx.lt
  have HF := Lib.hid hf; clear hf
  have HU := Lib.hid hu; clear hu
  have HK := Lib.hid hk; clear hk
  have HNO := Lib.hid hno; clear hno
  have HM := Lib.hid hm; clear hm
  have c2 : w.cell? ⟨ps, 2, none⟩ = some (.map (some pm)) := bx.three.2.2
  have hq : ∀ W, Sem.run Tryz.prog (binOp BinOp.eql 142 (.map (some pm)) (.map none)) W = .ok (.bool false) W := fun W => by kernel_rfl
  go_enter Tryz.func147, Tryz.ntmps147
  go_wp2_with fail
  obtain ⟨W, hW⟩ : ∃ W, ((w.alloc (Obj.cells #[Value.int IntKind.i64 fr, Value.int IntKind.i64 ↑u] 164)).alloc (Obj.cells #[Value.int IntKind.i64 k, Value.int IntKind.i64 h, Value.slice AT nT cT] 44)) = W := ⟨_, rfl⟩
  have hb : Below w.heap.size w W := by rw [← hW]; exact ((Below.refl _ _).alloc (Nat.le_refl _) _).alloc (by simp) _
  have b1 : Box W w.heap.size 164 #[.int .i64 fr, .int .i64 u] := by rw [← hW]; exact (Box.new _ _ _).alloc _
  have b2 : Box W (w.heap.size + 1) 44 #[.int .i64 k, .int .i64 h, .slice AT nT cT] := by rw [← hW]; exact (Box.new (w.alloc _) _ _).at (by simp)
  have bp := bx.keep hb lp
  rw [hW]
  clear hW c2 bx
  have lm : pm < w.heap.size := (Array.getElem?_eq_some_iff.1 HM.out).1
  have hmu := put_map HF.out HU.out (w := W.drew) (show W.drew.heap[pm]? = some (.map es cl) from (hb.block pm lm).trans HM.out) HK.out HNO.out (.agg #[.int .i64 k, .int .i64 h, .slice AT nT cT])
  obtain ⟨w2, hw2, hmu'⟩ : ∃ w2, Hid (w2 = { W.drew with heap := W.drew.heap.setIfInBounds pm (.map (es.push ⟨plK fr u, .agg #[.int .i64 k, .int .i64 h, .slice AT nT cT], cl⟩) (cl + 1)) }) ∧ (Instr.mapUpdate 142 (.map (some pm)) (.agg #[.int .i64 fr, .int .i64 u]) (.agg #[.int .i64 k, .int .i64 h, .slice AT nT cT])).run Tryz.prog W.drew = .ok () w2 := ⟨_, Lib.hid rfl, hmu⟩
  clear hmu
  have c2 : W.cell? ⟨ps, 2, none⟩ = some (.map (some pm)) := bp.three.2.2
  obtain ⟨p0, p1⟩ := b1.two
  obtain ⟨t0, t1, t2⟩ := b2.three
  have HB := Lib.hid hb; clear hb
  go_region
  all_goals
    go_wp2_with fail
    go_end0
    refine ⟨rfl, W.drew, HB.out.drew, ?_⟩
    rw [hw2.out]
    exact ⟨rfl, rfl, rfl, rfl⟩

def KNil (ps : Nat) (fr : Int) (u : Nat) (v : Value) (w w' : World) : Prop :=
  ∃ w1 pm, Below w.heap.size w w1 ∧ pm < w1.heap.size ∧ w.heap.size ≤ pm ∧ w'.heap = (w1.setCell ⟨ps, 2, none⟩ (.map (some pm))).heap.setIfInBounds pm (.map (#[].push ⟨plK fr u, v, 0⟩) (0 + 1)) ∧ w'.os = w1.os ∧ w'.tape = w1.tape ∧ w'.output = w1.output
set_option maxRecDepth 100000 in
set_option maxHeartbeats 1000000 in
theorem keepNil (k h fr : Int) (u : Nat) (AT : Option Addr) (nT cT : Nat) (hf : (Lit.int .i64 fr).wf = true) (hu : (Lit.int .i64 (u : Int)).wf = true) (w : World) (ps : Nat) (x0 x1 : Value)
    (bx : Box w ps 144 #[x0, x1, .map none]) :
    Calls Tryz.prog 147 #[.pointer (some ⟨ps, 0, none⟩), plK fr u, .agg #[.int .i64 k, .int .i64 h, .slice AT nT cT]] w fun e w' => e = .returned (.tuple #[]) ∧ KNil ps fr u (.agg #[.int .i64 k, .int .i64 h, .slice AT nT cT]) w w' := by
  have lp := bx.lt
  have HF := Lib.hid hf; clear hf
  have HU := Lib.hid hu; clear hu
  have c2 : w.cell? ⟨ps, 2, none⟩ = some (.map none) := bx.three.2.2
  have f2 := bx.frozen 2
  have hq : ∀ W, Sem.run Tryz.prog (binOp BinOp.eql 142 (.map none) (.map none)) W = .ok (.bool true) W := fun W => by kernel_rfl
  have hmm := @run_makeMap Tryz.prog
  have bx3 : Box (((w.alloc (Obj.cells #[Value.int IntKind.i64 fr, Value.int IntKind.i64 ↑u] 164)).alloc (Obj.cells #[Value.int IntKind.i64 k, Value.int IntKind.i64 h, Value.slice AT nT cT] 44)).alloc (Obj.map #[] 0)) ps 144 #[x0, x1, .map none] := ((bx.alloc _).alloc _).alloc _
  have c3 := bx3.three.2.2
  have f3 := bx3.frozen 2
  go_enter Tryz.func147, Tryz.ntmps147
  go_wp2_with fail
  clear hmm hq c3 f3 c2 f2
  obtain ⟨W1, hW1⟩ : ∃ W1, (((w.alloc (Obj.cells #[Value.int IntKind.i64 fr, Value.int IntKind.i64 ↑u] 164)).alloc (Obj.cells #[Value.int IntKind.i64 k, Value.int IntKind.i64 h, Value.slice AT nT cT] 44)).alloc (Obj.map #[] 0)) = W1 := ⟨_, rfl⟩
  have hb : Below w.heap.size w W1 := by rw [← hW1]; exact (((Below.refl _ _).alloc (Nat.le_refl _) _).alloc (by simp) _).alloc (by simp; omega) _
  have b1 : Box W1 w.heap.size 164 #[.int .i64 fr, .int .i64 u] := by rw [← hW1]; exact ((Box.new _ _ _).alloc _).alloc _
  have b2 : Box W1 (w.heap.size + 1) 44 #[.int .i64 k, .int .i64 h, .slice AT nT cT] := by rw [← hW1]; exact ((Box.new (w.alloc _) _ _).at (by simp)).alloc _
  have hm : W1.heap[w.heap.size + 1 + 1]? = some (.map #[] 0) := by
    rw [← hW1]
    have := heap_alloc_new ((w.alloc (Obj.cells #[Value.int IntKind.i64 fr, Value.int IntKind.i64 ↑u] 164)).alloc (Obj.cells #[Value.int IntKind.i64 k, Value.int IntKind.i64 h, Value.slice AT nT cT] 44)) (Obj.map #[] 0)
    simpa using this
  rw [hW1] at bx3 ⊢
  clear hW1 bx
  have lm := (Array.getElem?_eq_some_iff.1 hm).1
  obtain ⟨W, hW⟩ : ∃ W, W1.setCell ⟨ps, 2, none⟩ (Value.map (some (w.heap.size + 1 + 1))) = W := ⟨_, rfl⟩
  have bp : Box W ps 144 #[x0, x1, .map (some (w.heap.size + 1 + 1))] := by
    rw [← hW]
    have := bx3.setAt 2 (Value.map (some (w.heap.size + 1 + 1)))
    simpa using this
  have d1 : Box W w.heap.size 164 #[.int .i64 fr, .int .i64 u] := by rw [← hW]; exact b1.other (by dsimp only; omega) _
  have d2 : Box W (w.heap.size + 1) 44 #[.int .i64 k, .int .i64 h, .slice AT nT cT] := by rw [← hW]; exact b2.other (by dsimp only; omega) _
  have hmW : W.heap[w.heap.size + 1 + 1]? = some (.map #[] 0) := by rw [← hW, Below.heap_setCell _ _ _ _ (by dsimp only; omega)]; exact hm
  rw [hW]
  have HW := Lib.hid hW; clear hW
  have hmu := put_map HF.out HU.out (w := W.drew) (show W.drew.heap[w.heap.size + 1 + 1]? = some (.map #[] 0) from hmW) (fun x hx => by simp at hx) (fun x hx => by simp at hx) (.agg #[.int .i64 k, .int .i64 h, .slice AT nT cT])
  obtain ⟨w2, hw2, hmu'⟩ : ∃ w2, Hid (w2 = { W.drew with heap := W.drew.heap.setIfInBounds (w.heap.size + 1 + 1) (.map (#[].push ⟨plK fr u, .agg #[.int .i64 k, .int .i64 h, .slice AT nT cT], 0⟩) (0 + 1)) }) ∧ (Instr.mapUpdate 142 (.map (some (w.heap.size + 1 + 1))) (.agg #[.int .i64 fr, .int .i64 u]) (.agg #[.int .i64 k, .int .i64 h, .slice AT nT cT])).run Tryz.prog W.drew = .ok () w2 := ⟨_, Lib.hid rfl, hmu⟩
  clear hmu
  have c2 : W.cell? ⟨ps, 2, none⟩ = some (.map (some (w.heap.size + 1 + 1))) := bp.three.2.2
  obtain ⟨p0, p1⟩ := d1.two
  obtain ⟨t0, t1, t2⟩ := d2.three
  have HB := Lib.hid hb; clear hb
  have HMW := Lib.hid hmW; clear hmW
  have HM1 := Lib.hid hm; clear hm
  go_region
  all_goals
    go_wp2_with fail
    go_end0
    refine ⟨rfl, W1, w.heap.size + 1 + 1, HB.out, lm, by omega, ?_⟩
    rw [hw2.out, ← HW.out]
    exact ⟨rfl, rfl, rfl, rfl⟩

/-- what became of a scope and of memory -/
structure Stp (pw ps : Nat) (X : Nat → Prop) (w : World) (mv : Value) (X' : Nat → Prop) (w' : World) (mv' : Value) : Prop where
  adv : Adv X w X' w'
  fr : Fr (fun k => k = pw ∨ k = ps ∨ mv = .map (some k)) w w'
  mvs : ∀ k, mv' = .map (some k) → k < w.heap.size → mv = .map (some k)
theorem Stp.trans {pw ps : Nat} {X Y Z : Nat → Prop} {a b c : World} {m1 m2 m3 : Value} (h : Stp pw ps X a m1 Y b m2) (k : Stp pw ps Y b m2 Z c m3) : Stp pw ps X a m1 Z c m3 :=
  ⟨h.adv.trans k.adv, h.fr.trans k.fr fun i hi e => by
      rcases e with e | e | e
      · exact .inl e
      · exact .inr (.inl e)
      · exact .inr (.inr (h.mvs i e hi)),
    fun i e hi => h.mvs i (k.mvs i e (Nat.lt_of_lt_of_le hi h.adv.size)) hi⟩
theorem Stp.below {pw ps : Nat} {X : Nat → Prop} {w w' : World} {mv : Value} (h : Below w.heap.size w w') : Stp pw ps X w mv X w' mv := ⟨Adv.below h, Fr.below h, fun _ e _ => e⟩
theorem Sc.below {X : Nat → Prop} {w w' : World} {ps : Nat} {L : List T} {sh : Int} {A : Option Addr} {n c : Nat} {mv : Value} (h : Sc X w ps L sh A n c mv) (hb : Below w.heap.size w w') : Sc X w' ps L sh A n c mv := by
  exact h.adv (Adv.below hb) (hb.block _ h.box.lt) (fun pm e => hb.block _ (h.mapLt e)) fun b hx => Nat.lt_of_lt_of_le (h.bnd b hx) hb.size
/-- blocks that are new may be counted to those that are written -/
theorem Sc.more {X X' : Nat → Prop} {w w' : World} {ps : Nat} {L : List T} {sh : Int} {A : Option Addr} {n c : Nat} {mv : Value} (h : Sc X w ps L sh A n c mv) (hb : Below w.heap.size w w') (h1 : ∀ b, X b → X' b) (h2 : ∀ b, b < w.heap.size → X' b → X b) (h3 : ∀ b, X' b → b < w'.heap.size) : Sc X' w' ps L sh A n c mv :=
  h.adv ⟨hb.size, h1, h2, fun b hl _ => hb.block b hl⟩ (hb.block _ h.box.lt) (fun pm e => hb.block _ (h.mapLt e)) h3

/-- what a scope holds of a free variable, up -/
abbrev upL0 (L : List T) (fr : Int) (u : Nat) : T := upT u (L.getD (L.length - 1 - fr.toNat) (.node 0 0 [])) 0
def KEnd (pw ps : Nat) (X : Nat → Prop) (w : World) (L : List T) (sh : Int) (A : Option Addr) (n c : Nat) (mv : Value) (w' : World) : Prop :=
  ∃ X' mv', Sc X' w' ps L sh A n c mv' ∧ Stp pw ps X w mv X' w' mv'
theorem plK_inj {a b c d : Int} (h : plK a b = plK c d) : a = c ∧ b = d := by simpa [plK] using h
theorem keepC (pw : Nat) {fr : Int} {u : Nat} (hf : (Lit.int .i64 fr).wf = true) (hu : (Lit.int .i64 (u : Int)).wf = true) {X : Nat → Prop} {w : World} {ps : Nat} {L : List T} {sh : Int} {A : Option Addr} {n c : Nat} {mv : Value} (hs : Sc X w ps L sh A n c mv)
    {k h : Int} {AT : Option Addr} {nT cT : Nat} (hv : RX X w (upL0 L fr u) (.agg #[.int .i64 k, .int .i64 h, .slice AT nT cT]))
    (hno : ∀ pm es cl, mv = .map (some pm) → w.heap[pm]? = some (.map es cl) → ∀ x ∈ es.toList, x.key ≠ plK fr u) :
    Calls Tryz.prog 147 #[.pointer (some ⟨ps, 0, none⟩), plK fr u, .agg #[.int .i64 k, .int .i64 h, .slice AT nT cT]] w fun e w' => e = .returned (.tuple #[]) ∧ KEnd pw ps X w L sh A n c mv w' := by
  have lp := hs.box.lt
  rcases hs.found with rfl | ⟨pm, es, cl, rfl, hX, hm, hok⟩
  · refine (keepNil k h fr u AT nT cT hf hu w ps _ _ hs.box).mono ?_
    rintro e w' ⟨rfl, w1, pm, hb, lpm, hge, hh, ho, ht, hout⟩
    have hsz : w'.heap.size = w1.heap.size := by rw [hh]; simp [World.setCell]
    have hother : ∀ b, b ≠ ps → b ≠ pm → w'.heap[b]? = w1.heap[b]? := fun b h1 h2 => by
      rw [hh, Array.getElem?_setIfInBounds_ne (by omega), Below.heap_setCell _ _ _ _ (by dsimp only; omega)]
    have hX' : ∀ b, b < w.heap.size → (X b ∨ b = pm) → X b := fun b hb e => by
      rcases e with e | e
      · exact e
      · omega
    have adv : Adv X w (fun b => X b ∨ b = pm) w' := ⟨by rw [hsz]; exact hb.size, fun b h => .inl h, hX', fun b hl hx => (hother b (fun e => hx (e ▸ hs.own)) (by omega)).trans (hb.block b hl)⟩
    refine ⟨rfl, fun b => X b ∨ b = pm, .map (some pm), ⟨?_, .inl hs.own, ?_, hs.list.adv adv, .inr ⟨pm, #[].push ⟨plK fr u, .agg #[.int .i64 k, .int .i64 h, .slice AT nT cT], 0⟩, 0 + 1, rfl, .inr rfl, ?_, ?_⟩⟩, adv, ⟨?_, ?_, ?_, by rw [hsz]; exact hb.size, ?_⟩, ?_⟩
    · have b1 := (hs.box.keep hb lp).setAt 2 (.map (some pm))
      unfold Box at b1 ⊢
      rw [hh, Array.getElem?_setIfInBounds_ne (by omega), b1]
      simp
    · intro b hx
      rw [hsz]
      rcases hx with hx | rfl
      · have := hs.bnd b hx; have := hb.size; omega
      · exact lpm
    · rw [hh, Array.getElem?_setIfInBounds_self_of_lt (by simpa [World.setCell] using lpm)]
    · refine ⟨fun x hx => ?_, fun x hx y hy _ => ?_, fun x hx fr' u' hk h0 h1 => ?_⟩
      · simp at hx; subst hx; exact ⟨fr, u, rfl, hf, hu⟩
      · simp at hx hy; subst hx hy; rfl
      · simp at hx; subst hx
        obtain ⟨rfl, e2⟩ := plK_inj hk
        obtain rfl : u = u' := by omega
        exact hv.adv adv
    · rw [ho, hb.os]
    · rw [ht, hb.tape]
    · rw [hout, hb.output]
    · exact fun b hl hx => (hother b (fun e => hx (.inr (.inl e))) (by omega)).trans (hb.block b hl)
    · intro k hk hl
      cases hk
      omega
  · refine (keepMap k h fr u AT nT cT hf hu w ps pm _ _ es cl hs.box hm hok.keys (hno pm es cl rfl hm)).mono ?_
    rintro e w' ⟨rfl, w1, hb, hh, ho, ht, hout⟩
    have lpm := (Array.getElem?_eq_some_iff.1 hm).1
    have hne : ps ≠ pm := fun e => by
      have := hs.box
      unfold Box at this
      rw [e, hm] at this
      cases this
    have hsz : w'.heap.size = w1.heap.size := by rw [hh]; simp
    have hother : ∀ b, b ≠ pm → w'.heap[b]? = w1.heap[b]? := fun b h2 => by rw [hh, Array.getElem?_setIfInBounds_ne (by omega)]
    have adv : Adv X w X w' := ⟨by rw [hsz]; exact hb.size, fun b h => h, fun b _ h => h, fun b hl hx => (hother b (fun e => hx (e ▸ hX))).trans (hb.block b hl)⟩
    refine ⟨rfl, X, .map (some pm), ⟨?_, hs.own, fun b hx => (by rw [hsz]; have := hs.bnd b hx; have := hb.size; omega), hs.list.adv adv, .inr ⟨pm, es.push ⟨plK fr u, .agg #[.int .i64 k, .int .i64 h, .slice AT nT cT], cl⟩, cl + 1, rfl, hX, ?_, ?_⟩⟩, adv, ⟨?_, ?_, ?_, by rw [hsz]; exact hb.size, ?_⟩, fun k hk _ => hk⟩
    · have b1 := hs.box.keep hb lp
      unfold Box at b1 ⊢
      rw [hother _ hne, b1]
    · rw [hh, Array.getElem?_setIfInBounds_self_of_lt (Nat.lt_of_lt_of_le lpm hb.size)]
    · refine ⟨fun x hx => ?_, fun x hx y hy exy => ?_, fun x hx fr' u' hk h0 h1 => ?_⟩
      · simp only [Array.toList_push, List.mem_append, List.mem_singleton] at hx
        rcases hx with hx | rfl
        · exact hok.keys x hx
        · exact ⟨fr, u, rfl, hf, hu⟩
      · simp only [Array.toList_push, List.mem_append, List.mem_singleton] at hx hy
        rcases hx with hx | rfl
        · rcases hy with hy | rfl
          · exact hok.one x hx y hy exy
          · exact absurd exy (hno pm es cl rfl hm x hx)
        · rcases hy with hy | rfl
          · exact absurd exy.symm (hno pm es cl rfl hm y hy)
          · rfl
      · simp only [Array.toList_push, List.mem_append, List.mem_singleton] at hx
        rcases hx with hx | rfl
        · exact (hok.ok x hx fr' u' hk h0 h1).adv adv
        · obtain ⟨rfl, e2⟩ := plK_inj hk
          obtain rfl : u = u' := by omega
          exact hv.adv adv
    · rw [ho, hb.os]
    · rw [ht, hb.tape]
    · rw [hout, hb.output]
    · exact fun b hl hx => (hother b (fun e => hx (.inr (.inr (by rw [e]))))).trans (hb.block b hl)
end Go.Proofs.YtloeainlpcnhnaaGreat
