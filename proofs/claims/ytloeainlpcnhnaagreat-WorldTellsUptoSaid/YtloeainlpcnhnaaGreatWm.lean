/-
  What calls of package subst leave as it was; terms in memory beside blocks that are written; the map of package subst, keyed by two ints. No statement is proved here.
-/
import Derived.Test.YtloeainlpcnhnaaGreatPa
import Derived.Maps.OwnOps
import Derived.DeepKeys4
namespace Go.Proofs.YtloeainlpcnhnaaGreat
open Go.ChangeShapes Go.WideShapes Go.ChangeAt Go.RowKit
set_option linter.unusedVariables false
set_option maxRecDepth 100000

/-- all blocks are as they were but some, and new ones -/
structure Fr (X : Nat → Prop) (w w' : World) : Prop where
  os : w'.os = w.os
  tape : w'.tape = w.tape
  output : w'.output = w.output
  size : w.heap.size ≤ w'.heap.size
  block : ∀ k, k < w.heap.size → ¬ X k → w'.heap[k]? = w.heap[k]?
theorem Fr.refl (X : Nat → Prop) (w : World) : Fr X w w := ⟨rfl, rfl, rfl, Nat.le_refl _, fun _ _ _ => rfl⟩
theorem Fr.of {X : Nat → Prop} {B : Nat} {w w' : World} (h : Below B w w') (hB : ∀ k, k < w.heap.size → ¬ X k → k < B) : Fr X w w' := ⟨h.os, h.tape, h.output, h.size, fun k hk hx => h.block k (hB k hk hx)⟩
theorem Fr.below {X : Nat → Prop} {w w' : World} (h : Below w.heap.size w w') : Fr X w w' := Fr.of h fun _ hk _ => hk
/-- the second one's blocks are the first one's, or new -/
theorem Fr.trans {X Y : Nat → Prop} {a b c : World} (h : Fr X a b) (k : Fr Y b c) (hy : ∀ i, i < a.heap.size → Y i → X i) : Fr X a c :=
  ⟨k.os.trans h.os, k.tape.trans h.tape, k.output.trans h.output, Nat.le_trans h.size k.size, fun i hi hx => (k.block i (Nat.lt_of_lt_of_le hi h.size) fun e => hx (hy i hi e)).trans (h.block i hi hx)⟩
theorem Fr.then {X : Nat → Prop} {a b c : World} (h : Fr X a b) (k : Below b.heap.size b c) : Fr X a c := h.trans (Fr.below (X := X) k) fun _ _ e => e
theorem Fr.mono {X Y : Nat → Prop} {w w' : World} (h : Fr X w w') (hy : ∀ i, i < w.heap.size → X i → Y i) : Fr Y w w' :=
  ⟨h.os, h.tape, h.output, h.size, fun i hi hx => h.block i hi fun e => hx (hy i hi e)⟩
/-- all of those blocks are new for an earlier world -/
theorem Fr.to_below {X : Nat → Prop} {w w' : World} {B : Nat} (h : Fr X w w') (hx : ∀ i, X i → B ≤ i) (hB : B ≤ w.heap.size) : Below B w w' :=
  ⟨h.os, h.tape, h.output, h.size, fun i hi => h.block i (by omega) fun e => by have := hx i e; omega⟩

/-- a term in memory, read elsewhere -/
theorem RdF.moveX {ok ok' : Nat → Prop} {w w' : World} (hk : ∀ b, ok b → b < w.heap.size → ok' b ∧ w'.heap[b]? = w.heap[b]?) : ∀ (t : T) (v : Value), RdF ok w t v → RdF ok' w' t v := by
  refine T.ind fun k h xs ih v hv => ?_
  obtain ⟨A, n, c, rfl, h1, h2, h3, h4, h5, h6⟩ := RdF_node.1 hv
  refine RdF_node.2 ⟨A, n, c, rfl, h1, h2, h3, h4, h5, fun i t ht => ?_⟩
  obtain ⟨b, o, v0, v1, v2, rfl, hb, c0, c1, c2, hr⟩ := h6 i t ht
  have e : ∀ j, w'.cell? ⟨b, j, none⟩ = w.cell? ⟨b, j, none⟩ := fun j => World.cell?_of_block (w := w) (hk b hb (cell_lt c0)).2
  exact ⟨b, o, v0, v1, v2, rfl, (hk b hb (cell_lt c0)).1, (e _).trans c0, (e _).trans c1, (e _).trans c2, ih t (List.mem_of_getElem? ht) _ hr⟩
theorem RdFAt.moveX {ok ok' : Nat → Prop} {w w' : World} (hk : ∀ b, ok b → b < w.heap.size → ok' b ∧ w'.heap[b]? = w.heap[b]?) {A : Option Addr} {j : Nat} {t : T} (h : RdFAt ok w A j t) : RdFAt ok' w' A j t := by
  obtain ⟨b, o, v0, v1, v2, rfl, hb, c0, c1, c2, hr⟩ := h
  have e : ∀ j, w'.cell? ⟨b, j, none⟩ = w.cell? ⟨b, j, none⟩ := fun j => World.cell?_of_block (w := w) (hk b hb (cell_lt c0)).2
  exact ⟨b, o, v0, v1, v2, rfl, (hk b hb (cell_lt c0)).1, (e _).trans c0, (e _).trans c1, (e _).trans c2, RdF.moveX hk t _ hr⟩
theorem RdFAt.full {ok : Nat → Prop} {w : World} {A : Option Addr} {j : Nat} {t : T} (h : RdFAt ok w A j t) :
    ∃ b o k h A' n c, A = some ⟨b, o, none⟩ ∧ w.cell? ⟨b, o + j * 3, none⟩ = some (.int .i64 k) ∧ w.cell? ⟨b, o + j * 3 + 1, none⟩ = some (.int .i64 h) ∧
      w.cell? ⟨b, o + j * 3 + 2, none⟩ = some (.slice A' n c) ∧ RdF ok w t (.agg #[.int .i64 k, .int .i64 h, .slice A' n c]) := by
  obtain ⟨b, o, v0, v1, v2, rfl, _, c0, c1, c2, hr⟩ := h
  obtain ⟨k, h, xs⟩ := t
  have hr' := hr
  obtain ⟨A', n, c, e, _⟩ := RdF_node.1 hr
  have e' : v0 = .int .i64 k ∧ v1 = .int .i64 h ∧ v2 = .slice A' n c := by simpa using e
  obtain ⟨rfl, rfl, rfl⟩ := e'
  exact ⟨b, o, k, h, A', n, c, rfl, c0, c1, c2, hr'⟩
theorem rdFAt_rd {ok : Nat → Prop} {w : World} {A : Option Addr} {j : Nat} {t : T} (h : RdFAt ok w A j t) : RdAt w A j t := by
  obtain ⟨b, o, v0, v1, v2, rfl, _, c0, c1, c2, hr⟩ := h
  exact ⟨b, o, v0, v1, v2, rfl, c0, c1, c2, RdF.rd _ _ hr⟩

/-! ### The map -/
abbrev plK (a b : Int) : Value := .agg #[.int .i64 a, .int .i64 b]
theorem placeLaid : laidOutB Tryz.prog = true := by kernel_rfl
theorem placeRow : (164 : TypeId) < Tryz.prog.types.size := of_decide_eq_true (by kernel_rfl)
theorem placeWide : (match Tryz.prog.underlying 164 with | some (.array _ _) | some (.struct _) => true | _ => false) = true := by kernel_rfl
theorem placeLaw : WideMaps.KeyLaw Tryz.prog 164 := deep_law_laid placeLaid (m := 2) (by omega) placeRow (by kernel_rfl) placeWide
theorem placeKey {a b : Int} (ha : (Lit.int .i64 a).wf = true) (hb : (Lit.int .i64 b).wf = true) : ∃ l, keyOf Tryz.prog 164 (plK a b) = some l := by
  obtain ⟨m, hm⟩ : ∃ m, Tryz.prog.types.size = m + 1 := ⟨Tryz.prog.types.size - 1, by have : 0 < Tryz.prog.types.size := Nat.lt_of_le_of_lt (Nat.zero_le _) placeRow; omega⟩
  have h1 : Tryz.prog.keyType 164 = true := by kernel_rfl
  have h2 : Tryz.prog.cellsOf 164 = 2 := by kernel_rfl
  have h3 : Tryz.prog.cellsOf 3 = 1 := by kernel_rfl
  have h4 : (plK a b).formed Tryz.prog 164 = true := by simp [Value.formed, Tryz.underlying164, h2]
  unfold keyOf
  rw [Tryz.underlying164, hm]
  simp only [h1, h4, Bool.and_self, if_true]
  simp [Program.keyLits, Tryz.underlying164, Tryz.underlying3, h2, h3, ha, hb, Value.cells]

/-- the keys are two ints -/
def PlKeys (es : Array MapEntry) : Prop := ∀ x ∈ es.toList, ∃ a b : Int, x.key = plK a b ∧ (Lit.int .i64 a).wf = true ∧ (Lit.int .i64 b).wf = true
theorem PlKeys.keyed {es : Array MapEntry} (h : PlKeys es) : ∀ e ∈ es.toList, ∃ l, keyOf Tryz.prog 164 e.key = some l := fun e he => by
  obtain ⟨a, b, hk, ha, hb⟩ := h e he
  rw [hk]
  exact placeKey ha hb
abbrev zT : Value := .agg #[.int .i64 0, .int .i64 0, .slice none 0 0]
theorem zeroT (w : World) : (zeroValue 44).run Tryz.prog w = .ok zT w := by kernel_rfl
theorem look_nil (a b : Int) (ha : (Lit.int .i64 a).wf = true) (hb : (Lit.int .i64 b).wf = true) (w : World) :
    (Instr.lookup 142 (.map none) (plK a b) true).run Tryz.prog w = .ok (.tuple #[zT, .bool false]) w := by
  obtain ⟨l, hl⟩ := placeKey ha hb
  have h1 : (Instr.findKey 164 (plK a b) []).run Tryz.prog w = .ok none w := by
    rcases placeLaw.find w hl [] (fun e he => by cases he) with ⟨h1, _⟩ | ⟨j, e, _, h2, _⟩
    · exact h1
    · simp at h2
  simp [Instr.lookup, run_underlying Tryz.underlying142, placeLaw.check w _ hl, h1, Result.andThen]
theorem look_map {es : Array MapEntry} {cl pm : Nat} {a b : Int} (ha : (Lit.int .i64 a).wf = true) (hb : (Lit.int .i64 b).wf = true) {w : World} (hm : w.heap[pm]? = some (.map es cl)) (hk : PlKeys es) :
    ((Instr.lookup 142 (.map (some pm)) (plK a b) true).run Tryz.prog w = .ok (.tuple #[zT, .bool false]) w ∧ ∀ x ∈ es.toList, x.key ≠ plK a b) ∨
    ∃ e ∈ es.toList, e.key = plK a b ∧ (Instr.lookup 142 (.map (some pm)) (plK a b) true).run Tryz.prog w = .ok (.tuple #[e.val, .bool true]) w := by
  obtain ⟨l, hl⟩ := placeKey ha hb
  rcases placeLaw.find w hl es.toList hk.keyed with ⟨h1, h2⟩ | ⟨j, e, h1, h2, h3⟩
  · exact .inl ⟨by simp [Instr.lookup, run_underlying Tryz.underlying142, MapKept.run_getObj_map hm, placeLaw.check w _ hl, h1, Result.andThen], h2⟩
  · exact .inr ⟨e, List.mem_of_getElem? h2, h3, by simp [Instr.lookup, run_underlying Tryz.underlying142, MapKept.run_getObj_map hm, placeLaw.check w _ hl, h1, Result.andThen]⟩
/-- a key that is not there is put in -/
theorem put_map {es : Array MapEntry} {cl pm : Nat} {a b : Int} (ha : (Lit.int .i64 a).wf = true) (hb : (Lit.int .i64 b).wf = true) {w : World} (hm : w.heap[pm]? = some (.map es cl)) (hk : PlKeys es) (hno : ∀ x ∈ es.toList, x.key ≠ plK a b) (v : Value) :
    (Instr.mapUpdate 142 (.map (some pm)) (plK a b) v).run Tryz.prog w = .ok () { w with heap := w.heap.setIfInBounds pm (.map (es.push ⟨plK a b, v, cl⟩) (cl + 1)) } := by
  obtain ⟨l, hl⟩ := placeKey ha hb
  rcases placeLaw.find w hl es.toList hk.keyed with ⟨h1, h2⟩ | ⟨j, e, h1, h2, h3⟩
  · simp [Instr.mapUpdate, run_underlying Tryz.underlying142, MapKept.run_getObj_map hm, placeLaw.check w false hl, h1, MapKept.run_setObj_map _ hm, Result.andThen]
  · exact absurd h3 (hno e (List.mem_of_getElem? h2))

/-- terms that lie beside the blocks of X -/
abbrev RX (X : Nat → Prop) (w : World) (t : T) (v : Value) : Prop := RdF (fun b => ¬ X b) w t v
/-- a list of such, in a slice -/
structure RXL (X : Nat → Prop) (w : World) (xs : List T) (A : Option Addr) (n c : Nat) : Prop where
  len : xs.length = n
  le : n ≤ c
  cap : c ≤ maxLen
  at_ : ∀ i t, xs[i]? = some t → RdFAt (fun b => ¬ X b) w A i t
/-- what the map of a scope holds is what it should -/
structure MapOk (X : Nat → Prop) (w : World) (L : List T) (es : Array MapEntry) : Prop where
  keys : PlKeys es
  one : ∀ x ∈ es.toList, ∀ y ∈ es.toList, x.key = y.key → x.val = y.val
  ok : ∀ x ∈ es.toList, ∀ (fr : Int) (u : Nat), x.key = plK fr u → 0 ≤ fr → fr < L.length → RX X w (upT u (L.getD (L.length - 1 - fr.toNat) (.node 0 0 [])) 0) x.val
/-- a scope's found -/
def Found (X : Nat → Prop) (w : World) (L : List T) (mv : Value) : Prop :=
  mv = .map none ∨ ∃ pm es cl, mv = .map (some pm) ∧ X pm ∧ w.heap[pm]? = some (.map es cl) ∧ MapOk X w L es
/-- a scope in memory, in block ps -/
structure Sc (X : Nat → Prop) (w : World) (ps : Nat) (L : List T) (sh : Int) (A : Option Addr) (n c : Nat) (mv : Value) : Prop where
  box : Box w ps 144 #[.slice A n c, .int .i64 sh, mv]
  own : X ps
  bnd : ∀ b, X b → b < w.heap.size
  list : RXL X w L A n c
  found : Found X w L mv
/-- the set of blocks that are written may have grown by new ones -/
structure Adv (X : Nat → Prop) (w : World) (X' : Nat → Prop) (w' : World) : Prop where
  size : w.heap.size ≤ w'.heap.size
  more : ∀ b, X b → X' b
  new : ∀ b, b < w.heap.size → X' b → X b
  block : ∀ b, b < w.heap.size → ¬ X b → w'.heap[b]? = w.heap[b]?
theorem Adv.refl (X : Nat → Prop) (w : World) : Adv X w X w := ⟨Nat.le_refl _, fun _ h => h, fun _ _ h => h, fun _ _ _ => rfl⟩
theorem Adv.trans {X Y Z : Nat → Prop} {a b c : World} (h : Adv X a Y b) (k : Adv Y b Z c) : Adv X a Z c :=
  ⟨Nat.le_trans h.size k.size, fun i e => k.more i (h.more i e), fun i hi e => h.new i hi (k.new i (Nat.lt_of_lt_of_le hi h.size) e),
    fun i hi e => (k.block i (Nat.lt_of_lt_of_le hi h.size) fun e' => e (h.new i hi e')).trans (h.block i hi e)⟩
theorem Adv.below {X : Nat → Prop} {w w' : World} (h : Below w.heap.size w w') : Adv X w X w' := ⟨h.size, fun _ h => h, fun _ _ h => h, fun b hb _ => h.block b hb⟩
theorem Adv.fr {X Y : Nat → Prop} {w w' : World} (h : Fr Y w w') (hy : ∀ i, i < w.heap.size → Y i → X i) : Adv X w X w' :=
  ⟨h.size, fun _ h => h, fun _ _ h => h, fun b hb e => h.block b hb fun e' => e (hy b hb e')⟩
theorem RX.adv {X X' : Nat → Prop} {w w' : World} {t : T} {v : Value} (h : RX X w t v) (a : Adv X w X' w') : RX X' w' t v :=
  RdF.moveX (fun b hb hl => ⟨fun e => hb (a.new b hl e), a.block b hl hb⟩) _ _ h
theorem RX.mono {X Y : Nat → Prop} {w : World} {t : T} {v : Value} (h : RX X w t v) (hy : ∀ i, i < w.heap.size → Y i → X i) : RX Y w t v :=
  RdF.moveX (fun b hb hl => ⟨fun e => hb (hy b hl e), rfl⟩) _ _ h
theorem RX.rd {X : Nat → Prop} {w : World} {t : T} {v : Value} (h : RX X w t v) : Rd w t v := RdF.rd _ _ h
theorem RXL.adv {X X' : Nat → Prop} {w w' : World} {xs : List T} {A : Option Addr} {n c : Nat} (h : RXL X w xs A n c) (a : Adv X w X' w') : RXL X' w' xs A n c :=
  ⟨h.len, h.le, h.cap, fun i t ht => RdFAt.moveX (fun b hb hl => ⟨fun e => hb (a.new b hl e), a.block b hl hb⟩) (h.at_ i t ht)⟩
theorem RXL.mono {X Y : Nat → Prop} {w : World} {xs : List T} {A : Option Addr} {n c : Nat} (h : RXL X w xs A n c) (hy : ∀ i, i < w.heap.size → Y i → X i) : RXL Y w xs A n c :=
  ⟨h.len, h.le, h.cap, fun i t ht => RdFAt.moveX (fun b hb hl => ⟨fun e => hb (hy b hl e), rfl⟩) (h.at_ i t ht)⟩
theorem MapOk.adv {X X' : Nat → Prop} {w w' : World} {L : List T} {es : Array MapEntry} (h : MapOk X w L es) (a : Adv X w X' w') : MapOk X' w' L es :=
  ⟨h.keys, h.one, fun x hx fr u hk h0 h1 => (h.ok x hx fr u hk h0 h1).adv a⟩
/-- a scope is as it was where its own blocks are -/
theorem Sc.adv {X X' : Nat → Prop} {w w' : World} {ps : Nat} {L : List T} {sh : Int} {A : Option Addr} {n c : Nat} {mv : Value} (h : Sc X w ps L sh A n c mv) (a : Adv X w X' w')
    (h1 : w'.heap[ps]? = w.heap[ps]?) (h2 : ∀ pm, mv = .map (some pm) → w'.heap[pm]? = w.heap[pm]?) (hX : ∀ b, X' b → b < w'.heap.size) : Sc X' w' ps L sh A n c mv := by
  refine ⟨h1.trans h.box, a.more _ h.own, hX, h.list.adv a, ?_⟩
  rcases h.found with rfl | ⟨pm, es, cl, rfl, hx, hm, hok⟩
  · exact .inl rfl
  · exact .inr ⟨pm, es, cl, rfl, a.more _ hx, (h2 pm rfl).trans hm, hok.adv a⟩
/-- the map's block is there -/
theorem Sc.mapLt {X : Nat → Prop} {w : World} {ps : Nat} {L : List T} {sh : Int} {A : Option Addr} {n c : Nat} {mv : Value} (h : Sc X w ps L sh A n c mv) {pm : Nat} (e : mv = .map (some pm)) : pm < w.heap.size := by
  rcases h.found with e1 | ⟨pm', es, cl, e1, _, hm, _⟩
  · rw [e] at e1; cases e1
  · rw [e] at e1; cases e1
    exact (Array.getElem?_eq_some_iff.1 hm).1
theorem Box.fr {X : Nat → Prop} {w w' : World} {b : Nat} {ty : TypeId} {cs : Array Value} (h : Box w b ty cs) (hf : Fr X w w') (hx : ¬ X b) : Box w' b ty cs := (hf.block b h.lt hx).trans h
theorem Box.put3 {w : World} {p : Nat} {ty : TypeId} {x0 x1 x2 : Value} (h : Box w p ty #[x0, x1, x2]) (u0 u1 u2 : Value) : Box (((w.setCell ⟨p, 0, none⟩ u0).setCell ⟨p, 1, none⟩ u1).setCell ⟨p, 2, none⟩ u2) p ty #[u0, u1, u2] := by
  have := ((h.setAt 0 u0).setAt 1 u1).setAt 2 u2
  simpa using this
theorem Fr.set3 {X : Nat → Prop} {w w' : World} (h : Fr X w w') {a : Nat} (ha : a < w.heap.size → X a) (u0 u1 u2 : Value) : Fr X w (((w'.setCell ⟨a, 0, none⟩ u0).setCell ⟨a, 1, none⟩ u1).setCell ⟨a, 2, none⟩ u2) :=
  ⟨h.os, h.tape, h.output, by simpa [World.setCell] using h.size, fun k hk hx => (heap_other3 _ _ _ _ _ _ (fun e => hx (by subst e; exact ha hk))).trans (h.block k hk hx)⟩
theorem Adv.set3 {X : Nat → Prop} {w : World} {a : Nat} (ha : X a) (u0 u1 u2 : Value) : Adv X w X (((w.setCell ⟨a, 0, none⟩ u0).setCell ⟨a, 1, none⟩ u1).setCell ⟨a, 2, none⟩ u2) :=
  ⟨by simp [World.setCell], fun _ h => h, fun _ _ h => h, fun k hk hx => heap_other3 _ _ _ _ _ _ (fun e => hx (by subst e; exact ha))⟩
theorem size_set3 (w : World) (a : Nat) (u0 u1 u2 : Value) : (((w.setCell ⟨a, 0, none⟩ u0).setCell ⟨a, 1, none⟩ u1).setCell ⟨a, 2, none⟩ u2).heap.size = w.heap.size := by simp [World.setCell]
end Go.Proofs.YtloeainlpcnhnaaGreat
