/-
  What package parse reads from, in memory: tokens, declarations with their names, the numbers of names, names that are bound. No statement is proved here.
-/
import Derived.Test.YtmkahbbcagfbhaaGreatDoorBaC
import Derived.Test.YtmkahbbcagfbhaaGreatDoorXg
import Derived.Test.YtmkahbbcagfbhaaGreatDoorQg
namespace Go.Proofs.YtmkahbbcagfbhaaGreatDoor
open Go.ChangeShapes Go.WideShapes Go.ChangeAt Go.RowKit
set_option linter.unusedVariables false
/-- all blocks but one are as they were, and there may be new ones -/
structure FrB (R : Nat) (w w' : World) : Prop where
  os : w'.os = w.os
  tape : w'.tape = w.tape
  output : w'.output = w.output
  size : w.heap.size ≤ w'.heap.size
  block : ∀ k, k < w.heap.size → k ≠ R → w'.heap[k]? = w.heap[k]?
theorem FrB.refl (R : Nat) (w : World) : FrB R w w := ⟨rfl, rfl, rfl, Nat.le_refl _, fun _ _ _ => rfl⟩
theorem FrB.below {R : Nat} {w w' : World} (h : Below w.heap.size w w') : FrB R w w' := ⟨h.os, h.tape, h.output, h.size, fun k hk _ => h.block k hk⟩
theorem FrB.trans {R : Nat} {a b c : World} (h : FrB R a b) (k : FrB R b c) : FrB R a c :=
  ⟨k.os.trans h.os, k.tape.trans h.tape, k.output.trans h.output, Nat.le_trans h.size k.size, fun i hi hx => (k.block i (Nat.lt_of_lt_of_le hi h.size) hx).trans (h.block i hi hx)⟩
theorem FrB.then {R : Nat} {a b c : World} (h : FrB R a b) (k : Below b.heap.size b c) : FrB R a c := h.trans (FrB.below k)
theorem FrB.after {R : Nat} {a b c : World} (h : Below a.heap.size a b) (k : FrB R b c) : FrB R a c := (FrB.below h).trans k
theorem FrB.set {R : Nat} {w w' : World} (h : FrB R w w') (i : Nat) (v : Value) : FrB R w (w'.setCell ⟨R, i, none⟩ v) :=
  ⟨h.os, h.tape, h.output, by simpa [World.setCell] using h.size, fun k hk hR => (Below.heap_setCell _ _ _ _ (by dsimp only; omega)).trans (h.block k hk hR)⟩
/-- a new block is written -/
theorem FrB.put {R P : Nat} {w w' : World} (h : FrB R w w') (hP : w.heap.size ≤ P) (i : Nat) (v : Value) : FrB R w (w'.setCell ⟨P, i, none⟩ v) :=
  ⟨h.os, h.tape, h.output, by simpa [World.setCell] using h.size, fun k hk hR => (Below.heap_setCell _ _ _ _ (by dsimp only; omega)).trans (h.block k hk hR)⟩
theorem FrB.put3 {R P : Nat} {w w' : World} (h : FrB R w w') (hP : w.heap.size ≤ P) (u0 u1 u2 : Value) : FrB R w (((w'.setCell ⟨P, 0, none⟩ u0).setCell ⟨P, 1, none⟩ u1).setCell ⟨P, 2, none⟩ u2) :=
  ((h.put hP 0 u0).put hP 1 u1).put hP 2 u2
theorem FrB.toBelow {B R : Nat} {a w w' : World} (h : Below B a w) (k : FrB R w w') (hB : B ≤ w.heap.size) (hR : B ≤ R) : Below B a w' :=
  h.trans ⟨k.os, k.tape, k.output, k.size, fun i hi => k.block i (by omega) (by omega)⟩
theorem BoxX.fr {R b : Nat} {w w' : World} {ty : TypeId} {cs : Array Value} (h : BoxX w b ty cs) (k : FrB R w w') (hb : b ≠ R) : BoxX w' b ty cs := (k.block b h.lt hb).trans h
/-- a term all of which lies from a block on -/
abbrev RdN (lo : Nat) (w : World) (t : T) (v : Value) : Prop := RdF (fun b => lo ≤ b) w t v
theorem RdN.fr {lo R : Nat} {w w' : World} {t : T} {v : Value} (h : RdN lo w t v) (k : FrB R w w') (hR : R < lo) : RdN lo w' t v :=
  RdF.moveQ (fun b hb hl => ⟨hb, k.block b hl (by omega)⟩) _ _ h
theorem RdN.keep {lo : Nat} {w w' : World} {t : T} {v : Value} (h : RdN lo w t v) (k : Below w.heap.size w w') : RdN lo w' t v :=
  RdF.moveQ (fun b hb hl => ⟨hb, k.block b hl⟩) _ _ h
theorem RdN.less {lo lo' : Nat} {w : World} {t : T} {v : Value} (h : RdN lo w t v) (k : lo' ≤ lo) : RdN lo' w t v :=
  RdF.moveQ (fun b hb hl => ⟨by omega, rfl⟩) _ _ h
theorem RdN.rd {lo : Nat} {w : World} {t : T} {v : Value} (h : RdN lo w t v) : Rd w t v := RdF.rd _ _ h
/-- names in memory -/
structure NL (w : World) (x : List ByteArray) (A : Option Addr) (n c : Nat) : Prop where
  len : x.length = n
  le : n ≤ c
  cap : c ≤ maxLen
  at_ : ∀ i s, x[i]? = some s → ∃ b o, A = some ⟨b, o, none⟩ ∧ w.cell? ⟨b, o + i, none⟩ = some (.string s)
theorem NL.keep {w w' : World} {x : List ByteArray} {A : Option Addr} {n c : Nat} (h : NL w x A n c) (hb : Below w.heap.size w w') : NL w' x A n c :=
  ⟨h.len, h.le, h.cap, fun i t ht => by
    obtain ⟨b, o, e, c0⟩ := h.at_ i t ht
    exact ⟨b, o, e, (hb.cell (cell_ltX c0)).trans c0⟩⟩
theorem NL.nil (w : World) : NL w [] none 0 0 := ⟨rfl, Nat.le_refl _, Nat.zero_le _, fun i t ht => by simp at ht⟩
/-- a declaration of a list, with its name; nothing of it lies in a block -/
def DAn (b0 R : Nat) (w : World) (A : Option Addr) (i : Nat) (d : ByteArray × T) : Prop :=
  ∃ b o k h A' n c, A = some ⟨b, o, none⟩ ∧ (b ≠ R ∧ b < b0) ∧ w.cell? ⟨b, o + i * 4, none⟩ = some (.string d.1) ∧ w.cell? ⟨b, o + i * 4 + 1, none⟩ = some (.int .i64 k) ∧ w.cell? ⟨b, o + i * 4 + 2, none⟩ = some (.int .i64 h) ∧
    w.cell? ⟨b, o + i * 4 + 3, none⟩ = some (.slice A' n c) ∧ RdF (fun q => q ≠ R ∧ q < b0) w d.2 (.agg #[.int .i64 k, .int .i64 h, .slice A' n c])
structure DLn (b0 R : Nat) (w : World) (ds : List (ByteArray × T)) (A : Option Addr) (n c : Nat) : Prop where
  len : ds.length = n
  le : n ≤ c
  cap : c ≤ maxLen
  at_ : ∀ i d, ds[i]? = some d → DAn b0 R w A i d
theorem DAn.mid {b0 R : Nat} {w w' : World} {A : Option Addr} {i : Nat} {d : ByteArray × T} (h : DAn b0 R w A i d) (f : ∀ b, b < b0 → b ≠ R → b < w.heap.size → w'.heap[b]? = w.heap[b]?) : DAn b0 R w' A i d := by
  obtain ⟨b, o, k, g, A', n, c, rfl, hb, c0, c1, c2, c3, hr⟩ := h
  have e : ∀ j, w'.cell? ⟨b, j, none⟩ = w.cell? ⟨b, j, none⟩ := fun j => World.cell?_of_block (w := w) (f b hb.2 hb.1 (cell_ltX c0))
  exact ⟨b, o, k, g, A', n, c, rfl, hb, (e _).trans c0, (e _).trans c1, (e _).trans c2, (e _).trans c3, RdF.moveQ (fun q hq hl => ⟨hq, f q hq.2 hq.1 hl⟩) _ _ hr⟩
theorem DLn.mid {b0 R : Nat} {w w' : World} {ds : List (ByteArray × T)} {A : Option Addr} {n c : Nat} (h : DLn b0 R w ds A n c) (f : ∀ b, b < b0 → b ≠ R → b < w.heap.size → w'.heap[b]? = w.heap[b]?) : DLn b0 R w' ds A n c :=
  ⟨h.len, h.le, h.cap, fun i d hd => (h.at_ i d hd).mid f⟩
/-- the numbers of names -/
structure NumOk (es : Array MapEntry) (sg : List (ByteArray × T)) : Prop where
  keys : ∀ x ∈ es.toList, ∃ s i t, x.key = .string s ∧ posD s sg = some (i, t) ∧ x.val = .int .i64 (i : Nat) ∧ s.size ≤ maxLen
  all : ∀ s p, posD s sg = some p → ∃ x ∈ es.toList, x.key = .string s
/-- tokens that a text may have -/
structure TkG (t : Tk) : Prop where
  one : t ≠ (1, ⟨#[]⟩)
  nP : t.1 = 0 → t.2 ≠ ⟨#[123]⟩
  nL : t.1 = 0 → t.2 ≠ ⟨#[91]⟩
  nO : t.1 = 0 → t.2 ≠ ⟨#[40]⟩
  sz : t.2.size ≤ maxLen
/-- a reading: the tokens that are left, the declarations, the numbers of their names, all of them ahead of a block -/
structure PS (b0 R K : Nat) (SA : Option Addr) (sn sc : Nat) (sg : List (ByteArray × T)) (x : List Tk) (w : World) : Prop where
  box : ∃ A n c, BoxX w R 59 #[.slice A n c, .slice SA sn sc, .map (some K)] ∧ TL w x A n c ∧ ∀ b o, A = some ⟨b, o, none⟩ → b < R ∨ x = []
  dl : DLn b0 R w sg SA sn sc
  mp : ∃ es cl, w.heap[K]? = some (.map es cl) ∧ NumOk es sg
  ne : K ≠ R
  klt : K < R
  rle : R ≤ b0
  le : b0 ≤ w.heap.size
  few : x.length ≤ 100000
  good : ∀ t ∈ x, TkG t
  sgf : sg.length ≤ 1000
section
variable {b0 R K : Nat} {SA : Option Addr} {sn sc : Nat} {sg : List (ByteArray × T)} {x y : List Tk} {w w' : World}
theorem PS.lt (h : PS b0 R K SA sn sc sg x w) : R < w.heap.size := by
  obtain ⟨A, n, c, hb, _, _⟩ := h.box
  exact hb.lt
theorem cell_neB {A B : Option Addr} {n c m d : Nat} {ty : TypeId} {v : Value} (h : BoxX w R ty #[.slice A n c, .slice B m d, .map (some K)]) {b i : Nat} (hc : w.cell? ⟨b, i, none⟩ = some v) (hv : (∃ k z, v = .int k z) ∨ ∃ s, v = .string s) : b ≠ R := by
  rintro rfl
  rw [h.cell i] at hc
  have h3 : i = 0 ∨ i = 1 ∨ i = 2 ∨ 3 ≤ i := by omega
  rcases h3 with rfl | rfl | rfl | h3
  · simp at hc; subst hc; rcases hv with ⟨_, _, e⟩ | ⟨_, e⟩ <;> cases e
  · simp at hc; subst hc; rcases hv with ⟨_, _, e⟩ | ⟨_, e⟩ <;> cases e
  · simp at hc; subst hc; rcases hv with ⟨_, _, e⟩ | ⟨_, e⟩ <;> cases e
  · rw [Array.getElem?_eq_none (by simpa using h3)] at hc; cases hc
theorem TL.fr {A B C : Option Addr} {n c m d p q : Nat} {ty : TypeId} (hx : TL w x A n c) (h : BoxX w R ty #[.slice B m d, .slice C p q, .map (some K)]) (f : FrB R w w') : TL w' x A n c :=
  ⟨hx.len, hx.le, hx.cap, fun i t ht => by
    obtain ⟨b, o, e, c0, c1⟩ := hx.at_ i t ht
    have hb := cell_neB h c0 (.inl ⟨_, _, rfl⟩)
    have e' : ∀ j, w'.cell? ⟨b, j, none⟩ = w.cell? ⟨b, j, none⟩ := fun j => World.cell?_of_block (w := w) (f.block b (cell_ltX c0) hb)
    exact ⟨b, o, e, (e' _).trans c0, (e' _).trans c1⟩⟩
theorem NL.fr {bd : List ByteArray} {A : Option Addr} {n c : Nat} (hx : NL w bd A n c) (h : PS b0 R K SA sn sc sg x w) (f : FrB R w w') : NL w' bd A n c := by
  obtain ⟨B, m, d, hb0, _, _⟩ := h.box
  refine ⟨hx.len, hx.le, hx.cap, fun i t ht => ?_⟩
  obtain ⟨b, o, e, c0⟩ := hx.at_ i t ht
  have hb := cell_neB hb0 c0 (.inr ⟨_, rfl⟩)
  exact ⟨b, o, e, (World.cell?_of_block (w := w) (f.block b (cell_ltX c0) hb)).trans c0⟩
/-- behind what leaves all but itself as it was -/
theorem PS.to (h : PS b0 R K SA sn sc sg x w) (f : FrB R w w') {A : Option Addr} {n c : Nat} (hb : BoxX w' R 59 #[.slice A n c, .slice SA sn sc, .map (some K)]) (hy : TL w y A n c) (hl : y.length ≤ x.length) (hm : ∀ t ∈ y, t ∈ x) (hA : ∀ b o, A = some ⟨b, o, none⟩ → b < R ∨ y = []) : PS b0 R K SA sn sc sg y w' := by
  obtain ⟨B, m, d, hb0, hx, _⟩ := h.box
  obtain ⟨es, cl, hk, hes⟩ := h.mp
  exact ⟨⟨A, n, c, hb, hy.fr hb0 f, hA⟩, h.dl.mid fun b _ hR hl => f.block b hl hR, ⟨es, cl, (f.block K (Array.getElem?_eq_some_iff.1 hk).1 h.ne).trans hk, hes⟩, h.ne, h.klt, h.rle, Nat.le_trans h.le f.size, Nat.le_trans hl h.few, fun t ht => h.good t (hm t ht), h.sgf⟩
theorem PS.keep (h : PS b0 R K SA sn sc sg x w) (k : Below w.heap.size w w') : PS b0 R K SA sn sc sg x w' := by
  obtain ⟨B, m, d, hb0, hx, hA⟩ := h.box
  exact h.to (FrB.below k) (hb0.keep k hb0.lt) hx (Nat.le_refl _) (fun t ht => ht) hA
/-- where its own blocks are as they were -/
theorem PS.mid (h : PS b0 R K SA sn sc sg x w) (hs : w.heap.size ≤ w'.heap.size) (hR : w'.heap[R]? = w.heap[R]?) (f : ∀ b, b < b0 → w'.heap[b]? = w.heap[b]?) : PS b0 R K SA sn sc sg x w' := by
  obtain ⟨A, n, c, hb0, hx, hA⟩ := h.box
  obtain ⟨es, cl, hk, hes⟩ := h.mp
  refine ⟨⟨A, n, c, hR.trans hb0, ⟨hx.len, hx.le, hx.cap, fun i t ht => ?_⟩, hA⟩, h.dl.mid fun b hb _ _ => f b hb, ⟨es, cl, (f K (Nat.lt_of_lt_of_le h.klt h.rle)).trans hk, hes⟩, h.ne, h.klt, h.rle, Nat.le_trans h.le hs, h.few, h.good, h.sgf⟩
  obtain ⟨b, o, e, c0, c1⟩ := hx.at_ i t ht
  have hb : b < b0 := by
    rcases hA b o e with hb | hb
    · exact Nat.lt_of_lt_of_le hb h.rle
    · rw [hb] at ht; simp at ht
  have e' : ∀ j, w'.cell? ⟨b, j, none⟩ = w.cell? ⟨b, j, none⟩ := fun j => World.cell?_of_block (w := w) (f b hb)
  exact ⟨b, o, e, (e' _).trans c0, (e' _).trans c1⟩
theorem PS.put3 (h : PS b0 R K SA sn sc sg x w) {P : Nat} (hP : b0 ≤ P) (hne : P ≠ R) (u0 u1 u2 : Value) : PS b0 R K SA sn sc sg x (((w.setCell ⟨P, 0, none⟩ u0).setCell ⟨P, 1, none⟩ u1).setCell ⟨P, 2, none⟩ u2) :=
  h.mid (by simp [World.setCell]) (heap_other3Q _ _ _ _ _ _ (by omega)) fun b hb => heap_other3Q _ _ _ _ _ _ (by omega)
end
/-- the first token, or what stands at the end -/
def hdT : List Tk → Tk
  | [] => (1, ⟨#[]⟩)
  | t :: _ => t
end Go.Proofs.YtmkahbbcagfbhaaGreatDoor
