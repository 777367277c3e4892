/-
  A row of terms that grows by append; terms in memory that are read elsewhere. No statement is proved here.
-/
import Derived.Test.YtmkahbbcagfbhaaGreatDoorOw
import Derived.Deep.AppendLies
import Derived.Lib.AppendZeros
import Derived.Deep.RegionHeld3
namespace Go.Proofs.YtmkahbbcagfbhaaGreatDoor
open Go.ChangeShapes Go.WideShapes Go.ChangeAt Go.RowKit
set_option linter.unusedVariables false

/-- a term in memory, read elsewhere -/
theorem RdF.moveQ {ok ok' : Nat → Prop} {w w' : World} (hk : ∀ b, ok b → b < w.heap.size → ok' b ∧ w'.heap[b]? = w.heap[b]?) : ∀ (t : T) (v : Value), RdF ok w t v → RdF ok' w' t v := by
  refine T.ind fun k h xs ih v hv => ?_
  obtain ⟨A, n, c, rfl, h1, h2, h3, h4, h5, h6⟩ := RdF_node.1 hv
  refine RdF_node.2 ⟨A, n, c, rfl, h1, h2, h3, h4, h5, fun i t ht => ?_⟩
  obtain ⟨b, o, v0, v1, v2, rfl, hb, c0, c1, c2, hr⟩ := h6 i t ht
  have e : ∀ j, w'.cell? ⟨b, j, none⟩ = w.cell? ⟨b, j, none⟩ := fun j => World.cell?_of_block (w := w) (hk b hb (cell_lt c0)).2
  exact ⟨b, o, v0, v1, v2, rfl, (hk b hb (cell_lt c0)).1, (e _).trans c0, (e _).trans c1, (e _).trans c2, ih t (List.mem_of_getElem? ht) _ hr⟩
theorem RdFAt.moveQ {ok ok' : Nat → Prop} {w w' : World} (hk : ∀ b, ok b → b < w.heap.size → ok' b ∧ w'.heap[b]? = w.heap[b]?) {A : Option Addr} {j : Nat} {t : T} (h : RdFAt ok w A j t) : RdFAt ok' w' A j t := by
  obtain ⟨b, o, v0, v1, v2, rfl, hb, c0, c1, c2, hr⟩ := h
  have e : ∀ j, w'.cell? ⟨b, j, none⟩ = w.cell? ⟨b, j, none⟩ := fun j => World.cell?_of_block (w := w) (hk b hb (cell_lt c0)).2
  exact ⟨b, o, v0, v1, v2, rfl, (hk b hb (cell_lt c0)).1, (e _).trans c0, (e _).trans c1, (e _).trans c2, RdF.moveQ hk t _ hr⟩
theorem RdFAt.fullQ {ok : Nat → Prop} {w : World} {A : Option Addr} {j : Nat} {t : T} (h : RdFAt ok w A j t) :
    ∃ b o k h A' n c, A = some ⟨b, o, none⟩ ∧ w.cell? ⟨b, o + j * 3, none⟩ = some (.int .i64 k) ∧ w.cell? ⟨b, o + j * 3 + 1, none⟩ = some (.int .i64 h) ∧
      w.cell? ⟨b, o + j * 3 + 2, none⟩ = some (.slice A' n c) ∧ RdF ok w t (.agg #[.int .i64 k, .int .i64 h, .slice A' n c]) := by
  obtain ⟨b, o, v0, v1, v2, rfl, _, c0, c1, c2, hr⟩ := h
  obtain ⟨k, h, xs⟩ := t
  have hr' := hr
  obtain ⟨A', n, c, e, _⟩ := RdF_node.1 hr
  have e' : v0 = .int .i64 k ∧ v1 = .int .i64 h ∧ v2 = .slice A' n c := by simpa using e
  obtain ⟨rfl, rfl, rfl⟩ := e'
  exact ⟨b, o, k, h, A', n, c, rfl, c0, c1, c2, hr'⟩
theorem rdFAt_rdQ {ok : Nat → Prop} {w : World} {A : Option Addr} {j : Nat} {t : T} (h : RdFAt ok w A j t) : RdAt w A j t := by
  obtain ⟨b, o, v0, v1, v2, rfl, _, c0, c1, c2, hr⟩ := h
  exact ⟨b, o, v0, v1, v2, rfl, c0, c1, c2, RdF.rd _ _ hr⟩


theorem Box.other3Q {w : World} {b : Nat} {ty : TypeId} {cs : Array Value} (h : Box w b ty cs) {a : Nat} (hne : b ≠ a) (u0 u1 u2 : Value) : Box (((w.setCell ⟨a, 0, none⟩ u0).setCell ⟨a, 1, none⟩ u1).setCell ⟨a, 2, none⟩ u2) b ty cs :=
  ((h.other (a := ⟨a, 0, none⟩) hne u0).other (a := ⟨a, 1, none⟩) hne u1).other (a := ⟨a, 2, none⟩) hne u2
theorem heap_other3Q (w : World) (a : Nat) (u0 u1 u2 : Value) (g : Nat) (hne : g ≠ a) : (((w.setCell ⟨a, 0, none⟩ u0).setCell ⟨a, 1, none⟩ u1).setCell ⟨a, 2, none⟩ u2).heap[g]? = w.heap[g]? := by
  rw [Below.heap_setCell _ _ _ _ hne, Below.heap_setCell _ _ _ _ hne, Below.heap_setCell _ _ _ _ hne]
theorem below_set3Q {B : Nat} {w w' : World} (h : Below B w w') {a : Nat} (hl : B ≤ a) (u0 u1 u2 : Value) : Below B w (((w'.setCell ⟨a, 0, none⟩ u0).setCell ⟨a, 1, none⟩ u1).setCell ⟨a, 2, none⟩ u2) :=
  ((h.setCell (by exact hl) u0).setCell (by exact hl) u1).setCell (by exact hl) u2


/-- cells that are terms, three by three -/
def KidQ (w : World) (ok : Nat → Prop) (cs : List Value) (ys : List T) : Prop :=
  ∀ i t, ys[i]? = some t → ∃ k h A n c, cs[i * 3]? = some (.int .i64 k) ∧ cs[i * 3 + 1]? = some (.int .i64 h) ∧ cs[i * 3 + 2]? = some (.slice A n c) ∧ RdF ok w t (.agg #[.int .i64 k, .int .i64 h, .slice A n c])
theorem KidQ.move {w w' : World} {ok ok' : Nat → Prop} {cs : List Value} {ys : List T} (hk : KidQ w ok cs ys) (hok : ∀ b, ok b → ok' b) (hm : ∀ b, ok b → b < w.heap.size → w'.heap[b]? = w.heap[b]?) : KidQ w' ok' cs ys := fun i t ht => by
  obtain ⟨k', h', A', n', c', e0, e1, e2, hr⟩ := hk i t ht
  exact ⟨k', h', A', n', c', e0, e1, e2, RdF.move hok hm _ _ hr⟩
theorem KidQ.snoc {w : World} {ok : Nat → Prop} {cs : List Value} {ys : List T} {t : T} {k h : Int} {A : Option Addr} {n c : Nat} (hk : KidQ w ok cs ys) (hl : cs.length = ys.length * 3)
    (hr : RdF ok w t (.agg #[.int .i64 k, .int .i64 h, .slice A n c])) : KidQ w ok (cs ++ [.int .i64 k, .int .i64 h, .slice A n c]) (ys ++ [t]) := fun i u hu => by
  rcases Nat.lt_or_ge i ys.length with hi | hi
  · rw [List.getElem?_append_left hi] at hu
    obtain ⟨k', h', A', n', c', e0, e1, e2, hr'⟩ := hk i u hu
    refine ⟨k', h', A', n', c', ?_, ?_, ?_, hr'⟩
    · rw [List.getElem?_append_left (by omega)]; exact e0
    · rw [List.getElem?_append_left (by omega)]; exact e1
    · rw [List.getElem?_append_left (by omega)]; exact e2
  · rw [List.getElem?_append_right hi] at hu
    have hi' : i = ys.length := by
      rcases Nat.eq_or_lt_of_le hi with h | h
      · exact h.symm
      · rw [List.getElem?_eq_none (by simp; omega)] at hu; cases hu
    subst hi'
    rw [Nat.sub_self] at hu
    simp only [List.getElem?_cons_zero, Option.some.injEq] at hu
    subst hu
    refine ⟨k, h, A, n, c, ?_, ?_, ?_, hr⟩
    · rw [List.getElem?_append_right (by omega), hl, Nat.sub_self]; rfl
    · rw [List.getElem?_append_right (by omega), hl, show ys.length * 3 + 1 - ys.length * 3 = 1 by omega]; rfl
    · rw [List.getElem?_append_right (by omega), hl, show ys.length * 3 + 2 - ys.length * 3 = 2 by omega]; rfl


theorem own_noneQ (v : Value) : v.ownBlock = none ∨ v.ownBlock ≠ none := by
  cases v.ownBlock <;> simp
theorem grown_setQ (w : World) (a : Addr) (v : Value) : w.grownBy (w.setCell a v) (some a.block) :=
  ⟨rfl, rfl, rfl, by simp, fun g _ hne => Below.heap_setCell _ _ _ _ (fun e => hne (by rw [e]))⟩


theorem below_grownQ {B : Nat} {w a b : World} {row : Option Nat} (h : Below B w a) (hg : a.grownBy b row) (hr : ∀ r, row = some r → B ≤ r) (hB : B ≤ a.heap.size) : Below B w b :=
  h.trans ⟨hg.os, hg.tape, hg.output, hg.size, fun k hk => hg.block k (by omega) (fun e => by have := hr k e.symm; omega)⟩

/-! ### A row that grows -/
structure GRowQ (X : Nat → Prop) (w : World) (base : Nat) (v : Value) (n : Nat) (cs : List Value) (ys : List T) : Prop where
  own : w.ownsRow base 36 3 v n cs
  len : ys.length = n
  kids : KidQ w (fun b => ¬ X b ∧ some b ≠ v.ownBlock) cs ys
theorem GRowQ.nil (X : Nat → Prop) (w : World) (base : Nat) : GRowQ X w base (.slice none 0 0) 0 [] [] :=
  ⟨World.ownsRow_nil _ _ _ _, rfl, fun i t ht => by simp at ht⟩
theorem GRowQ.full {X : Nat → Prop} {w : World} {base : Nat} {v : Value} {n : Nat} {cs : List Value} {ys : List T} (h : GRowQ X w base v n cs ys) : ∃ A c, v = .slice A n c ∧ n ≤ c ∧ c ≤ maxLen := by
  rcases h.own.2 with ⟨rfl, rfl⟩ | ⟨g, cap, cur, rfl, _, _, h1, h2, _⟩
  · exact ⟨none, 0, rfl, Nat.le_refl _, Nat.zero_le _⟩
  · exact ⟨_, _, rfl, h1, h2⟩
theorem GRowQ.lt {X : Nat → Prop} {w : World} {base : Nat} {v : Value} {n : Nat} {cs : List Value} {ys : List T} (h : GRowQ X w base v n cs ys) {g : Nat} (hg : v.ownBlock = some g) : base ≤ g ∧ g < w.heap.size := h.own.lt g hg
theorem KidQ.moveX {w w' : World} {ok ok' : Nat → Prop} {cs : List Value} {ys : List T} (hk : KidQ w ok cs ys) (hm : ∀ b, ok b → b < w.heap.size → ok' b ∧ w'.heap[b]? = w.heap[b]?) : KidQ w' ok' cs ys := fun i t ht => by
  obtain ⟨k, h, A, n, c, e0, e1, e2, hr⟩ := hk i t ht
  exact ⟨k, h, A, n, c, e0, e1, e2, RdF.moveQ hm _ _ hr⟩

/-- where nothing of it is written -/
theorem GRowQ.move {X : Nat → Prop} {w w' : World} {base : Nat} {v : Value} {n : Nat} {cs : List Value} {ys : List T} (h : GRowQ X w base v n cs ys) (hm : ∀ b, b < w.heap.size → ¬ X b → w'.heap[b]? = w.heap[b]?) (hX : ∀ g, v.ownBlock = some g → ¬ X g) : GRowQ X w' base v n cs ys := by
  refine ⟨⟨h.own.1, ?_⟩, h.len, h.kids.moveX fun b hb hl => ⟨hb, hm b hl hb.1⟩⟩
  rcases h.own.2 with h1 | ⟨g, cap, cur, rfl, hb, hg, h1⟩
  · exact .inl h1
  · have hlt := (h.own.lt g rfl).2
    exact .inr ⟨g, cap, cur, rfl, hb, (hm g hlt (hX g rfl)).trans hg, h1⟩

/-- a row that has grown by one -/
theorem GRowQ.grow {X : Nat → Prop} {w1 w4 : World} {base : Nat} {v : Value} {n m cap g : Nat} {cs : List Value} {ys : List T} {t : T} {k h : Int} {A : Option Addr} {c : Nat} (hg : GRowQ X w1 base v n cs ys) (hr : RdF (fun b => ¬ X b ∧ some b ≠ v.ownBlock) w1 t (.agg #[.int .i64 k, .int .i64 h, .slice A m c]))
    (how : w4.ownsRow base 36 3 (.slice (some ⟨g, 0, none⟩) (n + 1) cap) (n + 1) (cs ++ [.int .i64 k, .int .i64 h, .slice A m c]))
    (hgr : (w1.alloc (.cells #[.int .i64 k, .int .i64 h, .slice A m c] 36)).grownBy w4 v.ownBlock) (h4 : v.ownBlock = some g ∨ g = w1.heap.size + 1) :
    GRowQ X w4 base (.slice (some ⟨g, 0, none⟩) (n + 1) cap) (n + 1) (cs ++ [.int .i64 k, .int .i64 h, .slice A m c]) (ys ++ [t]) := by
  have hgo : ∀ q, q < w1.heap.size → some q ≠ v.ownBlock → w4.heap[q]? = w1.heap[q]? := fun q hq hne => (hgr.block q (by simp; omega) hne).trans (Below.heap_alloc _ _ _ hq)
  have hne : ∀ q, q < w1.heap.size → some q ≠ v.ownBlock → q ≠ g := fun q hq hv e => by
    rcases h4 with h4 | h4
    · rw [h4, e] at hv; exact hv rfl
    · omega
  have hm : ∀ b, (¬ X b ∧ some b ≠ v.ownBlock) → b < w1.heap.size → (¬ X b ∧ some b ≠ Value.ownBlock (.slice (some ⟨g, 0, none⟩) (n + 1) cap)) ∧ w4.heap[b]? = w1.heap[b]? := fun b hb hl =>
    ⟨⟨hb.1, fun e => hne b hl hb.2 (by simpa [Value.ownBlock] using e)⟩, hgo b hl hb.2⟩
  exact ⟨how, by rw [List.length_append, hg.len]; rfl, KidQ.snoc (hg.kids.moveX hm) (by rw [hg.own.1, hg.len]) (RdF.moveQ hm _ _ hr)⟩
/-- one term is appended -/
theorem GRowQ.push {X : Nat → Prop} {w1 : World} {base : Nat} {v : Value} {n m : Nat} {cs : List Value} {ys : List T} {t : T} {k h : Int} {A : Option Addr} {c : Nat} (hg : GRowQ X w1 base v n cs ys) (hr : RdF (fun b => ¬ X b ∧ some b ≠ v.ownBlock) w1 t (.agg #[.int .i64 k, .int .i64 h, .slice A m c]))
    (hbase : base ≤ w1.heap.size) (hn : n + 1 ≤ 3518437208780) :
    ∃ g cap w4, (Builtin.append_ #[34, 34] 34 #[v, .slice (some ⟨w1.heap.size, 0, none⟩) 1 1]).run Tryz.prog (w1.alloc (.cells #[.int .i64 k, .int .i64 h, .slice A m c] 36)) = .ok (.slice (some ⟨g, 0, none⟩) (n + 1) cap) w4 ∧
      GRowQ X w4 base (.slice (some ⟨g, 0, none⟩) (n + 1) cap) (n + 1) (cs ++ [.int .i64 k, .int .i64 h, .slice A m c]) (ys ++ [t]) ∧ (∀ q, q < w1.heap.size → some q ≠ v.ownBlock → w4.heap[q]? = w1.heap[q]?) ∧ Below base w1 w4 := by
  obtain ⟨i0, hi, hz0, hz1, hz2⟩ := info_parts infoTerm
  have hbA : Below w1.heap.size w1 (w1.alloc (.cells #[.int .i64 k, .int .i64 h, .slice A m c] 36)) := (Below.refl _ _).alloc (Nat.le_refl _) _
  obtain ⟨g, cap, w4, hrun, how4, hgr, hg4, _⟩ := run_append_lies (P := Tryz.prog) (w1.alloc (.cells #[.int .i64 k, .int .i64 h, .slice A m c] 36)) 34 34 base 36 i0 _ 3 40 Tryz.underlying34 hi hz0 hz1 hz2 rfl (by omega) v n cs
    (hg.own.kept (grown_of_below hbA) (own_noneQ _)) ⟨w1.heap.size, 0, none⟩ 1 1 [.int .i64 k, .int .i64 h, .slice A m c] rfl (World.news_of_block (heap_alloc_new w1 _)) (by intro u hu; simp at hu; rcases hu with rfl | rfl | rfl <;> rfl) (by omega) (by unfold maxLen; omega) (by omega) (by simp; omega) _ rfl
  exact ⟨g, cap, w4, hrun, hg.grow hr how4 hgr (by rcases hg4 with h | h; exact .inl h; exact .inr (by simpa using h)), fun q hq hne => (hgr.block q (by simp; omega) hne).trans (Below.heap_alloc _ _ _ hq),
    below_grownQ (hbA.mono hbase) hgr (fun r hr => (hg.lt hr).1) (by simp; omega)⟩


/-- the terms of a row -/
theorem GRowQ.rdat {X : Nat → Prop} {w : World} {base n c : Nat} {A : Option Addr} {cs : List Value} {ys : List T} (h : GRowQ X w base (.slice A n c) n cs ys) : ∀ i t, ys[i]? = some t → RdAt w A i t := fun i t ht => by
  obtain ⟨k', h', A', n', c', e0, e1, e2, hr⟩ := h.kids i t ht
  have hi := (List.getElem?_eq_some_iff.1 ht).1
  rcases h.own.2 with ⟨e, h0⟩ | ⟨g, cap, cur, e, _, _, h1, h2, _⟩
  · have := h.len; omega
  · injection e with ea _ _
    subst ea
    have hc := fun j u (hu : cs[j]? = some u) => h.own.cells (g := g) rfl j u hu
    have c0 := hc _ _ e0
    have c1 := hc _ _ e1
    have c2 := hc _ _ e2
    rw [addr_add] at c0 c1 c2
    exact ⟨g, 0, _, _, _, rfl, c0, c1, c2, RdF.rd _ _ hr⟩
theorem rdF_anyQ {w : World} : ∀ (t : T) (v : Value), Rd w t v → RdF (fun b => b < w.heap.size) w t v := by
  refine T.ind fun k h xs ih v hv => ?_
  obtain ⟨A, n, c, rfl, h1, h2, h3, h4, h5, h6⟩ := Rd_node.1 hv
  refine RdF_node.2 ⟨A, n, c, rfl, h1, h2, h3, h4, h5, fun i t ht => ?_⟩
  obtain ⟨b, o, v0, v1, v2, rfl, c0, c1, c2, hr⟩ := h6 i t ht
  exact ⟨b, o, v0, v1, v2, rfl, cell_lt c0, c0, c1, c2, ih t (List.mem_of_getElem? ht) _ hr⟩
end Go.Proofs.YtmkahbbcagfbhaaGreatDoor
