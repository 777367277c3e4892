/-
  A row of terms that grows by append, beside blocks that are written. No statement is proved here.
-/
import Derived.Test.YtnnmnkgogiabiaaGreatRq
import Derived.Test.YtnnmnkgogiabiaaGreatWd
namespace Go.Proofs.YtnnmnkgogiabiaaGreat
open Go.ChangeShapes Go.WideShapes Go.ChangeAt Go.RowKit
set_option linter.unusedVariables false

/-! ### A row that grows -/
structure GRow (X : Nat → Prop) (w : World) (base : Nat) (v : Value) (n : Nat) (cs : List Value) (ys : List T) : Prop where
  own : w.ownsRow base 24 3 v n cs
  len : ys.length = n
  kids : KidL w (fun b => ¬ X b ∧ some b ≠ v.ownBlock) cs ys
theorem GRow.nil (X : Nat → Prop) (w : World) (base : Nat) : GRow X w base (.slice none 0 0) 0 [] [] :=
  ⟨World.ownsRow_nil _ _ _ _, rfl, fun i t ht => by simp at ht⟩
theorem GRow.full {X : Nat → Prop} {w : World} {base : Nat} {v : Value} {n : Nat} {cs : List Value} {ys : List T} (h : GRow X w base v n cs ys) : ∃ A c, v = .slice A n c ∧ n ≤ c ∧ c ≤ maxLen := by
  rcases h.own.2 with ⟨rfl, rfl⟩ | ⟨g, cap, cur, rfl, _, _, h1, h2, _⟩
  · exact ⟨none, 0, rfl, Nat.le_refl _, Nat.zero_le _⟩
  · exact ⟨_, _, rfl, h1, h2⟩
theorem GRow.lt {X : Nat → Prop} {w : World} {base : Nat} {v : Value} {n : Nat} {cs : List Value} {ys : List T} (h : GRow X w base v n cs ys) {g : Nat} (hg : v.ownBlock = some g) : base ≤ g ∧ g < w.heap.size := h.own.lt g hg
theorem KidL.moveX {w w' : World} {ok ok' : Nat → Prop} {cs : List Value} {ys : List T} (hk : KidL w ok cs ys) (hm : ∀ b, ok b → b < w.heap.size → ok' b ∧ w'.heap[b]? = w.heap[b]?) : KidL w' ok' cs ys := fun i t ht => by
  obtain ⟨k, h, A, n, c, e0, e1, e2, hr⟩ := hk i t ht
  exact ⟨k, h, A, n, c, e0, e1, e2, RdF.moveX hm _ _ hr⟩
/-- where nothing of it is written -/
theorem GRow.move {X : Nat → Prop} {w w' : World} {base : Nat} {v : Value} {n : Nat} {cs : List Value} {ys : List T} (h : GRow X w base v n cs ys) (hm : ∀ b, b < w.heap.size → ¬ X b → w'.heap[b]? = w.heap[b]?) (hX : ∀ g, v.ownBlock = some g → ¬ X g) : GRow X w' base v n cs ys := by
  refine ⟨⟨h.own.1, ?_⟩, h.len, h.kids.moveX fun b hb hl => ⟨hb, hm b hl hb.1⟩⟩
  rcases h.own.2 with h1 | ⟨g, cap, cur, rfl, hb, hg, h1⟩
  · exact .inl h1
  · have hlt := (h.own.lt g rfl).2
    exact .inr ⟨g, cap, cur, rfl, hb, (hm g hlt (hX g rfl)).trans hg, h1⟩
theorem GRow.rxl {X : Nat → Prop} {w : World} {base n c : Nat} {A : Option Addr} {cs : List Value} {ys : List T} (h : GRow X w base (.slice A n c) n cs ys) (hX : ∀ b, X b → b < base) : RXL X w ys A n c := by
  have h := rdF_row (k := 0) (h := 0) (ok' := fun b => ¬ X b) h.own h.kids h.len (fun _ h => h.1) (fun g hg e => by have := (h.own.lt g hg).1; have := hX g e; omega) (by decide) (by decide)
  obtain ⟨A', n', c', e, _, _, h3, h4, h5, h6⟩ := RdF_node.1 h
  simp only [Value.agg.injEq] at e
  have e' : A = A' ∧ n = n' ∧ c = c' := by simpa using e
  obtain ⟨rfl, rfl, rfl⟩ := e'
  exact ⟨h3, h4, h5, h6⟩
theorem run_append_none (ty : TypeId) (c' : Nat) (A : Option Addr) (w : World) : (Builtin.append_ #[22, 22] ty #[.slice none 0 0, .slice A 0 c']).run Tryz.prog w = .ok (.slice none 0 0) w := by
  obtain ⟨i0, hi, hz0, hz1, hz2⟩ := info_parts infoTerm
  cases A <;> simp [Builtin.append_, run_underlying Tryz.underlying22, sizeOf, typeInfo, hi, Builtin.lenOf, Builtin.firstCells, loadCells, loadCellsFrom]
/-- terms are appended -/
theorem GRow.app {X : Nat → Prop} {w : World} {base : Nat} {v : Value} {n m c : Nat} {cs : List Value} {ys zs : List T} {A : Option Addr} (h : GRow X w base v n cs ys) (hz : RXL (fun b => X b ∨ some b = v.ownBlock) w zs A m c) (hX : ∀ b, X b → b < base) (hbase : base ≤ w.heap.size) (hs : n + m ≤ 3518437208780) (ty : TypeId) :
    ∃ A' c' w' news, (Builtin.append_ #[22, 22] ty #[v, .slice A m c]).run Tryz.prog w = .ok (.slice A' (n + m) c') w' ∧ GRow X w' base (.slice A' (n + m) c') (n + m) (cs ++ news) (ys ++ zs) ∧ Below base w w' := by
  obtain ⟨news, l1, k1, o1, e1⟩ := hz.cells
  rcases Nat.eq_zero_or_pos m with rfl | hm
  · have hn : news = [] := List.length_eq_zero_iff.1 (by simpa using l1)
    have hzz : zs = [] := List.length_eq_zero_iff.1 hz.len
    subst hn hzz
    rcases h.own.2 with ⟨rfl, rfl⟩ | ⟨g, cap, cur, rfl, _, _, h1, _⟩
    · exact ⟨none, 0, w, [], run_append_none ty c A w, by simpa using h, Below.refl _ _⟩
    · exact ⟨_, _, w, [], run_append_empty ty g cap A c n h1 w, by simpa using h, Below.refl _ _⟩
  · obtain ⟨t, ht⟩ := at_of hz.len hm
    obtain ⟨b, o, _, _, _, rfl, _⟩ := hz.at_ 0 t ht
    obtain ⟨i0, hi, hz0, hz1, hz2⟩ := info_parts infoTerm
    obtain ⟨g', cap', w', hrun, how', hgr, hg4, _⟩ := run_append_lies (P := Tryz.prog) w 22 ty base 24 i0 _ 3 40 Tryz.underlying22 hi hz0 hz1 hz2 rfl (by omega) v n cs h.own ⟨b, o, none⟩ m c news l1
      (fun j u hu => e1 _ rfl j u hu) o1 hm (by unfold maxLen; omega) (by omega) hbase _ rfl
    have hne : ∀ q, q < w.heap.size → some q ≠ v.ownBlock → q ≠ g' := fun q hq hv e => by
      rcases hg4 with h4 | h4
      · rw [h4, e] at hv; exact hv rfl
      · omega
    refine ⟨some ⟨g', 0, none⟩, cap', w', news, hrun, ⟨how', by rw [List.length_append, h.len, hz.len], ?_⟩, below_grown (Below.refl _ _) hgr (fun r hr => (h.own.lt r hr).1) hbase⟩
    refine KidL.app (h.kids.moveX fun q hq hl => ⟨⟨hq.1, fun e => hne q hl hq.2 (by simpa [Value.ownBlock] using e)⟩, hgr.block q hl hq.2⟩) (by rw [h.own.1, h.len]) (k1.moveX fun q hq hl => ?_)
    have hq1 : some q ≠ v.ownBlock := fun e => hq (.inr e)
    exact ⟨⟨fun e => hq (.inl e), fun e => hne q hl hq1 (by simpa [Value.ownBlock] using e)⟩, hgr.block q hl hq1⟩
/-- a row that has grown by one -/
theorem GRow.grow {X : Nat → Prop} {w1 w4 : World} {base : Nat} {v : Value} {n m cap g : Nat} {cs : List Value} {ys : List T} {t : T} {k h : Int} {A : Option Addr} {c : Nat} (hg : GRow X w1 base v n cs ys) (hr : RdF (fun b => ¬ X b ∧ some b ≠ v.ownBlock) w1 t (.agg #[.int .i64 k, .int .i64 h, .slice A m c]))
    (how : w4.ownsRow base 24 3 (.slice (some ⟨g, 0, none⟩) (n + 1) cap) (n + 1) (cs ++ [.int .i64 k, .int .i64 h, .slice A m c]))
    (hgr : (w1.alloc (.cells #[.int .i64 k, .int .i64 h, .slice A m c] 24)).grownBy w4 v.ownBlock) (h4 : v.ownBlock = some g ∨ g = w1.heap.size + 1) :
    GRow X w4 base (.slice (some ⟨g, 0, none⟩) (n + 1) cap) (n + 1) (cs ++ [.int .i64 k, .int .i64 h, .slice A m c]) (ys ++ [t]) := by
  have hgo : ∀ q, q < w1.heap.size → some q ≠ v.ownBlock → w4.heap[q]? = w1.heap[q]? := fun q hq hne => (hgr.block q (by simp; omega) hne).trans (Below.heap_alloc _ _ _ hq)
  have hne : ∀ q, q < w1.heap.size → some q ≠ v.ownBlock → q ≠ g := fun q hq hv e => by
    rcases h4 with h4 | h4
    · rw [h4, e] at hv; exact hv rfl
    · omega
  have hm : ∀ b, (¬ X b ∧ some b ≠ v.ownBlock) → b < w1.heap.size → (¬ X b ∧ some b ≠ Value.ownBlock (.slice (some ⟨g, 0, none⟩) (n + 1) cap)) ∧ w4.heap[b]? = w1.heap[b]? := fun b hb hl =>
    ⟨⟨hb.1, fun e => hne b hl hb.2 (by simpa [Value.ownBlock] using e)⟩, hgo b hl hb.2⟩
  exact ⟨how, by rw [List.length_append, hg.len]; rfl, KidL.snoc (hg.kids.moveX hm) (by rw [hg.own.1, hg.len]) (RdF.moveX hm _ _ hr)⟩
/-- one term is appended -/
theorem GRow.push {X : Nat → Prop} {w1 : World} {base : Nat} {v : Value} {n m : Nat} {cs : List Value} {ys : List T} {t : T} {k h : Int} {A : Option Addr} {c : Nat} (hg : GRow X w1 base v n cs ys) (hr : RdF (fun b => ¬ X b ∧ some b ≠ v.ownBlock) w1 t (.agg #[.int .i64 k, .int .i64 h, .slice A m c]))
    (hbase : base ≤ w1.heap.size) (hn : n + 1 ≤ 3518437208780) :
    ∃ g cap w4, (Builtin.append_ #[22, 22] 22 #[v, .slice (some ⟨w1.heap.size, 0, none⟩) 1 1]).run Tryz.prog (w1.alloc (.cells #[.int .i64 k, .int .i64 h, .slice A m c] 24)) = .ok (.slice (some ⟨g, 0, none⟩) (n + 1) cap) w4 ∧
      GRow X w4 base (.slice (some ⟨g, 0, none⟩) (n + 1) cap) (n + 1) (cs ++ [.int .i64 k, .int .i64 h, .slice A m c]) (ys ++ [t]) ∧ (∀ q, q < w1.heap.size → some q ≠ v.ownBlock → w4.heap[q]? = w1.heap[q]?) ∧ Below base w1 w4 := by
  obtain ⟨i0, hi, hz0, hz1, hz2⟩ := info_parts infoTerm
  have hbA : Below w1.heap.size w1 (w1.alloc (.cells #[.int .i64 k, .int .i64 h, .slice A m c] 24)) := (Below.refl _ _).alloc (Nat.le_refl _) _
  obtain ⟨g, cap, w4, hrun, how4, hgr, hg4, _⟩ := run_append_lies (P := Tryz.prog) (w1.alloc (.cells #[.int .i64 k, .int .i64 h, .slice A m c] 24)) 22 22 base 24 i0 _ 3 40 Tryz.underlying22 hi hz0 hz1 hz2 rfl (by omega) v n cs
    (hg.own.kept (grown_of_below hbA) (own_none _)) ⟨w1.heap.size, 0, none⟩ 1 1 [.int .i64 k, .int .i64 h, .slice A m c] rfl (World.news_of_block (heap_alloc_new w1 _)) (by intro u hu; simp at hu; rcases hu with rfl | rfl | rfl <;> rfl) (by omega) (by unfold maxLen; omega) (by omega) (by simp; omega) _ rfl
  exact ⟨g, cap, w4, hrun, hg.grow hr how4 hgr (by rcases hg4 with h | h; exact .inl h; exact .inr (by simpa using h)), fun q hq hne => (hgr.block q (by simp; omega) hne).trans (Below.heap_alloc _ _ _ hq),
    below_grown (hbA.mono hbase) hgr (fun r hr => (hg.lt hr).1) (by simp; omega)⟩

end Go.Proofs.YtnnmnkgogiabiaaGreat
