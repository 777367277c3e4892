/-
  Texts of one proof, put together. No statement is proved here.
-/
import Derived.Test.YtloeainlpcnhnaaGreatRq
import Derived.Test.YtloeainlpcnhnaaGreatWd
import Derived.Test.YtloeainlpcnhnaaGreatPd
import Derived.Test.YtloeainlpcnhnaaGreatOl
import Derived.Test.YtloeainlpcnhnaaGreatSn
import Derived.Test.YtloeainlpcnhnaaGreatWk
/-
  A row of terms that grows by append, beside blocks that are written. No statement is proved here.
-/
namespace Go.Proofs.YtloeainlpcnhnaaGreat
open Go.ChangeShapes Go.WideShapes Go.ChangeAt Go.RowKit
set_option linter.unusedVariables false
/-! ### A row that grows -/
structure GRow (X : Nat → Prop) (w : World) (base : Nat) (v : Value) (n : Nat) (cs : List Value) (ys : List T) : Prop where
  own : w.ownsRow base 44 3 v n cs
  len : ys.length = n
  kids : KidL w (fun b => ¬ X b ∧ some b ≠ v.ownBlock) cs ys
theorem GRow.nil (X : Nat → Prop) (w : World) (base : Nat) : GRow X w base (.slice none 0 0) 0 [] [] :=
  ⟨World.ownsRow_nil _ _ _ _, rfl, fun i t ht => by simp at ht⟩
theorem GRow.full {X : Nat → Prop} {w : World} {base : Nat} {v : Value} {n : Nat} {cs : List Value} {ys : List T} (h : GRow X w base v n cs ys) : ∃ A c, v = .slice A n c ∧ n ≤ c ∧ c ≤ maxLen := by
  rcases h.own.2 with ⟨rfl, rfl⟩ | ⟨g, cap, cur, rfl, _, _, h1, h2, _⟩
  · exact ⟨none, 0, rfl, Nat.le_refl _, Nat.zero_le _⟩
  · exact ⟨_, _, rfl, h1, h2⟩
theorem GRow.lt {X : Nat → Prop} {w : World} {base : Nat} {v : Value} {n : Nat} {cs : List Value} {ys : List T} (h : GRow X w base v n cs ys) {g : Nat} (hg : v.ownBlock = some g) : base ≤ g ∧ g < w.heap.size := h.own.lt g hg
theorem KidL.moveX {w w' : World} {ok ok' : Nat → Prop} {cs : List Value} {ys : List T} (hk : KidL w ok cs ys) (hm : ∀ b, ok b → b < w.heap.size → ok' b ∧ w'.heap[b]? = w.heap[b]?) : KidL w' ok' cs ys := fun i t ht => by
  obtain ⟨k, h, A, n, c, e0, e1, e2, hr⟩ := hk i t ht
  exact ⟨k, h, A, n, c, e0, e1, e2, RdF.moveX hm _ _ hr⟩
/-- where nothing of it is written -/
theorem GRow.move {X : Nat → Prop} {w w' : World} {base : Nat} {v : Value} {n : Nat} {cs : List Value} {ys : List T} (h : GRow X w base v n cs ys) (hm : ∀ b, b < w.heap.size → ¬ X b → w'.heap[b]? = w.heap[b]?) (hX : ∀ g, v.ownBlock = some g → ¬ X g) : GRow X w' base v n cs ys := by
  refine ⟨⟨h.own.1, ?_⟩, h.len, h.kids.moveX fun b hb hl => ⟨hb, hm b hl hb.1⟩⟩
  rcases h.own.2 with h1 | ⟨g, cap, cur, rfl, hb, hg, h1⟩
  · exact .inl h1
  · have hlt := (h.own.lt g rfl).2
    exact .inr ⟨g, cap, cur, rfl, hb, (hm g hlt (hX g rfl)).trans hg, h1⟩
theorem GRow.rxl {X : Nat → Prop} {w : World} {base n c : Nat} {A : Option Addr} {cs : List Value} {ys : List T} (h : GRow X w base (.slice A n c) n cs ys) (hX : ∀ b, X b → b < base) : RXL X w ys A n c := by
  have h := rdF_row (k := 0) (h := 0) (ok' := fun b => ¬ X b) h.own h.kids h.len (fun _ h => h.1) (fun g hg e => by have := (h.own.lt g hg).1; have := hX g e; omega) (by decide) (by decide)
  obtain ⟨A', n', c', e, _, _, h3, h4, h5, h6⟩ := RdF_node.1 h
  simp only [Value.agg.injEq] at e
  have e' : A = A' ∧ n = n' ∧ c = c' := by simpa using e
  obtain ⟨rfl, rfl, rfl⟩ := e'
  exact ⟨h3, h4, h5, h6⟩
theorem run_append_none (ty : TypeId) (c' : Nat) (A : Option Addr) (w : World) : (Builtin.append_ #[24, 24] ty #[.slice none 0 0, .slice A 0 c']).run Tryz.prog w = .ok (.slice none 0 0) w := by
  obtain ⟨i0, hi, hz0, hz1, hz2⟩ := info_parts infoTerm
  cases A <;> simp [Builtin.append_, run_underlying Tryz.underlying24, sizeOf, typeInfo, hi, Builtin.lenOf, Builtin.firstCells, loadCells, loadCellsFrom]
/-- terms are appended -/
theorem GRow.app {X : Nat → Prop} {w : World} {base : Nat} {v : Value} {n m c : Nat} {cs : List Value} {ys zs : List T} {A : Option Addr} (h : GRow X w base v n cs ys) (hz : RXL (fun b => X b ∨ some b = v.ownBlock) w zs A m c) (hX : ∀ b, X b → b < base) (hbase : base ≤ w.heap.size) (hs : n + m ≤ 3518437208780) (ty : TypeId) :
    ∃ A' c' w' news, (Builtin.append_ #[24, 24] ty #[v, .slice A m c]).run Tryz.prog w = .ok (.slice A' (n + m) c') w' ∧ GRow X w' base (.slice A' (n + m) c') (n + m) (cs ++ news) (ys ++ zs) ∧ Below base w w' := by
  obtain ⟨news, l1, k1, o1, e1⟩ := hz.cells
  rcases Nat.eq_zero_or_pos m with rfl | hm
  · have hn : news = [] := List.length_eq_zero_iff.1 (by simpa using l1)
    have hzz : zs = [] := List.length_eq_zero_iff.1 hz.len
    subst hn hzz
    rcases h.own.2 with ⟨rfl, rfl⟩ | ⟨g, cap, cur, rfl, _, _, h1, _⟩
    · exact ⟨none, 0, w, [], run_append_none ty c A w, by simpa using h, Below.refl _ _⟩
    · exact ⟨_, _, w, [], run_append_empty ty g cap A c n h1 w, by simpa using h, Below.refl _ _⟩
  · obtain ⟨t, ht⟩ := at_of hz.len hm
    obtain ⟨b, o, _, _, _, rfl, _⟩ := hz.at_ 0 t ht
    obtain ⟨i0, hi, hz0, hz1, hz2⟩ := info_parts infoTerm
    obtain ⟨g', cap', w', hrun, how', hgr, hg4, _⟩ := run_append_lies (P := Tryz.prog) w 24 ty base 44 i0 _ 3 40 Tryz.underlying24 hi hz0 hz1 hz2 rfl (by omega) v n cs h.own ⟨b, o, none⟩ m c news l1
      (fun j u hu => e1 _ rfl j u hu) o1 hm (by unfold maxLen; omega) (by omega) hbase _ rfl
    have hne : ∀ q, q < w.heap.size → some q ≠ v.ownBlock → q ≠ g' := fun q hq hv e => by
      rcases hg4 with h4 | h4
      · rw [h4, e] at hv; exact hv rfl
      · omega
    refine ⟨some ⟨g', 0, none⟩, cap', w', news, hrun, ⟨how', by rw [List.length_append, h.len, hz.len], ?_⟩, below_grown (Below.refl _ _) hgr (fun r hr => (h.own.lt r hr).1) hbase⟩
    refine KidL.app (h.kids.moveX fun q hq hl => ⟨⟨hq.1, fun e => hne q hl hq.2 (by simpa [Value.ownBlock] using e)⟩, hgr.block q hl hq.2⟩) (by rw [h.own.1, h.len]) (k1.moveX fun q hq hl => ?_)
    have hq1 : some q ≠ v.ownBlock := fun e => hq (.inr e)
    exact ⟨⟨fun e => hq (.inl e), fun e => hne q hl hq1 (by simpa [Value.ownBlock] using e)⟩, hgr.block q hl hq1⟩
/-- a row that has grown by one -/
theorem GRow.grow {X : Nat → Prop} {w1 w4 : World} {base : Nat} {v : Value} {n m cap g : Nat} {cs : List Value} {ys : List T} {t : T} {k h : Int} {A : Option Addr} {c : Nat} (hg : GRow X w1 base v n cs ys) (hr : RdF (fun b => ¬ X b ∧ some b ≠ v.ownBlock) w1 t (.agg #[.int .i64 k, .int .i64 h, .slice A m c]))
    (how : w4.ownsRow base 44 3 (.slice (some ⟨g, 0, none⟩) (n + 1) cap) (n + 1) (cs ++ [.int .i64 k, .int .i64 h, .slice A m c]))
    (hgr : (w1.alloc (.cells #[.int .i64 k, .int .i64 h, .slice A m c] 44)).grownBy w4 v.ownBlock) (h4 : v.ownBlock = some g ∨ g = w1.heap.size + 1) :
    GRow X w4 base (.slice (some ⟨g, 0, none⟩) (n + 1) cap) (n + 1) (cs ++ [.int .i64 k, .int .i64 h, .slice A m c]) (ys ++ [t]) := by
  have hgo : ∀ q, q < w1.heap.size → some q ≠ v.ownBlock → w4.heap[q]? = w1.heap[q]? := fun q hq hne => (hgr.block q (by simp; omega) hne).trans (Below.heap_alloc _ _ _ hq)
  have hne : ∀ q, q < w1.heap.size → some q ≠ v.ownBlock → q ≠ g := fun q hq hv e => by
    rcases h4 with h4 | h4
    · rw [h4, e] at hv; exact hv rfl
    · omega
  have hm : ∀ b, (¬ X b ∧ some b ≠ v.ownBlock) → b < w1.heap.size → (¬ X b ∧ some b ≠ Value.ownBlock (.slice (some ⟨g, 0, none⟩) (n + 1) cap)) ∧ w4.heap[b]? = w1.heap[b]? := fun b hb hl =>
    ⟨⟨hb.1, fun e => hne b hl hb.2 (by simpa [Value.ownBlock] using e)⟩, hgo b hl hb.2⟩
  exact ⟨how, by rw [List.length_append, hg.len]; rfl, KidL.snoc (hg.kids.moveX hm) (by rw [hg.own.1, hg.len]) (RdF.moveX hm _ _ hr)⟩
/-- one term is appended -/
theorem GRow.push {X : Nat → Prop} {w1 : World} {base : Nat} {v : Value} {n m : Nat} {cs : List Value} {ys : List T} {t : T} {k h : Int} {A : Option Addr} {c : Nat} (hg : GRow X w1 base v n cs ys) (hr : RdF (fun b => ¬ X b ∧ some b ≠ v.ownBlock) w1 t (.agg #[.int .i64 k, .int .i64 h, .slice A m c]))
    (hbase : base ≤ w1.heap.size) (hn : n + 1 ≤ 3518437208780) :
    ∃ g cap w4, (Builtin.append_ #[24, 24] 24 #[v, .slice (some ⟨w1.heap.size, 0, none⟩) 1 1]).run Tryz.prog (w1.alloc (.cells #[.int .i64 k, .int .i64 h, .slice A m c] 44)) = .ok (.slice (some ⟨g, 0, none⟩) (n + 1) cap) w4 ∧
      GRow X w4 base (.slice (some ⟨g, 0, none⟩) (n + 1) cap) (n + 1) (cs ++ [.int .i64 k, .int .i64 h, .slice A m c]) (ys ++ [t]) ∧ (∀ q, q < w1.heap.size → some q ≠ v.ownBlock → w4.heap[q]? = w1.heap[q]?) ∧ Below base w1 w4 := by
  obtain ⟨i0, hi, hz0, hz1, hz2⟩ := info_parts infoTerm
  have hbA : Below w1.heap.size w1 (w1.alloc (.cells #[.int .i64 k, .int .i64 h, .slice A m c] 44)) := (Below.refl _ _).alloc (Nat.le_refl _) _
  obtain ⟨g, cap, w4, hrun, how4, hgr, hg4, _⟩ := run_append_lies (P := Tryz.prog) (w1.alloc (.cells #[.int .i64 k, .int .i64 h, .slice A m c] 44)) 24 24 base 44 i0 _ 3 40 Tryz.underlying24 hi hz0 hz1 hz2 rfl (by omega) v n cs
    (hg.own.kept (grown_of_below hbA) (own_none _)) ⟨w1.heap.size, 0, none⟩ 1 1 [.int .i64 k, .int .i64 h, .slice A m c] rfl (World.news_of_block (heap_alloc_new w1 _)) (by intro u hu; simp at hu; rcases hu with rfl | rfl | rfl <;> rfl) (by omega) (by unfold maxLen; omega) (by omega) (by simp; omega) _ rfl
  exact ⟨g, cap, w4, hrun, hg.grow hr how4 hgr (by rcases hg4 with h | h; exact .inl h; exact .inr (by simpa using h)), fun q hq hne => (hgr.block q (by simp; omega) hne).trans (Below.heap_alloc _ _ _ hq),
    below_grown (hbA.mono hbase) hgr (fun r hr => (hg.lt hr).1) (by simp; omega)⟩
end Go.Proofs.YtloeainlpcnhnaaGreat
/-
  What the laws SubstScopes and SubstUnder need of substitutions, as plain facts. No statement is proved here.
-/
namespace Go.Proofs.YtloeainlpcnhnaaGreat
open Go.ChangeShapes Go.WideShapes Go.ChangeAt Go.RowKit
set_option linter.unusedVariables false
end Go.Proofs.YtloeainlpcnhnaaGreat
/-
  What the law SubstUnder needs of substitutions, as plain facts. No statement is proved here.
-/
namespace Go.Proofs.YtloeainlpcnhnaaGreat
open Go.ChangeShapes Go.WideShapes Go.ChangeAt Go.RowKit
set_option linter.unusedVariables false
theorem getD_app_l {l1 l2 : List T} {i : Nat} (d : T) (h : i < l1.length) : (l1 ++ l2).getD i d = l1.getD i d := by
  rw [List.getD_eq_getElem?_getD, List.getD_eq_getElem?_getD, List.getElem?_append_left h]
theorem getD_map {l : List T} {i : Nat} (g : T → T) (d : T) (h : i < l.length) : (l.map g).getD i d = g (l.getD i d) := by
  rw [List.getD_eq_getElem?_getD, List.getD_eq_getElem?_getD, List.getElem?_map, List.getElem?_eq_getElem h]
  rfl
end Go.Proofs.YtloeainlpcnhnaaGreat
/-
  Contract of the document's own down.
-/
namespace Go.Proofs.YtloeainlpcnhnaaGreat
open Go.ChangeShapes Go.WideShapes Go.ChangeAt Go.RowKit
set_option linter.unusedVariables false
/-- what is told: a term in new memory and true, or noughts and false -/
def DOut (o : Option T) (ok : Nat → Prop) (w' : World) (v : Value) (bo : Bool) : Prop :=
  (∃ t, o = some t ∧ bo = true ∧ RdF ok w' t v) ∨ (o = none ∧ bo = false ∧ v = .agg #[.int .i64 0, .int .i64 0, .slice none 0 0])
theorem DOut.move {o : Option T} {ok ok' : Nat → Prop} {w w' : World} {v : Value} {bo : Bool} (h : DOut o ok w v bo) (hok : ∀ b, ok b → ok' b) (hm : ∀ b, ok b → b < w.heap.size → w'.heap[b]? = w.heap[b]?) : DOut o ok' w' v bo := by
  rcases h with ⟨t, h1, h2, h3⟩ | h
  · exact .inl ⟨t, h1, h2, RdF.move hok hm _ _ h3⟩
  · exact .inr h
def DEnd (o : Option T) (w : World) (e : Ending) (w' : World) : Prop :=
  ∃ k h A n c bo, e = .returned (.tuple #[.agg #[.int .i64 k, .int .i64 h, .slice A n c], .bool bo]) ∧ DOut o (fun g => w.heap.size ≤ g ∧ g < w'.heap.size) w' (.agg #[.int .i64 k, .int .i64 h, .slice A n c]) bo ∧ Below w.heap.size w w'
theorem Box.set3 {w : World} {p : Nat} {ty : TypeId} {x0 x1 x2 : Value} (h : Box w p ty #[x0, x1, x2]) (u0 u1 u2 : Value) : Box (((w.setCell ⟨p, 0, none⟩ u0).setCell ⟨p, 1, none⟩ u1).setCell ⟨p, 2, none⟩ u2) p ty #[u0, u1, u2] := by
  simpa using ((h.setAt 0 u0).setAt 1 u1).setAt 2 u2
end Go.Proofs.YtloeainlpcnhnaaGreat
/-
  Contracts of the document's own Up and Down, and that they tell what package shift's do.
-/
namespace Go.Proofs.YtloeainlpcnhnaaGreat
open Go.ChangeShapes Go.WideShapes Go.ChangeAt Go.RowKit
set_option linter.unusedVariables false
/-- what the document's Up and Down tell -/
def rupX (t : T) (b f : Int) : T := if (mvB b f && mayB t) = true then upW b t f else upW 0 t 0
/-! ### They are the same -/
mutual
theorem upW_eq {M b : Int} (hM : M ≤ 1125899906842624) (hb : 0 ≤ b ∧ b ≤ 1048576) : ∀ (t : T) (f : Int), okT M t → 0 ≤ f → f + nd t ≤ 1099511627776 → upW b t f = upT b t f
  | .node k h xs, f, ho, hf, hn => by
    rw [okT] at ho
    rw [nd] at hn
    rw [upW, upT, upWL_eq hM hb k _ xs 0 f ho.2 hf (by omega)]
    by_cases hc : k = 4 ∧ f ≤ h
    · have := ho.1 hc.1
      rw [if_pos hc, if_pos hc, wrap_small (by omega) (by omega)]
    · rw [if_neg hc, if_neg hc]
theorem upWL_eq {M b : Int} (hM : M ≤ 1125899906842624) (hb : 0 ≤ b ∧ b ≤ 1048576) (k : Int) (n : Nat) : ∀ (xs : List T) (i : Nat) (f : Int), okL M xs → 0 ≤ f → f + 1 + ndL xs ≤ 1099511627776 → upWL b k n xs i f = upL b k n xs i f
  | [], _, _, _, _, _ => by rw [upWL, upL]
  | t :: ts, i, f, ho, hf, hn => by
    rw [okL] at ho
    rw [ndL] at hn
    have hbd := bd_cases k n i
    rw [upWL, upL, wrap_small (by omega) (by omega), upW_eq hM hb t _ ho.1 (by omega) (by omega), upWL_eq hM hb k n ts (i + 1) f ho.2 hf (by omega)]
end
theorem list_same {g : Nat → T → T} : ∀ (xs : List T) (i : Nat) (F : List T → Nat → List T), (∀ t ts i, F (t :: ts) i = g i t :: F ts (i + 1)) → (∀ i, F [] i = []) → (∀ t ∈ xs, ∀ i, g i t = t) → F xs i = xs
  | [], i, F, _, h0, _ => h0 i
  | t :: ts, i, F, h1, h0, hg => by rw [h1, hg t (List.mem_cons_self ..), list_same ts (i + 1) F h1 h0 fun u hu => hg u (List.mem_cons_of_mem _ hu)]
/-- up by 0 is a copy -/
theorem upW_zero {w : World} (t : T) : ∀ (v : Value) (f : Int), Rd w t v → upW 0 t f = t := by
  induction t using T.ind with
  | step k h xs ih =>
    intro v f hv
    obtain ⟨A, n, c, rfl, hk, hh, hn, hc, hm, hx⟩ := Rd_node.1 hv
    have e : upWL 0 k xs.length xs 0 f = xs := by
      refine list_same (g := fun i t => upW 0 t (wrap64 (f + bd k xs.length i))) xs 0 (fun l i => upWL 0 k xs.length l i f) (fun t ts i => by rw [upWL]) (fun i => by rw [upWL]) fun t ht i => ?_
      obtain ⟨q, hq⟩ := List.getElem?_of_mem ht
      obtain ⟨b, o, v0, v1, v2, rfl, c0, c1, c2, hr⟩ := hx q t hq
      exact ih t ht _ _ hr
    rw [upW, e, Int.add_zero, wf_wrap hh]
    split <;> rfl
/-! ### The document's Up and Down -/
set_option maxRecDepth 100000 in
set_option maxHeartbeats 4000000 in
theorem refUpC (t : T) (b f : Int) (v : Value) (w : World) (hv : Rd w t v) (hs : nd t ≤ 1048576) : Calls Tryz.prog 121 #[v, .int .i64 b, .int .i64 f] w (FEnd (rupX t b f) w) := by
  obtain ⟨k, h, A, n, c, rfl⟩ := hv.full
  have HV := Lib.hid hv; clear hv
  obtain ⟨W, hW⟩ : ∃ W, (w.alloc (.cells #[.int .i64 k, .int .i64 h, .slice A n c] 44)).alloc (.cells #[.int .i64 0, .int .i64 0, .slice none 0 0] 44) = W := ⟨_, rfl⟩
  have hb : Below w.heap.size w W := by rw [← hW]; exact ((Below.refl _ _).alloc (Nat.le_refl _) _).alloc (by simp) _
  have xT : Box W w.heap.size 44 #[.int .i64 k, .int .i64 h, .slice A n c] := by rw [← hW]; exact (Box.new _ _ _).alloc _
  have xR : Box W (w.heap.size + 1) 44 #[.int .i64 0, .int .i64 0, .slice none 0 0] := by rw [← hW]; exact (Box.new (w.alloc _) _ _).at (by simp)
  have HWW := Lib.hid hW; clear hW
  have HU : Hid (rupX t b f = if (mvB b f && mayB t) = true then upW b t f else upW 0 t 0) := Lib.hid rfl
  go_enter Tryz.func121, Tryz.ntmps121
  go_wp2_with fail
  rw [HWW.out]
  clear HWW
  refine (refMay2 t b f _ _ (Rd.keep hb _ _ HV.out)).mono ?_
  generalize (mvB b f && mayB t) = M at *
  rintro e w1 ⟨rfl, hb1⟩
  replace xT := xT.keep hb1 xT.lt
  replace xR := xR.keep hb1 xR.lt
  replace hb := hb.trans (hb1.mono hb.size)
  clear hb1
  obtain ⟨c0, c1, c2⟩ := xT.three
  cases M
  · go_wp2_with fail
    refine (refUp t 0 0 _ _ (Rd.keep hb _ _ HV.out) hs).mono ?_
    rintro e w2 ⟨v2, rfl, hrf, hb2⟩
    obtain ⟨k3, h3, A3, n3, c3, rfl⟩ := hrf.full
    have lR := xR.lt
    have zR := xR.keep hb2 lR
    have sz := hb.size
    have HB := Lib.hid (hb.trans (hb2.mono hb.size))
    have HW := Lib.hid hrf; clear hrf hb2
    obtain ⟨r0, r1, r2⟩ := zR.three
    have f0 := zR.frozen 0
    have f1 := zR.frozen 1
    have f2 := zR.frozen 2
    go_wp2_with fail
    refine bodyPost_ret (v := .agg #[.int .i64 k3, .int .i64 h3, .slice A3 n3 c3]) (by simp [results, Tryz.results121, go_sem, r0, r1, r2]) rfl ?_
    refine ⟨_, rfl, ?_, below_set3 HB.out (by omega) _ _ _⟩
    rw [HU.out, if_neg (by simp)]
    exact RdF.move (fun g hg => ⟨by omega, by simpa using hg.2⟩) (fun g hg _ => heap_other3 _ _ _ _ _ _ (by omega)) _ _ HW.out
  · go_wp2_with fail
    refine (refUp t b f _ _ (Rd.keep hb _ _ HV.out) hs).mono ?_
    rintro e w2 ⟨v2, rfl, hrf, hb2⟩
    obtain ⟨k3, h3, A3, n3, c3, rfl⟩ := hrf.full
    have lR := xR.lt
    have zR := xR.keep hb2 lR
    have sz := hb.size
    have HB := Lib.hid (hb.trans (hb2.mono hb.size))
    have HW := Lib.hid hrf; clear hrf hb2
    obtain ⟨r0, r1, r2⟩ := zR.three
    have f0 := zR.frozen 0
    have f1 := zR.frozen 1
    have f2 := zR.frozen 2
    go_wp2_with fail
    refine bodyPost_ret (v := .agg #[.int .i64 k3, .int .i64 h3, .slice A3 n3 c3]) (by simp [results, Tryz.results121, go_sem, r0, r1, r2]) rfl ?_
    refine ⟨_, rfl, ?_, below_set3 HB.out (by omega) _ _ _⟩
    rw [HU.out, if_pos (by trivial)]
    exact RdF.move (fun g hg => ⟨by omega, by simpa using hg.2⟩) (fun g hg _ => heap_other3 _ _ _ _ _ _ (by omega)) _ _ HW.out
/-! ### What Down tells, a term or noughts -/
def nought : T := .node 0 0 []
theorem rd_noughtZ (w : World) : Rd w nought (.agg #[.int .i64 0, .int .i64 0, .slice none 0 0]) :=
  Rd_node.2 ⟨none, 0, 0, rfl, by decide, by decide, rfl, Nat.le_refl _, Nat.zero_le _, fun i t h => by simp at h⟩
theorem REnd.tells {o : Option T} {w w' : World} {e : Ending} (h : REnd o w e w') : ∃ k h A n c, e = .returned (.tuple #[.agg #[.int .i64 k, .int .i64 h, .slice A n c], .bool o.isSome]) ∧ Rd w' (o.getD nought) (.agg #[.int .i64 k, .int .i64 h, .slice A n c]) ∧ Below w.heap.size w w' := by
  obtain ⟨k, h', A, n, c, bo, rfl, hout, hb⟩ := h.uni
  rcases hout with ⟨t, rfl, rfl, how⟩ | ⟨rfl, rfl, hv⟩
  · exact ⟨k, h', A, n, c, rfl, RdF.rd _ _ how.rdF, hb⟩
  · exact ⟨k, h', A, n, c, rfl, by rw [hv]; exact rd_noughtZ _, hb⟩
theorem DEnd.tells {o : Option T} {w w' : World} {e : Ending} (h : DEnd o w e w') : ∃ k h A n c, e = .returned (.tuple #[.agg #[.int .i64 k, .int .i64 h, .slice A n c], .bool o.isSome]) ∧ Rd w' (o.getD nought) (.agg #[.int .i64 k, .int .i64 h, .slice A n c]) ∧ Below w.heap.size w w' := by
  obtain ⟨k, h', A, n, c, bo, rfl, hout, hb⟩ := h
  rcases hout with ⟨t, rfl, rfl, how⟩ | ⟨rfl, rfl, hv⟩
  · exact ⟨k, h', A, n, c, rfl, RdF.rd _ _ how, hb⟩
  · exact ⟨k, h', A, n, c, rfl, by rw [hv]; exact rd_noughtZ _, hb⟩
end Go.Proofs.YtloeainlpcnhnaaGreat
/-
  What the document's own functions of layer 3 need: whether greater terms may be; a substitution below so many nodes that bind, as a list; rows that grow by appending. No statement is proved here.
-/
namespace Go.Proofs.YtloeainlpcnhnaaGreat
open Go.ChangeShapes Go.WideShapes Go.ChangeAt Go.RowKit
set_option linter.unusedVariables false
/-! ### Greater terms -/
mutual
theorem dpW_big : ∀ t : T, nd t ≤ 1099511627776 → dpW t = dp t
  | .node k h xs, hs => by
    rw [nd] at hs
    have := dpL_le xs
    rw [dpW, dpWL_big xs 0 (by omega) (by omega), dp, wrap_small (by omega) (by omega)]
    omega
theorem dpWL_big : ∀ (xs : List T) (m : Int), ndL xs ≤ 1099511627776 → 0 ≤ m → dpWL xs m = max m (dpL xs)
  | [], m, _, hm => by rw [dpWL, dpL]; omega
  | t :: ts, m, hs, hm => by
    rw [ndL] at hs
    rw [dpWL, dpW_big t (by omega), dpL]
    split
    · rw [dpWL_big ts _ (by omega) (by omega)]; omega
    · rw [dpWL_big ts _ (by omega) hm]; omega
end
theorem mayB_big {t : T} (h : nd t ≤ 1099511627776) : mayB t = myB t := by
  rw [Bool.eq_iff_iff, myB_iff, mayB, szW_eq, wrap_small (by omega) (by omega), dpW_big t h]
  simp only [Bool.and_eq_true, decide_eq_true_eq]
  exact ⟨fun ⟨⟨h1, h2⟩, h3⟩ => ⟨h1, by omega, by omega⟩, fun ⟨h1, h2, h3⟩ => ⟨⟨h1, by omega⟩, by omega⟩⟩
/-! ### Below so many nodes that bind -/
def unN (u : Nat) (L : List T) : List T := L.map (fun t => upT u t 0) ++ vsL u
theorem unN_zero (L : List T) : unN 0 L = L := by
  have : (fun t : T => upT ((0 : Nat) : Int) t 0) = id := funext fun t => up_zero t 0
  rw [unN, this]
  simp [vsL]
theorem unN_len (u : Nat) (L : List T) : (unN u L).length = L.length + u := by rw [unN, List.length_append, List.length_map, vsL_len]
theorem vs_up (u : Nat) : (vsL u).map (fun t => upT 1 t 0) ++ [T.node 4 0 []] = vsL (u + 1) := by
  unfold vsL
  rw [List.range_succ, List.map_append, List.map_map]
  congr 1
  · refine List.map_congr_left fun i hi => ?_
    have := List.mem_range.1 hi
    simp only [Function.comp_apply, upT, upL]
    rw [if_pos ⟨trivial, by omega⟩]
    congr 1
    omega
  · simp
theorem unN_succ (u : Nat) (L : List T) : (unN u L).map (fun t => upT 1 t 0) ++ [T.node 4 0 []] = unN (u + 1) L := by
  rw [unN, List.map_append, List.append_assoc, vs_up, List.map_map, unN]
  congr 1
  refine List.map_congr_left fun t _ => ?_
  simp only [Function.comp_apply]
  rw [up_up (by omega)]
  congr 1
/-- what a substitution maps a variable to, as the document says it -/
def mpd (M : List T) (s i : Int) : T := if i < M.length then M.getD (M.length - 1 - i.toNat) (.node 0 0 []) else .node 4 (i - M.length + s) []
theorem mpd_un {L : List T} {sh h : Int} {u : Nat} (h0 : 0 ≤ h) : mpd (unN u L) (sh + u) h = if (u : Int) ≤ h then mpT L sh (h - u) u else .node 4 h [] := by
  unfold mpd mpT
  rw [unN_len]
  by_cases hu : (u : Int) ≤ h
  · rw [if_pos hu]
    by_cases hl : (L.length : Int) ≤ h - u
    · rw [if_neg (by omega), if_pos hl]
      congr 1
      omega
    · rw [if_pos (by omega), if_neg hl, unN, getD_app_l _ (by rw [List.length_map]; omega), getD_map _ _ (by omega)]
      congr 2
      omega
  · rw [if_neg hu, if_pos (by omega), unN, List.getD_eq_getElem?_getD, List.getElem?_append_right (by rw [List.length_map]; omega), List.length_map]
    have hlt : L.length + u - 1 - h.toNat - L.length < (vsL u).length := by rw [vsL_len]; omega
    have he := List.getElem?_eq_getElem hlt
    obtain ⟨_, e⟩ := vsL_at _ _ _ he
    rw [he, e, Option.getD_some]
    congr 1
    omega
/-- the terms of a substitution on the way -/
structure SuT (M : List T) : Prop where
  all : ∀ t ∈ M, mayB t = true ∧ okT 1125899906842624 t ∧ nd t ≤ 4000
theorem su_un {n : Nat} {L : List T} {sh : Int} {u : Nat} (hs : Sub (bt n) L sh) (hu : u ≤ n) (hn : n ≤ 40000) : SuT (unN u L) := by
  refine ⟨fun t ht => ?_⟩
  rw [unN] at ht
  rcases List.mem_append.1 ht with ht | ht
  · obtain ⟨x, hx, rfl⟩ := List.mem_map.1 ht
    have hm := hs.may x hx
    have h4 := ((myB_iff x).1 hm).2.1
    have ho := okT_up (b := (u : Int)) (by omega) x 0 (hs.ok x hx)
    refine ⟨by rw [mayB_my (by rw [nd_up]; omega)]; exact my_up (by omega) hm, okT_mono (by have : bt n = 562949953421312 + n * 1048576 := rfl; omega) _ ho, by rw [nd_up]; exact h4⟩
  · obtain ⟨i, hi⟩ := List.getElem?_of_mem ht
    obtain ⟨h1, rfl⟩ := vsL_at _ _ _ hi
    exact ⟨by rw [mayB_my (by simp [nd, ndL])]; exact my_var (by omega), by rw [okT, okL]; exact ⟨fun _ => by omega, trivial⟩, by simp [nd, ndL]⟩
theorem rup_one {t : T} (hm : mayB t = true) (ho : okT 1125899906842624 t) (hn : nd t ≤ 4000) : rupX t 1 0 = upT 1 t 0 := by
  rw [rupX, if_pos (by rw [Bool.and_eq_true, mvB_iff]; exact ⟨by omega, hm⟩), upW_eq (by omega) (by omega) t 0 ho (by omega) (by omega)]
theorem rup_zero {w : World} {t : T} {v : Value} (hv : Rd w t v) : rupX t 0 0 = t := by
  rw [rupX]
  split
  · exact upW_zero t v 0 hv
  · exact upW_zero t v 0 hv
/-- what the document's Under tells -/
def rndX (M : List T) : List T := M.map (fun t => rupX t 1 0) ++ [T.node 4 0 []]
theorem rnd_un {M : List T} (hM : SuT M) : rndX M = M.map (fun t => upT 1 t 0) ++ [T.node 4 0 []] := by
  rw [rndX]
  congr 1
  refine List.map_congr_left fun t ht => ?_
  obtain ⟨h1, h2, h3⟩ := hM.all t ht
  exact rup_one h1 h2 h3
end Go.Proofs.YtloeainlpcnhnaaGreat
/-
  Contracts of the document's own fail, mapped and May of layer 3, of few and of List. No statement is proved here.
-/
namespace Go.Proofs.YtloeainlpcnhnaaGreat
open Go.ChangeShapes Go.WideShapes Go.ChangeAt Go.RowKit
set_option linter.unusedVariables false
/-- how many nodes were gone to, and what went wrong -/
abbrev wk2 (w : World) (pw n : Nat) (e : Int) : Prop := Box w pw 130 #[.int .i64 (n : Int), .int .i64 e]
theorem Fr.put {X : Nat → Prop} {w w' : World} (h : Fr X w w') {a : Addr} (ha : a.block < w.heap.size → X a.block) (v : Value) : Fr X w (w'.setCell a v) :=
  ⟨h.os, h.tape, h.output, by simpa [World.setCell] using h.size, fun k hk hx => (Below.heap_setCell _ _ _ _ (fun e => by subst e; exact hx (ha hk))).trans (h.block k hk hx)⟩
theorem wk2.put {w : World} {pw n : Nat} {e : Int} (h : wk2 w pw n e) (m : Int) : wk2 (w.setCell ⟨pw, 1, none⟩ (.int .i64 m)) pw n m := by
  have := h.setAt 1 (.int .i64 m)
  simpa using this
theorem wk2.count {w : World} {pw n : Nat} {e : Int} (h : wk2 w pw n e) : wk2 (w.setCell ⟨pw, 0, none⟩ (.int .i64 ((n : Int) + 1))) pw (n + 1) e := by
  have := h.setAt 0 (.int .i64 ((n : Int) + 1))
  rw [wk2, Int.natCast_succ]
  simpa using this
set_option maxHeartbeats 1000000 in
theorem rfailC (pw n : Nat) (ec : Int) (w : World) (hwk : wk2 w pw n 0) :
    Calls Tryz.prog 128 #[.pointer (some ⟨pw, 0, none⟩), .int .i64 ec] w fun e w' => e = .returned zT ∧ Fr (fun k => k = pw) w w' ∧ wk2 w' pw n ec := by
  have lpw := hwk.lt
  obtain ⟨c0, c1⟩ := hwk.two
  have f1 := hwk.frozen 1
  go_enter Tryz.func128, Tryz.ntmps128
  go_wp2_with fail
  refine bodyPost_ret (v := zT) (by simp [results, Tryz.results128, go_sem]) rfl ?_
  refine ⟨rfl, ((Fr.refl (fun k => k = pw) w).put (fun _ => rfl) _).then ((Below.refl _ _).alloc (Nat.le_refl _) _), Box.alloc (hwk.put ec) _⟩
set_option maxHeartbeats 2000000 in
theorem mappedC (M : List T) (A : Option Addr) (n c : Nat) (s i : Int) (w : World) (hn : M.length = n) (hc : n ≤ c) (hm : c ≤ maxLen) (hx : ∀ i t, M[i]? = some t → RdAt w A i t) (hnd : ∀ t ∈ M, nd t ≤ 1048576) (h0 : 0 ≤ i) (h1 : i ≤ 4503599627370496) (h2 : -4503599627370496 ≤ s ∧ s ≤ 4503599627370496) (hn4 : n ≤ 4503599627370496) :
    Calls Tryz.prog 131 #[.agg #[.slice A n c, .int .i64 s], .int .i64 i] w (FEnd (mpd M s i) w) := by
  unfold maxLen at hm
  have HN := Lib.hid hn; clear hn
  have HX := Lib.hid hx; clear hx
  have HND := Lib.hid hnd; clear hnd
  obtain ⟨W, hW⟩ : ∃ W, (w.alloc (.cells #[.slice A n c, .int .i64 s] 118)).alloc (.cells #[.int .i64 0, .int .i64 0, .slice none 0 0] 44) = W := ⟨_, rfl⟩
  have hb : Below w.heap.size w W := by rw [← hW]; exact ((Below.refl _ _).alloc (Nat.le_refl _) _).alloc (by simp) _
  have xS : Box W w.heap.size 118 #[.slice A n c, .int .i64 s] := by rw [← hW]; exact (Box.new _ _ _).alloc _
  have xR : Box W (w.heap.size + 1) 44 #[.int .i64 0, .int .i64 0, .slice none 0 0] := by rw [← hW]; exact (Box.new (w.alloc _) _ _).at (by simp)
  have HW := Lib.hid hW; clear hW
  by_cases hlt : i < n
  · have d1 : decide (i < (n : Int)) = true := by simpa using hlt
    obtain ⟨j, hj⟩ : ∃ j : Nat, (j : Int) = n - 1 - i := ⟨n - 1 - i.toNat, by omega⟩
    have hjn : j < n := by omega
    obtain ⟨t, ht⟩ := at_of HN.out hjn
    obtain ⟨b, o, k2, h2', A2, n2, c2', rfl, c0, c1, c2, hr⟩ := (HX.out j t ht).full
    have lb := cell_lt c0
    dsimp only at lb
    have hmp : mpd M s i = t := by
      have hN := HN.out
      rw [mpd, if_pos (by omega), List.getD_eq_getElem?_getD, show M.length - 1 - i.toNat = j by omega, ht]
      rfl
    have HMP := Lib.hid hmp; clear hmp
    have hnt := HND.out t (List.mem_of_getElem? ht)
    have hjj : ((n : Int) - 1 - i).toNat = j := by omega
    rw [← hjj] at c0 c1 c2
    have hi0 : 0 ≤ (n : Int) - 1 - i := by omega
    have hi1 : (n : Int) - 1 - i < n := by omega
    clear hj hjj
    have HT := Lib.hid ht; clear ht
    have HR := Lib.hid hr; clear hr
    go_enter Tryz.func131, Tryz.ntmps131
    go_wp2_with fail
    rw [HW.out]
    clear HW
    refine (refUpC t 0 0 _ _ (Rd.keep hb _ _ HR.out) hnt).mono ?_
    rw [rup_zero HR.out]
    rintro e w2 ⟨v2, rfl, hrf, hb2⟩
    obtain ⟨k3, h3, A3, n3, c3, rfl⟩ := hrf.full
    have lR := xR.lt
    have zR := xR.keep hb2 lR
    have sz := hb.size
    have HB := Lib.hid (hb.trans (hb2.mono hb.size))
    have HH := Lib.hid hrf; clear hrf hb2 c0 c1 c2 lb
    obtain ⟨r0, r1, r2⟩ := zR.three
    have f0 := zR.frozen 0
    have f1 := zR.frozen 1
    have f2 := zR.frozen 2
    go_wp2_with fail
    refine bodyPost_ret (v := .agg #[.int .i64 k3, .int .i64 h3, .slice A3 n3 c3]) (by simp [results, Tryz.results131, go_sem, r0, r1, r2]) rfl ?_
    refine ⟨_, rfl, ?_, below_set3 HB.out (by omega) _ _ _⟩
    rw [HMP.out]
    exact RdF.move (fun g hg => ⟨by omega, by simpa using hg.2⟩) (fun g hg _ => heap_other3 _ _ _ _ _ _ (by omega)) _ _ HH.out
  · have d1 : decide (i < (n : Int)) = false := by simpa using hlt
    have e1 : IntKind.i64.wrap (i - n) = i - n := by rw [wrapEq]; exact wrap_small (by omega) (by omega)
    have e2 : IntKind.i64.wrap (i - n + s) = i - n + s := by rw [wrapEq]; exact wrap_small (by omega) (by omega)
    have hmp : mpd M s i = .node 4 (i - n + s) [] := by
      have hN := HN.out
      rw [mpd, if_neg (by omega), hN]
    have HMP := Lib.hid hmp; clear hmp
    have hwf : (Lit.int .i64 (i - n + s)).wf = true := by
      have := wf_wrap64 (i - n + s)
      rwa [wrap_small (by omega) (by omega)] at this
    clear xS xR HW hb
    go_enter Tryz.func131, Tryz.ntmps131
    go_wp2_with fail
    refine bodyPost_ret (v := .agg #[.int .i64 4, .int .i64 (i - n + s), .slice none 0 0]) (by simp [results, Tryz.results131, go_sem]) rfl ?_
    refine ⟨_, rfl, ?_, ((Below.refl _ _).alloc (Nat.le_refl _) _).alloc (by simp) _⟩
    rw [HMP.out]
    exact rx_leaf' (by decide) hwf
set_option maxHeartbeats 2000000 in
theorem rmayC (L : List T) (A : Option Addr) (n c : Nat) (sh : Int) (w : World) (hn : L.length = n) (hc : n ≤ c) (hm : c ≤ maxLen) (hx : ∀ i t, L[i]? = some t → RdAt w A i t) (hnd : ∀ t ∈ L, nd t ≤ 1099511627776) :
    Calls Tryz.prog 111 #[.agg #[.slice A n c, .int .i64 sh]] w fun e w' => e = .returned (.bool (sbB L sh)) ∧ Below w.heap.size w w' := by
  have hb0 : Below w.heap.size w (w.alloc (.cells #[.slice A n c, .int .i64 sh] 118)) := (Below.refl _ _).alloc (Nat.le_refl _) _
  have xS : Box (w.alloc (.cells #[.slice A n c, .int .i64 sh] 118)) w.heap.size 118 #[.slice A n c, .int .i64 sh] := Box.new _ _ _
  have E : sbB L sh = (decide (n ≤ 200) && decide (0 ≤ sh) && decide (sh ≤ 1048576) && L.all myB) := by rw [sbB, hn]
  have HN := Lib.hid hn; clear hn
  have HX := Lib.hid hx; clear hx
  have HND := Lib.hid hnd; clear hnd
  unfold maxLen at hm
  by_cases h1 : (200 : Int) < n
  · have d1 : decide ((200 : Int) < n) = true := by simpa using h1
    have HE : Hid (sbB L sh = false) := Lib.hid (by rw [E]; simp; omega)
    clear E
    go_enter Tryz.func111, Tryz.ntmps111
    go_wp2_with fail
    go_ret
    exact ⟨ret_bool HE.out.symm, hb0⟩
  have d1 : decide ((200 : Int) < n) = false := by simpa using h1
  by_cases h2 : sh < 0
  · have d2 : decide (sh < 0) = true := by simpa using h2
    have HE : Hid (sbB L sh = false) := Lib.hid (by rw [E]; simp; omega)
    clear E
    go_enter Tryz.func111, Tryz.ntmps111
    go_wp2_with fail
    go_ret
    exact ⟨ret_bool HE.out.symm, hb0⟩
  have d2 : decide (sh < 0) = false := by simpa using h2
  by_cases h3 : 1048576 < sh
  · have d3 : decide (1048576 < sh) = true := by simpa using h3
    have HE : Hid (sbB L sh = false) := Lib.hid (by rw [E]; simp; omega)
    clear E
    go_enter Tryz.func111, Tryz.ntmps111
    go_wp2_with fail
    go_ret
    exact ⟨ret_bool HE.out.symm, hb0⟩
  have d3 : decide (1048576 < sh) = false := by simpa using h3
  have HE : Hid (sbB L sh = L.all myB) := Lib.hid (by
    rw [E, show decide (n ≤ 200) = true by simp; omega, show decide (0 ≤ sh) = true by simp; omega, show decide (sh ≤ 1048576) = true by simp; omega]
    simp)
  clear E
  go_enter Tryz.func111, Tryz.ntmps111
  go_wp2_with fail
  go_loopw [3] (fun i wr => ∃ (j : Nat), j ≤ n ∧ i = .int .i64 j ∧ Hid ((L.drop j).all myB = sbB L sh) ∧ Box wr w.heap.size 118 #[.slice A n c, .int .i64 sh] ∧ Below w.heap.size w wr) (fun i _ => n - (intOf i).toNat)
  case atStart => exact ⟨0, Nat.zero_le _, rfl, Lib.hid (by rw [HE.out]; simp), xS, hb0⟩
  case round =>
    clear xS hb0
    obtain ⟨j, hj, rfl, HS, xS, hb⟩ := hrel
    obtain ⟨a0, a1⟩ := xS.two
    by_cases hlt : j < n
    · obtain ⟨t, ht⟩ := at_of HN.out hlt
      obtain ⟨b, o, k2, h2, A2, n2, c2', rfl, c0, c1, c2, hr⟩ := (RdAt.keep hb (HX.out j t ht)).full
      have HT := Lib.hid ht; clear ht
      have hi0 : (0 : Int) ≤ j := by omega
      have hi1 : (j : Int) < n := by omega
      go_wp2_with fail
      refine (refMay t _ _ hr).mono ?_
      rw [mayB_big (HND.out t (List.mem_of_getElem? HT.out))]
      have HS' := HS.out
      rw [drop_at HT.out, List.all_cons] at HS'
      have HS := Lib.hid HS'; clear HS'
      generalize myB t = r at *
      rintro e w1 ⟨rfl, hb1⟩
      clear c0 c1 c2 a0 a1
      replace xS := xS.keep hb1 xS.lt
      replace hb := hb.trans (hb1.mono hb.size)
      clear hb1
      cases r
      · go_wp2_with fail
        go_ret
        exact ⟨ret_bool (by simpa using HS.out), hb⟩
      · go_wp2_with fail
        go_roundw
        case rel => exact ⟨j + 1, by omega, by go_num, Lib.hid (by simpa using HS.out), xS, hb⟩
        case measure => simp [intOf]; omega
    · go_wp2_with fail
      go_ret
      exact ⟨ret_bool (by have := HS.out; rw [drop_all HN.out (by omega)] at this; exact this), hb⟩
end Go.Proofs.YtloeainlpcnhnaaGreat
/-
  Contract of the document's own Same of layer 3. No statement is proved here.
-/
namespace Go.Proofs.YtloeainlpcnhnaaGreat
open Go.ChangeShapes Go.WideShapes Go.ChangeAt Go.RowKit
set_option linter.unusedVariables false
/-- what holds at the head of Same's loop -/
structure RsI (m : Nat) (w : World) (j : Nat) (wr : World) (Av : Option Addr) (cv : Nat) (cs : List Value) : Prop where
  res : Box wr w.heap.size 118 #[.slice none 0 0, .int .i64 0]
  out : Box wr (w.heap.size + 1) 118 #[.slice Av j cv, .int .i64 m]
  row : GRow (fun b => b < w.heap.size + 2) wr (w.heap.size + 2) (.slice Av j cv) j cs ((vsL m).take j)
  below : Below w.heap.size w wr
end Go.Proofs.YtloeainlpcnhnaaGreat
/-
  Contract of the document's own Same of layer 3, and how a row grows by one. No statement is proved here.
-/
namespace Go.Proofs.YtloeainlpcnhnaaGreat
open Go.ChangeShapes Go.WideShapes Go.ChangeAt Go.RowKit
set_option linter.unusedVariables false
end Go.Proofs.YtloeainlpcnhnaaGreat
/-
  Contracts of the document's own Under of layer 3 and of List. No statement is proved here.
-/
namespace Go.Proofs.YtloeainlpcnhnaaGreat
open Go.ChangeShapes Go.WideShapes Go.ChangeAt Go.RowKit
set_option linter.unusedVariables false
/-- what a round of the document's Under reads -/
def SUd (z : Nat) (bA oA n c : Nat) (vs : Value) (j : Nat) (k2 h2 : Int) (A2 : Option Addr) (n2 c2 : Nat) (w' : World) : Prop :=
  w'.cell? ⟨z, 0, none⟩ = some (.slice (some ⟨bA, oA, none⟩) n c) ∧ w'.cell? ⟨z + 1 + 1, 0, none⟩ = some vs ∧ w'.cell? ⟨bA, oA + j * 3, none⟩ = some (.int .i64 k2) ∧
    w'.cell? ⟨bA, oA + j * 3 + 1, none⟩ = some (.int .i64 h2) ∧ w'.cell? ⟨bA, oA + j * 3 + 2, none⟩ = some (.slice A2 n2 c2)
/-- what holds at the head of Under's loop -/
structure RuI (M : List T) (A : Option Addr) (n c : Nat) (s : Int) (w : World) (j : Nat) (wr : World) (Av : Option Addr) (cv : Nat) (cs : List Value) : Prop where
  box : Box wr w.heap.size 118 #[.slice A n c, .int .i64 s]
  res : Box wr (w.heap.size + 1) 118 #[.slice none 0 0, .int .i64 0]
  out : Box wr (w.heap.size + 1 + 1) 118 #[.slice Av j cv, .int .i64 (wrap64 (s + 1))]
  row : GRow (fun b => b < w.heap.size + 3) wr (w.heap.size + 3) (.slice Av j cv) j cs ((M.map fun t => rupX t 1 0).take j)
  below : Below w.heap.size w wr
set_option maxRecDepth 100000 in
set_option maxHeartbeats 8000000 in
theorem runderC {M : List T} {A : Option Addr} {n c : Nat} {s : Int} {w : World} (hn : M.length = n) (hc : n ≤ c) (hm : c ≤ maxLen) (hx : ∀ i t, M[i]? = some t → RdAt w A i t) (hnd : ∀ t ∈ M, nd t ≤ 1048576) (hn4 : n ≤ 100000000) :
    Calls Tryz.prog 129 #[.agg #[.slice A n c, .int .i64 s]] w (SEnd (rndX M) (wrap64 (s + 1)) w) := by
  unfold maxLen at hm
  obtain ⟨W, hW⟩ : ∃ W, ((w.alloc (.cells #[.slice A n c, .int .i64 s] 118)).alloc (.cells #[.slice none 0 0, .int .i64 0] 118)).alloc (.cells #[.slice none 0 0, .int .i64 (wrap64 (s + 1))] 118) = W := ⟨_, rfl⟩
  have HI : Hid (RuI M A n c s w 0 W none 0 []) := Lib.hid ⟨by rw [← hW]; exact ((Box.new _ _ _).alloc _).alloc _, by rw [← hW]; exact ((Box.new (w.alloc _) _ _).at (by simp)).alloc _, by rw [← hW]; exact (Box.new ((w.alloc _).alloc _) _ _).at (by simp),
    GRow.nil _ _ _, by rw [← hW]; exact (((Below.refl _ _).alloc (Nat.le_refl _) _).alloc (by simp) _).alloc (by simp; omega) _⟩
  have HW := Lib.hid hW; clear hW
  have HN := Lib.hid hn; clear hn
  have HX := Lib.hid hx; clear hx
  have HND := Lib.hid hnd; clear hnd
  have hw0 : IntKind.i64.wrap (s + 1) = wrap64 (s + 1) := wrapEq _
  go_enter Tryz.func129, Tryz.ntmps129
  go_wp2_with fail
  rw [HW.out]
  clear HW hw0
  go_loopw [4] (fun i wr => ∃ (j : Nat) (Av : Option Addr) (cv : Nat) (cs : List Value), j ≤ n ∧ i = .int .i64 j ∧ Hid (RuI M A n c s w j wr Av cv cs)) (fun i _ => n - (intOf i).toNat)
  case atStart => exact ⟨0, none, 0, [], Nat.zero_le _, rfl, HI⟩
  case round =>
    clear HI
    obtain ⟨j, Av, cv, cs, hj, rfl, HI⟩ := hrel
    obtain ⟨a0, a1⟩ := HI.out.box.two
    have hbr := HI.out.below
    by_cases hlt : j < n
    · obtain ⟨t, ht⟩ := at_of HN.out hlt
      obtain ⟨bA, oA, k2, h2, A2, n2, c2', rfl, c0, c1, c2, hr⟩ := (RdAt.keep hbr (HX.out j t ht)).full
      have HT := Lib.hid ht; clear ht
      have HR := Lib.hid hr; clear hr
      have hi0 : (0 : Int) ≤ j := by omega
      have hi1 : (j : Int) < n := by omega
      go_wp2_with fail
      obtain ⟨r0, r1⟩ := HI.out.out.two
      have HKS : Hid (∀ w' : World, (∀ g, g < wr.heap.size → some g ≠ Value.ownBlock (.slice Av j cv) → w'.heap[g]? = wr.heap[g]?) → SUd w.heap.size bA oA n c (.slice Av j cv) j k2 h2 A2 n2 c2' w') := Lib.hid fun w' hw' => by
        have nb : ∀ g, g < w.heap.size + 3 → some g ≠ Value.ownBlock (.slice Av j cv) := fun g hg e => by
          have := HI.out.row.lt e.symm
          omega
        have lA := cell_lt c0
        have lA' : bA < w.heap.size + 3 := by
          obtain ⟨bA', oA', _, _, _, _, _, e, q0, _⟩ := (HX.out j t HT.out).full
          have := cell_lt q0
          injection e with e; injection e with e1 e2
          dsimp only at this
          omega
        have l1 := HI.out.box.lt
        have l3 := HI.out.out.lt
        have m1 : ∀ q, w'.cell? ⟨w.heap.size, q, none⟩ = wr.cell? ⟨w.heap.size, q, none⟩ := fun q => World.cell?_of_block (hw' w.heap.size l1 (nb w.heap.size (by omega)))
        have m3 : ∀ q, w'.cell? ⟨w.heap.size + 1 + 1, q, none⟩ = wr.cell? ⟨w.heap.size + 1 + 1, q, none⟩ := fun q => World.cell?_of_block (hw' (w.heap.size + 1 + 1) l3 (nb (w.heap.size + 1 + 1) (by omega)))
        have mA : ∀ q, w'.cell? ⟨bA, q, none⟩ = wr.cell? ⟨bA, q, none⟩ := fun q => World.cell?_of_block (hw' bA lA (nb bA lA'))
        exact ⟨(m1 _).trans a0, (m3 _).trans r0, (mA _).trans c0, (mA _).trans c1, (mA _).trans c2⟩
      have hS := HKS.out wr.drew fun g _ _ => rfl
      refine wp_region_cut rfl (by kernel_rfl) (by kernel_rfl) ?_
      refine wpAny_of_held (S := SUd w.heap.size bA oA n c (.slice Av j cv) j k2 h2 A2 n2 c2') _ _ _ _ ?_
      simp only [List.pop_toArray, List.dropLast, List.size_toArray, List.length_cons, List.length_nil, Nat.reduceAdd, Nat.reduceSub]
      refine wpAnyH_take (i := 0) (v := .pointer (some ⟨w.heap.size + 1 + 1, 0, none⟩)) rfl (by kernel_rfl) (by kernel_rfl) (by kernel_rfl) (fun _ _ _ h => h) (Or.inl ⟨by rfl, ?_⟩) hS ?_
      · intro w' hSw
        obtain ⟨s0, s3, s4, s5, s6⟩ := hSw
        go_simp
      simp only [Act.put, List.setIfInBounds_toArray]
      refine wpAnyH_take (i := 1) (v := .slice Av j cv) rfl (by kernel_rfl) (by kernel_rfl) (by kernel_rfl) (fun _ _ _ h => h) (Or.inl ⟨by rfl, ?_⟩) hS ?_
      · intro w' hSw
        obtain ⟨s0, s3, s4, s5, s6⟩ := hSw
        go_simp
      simp only [Act.put]
      refine wpAnyH_take (i := 2) (v := .pointer (some ⟨w.heap.size, 0, none⟩)) rfl (by kernel_rfl) (by kernel_rfl) (by kernel_rfl) (fun _ _ _ h => h) (Or.inl ⟨by rfl, ?_⟩) hS ?_
      · intro w' hSw
        obtain ⟨s0, s3, s4, s5, s6⟩ := hSw
        go_simp
      simp only [Act.put]
      refine wpAnyH_take (i := 3) (v := .slice (some ⟨bA, oA, none⟩) n c) rfl (by kernel_rfl) (by kernel_rfl) (by kernel_rfl) (fun _ _ _ h => h) (Or.inl ⟨by rfl, ?_⟩) hS ?_
      · intro w' hSw
        obtain ⟨s0, s3, s4, s5, s6⟩ := hSw
        go_simp
      simp only [Act.put]
      refine wpAnyH_take (i := 4) (v := .int .i64 j) rfl (by kernel_rfl) (by kernel_rfl) (by kernel_rfl) (fun _ _ _ h => h) (Or.inl ⟨by rfl, ?_⟩) hS ?_
      · intro w' hSw
        obtain ⟨s0, s3, s4, s5, s6⟩ := hSw
        go_simp
      simp only [Act.put]
      refine wpAnyH_take (i := 5) (v := .pointer (some ⟨bA, oA + j * 3, none⟩)) rfl (by kernel_rfl) (by kernel_rfl) (by kernel_rfl) (fun _ _ _ h => h) (Or.inl ⟨by rfl, ?_⟩) hS ?_
      · intro w' hSw
        obtain ⟨s0, s3, s4, s5, s6⟩ := hSw
        go_simp
      simp only [Act.put]
      refine wpAnyH_take (i := 6) (v := .agg #[.int .i64 k2, .int .i64 h2, .slice A2 n2 c2']) rfl (by kernel_rfl) (by kernel_rfl) (by kernel_rfl) (fun _ _ _ h => h) (Or.inl ⟨by rfl, ?_⟩) hS ?_
      · intro w' hSw
        obtain ⟨s0, s3, s4, s5, s6⟩ := hSw
        go_simp
      simp only [Act.put]
      refine wpAnyH_ready (rs := [7]) (by kernel_rfl) (by simp) ?_
      refine AllReadyH.cons rfl (fun K hK => ?_) AllReadyH.nil
      go_simp
      refine (refUpC t 1 0 _ wr.drew (Rd.keep (Below.refl _ wr).drew _ _ HR.out) (HND.out t (List.mem_of_getElem? HT.out))).mono ?_
      rintro e w2 ⟨v2, rfl, hrf, hb1⟩
      obtain ⟨k3, h3, A3, n3, c3, rfl⟩ := hrf.full
      have hbC : Below wr.heap.size wr w2 := (Below.refl _ wr).drew.trans hb1
      have HRF := Lib.hid hrf; clear hrf hb1
      refine hK.out _ _ (HKS.out w2 fun g hg _ => hbC.block g hg) (fun hS => ?_)
      clear hK K
      try simp only [Act.put, List.setIfInBounds_toArray, List.set_cons_zero, List.set_cons_succ]
      refine wpAnyH_ready (rs := [8]) (by kernel_rfl) (by simp) ?_
      refine AllReadyH.cons rfl (fun K hK => ?_) AllReadyH.nil
      go_simp
      have hbD : Below wr.heap.size wr (w2.alloc (.cells #[.int .i64 k3, .int .i64 h3, .slice A3 n3 c3] 44)) := hbC.alloc hbC.size _
      refine hK.out _ _ (HKS.out _ fun g hg _ => hbD.block g hg) (fun hS => ?_)
      clear hK K
      try simp only [Act.put, List.setIfInBounds_toArray, List.set_cons_zero, List.set_cons_succ]
      refine wpAnyH_ready (rs := [9]) (by kernel_rfl) (by simp) ?_
      refine AllReadyH.cons rfl (fun K hK => ?_) AllReadyH.nil
      obtain ⟨i0, hi, hz0, hz1, hz2⟩ := info_parts infoTerm
      refine step_append_lies (w2.alloc (.cells #[.int .i64 k3, .int .i64 h3, .slice A3 n3 c3] 44)) rfl (.tmp 17) (.tmp 24) 24 rfl (w.heap.size + 3) 44 i0 _ 3 40 Tryz.underlying24 hi hz0 hz1 hz2 rfl (by omega) (.slice Av j cv) j cs rfl (HI.out.row.own.kept (grown_of_below hbD) (own_none _)) ⟨w2.heap.size, 0, none⟩ 1 1 [.int .i64 k3, .int .i64 h3, .slice A3 n3 c3] rfl rfl (World.news_of_block (heap_alloc_new w2 _)) (by intro u hu; simp at hu; rcases hu with rfl | rfl | rfl <;> rfl) (by omega) (by unfold maxLen; omega) (by omega) (by have := hbD.size; have := HI.out.out.lt; omega) _ rfl ?_
      intro g cap w4 how4 hgr hg4 hlt4
      clear hi hz0 hz1 hz2 i0
      refine hK.out _ _ (HKS.out w4 fun g' hg' hne => (hgr.block g' (Nat.lt_of_lt_of_le hg' hbD.size) hne).trans (hbD.block g' hg')) (fun hS => ?_)
      clear hK K
      try simp only [Act.put, List.setIfInBounds_toArray]
      refine wpAnyH_take (i := 10) (v := .pointer (some ⟨w.heap.size + 1 + 1, 0, none⟩)) rfl (by kernel_rfl) (by kernel_rfl) (by kernel_rfl) (fun _ _ _ h => h) (Or.inl ⟨by rfl, ?_⟩) hS ?_
      · intro w' hSw
        obtain ⟨s0, s3, s4, s5, s6⟩ := hSw
        go_simp
      simp only [Act.put]
      refine wpAnyH_done (by kernel_rfl) ?_ _
      show wpList _ _ _ _ _ _
      have hrow2 : GRow (fun b => b < w.heap.size + 3) w2 (w.heap.size + 3) (.slice Av j cv) j cs ((M.map fun t => rupX t 1 0).take j) := HI.out.row.move (fun b hb _ => hbC.block b hb) (fun g hg => by have := (HI.out.row.lt hg).1; omega)
      have lo3 := HI.out.out.lt
      have hds : wr.drew.heap.size = wr.heap.size := rfl
      have hrow4 := hrow2.grow (RdF.moveX (fun b hb _ => ⟨⟨by omega, fun e => by have := (HI.out.row.lt e.symm).2; omega⟩, rfl⟩) _ _ HRF.out) how4 hgr (by rcases hg4 with h | h; exact .inl h; exact .inr (by simpa using h))
      have nb : ∀ g, g < w.heap.size + 3 → some g ≠ Value.ownBlock (.slice Av j cv) := fun g hg e => by
        have := HI.out.row.lt e.symm
        omega
      have hw4 : ∀ g', g' < wr.heap.size → some g' ≠ Value.ownBlock (.slice Av j cv) → w4.heap[g']? = wr.heap[g']? := fun g' hg' hne => (hgr.block g' (Nat.lt_of_lt_of_le hg' hbD.size) hne).trans (hbD.block g' hg')
      have z1 : Box w4 w.heap.size _ _ := (hw4 _ HI.out.box.lt (nb _ (by omega))).trans HI.out.box
      have z2 : Box w4 (w.heap.size + 1) _ _ := (hw4 _ HI.out.res.lt (nb _ (by omega))).trans HI.out.res
      have z3 : Box w4 (w.heap.size + 1 + 1) _ _ := (hw4 _ HI.out.out.lt (nb _ (by omega))).trans HI.out.out
      have hb4 : Below w.heap.size w w4 := below_grown (hbr.trans (hbD.mono hbr.size)) hgr (fun r hr => by have := HI.out.row.lt hr; omega) (by have := hbD.size; omega)
      have hrow5 : GRow (fun b => b < w.heap.size + 3) (w4.setCell ⟨w.heap.size + 1 + 1, 0, none⟩ (.slice (some ⟨g, 0, none⟩) (j + 1) cap)) (w.heap.size + 3) (.slice (some ⟨g, 0, none⟩) (j + 1) cap) (j + 1) (cs ++ [.int .i64 k3, .int .i64 h3, .slice A3 n3 c3]) ((M.map fun t => rupX t 1 0).take (j + 1)) := by
        have e : (M.map fun t => rupX t 1 0).take j ++ [rupX t 1 0] = (M.map fun t => rupX t 1 0).take (j + 1) := by
          rw [List.take_succ_eq_append_getElem (by rw [List.length_map, HN.out]; exact hlt), List.getElem_map]
          have htj : M[j]'(by rw [HN.out]; exact hlt) = t := by
            have := HT.out
            rw [List.getElem?_eq_getElem (by rw [HN.out]; exact hlt)] at this
            exact Option.some.inj this
          rw [htj]
        rw [← e]
        exact hrow4.move (fun b _ hb => Below.heap_setCell _ _ _ _ (by dsimp only; omega)) (fun g' hg' => by have := (hrow4.lt hg').1; omega)
      have HJ : Hid (RuI M (some ⟨bA, oA, none⟩) n c s w (j + 1) (w4.setCell ⟨w.heap.size + 1 + 1, 0, none⟩ (.slice (some ⟨g, 0, none⟩) (j + 1) cap)) (some ⟨g, 0, none⟩) cap (cs ++ [.int .i64 k3, .int .i64 h3, .slice A3 n3 c3])) := Lib.hid
        ⟨z1.other (by dsimp only; omega) _, z2.other (by dsimp only; omega) _, by simpa using z3.setAt 0 (.slice (some ⟨g, 0, none⟩) (j + 1) cap), hrow5, hb4.setCell (by dsimp only; omega) _⟩
      obtain ⟨q0, q1⟩ := z3.two
      have f0 := z3.frozen 0
      have l4 := z3.lt
      clear hrow2 hrow4 hrow5 how4 hgr hg4 hb4 hbD hbC hw4 nb z1 z2 z3 HRF hS
      go_wp2_with fail
      go_roundw
      case rel => exact ⟨j + 1, some ⟨g, 0, none⟩, cap, _, by omega, by go_num, HJ⟩
      case measure => simp [intOf]; omega
    · obtain rfl : j = n := by omega
      obtain ⟨o0, o1⟩ := HI.out.out.two
      have lres := HI.out.res.lt
      have lout := HI.out.out.lt
      obtain ⟨g, cap, w4, hrun, hrow, hold, hb4⟩ := HI.out.row.push (t := .node 4 0 []) (k := 4) (h := 0) (A := none) (m := 0) (c := 0) (rx_leaf' (by decide) (by decide)) (by omega) (by omega)
      have nb : ∀ q, q < w.heap.size + 3 → some q ≠ Value.ownBlock (.slice Av j cv) := fun q hq e => by have := (HI.out.row.lt e.symm).1; omega
      have z2 : Box w4 (w.heap.size + 1) _ _ := (hold _ lres (nb _ (by omega))).trans HI.out.res
      have z3 : Box w4 (w.heap.size + 1 + 1) _ _ := (hold _ lout (nb _ (by omega))).trans HI.out.out
      have lw4 := z3.lt
      obtain ⟨q0, q1⟩ := z3.two
      have g0 := z3.frozen 0
      have hset : ∀ b, w.heap.size + 3 ≤ b → ((((w4.setCell ⟨w.heap.size + 1 + 1, 0, none⟩ (.slice (some ⟨g, 0, none⟩) (j + 1) cap)).setCell ⟨w.heap.size + 1, 0, none⟩ (.slice (some ⟨g, 0, none⟩) (j + 1) cap)).setCell ⟨w.heap.size + 1, 1, none⟩ (.int .i64 (wrap64 (s + 1)))).heap)[b]? = w4.heap[b]? := fun b hb => ((Below.heap_setCell _ _ _ _ (by dsimp only; omega)).trans (Below.heap_setCell _ _ _ _ (by dsimp only; omega))).trans (Below.heap_setCell _ _ _ _ (by dsimp only; omega))
      have y2 : Box (w4.setCell ⟨w.heap.size + 1 + 1, 0, none⟩ (.slice (some ⟨g, 0, none⟩) (j + 1) cap)) (w.heap.size + 1) _ _ := z2.other (by dsimp only; omega) _
      have y3 : Box (w4.setCell ⟨w.heap.size + 1 + 1, 0, none⟩ (.slice (some ⟨g, 0, none⟩) (j + 1) cap)) (w.heap.size + 1 + 1) 118 #[.slice (some ⟨g, 0, none⟩) (j + 1) cap, .int .i64 (wrap64 (s + 1))] := by simpa using z3.setAt 0 (.slice (some ⟨g, 0, none⟩) (j + 1) cap)
      have hrl : RXL (fun b => b < w.heap.size) (((w4.setCell ⟨w.heap.size + 1 + 1, 0, none⟩ (.slice (some ⟨g, 0, none⟩) (j + 1) cap)).setCell ⟨w.heap.size + 1, 0, none⟩ (.slice (some ⟨g, 0, none⟩) (j + 1) cap)).setCell ⟨w.heap.size + 1, 1, none⟩ (.int .i64 (wrap64 (s + 1)))) (rndX M) (some ⟨g, 0, none⟩) (j + 1) cap := by
        rw [List.take_of_length_le (by rw [List.length_map, HN.out]; exact Nat.le_refl _)] at hrow
        exact ((hrow.move (fun b _ hb => hset b (by omega)) (fun g' hg' => by have := (hrow.lt hg').1; omega)).rxl (fun b hb => hb)).mono fun b _ hb => by omega
      have HRL := Lib.hid hrl
      have HBB : Hid (Below w.heap.size w (((w4.setCell ⟨w.heap.size + 1 + 1, 0, none⟩ (.slice (some ⟨g, 0, none⟩) (j + 1) cap)).setCell ⟨w.heap.size + 1, 0, none⟩ (.slice (some ⟨g, 0, none⟩) (j + 1) cap)).setCell ⟨w.heap.size + 1, 1, none⟩ (.int .i64 (wrap64 (s + 1))))) := Lib.hid ((((hbr.trans (hb4.mono (by omega))).setCell (by dsimp only; omega) _).setCell (by dsimp only; omega) _).setCell (by dsimp only; omega) _)
      obtain ⟨r0, r1⟩ := y2.two
      obtain ⟨t0, t1⟩ := y3.two
      have f0 := y2.frozen 0
      have f1 := y2.frozen 1
      clear hrow hold hb4 nb hset hrl
      go_wp2_with (at_builtin; refine Lib.wpList_append_run _ rfl _ _ _ _ rfl _ _ rfl rfl _ _ hrun ?_)
      refine bodyPost_ret (v := .agg #[.slice (some ⟨g, 0, none⟩) (j + 1) cap, .int .i64 (wrap64 (s + 1))]) (by simp [results, Tryz.results129, go_sem, r0, r1]) rfl ?_
      exact ⟨_, _, _, rfl, HRL.out, HBB.out⟩
end Go.Proofs.YtloeainlpcnhnaaGreat
/-
  How the document's own apply and spine of layer 3 end. No statement is proved here.
-/
namespace Go.Proofs.YtloeainlpcnhnaaGreat
open Go.ChangeShapes Go.WideShapes Go.ChangeAt Go.RowKit
set_option linter.unusedVariables false
/-- how the document's apply and spine end -/
def QEnd (pw : Nat) (X : Nat → Prop) (w : World) (r : Res) (e : Ending) (w' : World) : Prop :=
  ∃ k h A n c, e = .returned (.agg #[.int .i64 k, .int .i64 h, .slice A n c]) ∧ Fr (fun k => k = pw) w w' ∧
    match r with
    | .ok (t, m) => RX X w' t (.agg #[.int .i64 k, .int .i64 h, .slice A n c]) ∧ wk2 w' pw m 0
    | .error ec => ec ≠ 0 ∧ (∃ m, wk2 w' pw m ec) ∧ Value.agg #[.int .i64 k, .int .i64 h, .slice A n c] = zT
def QpC (f : Nat) : Prop := ∀ (L : List T) (sh : Int) (u : Nat) (t : T) (n : Nat) (v : Value) (w : World) (pw : Nat) (X : Nat → Prop) (A : Option Addr) (m c : Nat),
  40001 ≤ n + f → u ≤ n → n ≤ 40000 → L.length ≤ 1000000 → Sub (bt n) L sh → Way (bt n - sh) t → nd t ≤ 200000000 → X pw → (∀ b, X b → b < w.heap.size) → wk2 w pw n 0 → RXL X w (unN u L) A m c → RX X w t v →
  Calls Tryz.prog 112 #[.pointer (some ⟨pw, 0, none⟩), v, .agg #[.slice A m c, .int .i64 (sh + u)]] w (QEnd pw X w (ap f L sh u t n))
def QsC (f : Nat) : Prop := ∀ (t : T) (args : List T) (n : Nat) (v : Value) (A : Option Addr) (m c : Nat) (w : World) (pw : Nat) (X : Nat → Prop),
  40001 ≤ n + f → n ≤ 40000 → Way (bt n) t → WayL (bt n) args → nd t ≤ 200000000 → ndL args ≤ 200000000 → X pw → (∀ b, X b → b < w.heap.size) → wk2 w pw n 0 → RX X w t v → RXL X w args A m c →
  Calls Tryz.prog 130 #[.pointer (some ⟨pw, 0, none⟩), v, .slice A m c] w (QEnd pw X w (sp f t args n))
end Go.Proofs.YtloeainlpcnhnaaGreat
/-
  Contract of the document's own apply of layer 3, given that of its spine and of itself with less fuel. No statement is proved here.
-/
namespace Go.Proofs.YtloeainlpcnhnaaGreat
open Go.ChangeShapes Go.WideShapes Go.ChangeAt Go.RowKit
set_option linter.unusedVariables false
abbrev X3 (X : Nat → Prop) (w : World) (b : Nat) : Prop := X b ∨ b = w.heap.size ∨ b = w.heap.size + 1 ∨ b = w.heap.size + 2
abbrev Xr (X : Nat → Prop) (w wr : World) (b : Nat) : Prop := X b ∨ (w.heap.size ≤ b ∧ b < wr.heap.size)
/-- what an answer is -/
def QRz (pw : Nat) (X : Nat → Prop) (w' : World) (k h : Int) (A : Option Addr) (n c : Nat) (r : Res) : Prop :=
  match r with
  | .ok (t, m) => RX X w' t (.agg #[.int .i64 k, .int .i64 h, .slice A n c]) ∧ wk2 w' pw m 0
  | .error ec => ec ≠ 0 ∧ (∃ m, wk2 w' pw m ec) ∧ Value.agg #[.int .i64 k, .int .i64 h, .slice A n c] = zT
theorem QRz.keep {pw : Nat} {X : Nat → Prop} {w w' : World} {k h : Int} {A : Option Addr} {n c : Nat} {r : Res} (q : QRz pw X w k h A n c r) (hb : Below w.heap.size w w') : QRz pw X w' k h A n c r := by
  cases r with
  | error ec =>
    obtain ⟨h1, ⟨m, h2⟩, h3⟩ := q
    exact ⟨h1, ⟨m, h2.keep hb h2.lt⟩, h3⟩
  | ok p =>
    obtain ⟨t, m⟩ := p
    exact ⟨RX.adv q.1 (Adv.below hb), q.2.keep hb q.2.lt⟩
theorem QRz.mono {pw : Nat} {X Y : Nat → Prop} {w : World} {k h : Int} {A : Option Addr} {n c : Nat} {r : Res} (q : QRz pw X w k h A n c r) (hy : ∀ i, i < w.heap.size → Y i → X i) : QRz pw Y w k h A n c r := by
  cases r with
  | error ec => exact q
  | ok p =>
    obtain ⟨t, m⟩ := p
    exact ⟨RX.mono q.1 hy, q.2⟩
theorem Fr.thenB {X : Nat → Prop} {a b c : World} {B : Nat} (h : Fr X a b) (k : Below B b c) (hB : a.heap.size ≤ B) : Fr X a c :=
  ⟨k.os.trans h.os, k.tape.trans h.tape, k.output.trans h.output, Nat.le_trans h.size k.size, fun i hi hx => (k.block i (by omega)).trans (h.block i hi hx)⟩
/-- what holds at the head of apply's loop -/
structure RaI (f : Nat) (L : List T) (sh : Int) (u : Nat) (k h : Int) (xs : List T) (n0 : Nat) (An : Option Addr) (nn cc : Nat) (w : World) (pw : Nat) (X : Nat → Prop) (A : Option Addr) (m c j : Nat) (wr : World) (v : Value) (cs : List Value) (ys : List T) (n1 : Nat) : Prop where
  tb : Box wr w.heap.size 44 #[.int .i64 k, .int .i64 h, .slice An nn cc]
  sb : Box wr (w.heap.size + 1) 118 #[.slice A m c, .int .i64 (sh + u)]
  res : Box wr (w.heap.size + 2) 44 #[.int .i64 0, .int .i64 0, .slice none 0 0]
  row : GRow (X3 X w) wr (w.heap.size + 3) v j cs ys
  fr : Fr (fun k => k = pw) w wr
  wk : wk2 wr pw n1 0
  lo : n0 ≤ n1
  hi : n1 ≤ 40000
  eq : apL (fun u' x m => ap f L sh u' x m) k xs.length u xs 0 n0 = contL ys (apL (fun u' x m => ap f L sh u' x m) k xs.length u (xs.drop j) j n1)
/-- what a round of apply reads -/
def SAp (z bA oA j nn cc p : Nat) (k2 h2 : Int) (A2 : Option Addr) (n2 c2 : Nat) (B2 : Option Addr) (m2 d2 : Nat) (s2 : Int) (w' : World) : Prop :=
  w'.cell? ⟨z, 2, none⟩ = some (.slice (some ⟨bA, oA, none⟩) nn cc) ∧ w'.cell? ⟨bA, oA + j * 3, none⟩ = some (.int .i64 k2) ∧ w'.cell? ⟨bA, oA + j * 3 + 1, none⟩ = some (.int .i64 h2) ∧ w'.cell? ⟨bA, oA + j * 3 + 2, none⟩ = some (.slice A2 n2 c2) ∧
    w'.cell? ⟨p, 0, none⟩ = some (.slice B2 m2 d2) ∧ w'.cell? ⟨p, 1, none⟩ = some (.int .i64 s2)
theorem apL_cons {A : Nat → T → Nat → Res} {k : Int} {m u i n : Nat} {x : T} {xs : List T} : apL A k m u (x :: xs) i n = match A (u + bdn k m i) x n with
    | .error e => .error e
    | .ok (y, n') => contL [y] (apL A k m u xs (i + 1) n') := by
  rw [apL]
  cases A (u + bdn k m i) x n with
  | error e => rfl
  | ok p =>
    obtain ⟨y, n'⟩ := p
    simp only
    cases apL A k m u xs (i + 1) n' with
    | error e => rfl
    | ok q => obtain ⟨ys, n''⟩ := q; rfl
theorem ap_step {f : Nat} {L : List T} {sh k h : Int} {u n : Nat} {xs : List T} (hmax : ¬ 40000 < n + 1) :
    (∀ e, apL (fun u' x m => ap f L sh u' x m) k xs.length u xs 0 (n + 1) = .error e → ap (f + 1) L sh u (.node k h xs) n = .error e) ∧
    (∀ args n1, apL (fun u' x m => ap f L sh u' x m) k xs.length u xs 0 (n + 1) = .ok (args, n1) → ap (f + 1) L sh u (.node k h xs) n = if k = 4 ∧ (u : Int) ≤ h then spL (fun a x m => ap f [a] 0 0 x m) (mpT L sh (h - u) u) args n1 else .ok (.node k h args, n1)) :=
  ⟨fun e he => by rw [ap, if_neg hmax, he], fun args n1 he => by rw [ap, if_neg hmax, he]⟩
theorem contL_contL (ys zs : List T) (r : Except Int (List T × Nat)) : contL ys (contL zs r) = contL (ys ++ zs) r := by
  cases r with
  | error e => rfl
  | ok p => obtain ⟨qs, m⟩ := p; simp [contL]
set_option maxRecDepth 100000 in
set_option maxHeartbeats 16000000 in
theorem rapplyC {f : Nat} (hA : QpC f) (hSP : QsC f) : QpC (f + 1) := by
  intro L sh u t n v w pw X A m c hf hu hn hL6 hs ht hnt hX hbn hwk hrl hv
  obtain ⟨k, h, xs⟩ := t
  have hv' := hv
  obtain ⟨An, nn, cc, rfl, wfk, wfh, hl, hnc, hcm, hxs⟩ := RdF_node.1 hv
  clear hv
  have hMM := hcm
  unfold maxLen at hcm
  have hnn : nn ≤ 200000000 := by rw [nd] at hnt; have := (wdL_nd xs).2; omega
  have lpw := hwk.lt
  have hsut := su_un hs hu hn
  have hsg := hs.lo
  have hsh := hs.hi
  have hheads : k = 4 → 0 ≤ h ∧ h ≤ bt n - sh := fun e => by have := ht.ok; rw [okT] at this; exact this.1 e
  have hbt : bt n = 562949953421312 + n * 1048576 := rfl
  have HBT := Lib.hid hbt; clear hbt
  have HF := Lib.hid hf; clear hf
  have HX := Lib.hid hX; clear hX
  have HBN := Lib.hid hbn; clear hbn
  have HAP := Lib.hid hA; clear hA
  have HSPC := Lib.hid hSP; clear hSP
  have HRL := Lib.hid hrl; clear hrl
  have HV := Lib.hid hv'; clear hv'
  have HXS := Lib.hid hxs; clear hxs
  have HN := Lib.hid hl; clear hl
  have HS := Lib.hid hs; clear hs
  have HT := Lib.hid ht; clear ht
  have HND := Lib.hid hnt; clear hnt
  have HL6 := Lib.hid hL6; clear hL6
  have HSU := Lib.hid hsut; clear hsut
  have HHD := Lib.hid hheads; clear hheads
  have HWF := Lib.hid (And.intro wfk wfh); clear wfk wfh
  obtain ⟨q0, q9⟩ := hwk.two
  have q1 := hwk.frozen 0
  obtain ⟨W, hW⟩ : ∃ W, (((w.setCell ⟨pw, 0, none⟩ (.int .i64 ((n : Int) + 1))).alloc (.cells #[.int .i64 k, .int .i64 h, .slice An nn cc] 44)).alloc (.cells #[.slice A m c, .int .i64 (sh + u)] 118)).alloc (.cells #[.int .i64 0, .int .i64 0, .slice none 0 0] 44) = W := ⟨_, rfl⟩
  have sz : (w.setCell ⟨pw, 0, none⟩ (.int .i64 ((n : Int) + 1))).heap.size = w.heap.size := by simp [World.setCell]
  have hb : Below w.heap.size (w.setCell ⟨pw, 0, none⟩ (.int .i64 ((n : Int) + 1))) W := by rw [← hW]; exact (((Below.refl _ _).alloc (by omega) _).alloc (by simp) _).alloc (by simp; omega) _
  have x0 : Box W w.heap.size 44 #[.int .i64 k, .int .i64 h, .slice An nn cc] := by rw [← hW]; exact (((Box.new _ _ _).at (by omega)).alloc _).alloc _
  have x1 : Box W (w.heap.size + 1) 118 #[.slice A m c, .int .i64 (sh + u)] := by rw [← hW]; exact ((Box.new _ _ _).at (by simp [sz])).alloc _
  have x2 : Box W (w.heap.size + 2) 44 #[.int .i64 0, .int .i64 0, .slice none 0 0] := by rw [← hW]; exact (Box.new _ _ _).at (by simp [sz])
  have xw : wk2 W pw (n + 1) 0 := hwk.count.keep hb (by omega)
  have hfrW : Fr (fun k => k = pw) w W := by
    refine ⟨hb.os, hb.tape, hb.output, by have := hb.size; omega, fun i hi e => (hb.block i hi).trans (Below.heap_setCell _ _ _ _ e)⟩
  have HW := Lib.hid hW; clear hW sz hb hwk
  have lpw1 : pw < w.heap.size + 1 := by omega
  have lpw2 : pw < w.heap.size + 1 + 1 := by omega
  by_cases hmax : 40000 < n + 1
  · have heq : ap (f + 1) L sh u (.node k h xs) n = .error 4 := by rw [ap, if_pos hmax]
    have HE := Lib.hid heq; clear heq
    have hd : decide ((40000 : Int) < (n : Int) + 1) = true := by simp; omega
    go_enter Tryz.func112, Tryz.ntmps112
    go_wp2_with fail
    rw [HW.out]
    clear HW
    refine (rfailC pw (n + 1) 4 W xw).mono ?_
    rintro e w2 ⟨rfl, hfr, zw2⟩
    have y1 := x2.fr hfr (by omega)
    have HFR2 := Lib.hid (hfrW.trans hfr fun i _ e => e)
    obtain ⟨r0, r1, r2⟩ := y1.three
    have f0 := y1.frozen 0
    have f1 := y1.frozen 1
    have f2 := y1.frozen 2
    clear hfr y1 q0 q1 q9 x0 x1 x2 xw hfrW
    have HZ := Lib.hid zw2; clear zw2
    go_wp2_with fail
    refine bodyPost_ret (v := zT) (by simp [results, Tryz.results112, go_sem, r0, r1, r2]) rfl ?_
    rw [HE.out]
    exact ⟨_, _, _, _, _, rfl, HFR2.out.set3 (fun h => by omega) _ _ _, by omega, ⟨n + 1, HZ.out.other3 (by omega) _ _ _⟩, rfl⟩
  · have hd : decide ((40000 : Int) < (n : Int) + 1) = false := by simp; omega
    have HI : Hid (RaI f L sh u k h xs (n + 1) An nn cc w pw X A m c 0 W (.slice none 0 0) [] [] (n + 1)) := Lib.hid ⟨x0, x1, x2, GRow.nil _ _ _, hfrW, xw, Nat.le_refl _, by omega, by rw [contL_nil, List.drop_zero]⟩
    have heq := ap_step (f := f) (L := L) (sh := sh) (u := u) (k := k) (h := h) (xs := xs) hmax
    have HE := Lib.hid heq; clear heq
    clear x0 x1 x2 xw hfrW
    go_enter Tryz.func112, Tryz.ntmps112
    go_wp2_with fail
    rw [HW.out]
    clear HW q0 q1 q9 hd
    go_loopw [7, 8] (fun v i wr => ∃ (j : Nat) (Av : Option Addr) (cv : Nat) (cs : List Value) (ys : List T) (n1 : Nat), j ≤ nn ∧ i = .int .i64 j ∧ v = .slice Av j cv ∧ Hid (RaI f L sh u k h xs (n + 1) An nn cc w pw X A m c j wr (.slice Av j cv) cs ys n1)) (fun _ i _ => nn - (intOf i).toNat)
    case atStart => exact ⟨0, none, 0, [], [], n + 1, Nat.zero_le _, rfl, rfl, HI⟩
    case round =>
      clear HI
      obtain ⟨j, Av, cv, cs, ys, n1, hj, rfl, rfl, HI⟩ := hrel
      obtain ⟨c0, c1, c2⟩ := HI.out.tb.three
      obtain ⟨d0, d1⟩ := HI.out.sb.two
      have l0 := HI.out.tb.lt
      have l1 := HI.out.sb.lt
      have l2 := HI.out.res.lt
      have lw := HI.out.wk.lt
      by_cases hlt : j < nn
      · obtain ⟨t, ht⟩ := at_of HN.out hlt
        obtain ⟨bA, oA, k2, h2, A2, n2, c2', rfl, e0, e1, e2, hr⟩ := (HXS.out j t ht).full
        have hbA : ¬ X bA := by
          obtain ⟨b', o', _, _, _, e, hb', _⟩ := HXS.out j t ht
          injection e with e; injection e with e3 e4
          rw [e3]; exact hb'
        have hbApw : bA ≠ pw := fun e => hbA (e ▸ HX.out)
        have lA := cell_lt e0
        dsimp only at lA
        have hmA : ∀ q, wr.cell? ⟨bA, q, none⟩ = w.cell? ⟨bA, q, none⟩ := fun q => World.cell?_of_block (HI.out.fr.block bA lA hbApw)
        replace e0 := (hmA _).trans e0
        replace e1 := (hmA _).trans e1
        replace e2 := (hmA _).trans e2
        clear hmA
        have lA2 : bA < wr.heap.size := Nat.lt_of_lt_of_le lA HI.out.fr.size
        have HTT := Lib.hid ht; clear ht
        have HR := Lib.hid hr; clear hr
        have hi0 : (0 : Int) ≤ j := by omega
        have hi1 : (j : Int) < nn := by omega
        have lo1 := HI.out.lo
        have hi4 := HI.out.hi
        have szr := HI.out.fr.size
        go_wp2_with fail
        obtain ⟨Wb, hWb⟩ : ∃ Wb, wr.alloc (.cells #[.slice A m c, .int .i64 (sh + u)] 118) = Wb := ⟨_, rfl⟩
        have hbb : Below wr.heap.size wr Wb := by rw [← hWb]; exact (Below.refl _ _).alloc (Nat.le_refl _) _
        have xb : Box Wb wr.heap.size 118 #[.slice A m c, .int .i64 (sh + u)] := by rw [← hWb]; exact Box.new _ _ _
        rw [hWb]
        clear hWb
        have hBI := refBinds k h (some ⟨bA, oA, none⟩) nn cc hnc hMM j (by unfold maxLen; omega) Wb
        refine hBI.mono ?_
        clear hBI
        rintro e w1 ⟨rfl, hb1⟩
        replace xb := xb.keep hb1 xb.lt
        replace hbb := hbb.trans (hb1.mono hbb.size)
        clear hb1 c0 c1 c2 d0 d1
        have hbd := bd_bdn k nn j
        have hbl := bdn_le k nn j
        have y0 := HI.out.tb.keep hbb l0
        have y1 := HI.out.sb.keep hbb l1
        obtain ⟨c0, c1, c2⟩ := y0.three
        obtain ⟨d0, d1⟩ := y1.two
        have HRLb := HRL.out.adv (Adv.fr (X := X) HI.out.fr (fun i _ e => by subst e; exact HX.out))
        have hcase : bdn k nn j = 0 ∨ bdn k nn j = 1 := by omega
        obtain ⟨u2, hu2⟩ : ∃ u2, u2 = u + bdn k nn j := ⟨_, rfl⟩
        have HU2 := Lib.hid hu2; clear hu2
        rcases hcase with hz | hz
        focus
          rw [hbd, hz]
          obtain ⟨W2, hW2⟩ : ∃ W2, W2 = w1 := ⟨_, rfl⟩
          obtain ⟨s2, hs2⟩ : ∃ s2 : Int, s2 = sh + u := ⟨_, rfl⟩
          have HS2 : Hid (s2 = sh + (u2 : Int)) := Lib.hid (by rw [hs2, HU2.out, hz, Nat.add_zero])
          obtain ⟨B2, m2, d2, hB2⟩ : ∃ B2 m2 d2, B2 = A ∧ m2 = m ∧ d2 = c := ⟨_, _, _, rfl, rfl, rfl⟩
          have HRL2 : Hid (RXL (Xr X w wr) W2 (unN u2 L) B2 m2 d2) := Lib.hid (by
            have e9 : unN u2 L = unN u L := by rw [HU2.out, hz, Nat.add_zero]
            rw [e9, hW2, hB2.1, hB2.2.1, hB2.2.2]
            refine ⟨HRL.out.len, HRL.out.le, HRL.out.cap, fun i x hx => RdFAt.moveX (w := w) (fun b hb hl => ⟨fun e => ?_, ?_⟩) (HRL.out.at_ i x hx)⟩
            · rcases e with e | e
              · exact hb e
              · omega
            · exact (hbb.block b (by omega)).trans (HI.out.fr.block b hl (fun e => hb (e ▸ HX.out))))
          rw [← hs2] at xb
          rw [← hB2.1, ← hB2.2.1, ← hB2.2.2, ← hW2] at xb
          rw [← hW2] at hbb y0 y1 c0 c1 c2 d0 d1 ⊢
          obtain ⟨b0, b1⟩ := xb.two
          have lxb := xb.lt
          clear hz hbd hbl hW2 hs2 hB2 HRLb
          simp only [Int.natCast_zero]
          go_wp2_with fail
        rotate_left 1
        focus
          rw [hbd, hz]
          obtain ⟨b0, b1⟩ := xb.two
          have g0 := xb.frozen 0
          have g1 := xb.frozen 1
          have lxb := xb.lt
          have hrx := HRLb.adv (Adv.below (X := X) hbb)
          have hU := runderC (M := unN u L) (A := A) (n := m) (c := c) (s := sh + u) (w := w1) hrx.len hrx.le hrx.cap (fun i x hx => rdFAt_rd (hrx.at_ i x hx)) (fun x hx => by have := (HSU.out.all x hx).2.2; omega) (by have h1 := hrx.len; have h2 := HL6.out; rw [unN_len] at h1; omega)
          rw [rnd_un HSU.out, unN_succ, wrap_small (by omega) (by omega)] at hU
          have HUN := Lib.hid hU; clear hU hrx HRLb
          go_wp2_with fail
          refine HUN.out.mono ?_
          clear HUN
          rintro e w2 ⟨B2, m2, d2, rfl, hrl2, hb2⟩
          obtain ⟨s2, hs2⟩ : ∃ s2 : Int, s2 = sh + u + 1 := ⟨_, rfl⟩
          rw [← hs2]
          have HS2 : Hid (s2 = sh + (u2 : Int)) := Lib.hid (by rw [hs2, HU2.out, hz]; omega)
          clear hs2
          replace xb := xb.keep hb2 lxb
          have hbs := hbb.trans (hb2.mono hbb.size)
          obtain ⟨W2, hW2⟩ : ∃ W2, W2 = (w2.setCell ⟨wr.heap.size, 0, none⟩ (.slice B2 m2 d2)).setCell ⟨wr.heap.size, 1, none⟩ (.int .i64 s2) := ⟨_, rfl⟩
          have hW2b : ∀ b, b ≠ wr.heap.size → W2.heap[b]? = w2.heap[b]? := fun b hb => by rw [hW2]; exact (Below.heap_setCell _ _ _ _ hb).trans (Below.heap_setCell _ _ _ _ hb)
          have hW2s : W2.heap.size = w2.heap.size := by rw [hW2]; simp [World.setCell]
          have HRL2 : Hid (RXL (Xr X w wr) W2 (unN u2 L) B2 m2 d2) := Lib.hid (by
            have e9 : unN u2 L = unN (u + 1) L := by rw [HU2.out, hz]
            rw [e9]
            refine ⟨hrl2.len, hrl2.le, hrl2.cap, fun i x hx => RdFAt.moveX (w := w2) (fun b hb hl => ⟨fun e => ?_, ?_⟩) (hrl2.at_ i x hx)⟩
            · have := hbb.size
              rcases e with e | e
              · have := HBN.out b e; omega
              · omega
            · exact hW2b b (fun e => hb (by omega)))
          have xb2 : Box W2 wr.heap.size 118 #[.slice B2 m2 d2, .int .i64 s2] := by rw [hW2]; exact xb.put2 _ _
          have hbb2 : Below wr.heap.size wr W2 := by rw [hW2]; exact (hbs.setCell (Nat.le_refl _) _).setCell (Nat.le_refl _) _
          clear c0 c1 c2 d0 d1 b0 b1 g0 g1 y0 y1
          have y0 := HI.out.tb.keep hbs l0
          have y1 := HI.out.sb.keep hbs l1
          obtain ⟨b0, b1⟩ := xb.two
          have g0 := xb.frozen 0
          have g1 := xb.frozen 1
          replace lxb := xb.lt
          clear hrl2 hb2 hbs hz hbd hbl
          have HW2 := Lib.hid hW2; clear hW2
          go_wp2_with fail
          rw [← HW2.out]
          clear hbb xb b0 b1 g0 g1 lxb y0 y1
          have hbb := hbb2
          have xb := xb2
          have lxb := xb.lt
          clear hbb2 xb2 HW2 hW2b hW2s
          obtain ⟨b0, b1⟩ := xb.two
          have y0 := HI.out.tb.keep hbb l0
          have y1 := HI.out.sb.keep hbb l1
          obtain ⟨c0, c1, c2⟩ := y0.three
          obtain ⟨d0, d1⟩ := y1.two
        rotate_left 1
        all_goals
          have HKS : Hid (∀ w' : World, (∀ g, g < W2.heap.size → g ≠ pw → w'.heap[g]? = W2.heap[g]?) → SAp w.heap.size bA oA j nn cc wr.heap.size k2 h2 A2 n2 c2' B2 m2 d2 s2 w') := Lib.hid fun w' hw' => by
            have szb := hbb.size
            have m1 : ∀ q, w'.cell? ⟨w.heap.size, q, none⟩ = W2.cell? ⟨w.heap.size, q, none⟩ := fun q => World.cell?_of_block (hw' w.heap.size (by omega) (by omega))
            have mB : ∀ q, w'.cell? ⟨wr.heap.size, q, none⟩ = W2.cell? ⟨wr.heap.size, q, none⟩ := fun q => World.cell?_of_block (hw' wr.heap.size lxb (by omega))
            have mA : ∀ q, w'.cell? ⟨bA, q, none⟩ = wr.cell? ⟨bA, q, none⟩ := fun q => (World.cell?_of_block (hw' bA (by omega) hbApw)).trans (World.cell?_of_block (hbb.block bA lA2))
            exact ⟨(m1 _).trans c2, (mA _).trans e0, (mA _).trans e1, (mA _).trans e2, (mB _).trans b0, (mB _).trans b1⟩
          have hS := HKS.out W2.drew fun g hg _ => rfl
          have HCALL : Hid (∀ (W' : World) (Xe : Nat → Prop), Below W2.heap.size W2 W' → (∀ b, Xe b → W2.heap.size ≤ b ∧ b < W'.heap.size) → Calls Tryz.prog 112 #[.pointer (some ⟨pw, 0, none⟩), .agg #[.int .i64 k2, .int .i64 h2, .slice A2 n2 c2'], .agg #[.slice B2 m2 d2, .int .i64 s2]] W' (fun e w' => QEnd pw (fun b => Xr X w wr b ∨ Xe b) W' (ap f L sh u2 t n1) e w' ∧ Fr (fun k => k = pw) W2 w')) := Lib.hid fun W' Xe hW' hXe => by
            have szb := hbb.size
            have szw := hW'.size
            have hbu := bdn_le k nn j
            have hu2 := HU2.out
            rw [HS2.out]
            have h9 := HAP.out L sh u2 t n1 (.agg #[.int .i64 k2, .int .i64 h2, .slice A2 n2 c2']) W' pw (fun b => Xr X w wr b ∨ Xe b) B2 m2 d2 (by have := HF.out; omega) (by omega) hi4 HL6.out (HS.out.mono (bt_mono (by omega))) ((HT.out.args (List.mem_of_getElem? HTT.out)).mono (by have := bt_mono (show n ≤ n1 by omega); omega)) (by have h1 := HND.out; rw [nd] at h1; have := nd_mem (List.mem_of_getElem? HTT.out); omega)
              (.inl (.inl HX.out)) (fun b e => by
                rcases e with (e | e) | e
                · have := HBN.out b e; omega
                · omega
                · exact (hXe b e).2) ((HI.out.wk.keep hbb lw).keep hW' (by omega)) ⟨HRL2.out.len, HRL2.out.le, HRL2.out.cap, fun i x hx => RdFAt.moveX (w := W2) (fun b hb hl => ⟨fun e => by
                  rcases e with e | e
                  · exact hb e
                  · have := (hXe b e).1; omega, hW'.block b hl⟩) (HRL2.out.at_ i x hx)⟩ (RdF.moveX (w := w) (fun b hb hl => ⟨fun e => by
                  rcases e with (e | e) | e
                  · exact hb e
                  · omega
                  · have := (hXe b e).1; omega, ((hW'.block b (by omega)).trans (hbb.block b (by omega))).trans (HI.out.fr.block b hl (fun e => hb (e ▸ HX.out)))⟩) _ _ HR.out)
            refine h9.mono fun e w' q => ⟨q, ?_⟩
            obtain ⟨_, _, _, _, _, _, hfr, _⟩ := q
            exact (Fr.below (X := fun k => k = pw) hW').trans hfr fun i _ e => e
          clear b0 b1 c0 c1 c2 d0 d1 e0 e1 e2 HRL2 HR
          refine wp_region_cut rfl (by kernel_rfl) (by kernel_rfl) ?_
          refine wpAny_of_held (S := SAp w.heap.size bA oA j nn cc wr.heap.size k2 h2 A2 n2 c2' B2 m2 d2 s2) _ _ _ _ ?_
          simp only [List.pop_toArray, List.dropLast, List.size_toArray, List.length_cons, List.length_nil, Nat.reduceAdd, Nat.reduceSub]
          refine wpAnyH_take (i := 0) (v := .pointer (some ⟨pw, 0, none⟩)) rfl (by kernel_rfl) (by kernel_rfl) (by kernel_rfl) (fun _ _ _ h => h) (Or.inl ⟨by rfl, ?_⟩) hS ?_
          · intro w' hSw
            obtain ⟨s0, s1, s2, s3, s4, s5⟩ := hSw
            go_simp
          simp only [Act.put, List.setIfInBounds_toArray]
          refine wpAnyH_take (i := 1) (v := .pointer (some ⟨w.heap.size, 2, none⟩)) rfl (by kernel_rfl) (by kernel_rfl) (by kernel_rfl) (fun _ _ _ h => h) (Or.inl ⟨by rfl, ?_⟩) hS ?_
          · intro w' hSw
            obtain ⟨s0, s1, s2, s3, s4, s5⟩ := hSw
            go_simp
          simp only [Act.put]
          refine wpAnyH_take (i := 2) (v := .slice (some ⟨bA, oA, none⟩) nn cc) rfl (by kernel_rfl) (by kernel_rfl) (by kernel_rfl) (fun _ _ _ h => h) (Or.inl ⟨by rfl, ?_⟩) hS ?_
          · intro w' hSw
            obtain ⟨s0, s1, s2, s3, s4, s5⟩ := hSw
            go_simp
          simp only [Act.put]
          refine wpAnyH_take (i := 3) (v := .int .i64 j) rfl (by kernel_rfl) (by kernel_rfl) (by kernel_rfl) (fun _ _ _ h => h) (Or.inl ⟨by rfl, ?_⟩) hS ?_
          · intro w' hSw
            obtain ⟨s0, s1, s2, s3, s4, s5⟩ := hSw
            go_simp
          simp only [Act.put]
          refine wpAnyH_take (i := 4) (v := .pointer (some ⟨bA, oA + j * 3, none⟩)) rfl (by kernel_rfl) (by kernel_rfl) (by kernel_rfl) (fun _ _ _ h => h) (Or.inl ⟨by rfl, ?_⟩) hS ?_
          · intro w' hSw
            obtain ⟨s0, s1, s2, s3, s4, s5⟩ := hSw
            go_simp
          simp only [Act.put]
          refine wpAnyH_take (i := 5) (v := .agg #[.int .i64 k2, .int .i64 h2, .slice A2 n2 c2']) rfl (by kernel_rfl) (by kernel_rfl) (by kernel_rfl) (fun _ _ _ h => h) (Or.inl ⟨by rfl, ?_⟩) hS ?_
          · intro w' hSw
            obtain ⟨s0, s1, s2, s3, s4, s5⟩ := hSw
            go_simp
          simp only [Act.put]
          refine wpAnyH_take (i := 6) (v := .agg #[.slice B2 m2 d2, .int .i64 s2]) rfl (by kernel_rfl) (by kernel_rfl) (by kernel_rfl) (fun _ _ _ h => h) (Or.inl ⟨by rfl, ?_⟩) hS ?_
          · intro w' hSw
            obtain ⟨s0, s1, s2, s3, s4, s5⟩ := hSw
            go_simp
          simp only [Act.put]
          refine wpAnyH_ready (rs := [7, 8]) (by kernel_rfl) (by simp) ?_
          refine AllReadyH.cons rfl (fun K hK => ?_) (AllReadyH.cons rfl (fun K hK => ?_) AllReadyH.nil)
          focus
            go_simp
            refine (HCALL.out W2.drew (fun _ => False) (Below.refl _ W2).drew (fun b e => e.elim)).mono ?_
            rintro e w9 ⟨⟨k3, h3, A3, n3, c3, rfl, hfr, hcs⟩, hfw⟩
            refine hK.out _ _ (HKS.out w9 fun g hg hne => hfw.block g hg hne) (fun hS => ?_)
            clear hK K
            try simp only [Act.put, List.setIfInBounds_toArray, List.set_cons_zero, List.set_cons_succ]
            refine wpAnyH_ready (rs := [8]) (by kernel_rfl) (by simp) ?_
            refine AllReadyH.cons rfl (fun K hK => ?_) AllReadyH.nil
            go_simp
            have hbD : Below w9.heap.size w9 (w9.alloc (.cells #[.int .i64 0, .int .i64 0, .slice none 0 0] 44)) := (Below.refl _ _).alloc (Nat.le_refl _) _
            have hfw2 := hfw.then hbD
            refine hK.out _ _ (HKS.out (w9.alloc (.cells #[.int .i64 0, .int .i64 0, .slice none 0 0] 44)) fun g hg hne => hfw2.block g hg hne) (fun hS => ?_)
            clear hK K
            try simp only [Act.put, List.setIfInBounds_toArray, List.set_cons_zero, List.set_cons_succ]
            refine wpAnyH_done (by kernel_rfl) ?_ _
            show wpList _ _ _ _ _ _
            obtain ⟨W9, hW9⟩ : ∃ W9, w9.alloc (.cells #[.int .i64 0, .int .i64 0, .slice none 0 0] 44) = W9 := ⟨_, rfl⟩
            obtain ⟨p9, hp9⟩ : ∃ p9, w9.heap.size = p9 := ⟨_, rfl⟩
            have z9 : Box W9 p9 44 #[.int .i64 0, .int .i64 0, .slice none 0 0] := by rw [← hW9, ← hp9]; exact Box.new _ _ _
            have hp2 : W2.heap.size ≤ p9 := by rw [← hp9]; exact hfw.size
            have q8 : QRz pw (fun b => Xr X w wr b ∨ False) w9 k3 h3 A3 n3 c3 (ap f L sh u2 t n1) := hcs
            have q9 : QRz pw (fun b => Xr X w wr b ∨ b = p9) (w9.alloc (.cells #[.int .i64 0, .int .i64 0, .slice none 0 0] 44)) k3 h3 A3 n3 c3 (ap f L sh u2 t n1) := (q8.mono (fun i hi e => by
              rcases e with e | e
              · exact .inl e
              · omega)).keep hbD
            clear q8
            rw [hW9] at q9 hfw2
            have HFW := Lib.hid hfw2
            have HQ9 := Lib.hid q9
            rw [hW9, hp9]
            clear hW9 hp9 hfw hfw2 hbD hcs hfr hS q9
          rotate_left 1
          focus
            go_simp
            have hbD : Below W2.heap.size W2 (W2.drew.alloc (.cells #[.int .i64 0, .int .i64 0, .slice none 0 0] 44)) := (Below.refl _ W2).drew.alloc (Nat.le_refl _) _
            have z8 : Box (W2.drew.alloc (.cells #[.int .i64 0, .int .i64 0, .slice none 0 0] 44)) W2.heap.size 44 #[.int .i64 0, .int .i64 0, .slice none 0 0] := Box.new W2.drew _ _
            refine hK.out _ _ (HKS.out (W2.drew.alloc (.cells #[.int .i64 0, .int .i64 0, .slice none 0 0] 44)) fun g hg _ => hbD.block g hg) (fun hS => ?_)
            clear hK K
            try simp only [Act.put, List.setIfInBounds_toArray, List.set_cons_zero, List.set_cons_succ]
            refine wpAnyH_ready (rs := [7]) (by kernel_rfl) (by simp) ?_
            refine AllReadyH.cons rfl (fun K hK => ?_) AllReadyH.nil
            go_simp
            refine (HCALL.out (W2.drew.alloc (.cells #[.int .i64 0, .int .i64 0, .slice none 0 0] 44)) (fun b => b = W2.heap.size) hbD (fun b e => by have := z8.lt; omega)).mono ?_
            rintro e W9 ⟨⟨k3, h3, A3, n3, c3, rfl, hfr, hcs⟩, hfw⟩
            refine hK.out _ _ (HKS.out W9 fun g hg hne => hfw.block g hg hne) (fun hS => ?_)
            clear hK K
            try simp only [Act.put, List.setIfInBounds_toArray, List.set_cons_zero, List.set_cons_succ]
            refine wpAnyH_done (by kernel_rfl) ?_ _
            show wpList _ _ _ _ _ _
            obtain ⟨p9, hp9⟩ : ∃ p9, W2.heap.size = p9 := ⟨_, rfl⟩
            have szb := hbb.size
            have z9 : Box W9 p9 44 #[.int .i64 0, .int .i64 0, .slice none 0 0] := by rw [← hp9]; exact z8.fr hfr (by omega)
            have hp2 : W2.heap.size ≤ p9 := by omega
            have HFW := Lib.hid hfw
            have q9 : QRz pw (fun b => Xr X w wr b ∨ b = p9) W9 k3 h3 A3 n3 c3 (ap f L sh u2 t n1) := by rw [← hp9]; exact hcs
            have HQ9 := Lib.hid q9
            have hp9' : W2.drew.heap.size = p9 := hp9
            rw [hp9]
            clear hp9 hp9' hfw hbD hcs hfr hS q9 z8 szb
          rotate_left 1
          all_goals
            have szb := hbb.size
            have hwr9 : Fr (fun k => k = pw) wr W9 := (Fr.below (X := fun k => k = pw) hbb).trans HFW.out fun i _ e => e
            have HFR9 := Lib.hid (HI.out.fr.trans hwr9 fun i _ e => e)
            have HWR := Lib.hid hwr9
            have z0 := HI.out.tb.fr hwr9 (by omega)
            have z1 := HI.out.sb.fr hwr9 (by omega)
            have z2 := HI.out.res.fr hwr9 (by omega)
            have hrl9 : ∀ g, Value.ownBlock (.slice Av j cv) = some g → w.heap.size + 3 ≤ g ∧ g < wr.heap.size := fun g hg => HI.out.row.lt hg
            have HOB := Lib.hid hrl9; clear hrl9
            have hppw : p9 ≠ pw := by omega
            have hp0 : p9 ≠ w.heap.size := by omega
            have hp1 : p9 ≠ w.heap.size + 1 := by omega
            have hp3 : p9 ≠ w.heap.size + 2 := by omega
            have lz9 := z9.lt
            have lz0 := z0.lt
            have lz2 := z2.lt
            obtain ⟨c0, c1, c2⟩ := z9.three
            have g0 := z9.frozen 0
            have g1 := z9.frozen 1
            have g2 := z9.frozen 2
            clear hwr9 xb y0 y1 lxb
            cases hres : ap f L sh u2 t n1 with
            | error ec =>
              rw [hres] at HQ9
              obtain ⟨hec, ⟨m9, hwk9⟩, hzz⟩ := HQ9.out
              have HZZ := Lib.hid hzz; clear hzz
              have heq : ap (f + 1) L sh u (.node k h xs) n = .error ec := by
                refine HE.out.1 ec ?_
                rw [HI.out.eq, drop_at HTT.out, apL_cons, HN.out, ← HU2.out, hres]
                rfl
              have HEE := Lib.hid heq; clear heq hres
              obtain ⟨k0, k1⟩ := hwk9.two
              have lk := hwk9.lt
              have HK9 := Lib.hid hwk9; clear hwk9
              have hE1 : (ec != 0) = true := by simpa using hec
              obtain ⟨r0, r1, r2⟩ := z2.three
              have f0 := z2.frozen 0
              have f1 := z2.frozen 1
              have f2 := z2.frozen 2
              go_wp2_with fail
              refine bodyPost_ret (v := .agg #[.int .i64 k3, .int .i64 h3, .slice A3 n3 c3]) (by simp [results, Tryz.results112, go_sem, r0, r1, r2]) rfl ?_
              rw [HEE.out]
              exact ⟨_, _, _, _, _, rfl, (HFR9.out.set3 (fun h => by omega) _ _ _).set3 (fun h => by omega) _ _ _, hec, ⟨m9, (HK9.out.other3 (by omega) _ _ _).other3 (by omega) _ _ _⟩, HZZ.out⟩
            | ok q =>
              obtain ⟨y, n4⟩ := q
              rw [hres] at HQ9
              obtain ⟨hry, hwk9⟩ := HQ9.out
              have hgood := ap_good (B := 562949953421312) f L sh u2 t n1 (by have h1 := HU2.out; have h2 := bdn_le k nn j; omega) hi4 (HS.out.mono (bt_mono (by omega))) ((HT.out.args (List.mem_of_getElem? HTT.out)).mono (show bt n - sh ≤ bt n1 - sh by have := bt_mono (show n ≤ n1 by omega); omega)) y n4 hres
              have heq : apL (fun u' x m => ap f L sh u' x m) k xs.length u xs 0 (n + 1) = contL (ys ++ [y]) (apL (fun u' x m => ap f L sh u' x m) k xs.length u (xs.drop (j + 1)) (j + 1) n4) := by
                rw [HI.out.eq, drop_at HTT.out, apL_cons, HN.out, ← HU2.out, hres]
                simp only
                rw [contL_contL]
              have HEE := Lib.hid heq; clear heq hres
              have HGG := Lib.hid hgood; clear hgood
              obtain ⟨k0, k1⟩ := hwk9.two
              have lk := hwk9.lt
              have szs : (((W9.setCell ⟨p9, 0, none⟩ (.int .i64 k3)).setCell ⟨p9, 1, none⟩ (.int .i64 h3)).setCell ⟨p9, 2, none⟩ (.slice A3 n3 c3)).heap.size = W9.heap.size := size_set3 _ _ _ _ _
              have hgs : GRow (X3 X w) (((W9.setCell ⟨p9, 0, none⟩ (.int .i64 k3)).setCell ⟨p9, 1, none⟩ (.int .i64 h3)).setCell ⟨p9, 2, none⟩ (.slice A3 n3 c3)) (w.heap.size + 3) (.slice Av j cv) j cs ys := HI.out.row.move (fun b hb hx => (heap_other3 _ _ _ _ _ _ (by omega)).trans (HWR.out.block b hb (fun e => hx (.inl (e ▸ HX.out))))) (fun g hg e => by
                have h1 := (HI.out.row.lt hg).1
                rcases e with e | e | e | e
                · have := HBN.out g e; omega
                · omega
                · omega
                · omega)
              have hrys : RdF (fun b => ¬ X3 X w b ∧ some b ≠ Value.ownBlock (.slice Av j cv)) (((W9.setCell ⟨p9, 0, none⟩ (.int .i64 k3)).setCell ⟨p9, 1, none⟩ (.int .i64 h3)).setCell ⟨p9, 2, none⟩ (.slice A3 n3 c3)) y (.agg #[.int .i64 k3, .int .i64 h3, .slice A3 n3 c3]) := RdF.moveX (fun b hb hl => ⟨⟨fun e => hb (.inl (by
                rcases e with e | e | e | e
                · exact .inl e
                · exact .inr (by omega)
                · exact .inr (by omega)
                · exact .inr (by omega))), fun e => hb (.inl (.inr (by have := HOB.out b e.symm; omega)))⟩, heap_other3 _ _ _ _ _ _ (fun e => hb (.inr e))⟩) _ _ hry
              obtain ⟨g, cap, w4, hrun, hrow, hold, hb4⟩ := hgs.push hrys (by rw [szs]; have := HFR9.out.size; omega) (by omega)
              rw [szs] at hrun
              have l4 : w.heap.size + 3 ≤ W9.heap.size := by omega
              have HJ : Hid (RaI f L sh u k h xs (n + 1) (some ⟨bA, oA, none⟩) nn cc w pw X A m c (j + 1) w4 (.slice (some ⟨g, 0, none⟩) (j + 1) cap) (cs ++ [.int .i64 k3, .int .i64 h3, .slice A3 n3 c3]) (ys ++ [y]) n4) := Lib.hid
                ⟨(hb4.block _ (by omega)).trans (z0.other3 hp0.symm _ _ _), (hb4.block _ (by omega)).trans (z1.other3 hp1.symm _ _ _), (hb4.block _ (by omega)).trans (z2.other3 hp3.symm _ _ _), hrow,
                  (HFR9.out.set3 (fun h => by omega) _ _ _).thenB hb4 (by omega), (hb4.block _ (by omega)).trans (hwk9.other3 hppw.symm _ _ _), by have := (HGG.out).1; omega, (HGG.out).2.1, HEE.out⟩
              clear hgs hrys hrow hold hb4 hry HEE HGG szs
              go_wp2_with (at_builtin; refine Lib.wpList_append_run _ rfl _ _ _ _ rfl _ _ rfl rfl _ _ hrun ?_)
              go_roundw
              case rel => exact ⟨j + 1, some ⟨g, 0, none⟩, cap, _, _, n4, by omega, by go_num, rfl, HJ⟩
              case measure => simp [intOf]; omega
      · obtain rfl : j = nn := by omega
        have hend : apL (fun u' x m => ap f L sh u' x m) k xs.length u xs 0 (n + 1) = .ok (ys, n1) := by
          rw [HI.out.eq, drop_all HN.out (Nat.le_refl _), apL]
          simp [contL]
        have happ := HE.out.2 ys n1 hend
        have lo1 := HI.out.lo
        have hi4 := HI.out.hi
        have szr := HI.out.fr.size
        have hLg := apL_good (B := 562949953421312) (A := fun u' x m => ap f L sh u' x m) (sh := sh) (n0 := n) (fun v x m hv hm1 hm2 hx => ap_good (B := 562949953421312) f L sh v x m hm1 hm2 (HS.out.mono (btB_mono hv)) hx) xs 0 (n + 1) (by omega) (by omega) (by omega) (fun x hx => (HT.out.args hx).mono (show bt n - sh ≤ bt (n + 1) - sh by have := bt_mono (show n ≤ n + 1 by omega); omega)) ys n1 hend
        obtain ⟨g1, g2, g3, g4, g5⟩ := hLg
        have HAPP := Lib.hid happ; clear happ hend
        have HWY := Lib.hid g4; clear g4
        have hrl := HI.out.row.rxl (fun b hb => by
          rcases hb with e | e | e | e
          · have := HBN.out b e; omega
          · omega
          · omega
          · omega)
        have HYS := Lib.hid hrl; clear hrl
        by_cases hk4 : k = 4
        · subst hk4
          obtain ⟨h0, h9⟩ := HHD.out rfl
          have hb9 := HBT.out
          have hrx := HRL.out.adv (Adv.fr (X := X) HI.out.fr (fun i _ e => by subst e; exact HX.out))
          have hM := mappedC (unN u L) A m c (sh + u) h wr hrx.len hrx.le hrx.cap (fun i x hx => rdFAt_rd (hrx.at_ i x hx)) (fun x hx => by have := (HSU.out.all x hx).2.2; omega) h0 (by omega) (by omega) (by have h1 := hrx.len; have h2 := HL6.out; rw [unN_len] at h1; omega)
          have hmid : bt n + u ≤ bt n1 := by have : bt n1 = 562949953421312 + n1 * 1048576 := rfl; omega
          have hsp : sp f (mpd (unN u L) (sh + u) h) ys n1 = ap (f + 1) L sh u (.node 4 h xs) n := by
            rw [HAPP.out, mpd_un h0]
            by_cases hu4 : (u : Int) ≤ h
            · rw [if_pos hu4, if_pos ⟨rfl, hu4⟩]
            · rw [if_neg hu4, if_neg (by omega), sp, spL_var]
          have hway : Way (bt n1) (mpd (unN u L) (sh + u) h) ∧ nd (mpd (unN u L) (sh + u) h) ≤ 4000 := by
            rw [mpd_un h0]
            by_cases hu4 : (u : Int) ≤ h
            · rw [if_pos hu4]
              obtain ⟨m1, m2⟩ := way_mp (fr := h - u) (u := u) HS.out (by omega) (by omega)
              exact ⟨m1.mono hmid, m2⟩
            · rw [if_neg hu4]
              refine ⟨⟨by simp [nodB, nodL, okN, h0], ?_⟩, by simp [nd, ndL]⟩
              rw [okT, okL]
              exact ⟨fun _ => by omega, trivial⟩
          have HMM := Lib.hid hM; clear hM hrx
          have HSP := Lib.hid hsp; clear hsp
          have HWAY := Lib.hid hway; clear hway
          have hx3 : ∀ b, X3 X w b → b < wr.heap.size := fun b hb => by
            rcases hb with e | e | e | e
            · have := HBN.out b e; omega
            · omega
            · omega
            · omega
          have HX3 := Lib.hid hx3; clear hx3 hb9 hmid h9
          go_wp2_with fail
          refine HMM.out.mono ?_
          clear HMM
          rintro e w2 ⟨v2, rfl, hrf, hb2⟩
          obtain ⟨k3, h3, A3, n3, c3, rfl⟩ := hrf.full
          have hrm : RX (X3 X w) w2 (mpd (unN u L) (sh + u) h) (.agg #[.int .i64 k3, .int .i64 h3, .slice A3 n3 c3]) := RdF.moveX (fun b hb _ => ⟨fun e => by have := HX3.out b e; omega, rfl⟩) _ _ hrf
          have hsn : ndL ys ≤ 200000000 := by omega
          have hSP := HSPC.out (mpd (unN u L) (sh + u) h) ys n1 (.agg #[.int .i64 k3, .int .i64 h3, .slice A3 n3 c3]) Av j cv w2 pw (X3 X w) (by have := HF.out; omega) hi4 HWAY.out.1 HWY.out (by have := HWAY.out.2; omega) hsn (.inl HX.out) (fun b hb => Nat.lt_of_lt_of_le (HX3.out b hb) hb2.size) (HI.out.wk.keep hb2 lw) hrm (HYS.out.adv (Adv.below hb2))
          rw [HSP.out] at hSP
          have HQ := Lib.hid hSP; clear hSP
          have HB2 := Lib.hid hb2
          have z2 := HI.out.res.keep hb2 l2
          clear hrf hrm hb2 c0 c1 c2 d0 d1
          go_wp2_with fail
          refine HQ.out.mono ?_
          clear HQ
          rintro e w5 ⟨k5, h5, A5, n5, c5, rfl, hfr, hcs⟩
          have y2 := z2.fr hfr (by omega)
          have HFR := Lib.hid ((HI.out.fr.then HB2.out).trans hfr fun i _ e => e)
          obtain ⟨r0, r1, r2⟩ := y2.three
          have f0 := y2.frozen 0
          have f1 := y2.frozen 1
          have f2 := y2.frozen 2
          have HCS := Lib.hid hcs; clear hcs hfr y2 z2
          go_wp2_with fail
          refine bodyPost_ret (v := .agg #[.int .i64 k5, .int .i64 h5, .slice A5 n5 c5]) (by simp [results, Tryz.results112, go_sem, r0, r1, r2]) rfl ?_
          refine ⟨_, _, _, _, _, rfl, HFR.out.set3 (fun h => by omega) _ _ _, ?_⟩
          have hcs := HCS.out
          cases hap : ap (f + 1) L sh u (.node 4 h xs) n with
          | error ec =>
            rw [hap] at hcs
            obtain ⟨q1, ⟨q2, q3⟩, q4⟩ := hcs
            exact ⟨q1, ⟨q2, q3.other3 (by omega) _ _ _⟩, q4⟩
          | ok p =>
            obtain ⟨t9, n9⟩ := p
            rw [hap] at hcs
            exact ⟨RX.mono (RX.adv hcs.1 (Adv.set3 (.inr (.inr (.inr rfl))) _ _ _)) (fun i _ e => .inl e), hcs.2.other3 (by omega) _ _ _⟩
        · have e4 : (k == 4) = false := by simpa using hk4
          have happ2 : ap (f + 1) L sh u (.node k h xs) n = .ok (.node k h ys, n1) := by rw [HAPP.out, if_neg (by omega)]
          have HAP2 := Lib.hid happ2; clear happ2 hk4
          obtain ⟨r0, r1, r2⟩ := HI.out.res.three
          have f0 := HI.out.res.frozen 0
          have f1 := HI.out.res.frozen 1
          have f2 := HI.out.res.frozen 2
          go_wp2_with fail
          refine bodyPost_ret (v := .agg #[.int .i64 k, .int .i64 h, .slice Av j cv]) (by simp [results, Tryz.results112, go_sem, r0, r1, r2]) rfl ?_
          rw [HAP2.out]
          refine ⟨_, _, _, _, _, rfl, HI.out.fr.set3 (fun h => by omega) _ _ _, ?_, HI.out.wk.other3 (by omega) _ _ _⟩
          exact RX.mono (RX.adv (X := X3 X w) (RdF_node.2 ⟨_, _, _, rfl, HWF.out.1, HWF.out.2, HYS.out.len, HYS.out.le, HYS.out.cap, HYS.out.at_⟩) (Adv.set3 (.inr (.inr (.inr rfl))) _ _ _)) (fun i _ e => .inl e)
end Go.Proofs.YtloeainlpcnhnaaGreat
