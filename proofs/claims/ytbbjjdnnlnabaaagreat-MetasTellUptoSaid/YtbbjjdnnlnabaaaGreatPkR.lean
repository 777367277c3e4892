/- Texts of one proof, put together. No statement is proved here. -/
import Derived.Test.YtbbjjdnnlnabaaaGreatPkRq
import Derived.Test.YtbbjjdnnlnabaaaGreatPkWd
import Derived.Test.YtbbjjdnnlnabaaaGreatPkS
namespace Go.Proofs.YtbbjjdnnlnabaaaGreat
open Go.ChangeShapes Go.WideShapes Go.ChangeAt Go.RowKit
set_option linter.unusedVariables false
set_option linter.unusedSimpArgs false
/-! ### A row that grows -/
structure GRow (X : Nat → Prop) (w : World) (base : Nat) (v : Value) (n : Nat) (cs : List Value) (ys : List T) : Prop where
  own : w.ownsRow base 39 3 v n cs
  len : ys.length = n
  kids : KidL w (fun b => ¬ X b ∧ some b ≠ v.ownBlock) cs ys
theorem GRow.nil (X : Nat → Prop) (w : World) (base : Nat) : GRow X w base (.slice none 0 0) 0 [] [] :=
  ⟨World.ownsRow_nil _ _ _ _, rfl, fun i t ht => by simp at ht⟩
theorem GRow.lt {X : Nat → Prop} {w : World} {base : Nat} {v : Value} {n : Nat} {cs : List Value} {ys : List T} (h : GRow X w base v n cs ys) {g : Nat} (hg : v.ownBlock = some g) : base ≤ g ∧ g < w.heap.size := h.own.lt g hg
theorem KidL.moveX {w w' : World} {ok ok' : Nat → Prop} {cs : List Value} {ys : List T} (hk : KidL w ok cs ys) (hm : ∀ b, ok b → b < w.heap.size → ok' b ∧ w'.heap[b]? = w.heap[b]?) : KidL w' ok' cs ys := fun i t ht => by
  obtain ⟨k, h, A, n, c, e0, e1, e2, hr⟩ := hk i t ht
  exact ⟨k, h, A, n, c, e0, e1, e2, RdF.moveX hm _ _ hr⟩
theorem GRow.move {X : Nat → Prop} {w w' : World} {base : Nat} {v : Value} {n : Nat} {cs : List Value} {ys : List T} (h : GRow X w base v n cs ys) (hm : ∀ b, b < w.heap.size → ¬ X b → w'.heap[b]? = w.heap[b]?) (hX : ∀ g, v.ownBlock = some g → ¬ X g) : GRow X w' base v n cs ys := by
  refine ⟨⟨h.own.1, ?_⟩, h.len, h.kids.moveX fun b hb hl => ⟨hb, hm b hl hb.1⟩⟩
  rcases h.own.2 with h1 | ⟨g, cap, cur, rfl, hb, hg, h1⟩
  · exact .inl h1
  · have hlt := (h.own.lt g rfl).2
    exact .inr ⟨g, cap, cur, rfl, hb, (hm g hlt (hX g rfl)).trans hg, h1⟩
theorem GRow.rxl {X : Nat → Prop} {w : World} {base n c : Nat} {A : Option Addr} {cs : List Value} {ys : List T} (h : GRow X w base (.slice A n c) n cs ys) (hX : ∀ b, X b → b < base) : RXL X w ys A n c := by
  have h := rdF_row (k := 0) (h := 0) (ok' := fun b => ¬ X b) h.own h.kids h.len (fun _ h => h.1) (fun g hg e => by have := (h.own.lt g hg).1; have := hX g e; omega) (by decide) (by decide)
  obtain ⟨A', n', c', e, _, _, h3, h4, h5, h6⟩ := RdF_node.1 h
  simp only [Value.agg.injEq] at e
  have e' : A = A' ∧ n = n' ∧ c = c' := by simpa using e
  obtain ⟨rfl, rfl, rfl⟩ := e'
  exact ⟨h3, h4, h5, h6⟩
theorem run_append_none (ty : TypeId) (c' : Nat) (A : Option Addr) (w : World) : (Builtin.append_ #[24, 24] ty #[.slice none 0 0, .slice A 0 c']).run Tryz.prog w = .ok (.slice none 0 0) w := by
  obtain ⟨i0, hi, hz0, hz1, hz2⟩ := info_parts infoTerm
  cases A <;> simp [Builtin.append_, run_underlying Tryz.underlying24, sizeOf, typeInfo, hi, Builtin.lenOf, Builtin.firstCells, loadCells, loadCellsFrom]
theorem GRow.app {X : Nat → Prop} {w : World} {base : Nat} {v : Value} {n m c : Nat} {cs : List Value} {ys zs : List T} {A : Option Addr} (h : GRow X w base v n cs ys) (hz : RXL (fun b => X b ∨ some b = v.ownBlock) w zs A m c) (hX : ∀ b, X b → b < base) (hbase : base ≤ w.heap.size) (hs : n + m ≤ 3518437208780) (ty : TypeId) :
    ∃ A' c' w' news, (Builtin.append_ #[24, 24] ty #[v, .slice A m c]).run Tryz.prog w = .ok (.slice A' (n + m) c') w' ∧ GRow X w' base (.slice A' (n + m) c') (n + m) (cs ++ news) (ys ++ zs) ∧ Below base w w' := by
  obtain ⟨news, l1, k1, o1, e1⟩ := hz.cells
  rcases Nat.eq_zero_or_pos m with rfl | hm
  · have hn : news = [] := List.length_eq_zero_iff.1 (by simpa using l1)
    have hzz : zs = [] := List.length_eq_zero_iff.1 hz.len
    subst hn hzz
    rcases h.own.2 with ⟨rfl, rfl⟩ | ⟨g, cap, cur, rfl, _, _, h1, _⟩
    · exact ⟨none, 0, w, [], run_append_none ty c A w, by simpa using h, Below.refl _ _⟩
    · exact ⟨_, _, w, [], run_append_empty ty g cap A c n h1 w, by simpa using h, Below.refl _ _⟩
  · obtain ⟨t, ht⟩ := at_of hz.len hm
    obtain ⟨b, o, _, _, _, rfl, _⟩ := hz.at_ 0 t ht
    obtain ⟨i0, hi, hz0, hz1, hz2⟩ := info_parts infoTerm
    obtain ⟨g', cap', w', hrun, how', hgr, hg4, _⟩ := run_append_lies (P := Tryz.prog) w 24 ty base 39 i0 _ 3 40 Tryz.underlying24 hi hz0 hz1 hz2 rfl (by omega) v n cs h.own ⟨b, o, none⟩ m c news l1
      (fun j u hu => e1 _ rfl j u hu) o1 hm (by unfold maxLen; omega) (by omega) hbase _ rfl
    have hne : ∀ q, q < w.heap.size → some q ≠ v.ownBlock → q ≠ g' := fun q hq hv e => by
      rcases hg4 with h4 | h4
      · rw [h4, e] at hv; exact hv rfl
      · omega
    refine ⟨some ⟨g', 0, none⟩, cap', w', news, hrun, ⟨how', by rw [List.length_append, h.len, hz.len], ?_⟩, below_grown (Below.refl _ _) hgr (fun r hr => (h.own.lt r hr).1) hbase⟩
    refine KidL.app (h.kids.moveX fun q hq hl => ⟨⟨hq.1, fun e => hne q hl hq.2 (by simpa [Value.ownBlock] using e)⟩, hgr.block q hl hq.2⟩) (by rw [h.own.1, h.len]) (k1.moveX fun q hq hl => ?_)
    have hq1 : some q ≠ v.ownBlock := fun e => hq (.inr e)
    exact ⟨⟨fun e => hq (.inl e), fun e => hne q hl hq1 (by simpa [Value.ownBlock] using e)⟩, hgr.block q hl hq1⟩
theorem GRow.grow {X : Nat → Prop} {w1 w4 : World} {base : Nat} {v : Value} {n m cap g : Nat} {cs : List Value} {ys : List T} {t : T} {k h : Int} {A : Option Addr} {c : Nat} (hg : GRow X w1 base v n cs ys) (hr : RdF (fun b => ¬ X b ∧ some b ≠ v.ownBlock) w1 t (.agg #[.int .i64 k, .int .i64 h, .slice A m c]))
    (how : w4.ownsRow base 39 3 (.slice (some ⟨g, 0, none⟩) (n + 1) cap) (n + 1) (cs ++ [.int .i64 k, .int .i64 h, .slice A m c]))
    (hgr : (w1.alloc (.cells #[.int .i64 k, .int .i64 h, .slice A m c] 39)).grownBy w4 v.ownBlock) (h4 : v.ownBlock = some g ∨ g = w1.heap.size + 1) :
    GRow X w4 base (.slice (some ⟨g, 0, none⟩) (n + 1) cap) (n + 1) (cs ++ [.int .i64 k, .int .i64 h, .slice A m c]) (ys ++ [t]) := by
  have hgo : ∀ q, q < w1.heap.size → some q ≠ v.ownBlock → w4.heap[q]? = w1.heap[q]? := fun q hq hne => (hgr.block q (by simp; omega) hne).trans (Below.heap_alloc _ _ _ hq)
  have hne : ∀ q, q < w1.heap.size → some q ≠ v.ownBlock → q ≠ g := fun q hq hv e => by
    rcases h4 with h4 | h4
    · rw [h4, e] at hv; exact hv rfl
    · omega
  have hm : ∀ b, (¬ X b ∧ some b ≠ v.ownBlock) → b < w1.heap.size → (¬ X b ∧ some b ≠ Value.ownBlock (.slice (some ⟨g, 0, none⟩) (n + 1) cap)) ∧ w4.heap[b]? = w1.heap[b]? := fun b hb hl =>
    ⟨⟨hb.1, fun e => hne b hl hb.2 (by simpa [Value.ownBlock] using e)⟩, hgo b hl hb.2⟩
  exact ⟨how, by rw [List.length_append, hg.len]; rfl, KidL.snoc (hg.kids.moveX hm) (by rw [hg.own.1, hg.len]) (RdF.moveX hm _ _ hr)⟩
theorem GRow.push {X : Nat → Prop} {w1 : World} {base : Nat} {v : Value} {n m : Nat} {cs : List Value} {ys : List T} {t : T} {k h : Int} {A : Option Addr} {c : Nat} (hg : GRow X w1 base v n cs ys) (hr : RdF (fun b => ¬ X b ∧ some b ≠ v.ownBlock) w1 t (.agg #[.int .i64 k, .int .i64 h, .slice A m c]))
    (hbase : base ≤ w1.heap.size) (hn : n + 1 ≤ 3518437208780) :
    ∃ g cap w4, (Builtin.append_ #[24, 24] 24 #[v, .slice (some ⟨w1.heap.size, 0, none⟩) 1 1]).run Tryz.prog (w1.alloc (.cells #[.int .i64 k, .int .i64 h, .slice A m c] 39)) = .ok (.slice (some ⟨g, 0, none⟩) (n + 1) cap) w4 ∧
      GRow X w4 base (.slice (some ⟨g, 0, none⟩) (n + 1) cap) (n + 1) (cs ++ [.int .i64 k, .int .i64 h, .slice A m c]) (ys ++ [t]) ∧ (∀ q, q < w1.heap.size → some q ≠ v.ownBlock → w4.heap[q]? = w1.heap[q]?) ∧ Below base w1 w4 := by
  obtain ⟨i0, hi, hz0, hz1, hz2⟩ := info_parts infoTerm
  have hbA : Below w1.heap.size w1 (w1.alloc (.cells #[.int .i64 k, .int .i64 h, .slice A m c] 39)) := (Below.refl _ _).alloc (Nat.le_refl _) _
  obtain ⟨g, cap, w4, hrun, how4, hgr, hg4, _⟩ := run_append_lies (P := Tryz.prog) (w1.alloc (.cells #[.int .i64 k, .int .i64 h, .slice A m c] 39)) 24 24 base 39 i0 _ 3 40 Tryz.underlying24 hi hz0 hz1 hz2 rfl (by omega) v n cs
    (hg.own.kept (grown_of_below hbA) (own_none _)) ⟨w1.heap.size, 0, none⟩ 1 1 [.int .i64 k, .int .i64 h, .slice A m c] rfl (World.news_of_block (heap_alloc_new w1 _)) (by intro u hu; simp at hu; rcases hu with rfl | rfl | rfl <;> rfl) (by omega) (by unfold maxLen; omega) (by omega) (by simp; omega) _ rfl
  exact ⟨g, cap, w4, hrun, hg.grow hr how4 hgr (by rcases hg4 with h | h; exact .inl h; exact .inr (by simpa using h)), fun q hq hne => (hgr.block q (by simp; omega) hne).trans (Below.heap_alloc _ _ _ hq),
    below_grown (hbA.mono hbase) hgr (fun r hr => (hg.lt hr).1) (by simp; omega)⟩
end Go.Proofs.YtbbjjdnnlnabaaaGreat
namespace Go.Proofs.YtbbjjdnnlnabaaaGreat
open Go.ChangeShapes Go.WideShapes Go.ChangeAt Go.RowKit
set_option linter.unusedVariables false
set_option linter.unusedSimpArgs false
set_option maxRecDepth 100000
set_option maxHeartbeats 4000000
def rupX (t : T) (b f : Int) : T := if (mvB b f && mayB t) = true then upW b t f else upW 0 t 0
/-! ### They are the same -/
mutual
theorem upW_eq {M b : Int} (hM : M ≤ 1125899906842624) (hb : 0 ≤ b ∧ b ≤ 1048576) : ∀ (t : T) (f : Int), okT M t → 0 ≤ f → f + nd t ≤ 1099511627776 → upW b t f = upT b t f
  | .node k h xs, f, ho, hf, hn => by
    rw [okT] at ho
    rw [nd] at hn
    rw [upW, upT, upWL_eq hM hb k _ xs 0 f ho.2 hf (by omega)]
    by_cases hc : k = 4 ∧ f ≤ h
    · have := ho.1 hc.1
      rw [if_pos hc, if_pos hc, wrap_small (by omega) (by omega)]
    · rw [if_neg hc, if_neg hc]
theorem upWL_eq {M b : Int} (hM : M ≤ 1125899906842624) (hb : 0 ≤ b ∧ b ≤ 1048576) (k : Int) (n : Nat) : ∀ (xs : List T) (i : Nat) (f : Int), okL M xs → 0 ≤ f → f + 1 + ndL xs ≤ 1099511627776 → upWL b k n xs i f = upL b k n xs i f
  | [], _, _, _, _, _ => by rw [upWL, upL]
  | t :: ts, i, f, ho, hf, hn => by
    rw [okL] at ho
    rw [ndL] at hn
    have hbd := bd_cases k n i
    rw [upWL, upL, wrap_small (by omega) (by omega), upW_eq hM hb t _ ho.1 (by omega) (by omega), upWL_eq hM hb k n ts (i + 1) f ho.2 hf (by omega)]
end
theorem list_same {g : Nat → T → T} : ∀ (xs : List T) (i : Nat) (F : List T → Nat → List T), (∀ t ts i, F (t :: ts) i = g i t :: F ts (i + 1)) → (∀ i, F [] i = []) → (∀ t ∈ xs, ∀ i, g i t = t) → F xs i = xs
  | [], i, F, _, h0, _ => h0 i
  | t :: ts, i, F, h1, h0, hg => by rw [h1, hg t (List.mem_cons_self ..), list_same ts (i + 1) F h1 h0 fun u hu => hg u (List.mem_cons_of_mem _ hu)]
theorem upW_zero {w : World} (t : T) : ∀ (v : Value) (f : Int), Rd w t v → upW 0 t f = t := by
  induction t using T.ind with
  | step k h xs ih =>
    intro v f hv
    obtain ⟨A, n, c, rfl, hk, hh, hn, hc, hm, hx⟩ := Rd_node.1 hv
    have e : upWL 0 k xs.length xs 0 f = xs := by
      refine list_same (g := fun i t => upW 0 t (wrap64 (f + bd k xs.length i))) xs 0 (fun l i => upWL 0 k xs.length l i f) (fun t ts i => by rw [upWL]) (fun i => by rw [upWL]) fun t ht i => ?_
      obtain ⟨q, hq⟩ := List.getElem?_of_mem ht
      obtain ⟨b, o, v0, v1, v2, rfl, c0, c1, c2, hr⟩ := hx q t hq
      exact ih t ht _ _ hr
    rw [upW, e, Int.add_zero, wf_wrap hh]
    split <;> rfl
/-! ### The document's Up and Down -/
theorem refUpC (t : T) (b f : Int) (v : Value) (w : World) (hv : Rd w t v) (hs : nd t ≤ 1048576) : Calls Tryz.prog 98 #[v, .int .i64 b, .int .i64 f] w (FEnd (rupX t b f) w) := by
  obtain ⟨k, h, A, n, c, rfl⟩ := hv.full
  have HV := Lib.hid hv; clear hv
  obtain ⟨W, hW⟩ : ∃ W, (w.alloc (.cells #[.int .i64 k, .int .i64 h, .slice A n c] 39)).alloc (.cells #[.int .i64 0, .int .i64 0, .slice none 0 0] 39) = W := ⟨_, rfl⟩
  have hb : Below w.heap.size w W := by rw [← hW]; exact ((Below.refl _ _).alloc (Nat.le_refl _) _).alloc (by simp) _
  have xT : Box W w.heap.size 39 #[.int .i64 k, .int .i64 h, .slice A n c] := by rw [← hW]; exact (Box.new _ _ _).alloc _
  have xR : Box W (w.heap.size + 1) 39 #[.int .i64 0, .int .i64 0, .slice none 0 0] := by rw [← hW]; exact (Box.new (w.alloc _) _ _).at (by simp)
  have HWW := Lib.hid hW; clear hW
  have HU : Hid (rupX t b f = if (mvB b f && mayB t) = true then upW b t f else upW 0 t 0) := Lib.hid rfl
  go_enter Tryz.func98, Tryz.ntmps98
  go_wp2_with fail
  rw [HWW.out]
  clear HWW
  refine (refMay2 t b f _ _ (Rd.keep hb _ _ HV.out)).mono ?_
  generalize (mvB b f && mayB t) = M at *
  rintro e w1 ⟨rfl, hb1⟩
  replace xT := xT.keep hb1 xT.lt
  replace xR := xR.keep hb1 xR.lt
  replace hb := hb.trans (hb1.mono hb.size)
  clear hb1
  obtain ⟨c0, c1, c2⟩ := xT.three
  cases M
  · go_wp2_with fail
    refine (refUp t 0 0 _ _ (Rd.keep hb _ _ HV.out) hs).mono ?_
    rintro e w2 ⟨v2, rfl, hrf, hb2⟩
    obtain ⟨k3, h3, A3, n3, c3, rfl⟩ := hrf.full
    have lR := xR.lt
    have zR := xR.keep hb2 lR
    have sz := hb.size
    have HB := Lib.hid (hb.trans (hb2.mono hb.size))
    have HW := Lib.hid hrf; clear hrf hb2
    obtain ⟨r0, r1, r2⟩ := zR.three
    have f0 := zR.frozen 0
    have f1 := zR.frozen 1
    have f2 := zR.frozen 2
    go_wp2_with fail
    refine bodyPost_ret (v := .agg #[.int .i64 k3, .int .i64 h3, .slice A3 n3 c3]) (by simp [results, Tryz.results98, go_sem, r0, r1, r2]) rfl ?_
    refine ⟨_, rfl, ?_, below_set3 HB.out (by omega) _ _ _⟩
    rw [HU.out, if_neg (by simp)]
    exact RdF.move (fun g hg => ⟨by omega, by simpa using hg.2⟩) (fun g hg _ => heap_other3 _ _ _ _ _ _ (by omega)) _ _ HW.out
  · go_wp2_with fail
    refine (refUp t b f _ _ (Rd.keep hb _ _ HV.out) hs).mono ?_
    rintro e w2 ⟨v2, rfl, hrf, hb2⟩
    obtain ⟨k3, h3, A3, n3, c3, rfl⟩ := hrf.full
    have lR := xR.lt
    have zR := xR.keep hb2 lR
    have sz := hb.size
    have HB := Lib.hid (hb.trans (hb2.mono hb.size))
    have HW := Lib.hid hrf; clear hrf hb2
    obtain ⟨r0, r1, r2⟩ := zR.three
    have f0 := zR.frozen 0
    have f1 := zR.frozen 1
    have f2 := zR.frozen 2
    go_wp2_with fail
    refine bodyPost_ret (v := .agg #[.int .i64 k3, .int .i64 h3, .slice A3 n3 c3]) (by simp [results, Tryz.results98, go_sem, r0, r1, r2]) rfl ?_
    refine ⟨_, rfl, ?_, below_set3 HB.out (by omega) _ _ _⟩
    rw [HU.out, if_pos (by trivial)]
    exact RdF.move (fun g hg => ⟨by omega, by simpa using hg.2⟩) (fun g hg _ => heap_other3 _ _ _ _ _ _ (by omega)) _ _ HW.out
end Go.Proofs.YtbbjjdnnlnabaaaGreat
