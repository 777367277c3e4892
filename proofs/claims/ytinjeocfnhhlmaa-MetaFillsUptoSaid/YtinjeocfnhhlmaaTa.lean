/-
  What the document's own functions of layer 3 need: whether greater terms may be; a substitution below so many nodes that bind, as a list; rows that grow by appending. No statement is proved here.
-/
import Derived.Test.YtinjeocfnhhlmaaPf
import Derived.Test.YtinjeocfnhhlmaaRz
namespace Go.Proofs.Ytinjeocfnhhlmaa
open Go.ChangeShapes Go.WideShapes Go.ChangeAt Go.RowKit
set_option linter.unusedVariables false

/-! ### Greater terms -/
mutual
theorem dpW_big : ∀ t : T, nd t ≤ 1099511627776 → dpW t = dp t
  | .node k h xs, hs => by
    rw [nd] at hs
    have := dpL_le xs
    rw [dpW, dpWL_big xs 0 (by omega) (by omega), dp, wrap_small (by omega) (by omega)]
    omega
theorem dpWL_big : ∀ (xs : List T) (m : Int), ndL xs ≤ 1099511627776 → 0 ≤ m → dpWL xs m = max m (dpL xs)
  | [], m, _, hm => by rw [dpWL, dpL]; omega
  | t :: ts, m, hs, hm => by
    rw [ndL] at hs
    rw [dpWL, dpW_big t (by omega), dpL]
    split
    · rw [dpWL_big ts _ (by omega) (by omega)]; omega
    · rw [dpWL_big ts _ (by omega) hm]; omega
end
theorem mayB_big {t : T} (h : nd t ≤ 1099511627776) : mayB t = myB t := by
  rw [Bool.eq_iff_iff, myB_iff, mayB, szW_eq, wrap_small (by omega) (by omega), dpW_big t h]
  simp only [Bool.and_eq_true, decide_eq_true_eq]
  exact ⟨fun ⟨⟨h1, h2⟩, h3⟩ => ⟨h1, by omega, by omega⟩, fun ⟨h1, h2, h3⟩ => ⟨⟨h1, by omega⟩, by omega⟩⟩

/-! ### Below so many nodes that bind -/
def unN (u : Nat) (L : List T) : List T := L.map (fun t => upT u t 0) ++ vsL u
theorem unN_zero (L : List T) : unN 0 L = L := by
  have : (fun t : T => upT ((0 : Nat) : Int) t 0) = id := funext fun t => up_zero t 0
  rw [unN, this]
  simp [vsL]
theorem unN_len (u : Nat) (L : List T) : (unN u L).length = L.length + u := by rw [unN, List.length_append, List.length_map, vsL_len]
theorem vs_up (u : Nat) : (vsL u).map (fun t => upT 1 t 0) ++ [T.node 4 0 []] = vsL (u + 1) := by
  unfold vsL
  rw [List.range_succ, List.map_append, List.map_map]
  congr 1
  · refine List.map_congr_left fun i hi => ?_
    have := List.mem_range.1 hi
    simp only [Function.comp_apply, upT, upL]
    rw [if_pos ⟨trivial, by omega⟩]
    congr 1
    omega
  · simp
theorem unN_succ (u : Nat) (L : List T) : (unN u L).map (fun t => upT 1 t 0) ++ [T.node 4 0 []] = unN (u + 1) L := by
  rw [unN, List.map_append, List.append_assoc, vs_up, List.map_map, unN]
  congr 1
  refine List.map_congr_left fun t _ => ?_
  simp only [Function.comp_apply]
  rw [up_up (by omega)]
  congr 1
/-- what a substitution maps a variable to, as the document says it -/
def mpd (M : List T) (s i : Int) : T := if i < M.length then M.getD (M.length - 1 - i.toNat) (.node 0 0 []) else .node 4 (i - M.length + s) []
theorem mpd_un {L : List T} {sh h : Int} {u : Nat} (h0 : 0 ≤ h) : mpd (unN u L) (sh + u) h = if (u : Int) ≤ h then mpT L sh (h - u) u else .node 4 h [] := by
  unfold mpd mpT
  rw [unN_len]
  by_cases hu : (u : Int) ≤ h
  · rw [if_pos hu]
    by_cases hl : (L.length : Int) ≤ h - u
    · rw [if_neg (by omega), if_pos hl]
      congr 1
      omega
    · rw [if_pos (by omega), if_neg hl, unN, getD_app_l _ (by rw [List.length_map]; omega), getD_map _ _ (by omega)]
      congr 2
      omega
  · rw [if_neg hu, if_pos (by omega), unN, List.getD_eq_getElem?_getD, List.getElem?_append_right (by rw [List.length_map]; omega), List.length_map]
    have hlt : L.length + u - 1 - h.toNat - L.length < (vsL u).length := by rw [vsL_len]; omega
    have he := List.getElem?_eq_getElem hlt
    obtain ⟨_, e⟩ := vsL_at _ _ _ he
    rw [he, e, Option.getD_some]
    congr 1
    omega
/-- the terms of a substitution on the way -/
structure SuT (M : List T) : Prop where
  all : ∀ t ∈ M, mayB t = true ∧ okT 1125899906842624 t ∧ nd t ≤ 4000
theorem su_un {n : Nat} {L : List T} {sh : Int} {u : Nat} (hs : Sub (bt n) L sh) (hu : u ≤ n) (hn : n ≤ 40000) : SuT (unN u L) := by
  refine ⟨fun t ht => ?_⟩
  rw [unN] at ht
  rcases List.mem_append.1 ht with ht | ht
  · obtain ⟨x, hx, rfl⟩ := List.mem_map.1 ht
    have hm := hs.may x hx
    have h4 := ((myB_iff x).1 hm).2.1
    have ho := okT_up (b := (u : Int)) (by omega) x 0 (hs.ok x hx)
    refine ⟨by rw [mayB_my (by rw [nd_up]; omega)]; exact my_up (by omega) hm, okT_mono (by have : bt n = 562949953421312 + n * 1048576 := rfl; omega) _ ho, by rw [nd_up]; exact h4⟩
  · obtain ⟨i, hi⟩ := List.getElem?_of_mem ht
    obtain ⟨h1, rfl⟩ := vsL_at _ _ _ hi
    exact ⟨by rw [mayB_my (by simp [nd, ndL])]; exact my_var (by omega), by rw [okT, okL]; exact ⟨fun _ => by omega, trivial⟩, by simp [nd, ndL]⟩
theorem rup_one {t : T} (hm : mayB t = true) (ho : okT 1125899906842624 t) (hn : nd t ≤ 4000) : rupX t 1 0 = upT 1 t 0 := by
  rw [rupX, if_pos (by rw [Bool.and_eq_true, mvB_iff]; exact ⟨by omega, hm⟩), upW_eq (by omega) (by omega) t 0 ho (by omega) (by omega)]
theorem rup_zero {w : World} {t : T} {v : Value} (hv : Rd w t v) : rupX t 0 0 = t := by
  rw [rupX]
  split
  · exact upW_zero t v 0 hv
  · exact upW_zero t v 0 hv
/-- what the document's Under tells -/
def rndX (M : List T) : List T := M.map (fun t => rupX t 1 0) ++ [T.node 4 0 []]
theorem rnd_un {M : List T} (hM : SuT M) : rndX M = M.map (fun t => upT 1 t 0) ++ [T.node 4 0 []] := by
  rw [rndX]
  congr 1
  refine List.map_congr_left fun t ht => ?_
  obtain ⟨h1, h2, h3⟩ := hM.all t ht
  exact rup_one h1 h2 h3

/-! ### A row that grows -/
structure GRow (X : Nat → Prop) (w : World) (base : Nat) (v : Value) (n : Nat) (cs : List Value) (ys : List T) : Prop where
  own : w.ownsRow base 24 3 v n cs
  len : ys.length = n
  kids : KidL w (fun b => ¬ X b ∧ some b ≠ v.ownBlock) cs ys
theorem GRow.nil (X : Nat → Prop) (w : World) (base : Nat) : GRow X w base (.slice none 0 0) 0 [] [] :=
  ⟨World.ownsRow_nil _ _ _ _, rfl, fun i t ht => by simp at ht⟩
theorem GRow.full {X : Nat → Prop} {w : World} {base : Nat} {v : Value} {n : Nat} {cs : List Value} {ys : List T} (h : GRow X w base v n cs ys) : ∃ A c, v = .slice A n c ∧ n ≤ c ∧ c ≤ maxLen := by
  rcases h.own.2 with ⟨rfl, rfl⟩ | ⟨g, cap, cur, rfl, _, _, h1, h2, _⟩
  · exact ⟨none, 0, rfl, Nat.le_refl _, Nat.zero_le _⟩
  · exact ⟨_, _, rfl, h1, h2⟩
theorem GRow.lt {X : Nat → Prop} {w : World} {base : Nat} {v : Value} {n : Nat} {cs : List Value} {ys : List T} (h : GRow X w base v n cs ys) {g : Nat} (hg : v.ownBlock = some g) : base ≤ g ∧ g < w.heap.size := h.own.lt g hg
theorem KidL.moveX {w w' : World} {ok ok' : Nat → Prop} {cs : List Value} {ys : List T} (hk : KidL w ok cs ys) (hm : ∀ b, ok b → b < w.heap.size → ok' b ∧ w'.heap[b]? = w.heap[b]?) : KidL w' ok' cs ys := fun i t ht => by
  obtain ⟨k, h, A, n, c, e0, e1, e2, hr⟩ := hk i t ht
  exact ⟨k, h, A, n, c, e0, e1, e2, RdF.moveX hm _ _ hr⟩
/-- where nothing of it is written -/
theorem GRow.move {X : Nat → Prop} {w w' : World} {base : Nat} {v : Value} {n : Nat} {cs : List Value} {ys : List T} (h : GRow X w base v n cs ys) (hm : ∀ b, b < w.heap.size → ¬ X b → w'.heap[b]? = w.heap[b]?) (hX : ∀ g, v.ownBlock = some g → ¬ X g) : GRow X w' base v n cs ys := by
  refine ⟨⟨h.own.1, ?_⟩, h.len, h.kids.moveX fun b hb hl => ⟨hb, hm b hl hb.1⟩⟩
  rcases h.own.2 with h1 | ⟨g, cap, cur, rfl, hb, hg, h1⟩
  · exact .inl h1
  · have hlt := (h.own.lt g rfl).2
    exact .inr ⟨g, cap, cur, rfl, hb, (hm g hlt (hX g rfl)).trans hg, h1⟩
theorem GRow.rxl {X : Nat → Prop} {w : World} {base n c : Nat} {A : Option Addr} {cs : List Value} {ys : List T} (h : GRow X w base (.slice A n c) n cs ys) (hX : ∀ b, X b → b < base) : RXL X w ys A n c := by
  have h := rdF_row (k := 0) (h := 0) (ok' := fun b => ¬ X b) h.own h.kids h.len (fun _ h => h.1) (fun g hg e => by have := (h.own.lt g hg).1; have := hX g e; omega) (by decide) (by decide)
  obtain ⟨A', n', c', e, _, _, h3, h4, h5, h6⟩ := RdF_node.1 h
  simp only [Value.agg.injEq] at e
  have e' : A = A' ∧ n = n' ∧ c = c' := by simpa using e
  obtain ⟨rfl, rfl, rfl⟩ := e'
  exact ⟨h3, h4, h5, h6⟩
theorem run_append_none (ty : TypeId) (c' : Nat) (A : Option Addr) (w : World) : (Builtin.append_ #[22, 22] ty #[.slice none 0 0, .slice A 0 c']).run Try.prog w = .ok (.slice none 0 0) w := by
  obtain ⟨i0, hi, hz0, hz1, hz2⟩ := info_parts infoTerm
  cases A <;> simp [Builtin.append_, run_underlying Try.underlying22, sizeOf, typeInfo, hi, Builtin.lenOf, Builtin.firstCells, loadCells, loadCellsFrom]
/-- terms are appended -/
theorem GRow.app {X : Nat → Prop} {w : World} {base : Nat} {v : Value} {n m c : Nat} {cs : List Value} {ys zs : List T} {A : Option Addr} (h : GRow X w base v n cs ys) (hz : RXL (fun b => X b ∨ some b = v.ownBlock) w zs A m c) (hX : ∀ b, X b → b < base) (hbase : base ≤ w.heap.size) (hs : n + m ≤ 3518437208780) (ty : TypeId) :
    ∃ A' c' w' news, (Builtin.append_ #[22, 22] ty #[v, .slice A m c]).run Try.prog w = .ok (.slice A' (n + m) c') w' ∧ GRow X w' base (.slice A' (n + m) c') (n + m) (cs ++ news) (ys ++ zs) ∧ Below base w w' := by
  obtain ⟨news, l1, k1, o1, e1⟩ := hz.cells
  rcases Nat.eq_zero_or_pos m with rfl | hm
  · have hn : news = [] := List.length_eq_zero_iff.1 (by simpa using l1)
    have hzz : zs = [] := List.length_eq_zero_iff.1 hz.len
    subst hn hzz
    rcases h.own.2 with ⟨rfl, rfl⟩ | ⟨g, cap, cur, rfl, _, _, h1, _⟩
    · exact ⟨none, 0, w, [], run_append_none ty c A w, by simpa using h, Below.refl _ _⟩
    · exact ⟨_, _, w, [], run_append_empty ty g cap A c n h1 w, by simpa using h, Below.refl _ _⟩
  · obtain ⟨t, ht⟩ := at_of hz.len hm
    obtain ⟨b, o, _, _, _, rfl, _⟩ := hz.at_ 0 t ht
    obtain ⟨i0, hi, hz0, hz1, hz2⟩ := info_parts infoTerm
    obtain ⟨g', cap', w', hrun, how', hgr, hg4, _⟩ := run_append_lies (P := Try.prog) w 22 ty base 24 i0 _ 3 40 Try.underlying22 hi hz0 hz1 hz2 rfl (by omega) v n cs h.own ⟨b, o, none⟩ m c news l1
      (fun j u hu => e1 _ rfl j u hu) o1 hm (by unfold maxLen; omega) (by omega) hbase _ rfl
    have hne : ∀ q, q < w.heap.size → some q ≠ v.ownBlock → q ≠ g' := fun q hq hv e => by
      rcases hg4 with h4 | h4
      · rw [h4, e] at hv; exact hv rfl
      · omega
    refine ⟨some ⟨g', 0, none⟩, cap', w', news, hrun, ⟨how', by rw [List.length_append, h.len, hz.len], ?_⟩, below_grown (Below.refl _ _) hgr (fun r hr => (h.own.lt r hr).1) hbase⟩
    refine KidL.app (h.kids.moveX fun q hq hl => ⟨⟨hq.1, fun e => hne q hl hq.2 (by simpa [Value.ownBlock] using e)⟩, hgr.block q hl hq.2⟩) (by rw [h.own.1, h.len]) (k1.moveX fun q hq hl => ?_)
    have hq1 : some q ≠ v.ownBlock := fun e => hq (.inr e)
    exact ⟨⟨fun e => hq (.inl e), fun e => hne q hl hq1 (by simpa [Value.ownBlock] using e)⟩, hgr.block q hl hq1⟩
end Go.Proofs.Ytinjeocfnhhlmaa
