/-
  The walk of the law TermParts.
-/
import Derived.Test.YtlcoadbeiaiioaaLs
import Derived.Laws.AppendOwnNone
import Derived.RangeFuncBox
namespace Go.Proofs.Ytlcoadbeiaiioaa
open Go.ChangeShapes Go.WideShapes Go.ChangeAt Go.RowKit
set_option linter.unusedVariables false

/-! ### Plain -/
theorem may_iff {t : T} (h : nd t ≤ 1048576) : mayK (flat t 1 0) = true ↔ nd t ≤ 4000 ∧ dp t ≤ 60 ∧ nodB t = true := by
  have e : (flat t 1 0).all okK = (decide (1 + (dp t : Int) ≤ 61) && nodB t) := by
    rw [show okK = fun x => decide (x.d ≤ 60) && okN x.k x.h x.n from rfl, all_and, flat_deep t 1 0 (by omega) (by omega), flat_ok]
  rw [mayK, flat_len, e]
  simp only [Bool.and_eq_true, decide_eq_true_eq]
  constructor
  · rintro ⟨h1, h2, h3⟩; exact ⟨h1, by omega, h3⟩
  · rintro ⟨h1, h2, h3⟩; exact ⟨h1, by omega, h3⟩
theorem dp_mem {t : T} : ∀ {xs : List T}, t ∈ xs → dp t ≤ dpL xs
  | x :: xs, h => by
    rw [dpL]
    rcases List.mem_cons.1 h with rfl | h
    · omega
    · have := dp_mem h; omega
theorem nod_mem {t : T} : ∀ {xs : List T}, nodL xs = true → t ∈ xs → nodB t = true
  | x :: xs, hx, h => by
    rw [nodL, Bool.and_eq_true] at hx
    rcases List.mem_cons.1 h with rfl | h
    · exact hx.1
    · exact nod_mem hx.2 h
theorem may_part {k h : Int} {xs : List T} {t : T} (hm : mayK (flat (.node k h xs) 1 0) = true) (ht : t ∈ xs) : mayK (flat t 1 0) = true := by
  have h1 := may_nd hm
  have h2 := (may_iff (by omega)).1 hm
  rw [nd, dp, nodB, Bool.and_eq_true] at h2
  have := nd_mem ht
  have := dp_mem ht
  exact (may_iff (by omega)).2 ⟨by omega, by omega, nod_mem h2.2.2.2 ht⟩
theorem may_head {k h : Int} {xs : List T} (e : okN k h xs.length = false) : mayK (flat (.node k h xs) 1 0) = false := by
  rw [mayK, flat, List.all_cons, okK, e]
  simp
theorem may_ok {k h : Int} {xs : List T} (hm : mayK (flat (.node k h xs) 1 0) = true) : okN k h xs.length = true := by
  cases e : okN k h xs.length with
  | true => rfl
  | false => rw [may_head e] at hm; cases hm
theorem may_more {k h : Int} {xs : List T} {z : T} (hm : mayK (flat (.node k h xs) 1 0) = true) (hf : k = 0 ∨ k = 1 ∨ k = 3) : mayK (flat (.node k h (xs ++ [z])) 1 0) = false := by
  have h1 := okN_cases (may_ok hm)
  apply may_head
  rw [List.length_append]
  rcases hf with rfl | rfl | rfl
  · have e : xs.length = 0 := by omega
    rw [e]; simp [okN]
  · have e : xs.length = 2 := by omega
    rw [e]; simp [okN]
  · have e : xs.length = 1 := by omega
    rw [e]; simp [okN]
theorem may_none {h : Int} {xs : List T} : mayK (flat (.node 7 h xs) 1 0) = false := may_head (by simp [okN])
theorem may_less {k : Int} {xs : List T} : mayK (flat (.node k (-1) xs) 1 0) = false := may_head (by simp [okN])

/-! ### The cells of a list of terms -/
/-- news are the cells of the terms, from that address on -/
def CellsOf (w : World) (b o : Nat) (news : List Value) (xs : List T) : Prop :=
  news.length = xs.length * 3 ∧ (∀ j u, news[j]? = some u → w.cell? ⟨b, o + j, none⟩ = some u) ∧ (∀ u ∈ news, u.oneCell' = true) ∧
  ∀ i t, xs[i]? = some t → ∃ k h A n c, news[i * 3]? = some (.int .i64 k) ∧ news[i * 3 + 1]? = some (.int .i64 h) ∧ news[i * 3 + 2]? = some (.slice A n c) ∧ Rd w t (.agg #[.int .i64 k, .int .i64 h, .slice A n c])

theorem cells_of {w : World} {b o : Nat} {xs : List T} (hx : ∀ i t, xs[i]? = some t → RdAt w (some ⟨b, o, none⟩) i t) : ∀ m, m ≤ xs.length → ∃ news, CellsOf w b o news (xs.take m)
  | 0, _ => ⟨[], by simp [CellsOf]⟩
  | m + 1, hm => by
    obtain ⟨news, h1, h2, h3, h4⟩ := cells_of hx m (by omega)
    have hat : xs[m]? = some xs[m] := List.getElem?_eq_getElem (by omega)
    obtain ⟨b', o', k, h, A, n, c, e, c0, c1, c2, hr⟩ := (hx m _ hat).full
    cases e
    have hl : (xs.take m).length = m := by simp; omega
    rw [hl] at h1
    refine ⟨news ++ [.int .i64 k, .int .i64 h, .slice A n c], ?_, ?_, ?_, ?_⟩
    · simp; omega
    · intro j u hu
      rcases Nat.lt_or_ge j (m * 3) with hj | hj
      · rw [List.getElem?_append_left (by omega)] at hu; exact h2 j u hu
      · rw [List.getElem?_append_right (by omega), h1] at hu
        have hj3 : j - m * 3 < 3 := by have := (List.getElem?_eq_some_iff.1 hu).1; simpa using this
        have : j = m * 3 ∨ j = m * 3 + 1 ∨ j = m * 3 + 2 := by omega
        rcases this with rfl | rfl | rfl
        · simp at hu; subst hu; exact c0
        · simp at hu; subst hu; rw [← Nat.add_assoc]; exact c1
        · simp at hu; subst hu; rw [← Nat.add_assoc]; exact c2
    · intro u hu
      rcases List.mem_append.1 hu with hu | hu
      · exact h3 u hu
      · simp at hu
        rcases hu with rfl | rfl | rfl <;> rfl
    · intro i t ht
      have hi : i < m + 1 := by have := (List.getElem?_eq_some_iff.1 ht).1; simp at this; omega
      rw [List.getElem?_take_of_lt hi] at ht
      rcases Nat.lt_or_ge i m with hj | hj
      · obtain ⟨k', h', A', n', c', e0, e1, e2, hr'⟩ := h4 i t (by rw [List.getElem?_take_of_lt hj]; exact ht)
        exact ⟨k', h', A', n', c', by rw [List.getElem?_append_left (by omega)]; exact e0, by rw [List.getElem?_append_left (by omega)]; exact e1, by rw [List.getElem?_append_left (by omega)]; exact e2, hr'⟩
      · obtain rfl : i = m := by omega
        rw [hat] at ht
        cases ht
        exact ⟨k, h, A, n, c, by rw [List.getElem?_append_right (by omega), h1]; simp, by rw [List.getElem?_append_right (by omega), h1]; simp, by rw [List.getElem?_append_right (by omega), h1]; simp, hr⟩

/-- what owns those cells is those terms -/
theorem rd_owned {w w' : World} {base : Nat} {news : List Value} {xs : List T} {k h : Int} {v : Value} (hk : (Lit.int .i64 k).wf = true) (hh : (Lit.int .i64 h).wf = true) (h1 : news.length = xs.length * 3)
    (h4 : ∀ i t, xs[i]? = some t → ∃ k h A n c, news[i * 3]? = some (.int .i64 k) ∧ news[i * 3 + 1]? = some (.int .i64 h) ∧ news[i * 3 + 2]? = some (.slice A n c) ∧ Rd w t (.agg #[.int .i64 k, .int .i64 h, .slice A n c]))
    (hb : Below w.heap.size w w') (hown : w'.ownsRow base 24 3 v (xs.length + 1) (news ++ [.int .i64 0, .int .i64 0, .slice none 0 0])) :
    Rd w' (.node k h (xs ++ [.node 0 0 []])) (.agg #[.int .i64 k, .int .i64 h, v]) := by
  rcases hown.2 with ⟨_, h0⟩ | ⟨g, cap, cur, rfl, hg, hh', hnc, hcm, hcs, htake⟩
  · omega
  have hcell : ∀ j u, (news ++ [.int .i64 0, .int .i64 0, .slice none 0 0])[j]? = some u → w'.cell? ⟨g, 0 + j, none⟩ = some u := fun j u hu => by
    have := hown.cells (g := g) rfl j u hu
    rwa [addr_add] at this
  refine Rd_node.2 ⟨_, xs.length + 1, cap, rfl, hk, hh, by simp, hnc, hcm, fun i t ht => ?_⟩
  rcases Nat.lt_or_ge i xs.length with hi | hi
  · rw [List.getElem?_append_left hi] at ht
    obtain ⟨k', h', A', n', c', e0, e1, e2, hr⟩ := h4 i t ht
    refine ⟨g, 0, .int .i64 k', .int .i64 h', .slice A' n' c', rfl, hcell _ _ ?_, ?_, ?_, Rd.keep hb _ _ hr⟩
    · rw [List.getElem?_append_left (by omega)]; exact e0
    · rw [Nat.add_assoc]; refine hcell _ _ ?_
      rw [List.getElem?_append_left (by omega)]; exact e1
    · rw [Nat.add_assoc]; refine hcell _ _ ?_
      rw [List.getElem?_append_left (by omega)]; exact e2
  · rw [List.getElem?_append_right hi] at ht
    have hi2 : i = xs.length := by have := (List.getElem?_eq_some_iff.1 ht).1; simp at this; omega
    subst hi2
    simp at ht
    subst ht
    refine ⟨g, 0, .int .i64 0, .int .i64 0, .slice none 0 0, rfl, hcell _ _ ?_, ?_, ?_, Rd_node.2 ⟨none, 0, 0, rfl, by decide, by decide, rfl, Nat.le_refl _, Nat.zero_le _, fun i t h => by simp at h⟩⟩
    · rw [List.getElem?_append_right (by omega), h1]; simp
    · rw [Nat.add_assoc]; refine hcell _ _ ?_
      rw [List.getElem?_append_right (by omega), h1]; simp
    · rw [Nat.add_assoc]; refine hcell _ _ ?_
      rw [List.getElem?_append_right (by omega), h1]; simp

/-- where a list of terms is copied from -/
def SrcOf (w : World) (ad : Addr) (news : List Value) (xs : List T) : Prop :=
  news.length = xs.length * 3 ∧ (∀ j u, news[j]? = some u → w.cell? (ad.add j) = some u) ∧ (∀ u ∈ news, u.oneCell' = true) ∧
  ∀ i t, xs[i]? = some t → ∃ k h A n c, news[i * 3]? = some (.int .i64 k) ∧ news[i * 3 + 1]? = some (.int .i64 h) ∧ news[i * 3 + 2]? = some (.slice A n c) ∧ Rd w t (.agg #[.int .i64 k, .int .i64 h, .slice A n c])
theorem src_of {w : World} {ad : Addr} {xs : List T} (hx : ∀ i t, xs[i]? = some t → RdAt w (some ad) i t) : ∃ news, SrcOf w ad news xs := by
  cases xs with
  | nil => exact ⟨[], by simp [SrcOf]⟩
  | cons x xs =>
    obtain ⟨b, o, _, _, _, e, _⟩ := hx 0 x rfl
    cases e
    obtain ⟨news, h1, h2, h3, h4⟩ := cells_of hx (x :: xs).length (Nat.le_refl _)
    rw [List.take_of_length_le (Nat.le_refl _)] at h1 h4
    exact ⟨news, h1, fun j u hu => by rw [addr_add]; exact h2 j u hu, h3, h4⟩
theorem own_base {w : World} {base : Nat} {e : TypeId} {size : Nat} {v : Value} {n : Nat} {xs : List Value} (h : w.ownsRow base e size v n xs) : ∀ g, v.ownBlock = some g → base ≤ g := by
  intro g hg
  rcases h.2 with ⟨rfl, _⟩ | ⟨g', cap, cur, rfl, hb, _⟩
  · simp [Value.ownBlock] at hg
  · simp [Value.ownBlock] at hg; omega
theorem new_cells (w : World) (ty : TypeId) (l : List Value) : ∀ j u, l[j]? = some u → (w.alloc (.cells l.toArray ty)).cell? ((⟨w.heap.size, 0, none⟩ : Addr).add j) = some u := fun j u hu => by
  rw [addr_add, Nat.zero_add, (Box.new w ty l.toArray).cell, List.getElem?_toArray]; exact hu

/-- 'append([]T(nil), xs...)', xs nil or not -/
theorem wpList_append_src {P : Program} {w : World} {ops : Array Oper} {rest : List Oper} {o : Oper} {a : Act} {Q : Exit → Act → World → Prop} (hgd : o.guard = none) (s x : Operand) (t : TypeId)
    (ho : o.op = .call { callee := .builtin .append, args := #[s, x], argTypes := #[t, t] }) (base : Nat) (e : TypeId) (i : TypeInfo) (z : Value) (ht : P.underlying t = some (.slice e)) (hi : P.info? e = some i) (hz : i.zero = some z)
    (hsize : i.size = 3) (hby : i.bytes = 40) (hzs : z.cells.size = 3) (A : Option Addr) (n c : Nat) (news : List Value) (hs : a.eval s = .slice none 0 0) (hx : a.eval x = .slice A n c)
    (hsrc : (A = none ∧ n = 0 ∧ c = 0 ∧ news = []) ∨ ∃ ad, A = some ad ∧ news.length = n * 3 ∧ (∀ j u, news[j]? = some u → w.cell? (ad.add j) = some u) ∧ ∀ u ∈ news, u.oneCell' = true) (hn : n ≤ 4000) (hbase : base ≤ w.heap.size)
    (h : ∀ v' w', w'.ownsRow base e 3 v' n news → Below base w w' → wpList P ops Q rest (a.put o.dst v') w') : wpList P ops Q (o :: rest) a w := by
  rcases hsrc with ⟨rfl, rfl, rfl, rfl⟩ | ⟨ad, rfl, h1, h2, h3⟩
  · exact wpList_append_own_none hgd s x t ho base e i 3 ht hi (.slice none 0 0) 0 [] hs (World.ownsRow_nil _ _ _ _) hx (h _ _ (World.ownsRow_nil _ _ _ _) (Below.refl _ _))
  · refine wpList_append_own _ hgd s x t ho base e i z 3 40 ht hi hz hsize hby hzs (by omega) (.slice none 0 0) 0 [] hs (World.ownsRow_nil _ _ _ _) ad n c news hx h1 h2 h3 (by simp only [maxLen]; omega) (by omega) hbase ?_
    intro v' w' hown hg _
    rw [Nat.zero_add, List.nil_append] at hown
    exact h v' w' hown ((Below.refl _ _).grown hg hbase (by simp [Value.ownBlock]))

theorem rd_with {w : World} {k h k' h' : Int} {xs : List T} {A : Option Addr} {n c : Nat} (hr : Rd w (.node k h xs) (.agg #[.int .i64 k, .int .i64 h, .slice A n c])) (hk : (Lit.int .i64 k').wf = true) (hh : (Lit.int .i64 h').wf = true) :
    Rd w (.node k' h' xs) (.agg #[.int .i64 k', .int .i64 h', .slice A n c]) := by
  obtain ⟨A', n', c', e, _, _, h1, h2, h3, h4⟩ := Rd_node.1 hr
  have e' : A = A' ∧ n = n' ∧ c = c' := by simpa using e
  obtain ⟨rfl, rfl, rfl⟩ := e'
  exact Rd_node.2 ⟨A, n, c, rfl, hk, hh, h1, h2, h3, h4⟩

/-- a nil list has no room -/
theorem nil_cap {H : Type} {enc : TypeId × Value → H} {w : World} {base : Nat} {spare : Nat → Bool} {held : Bool} {v : Value} {d : DataW H} {p : List MemPlace} (h : DataW.Trod enc Try.prog w base spare held 24 v d p) :
    ∀ a b n c, v = .agg #[a, b, .slice none n c] → c = 0 := by
  rintro a b n c rfl
  obtain ⟨fuel, hf⟩ := h
  obtain ⟨ys, m, rfl, _, _, _, hg⟩ := DataW.trod_struct Try.underlying24 hf
  have h2 : DataW.trod enc Try.prog w base spare held m 22 (([a, b, .slice none n c].drop 2).take (Try.prog.cellsOf 22)) = ys[2]? := hg 2 _ rfl
  simp only [Try.cellsArgs, List.drop_succ_cons, List.drop_zero, List.take_succ_cons, List.take_zero] at h2
  cases hy : ys[2]? with
  | none =>
    have hl : ys.length = 3 := by assumption
    rw [List.getElem?_eq_getElem (by omega)] at hy
    cases hy
  | some y =>
    rw [hy] at h2
    rcases DataW.trod_slice Try.underlying22 h2 with ⟨e, _⟩ | ⟨ad, len, cap, elems, rest, m', _, e, _⟩
    · simp at e; exact e.2
    · simp at e

theorem infoTm : (Try.prog.info? 24).map (fun i => (i.zero, i.size, i.bytes)) = some (some (.agg #[.int .i64 0, .int .i64 0, .slice none 0 0]), 3, 40) := by kernel_rfl

set_option maxRecDepth 100000 in
set_option maxHeartbeats 8000000 in
theorem termPartsC (t : T) (v : Value) (w : World) (hv : Rd w t v) (hnil : ∀ a b n c, v = .agg #[a, b, .slice none n c] → c = 0) :
    Calls Try.prog 8 #[v] w fun e w' => e = .returned (.bool true) ∧ Below w.heap.size w w' := by
  obtain ⟨k, h, xs⟩ := t
  have hv' := hv
  obtain ⟨A, n, c, rfl, hk, hh, hn, hc, hm, hx⟩ := Rd_node.1 hv
  clear hv
  have HV := Lib.hid hv'; clear hv'
  have HN := Lib.hid hn; clear hn
  have HX := Lib.hid hx; clear hx
  have HNIL : Hid (A = none → c = 0) := Lib.hid fun e => hnil _ _ n c (by rw [e])
  clear hnil
  unfold maxLen at hm
  have hb : Below w.heap.size w (w.alloc (.cells #[.int .i64 k, .int .i64 h, .slice A n c] 24)) := (Below.refl _ _).alloc (Nat.le_refl _) _
  have bx := Box.new w 24 #[.int .i64 k, .int .i64 h, .slice A n c]
  go_enter Try.func8, Try.ntmps8
  go_wp2_with fail
  refine (awakeC _).mono ?_
  rintro e w1 ⟨rfl, hb1⟩
  replace bx := bx.keep hb1 bx.lt
  replace hb := hb.trans (hb1.mono hb.size)
  clear hb1
  obtain ⟨c0, c1, c2⟩ := bx.three
  go_wp2_with fail
  refine (refLight _ 3000 60 _ _ (Rd.keep hb _ _ HV.out)).mono ?_
  rintro e w2 ⟨rfl, hb1⟩
  replace bx := bx.keep hb1 bx.lt
  replace hb := hb.trans (hb1.mono hb.size)
  clear hb1 c0 c1 c2
  obtain ⟨c0, c1, c2⟩ := bx.three
  generalize ltB (.node k h xs) 3000 60 = R at *
  cases R
  · go_wp2_with fail
    go_ret
    exact ⟨rfl, hb⟩
  go_wp2_with fail
  have hall : mayK (flat (.node k h xs) 1 0) = true → (nd (.node k h xs) ≤ 4000 ∧ (∀ t ∈ xs, mayK (flat t 1 0) = true) ∧ ((k = 0 ∨ k = 1 ∨ k = 3) → mayK (flat (.node k h (xs ++ [.node 0 0 []])) 1 0) = false)) :=
    fun hm => ⟨may_nd hm, fun t ht => may_part hm ht, fun hf => may_more hm hf⟩
  have HA := Lib.hid hall; clear hall
  refine (termMay _ _ _ (Rd.keep hb _ _ HV.out)).mono ?_
  generalize mayK (flat (.node k h xs) 1 0) = M at *
  rintro e w3 ⟨rfl, hb1⟩
  replace bx := bx.keep hb1 bx.lt
  replace hb := hb.trans (hb1.mono hb.size)
  clear hb1 c0 c1 c2
  obtain ⟨c0, c1, c2⟩ := bx.three
  cases M
  · go_wp2_with fail
    go_ret
    exact ⟨rfl, hb⟩
  obtain ⟨hnd, hparts, hmore⟩ := HA.out rfl
  clear HA
  have HP := Lib.hid hparts; clear hparts
  have HMO := Lib.hid hmore; clear hmore
  have hn4 : n ≤ 4000 := by
    have := (wdL_nd xs).2
    rw [nd] at hnd
    have := HN.out
    omega
  clear hnd
  go_wp2_with fail
  go_loopw [5] (fun i wr => ∃ (j : Nat), j ≤ n ∧ i = .int .i64 j ∧ Box wr w.heap.size 24 #[.int .i64 k, .int .i64 h, .slice A n c] ∧ Below w.heap.size w wr) (fun i _ => n - (intOf i).toNat)
  case atStart => exact ⟨0, Nat.zero_le _, rfl, bx, hb⟩
  case round =>
    obtain ⟨j, hj, rfl, hbox, hbr⟩ := hrel
    clear hb c0 c1 c2 bx
    obtain ⟨b0, b1, b2⟩ := hbox.three
    by_cases hlt : j < n
    · obtain ⟨t, ht⟩ := at_of HN.out hlt
      obtain ⟨b, o, v0, v1, v2, rfl, c0, c1, c2, hr⟩ := RdAt.keep hbr (HX.out j t ht)
      have hmt := HP.out t (List.mem_of_getElem? ht)
      have HT := Lib.hid ht; clear ht
      have HMT := Lib.hid hmt; clear hmt
      go_wp2_with fail
      refine (termMay t _ _ hr).mono ?_
      rw [HMT.out]
      rintro e w4 ⟨rfl, hb1⟩
      go_wp2_with fail
      go_roundw
      case rel => exact ⟨j + 1, by omega, by go_num, hbox.keep hb1 hbox.lt, hbr.trans (hb1.mono hbr.size)⟩
      case measure => simp [intOf]; omega
    · obtain ⟨i0, hi, hz0, hz1, hz2⟩ := info_parts infoTm
      have hxl := hbox.lt
      have hsrc : ∃ news, ((A = none ∧ n = 0 ∧ c = 0 ∧ news = []) ∨ ∃ ad, A = some ad ∧ news.length = n * 3 ∧ (∀ j u, news[j]? = some u → (wr.alloc (.cells #[.int .i64 k, .int .i64 h, .slice A n c] 24)).cell? (ad.add j) = some u) ∧ ∀ u ∈ news, u.oneCell' = true) ∧
          news.length = xs.length * 3 ∧ ∀ i t, xs[i]? = some t → ∃ k h A n c, news[i * 3]? = some (.int .i64 k) ∧ news[i * 3 + 1]? = some (.int .i64 h) ∧ news[i * 3 + 2]? = some (.slice A n c) ∧ Rd wr t (.agg #[.int .i64 k, .int .i64 h, .slice A n c]) := by
        cases A with
        | none =>
          have hcz : c = 0 := HNIL.out rfl
          have hnz : n = 0 := by omega
          have hxn : xs = [] := List.length_eq_zero_iff.1 (by rw [HN.out, hnz])
          subst hxn
          exact ⟨[], .inl ⟨rfl, hnz, hcz, rfl⟩, by simp, fun i t ht => by simp at ht⟩
        | some ad =>
          obtain ⟨news, s1, s2, s3, s4⟩ := src_of (fun i t ht => RdAt.keep hbr (HX.out i t ht))
          have hbA : Below wr.heap.size wr (wr.alloc (.cells #[.int .i64 k, .int .i64 h, .slice (some ad) n c] 24)) := (Below.refl _ _).alloc (Nat.le_refl _) _
          exact ⟨news, .inr ⟨ad, rfl, by rw [s1, HN.out], fun j u hu => (hbA.cell (cell_lt (s2 j u hu))).trans (s2 j u hu), s3⟩, s1, s4⟩
      obtain ⟨news, hsrc, s1, s4⟩ := hsrc
      have HSRC := Lib.hid hsrc; clear hsrc
      have S1 := Lib.hid s1; clear s1
      have S4 := Lib.hid s4; clear s4
      have hbx6 := Box.new wr 24 #[.int .i64 k, .int .i64 h, .slice A n c]
      have hbx0 := hbox.alloc (.cells #[.int .i64 k, .int .i64 h, .slice A n c] 24)
      have hbA : Below wr.heap.size wr (wr.alloc (.cells #[.int .i64 k, .int .i64 h, .slice A n c] 24)) := (Below.refl _ _).alloc (Nat.le_refl _) _
      have HBX6 := Lib.hid hbx6; clear hbx6
      have HBX0 := Lib.hid hbx0; clear hbx0
      have HBA := Lib.hid hbA; clear hbA
      have hcs : k = 0 ∨ k = 1 ∨ k = 3 ∨ (k ≠ 0 ∧ k ≠ 1 ∧ k ≠ 3) := by omega
      rcases hcs with k0 | k1 | k3 | ⟨k0, k1, k3⟩
      case' inl => (have e0 : (k == 0) = true := by simpa using k0); (have HF := Lib.hid (HMO.out (.inl k0))); clear k0
      case' inr.inl => (have e0 : (k == 0) = false := by rw [k1]; rfl); (have e1 : (k == 1) = true := by simpa using k1); (have HF := Lib.hid (HMO.out (.inr (.inl k1)))); clear k1
      case' inr.inr.inl => (have e0 : (k == 0) = false := by rw [k3]; rfl); (have e1 : (k == 1) = false := by rw [k3]; rfl); (have e3 : (k == 3) = true := by simpa using k3); (have HF := Lib.hid (HMO.out (.inr (.inr k3)))); clear k3
      case' inr.inr.inr => (have e0 : (k == 0) = false := by simpa using k0); (have e1 : (k == 1) = false := by simpa using k1); (have e3 : (k == 3) = false := by simpa using k3)
      all_goals
        go_wp2_with (first
          | (at_builtin
             refine wpList_append_src rfl (.const (.slice none 0 0)) (.tmp 41) 22 rfl (wr.heap.size + 1) 24 i0 _ Try.underlying22 hi hz0 hz1 hz2 rfl A n c news rfl rfl HSRC.out hn4 (by simp) ?_
             intro v1 w4 hown1 hb4)
          | (at_builtin
             refine wpList_append_own _ rfl (.tmp 42) (.tmp 44) 22 rfl (wr.heap.size + 1) 24 i0 _ 3 40 Try.underlying22 hi hz0 hz1 hz2 rfl (by omega) v1 n news rfl (hown1.alloc _) ⟨w4.heap.size, 0, none⟩ 1 1 [.int .i64 0, .int .i64 0, .slice none 0 0] rfl rfl (new_cells _ _ _) (by simp [Value.oneCell']) (by simp only [maxLen]; omega) (by omega) (by have := hb4.size; simp at this ⊢; omega) ?_
             intro v2 w5 hown2 hg2 _
             have hb5 : Below (wr.heap.size + 1) (wr.alloc (.cells #[.int .i64 k, .int .i64 h, .slice A n c] 24)) w5 := (hb4.alloc (by have := hb4.size; simp at this; omega) _).grown hg2 (by have := hb4.size; simp at this ⊢; omega) (own_base hown1)
             clear hg2 hb4 hown1
             obtain ⟨g, cap, rfl⟩ := ownsRow_succ hown2
             have xm := HBX6.out.keep hb5 (by omega)
             have x0 := HBX0.out.keep hb5 (by omega)
             have hbw := HBA.out.trans (hb5.mono (by omega))
             clear hb5
             obtain ⟨m0, m1, m2⟩ := xm.three
             have mf := xm.frozen 2
             obtain ⟨t0, t1, t2⟩ := x0.three
             have lw := x0.lt
             have lm := xm.lt))
        obtain ⟨W7, hW7⟩ : ∃ W7, (((w5.setCell ⟨wr.heap.size, 2, none⟩ (.slice (some ⟨g, 0, none⟩) (n + 1) cap)).alloc (.cells #[.int .i64 7, .int .i64 h, .slice A n c] 24)).alloc (.cells #[.int .i64 k, .int .i64 (-1), .slice A n c] 24)) = W7 := ⟨_, rfl⟩
        rw [hW7]
        have hB7 : Below wr.heap.size wr W7 := by rw [← hW7]; exact ((hbw.setCell (by dsimp only; omega) _).alloc (by simp; omega) _).alloc (by simp; omega) _
        have own7 := ((ownsRow_setCell_below hown2 (a := ⟨wr.heap.size, 2, none⟩) (by dsimp only; omega) (.slice (some ⟨g, 0, none⟩) (n + 1) cap)).alloc (.cells #[.int .i64 7, .int .i64 h, .slice A n c] 24)).alloc (.cells #[.int .i64 k, .int .i64 (-1), .slice A n c] 24)
        rw [hW7] at own7
        have bn : Box W7 w5.heap.size 24 #[.int .i64 7, .int .i64 h, .slice A n c] := by rw [← hW7]; exact ((Box.new (w5.setCell _ _) _ _).at (by simp)).alloc _
        have bl : Box W7 (w5.heap.size + 1) 24 #[.int .i64 k, .int .i64 (-1), .slice A n c] := by rw [← hW7]; exact (Box.new ((w5.setCell _ _).alloc _) _ _).at (by simp)
        clear hW7 m0 m1 m2 t0 t1 t2 mf lw lm xm x0 hbw hown2
        have hB : Below w.heap.size w W7 := hbr.trans (hB7.mono hbr.size)
        try (
          have HF' := HF.out
          have R1 := rd_owned hk hh S1.out S4.out hB7 (by rw [HN.out]; exact own7)
          refine (termMay _ _ _ R1).mono ?_
          rw [HF']
          clear R1 own7 HF' HF
          rintro e w8 ⟨rfl, hb8⟩
          replace bn := bn.keep hb8 bn.lt
          replace bl := bl.keep hb8 bl.lt
          replace hB := hB.trans (hb8.mono hB.size)
          clear hb8
          obtain ⟨n0, n1, n2⟩ := bn.three
          go_wp2_with fail
          clear n0 n1 n2)
        refine (termMay (.node 7 h xs) _ _ (rd_with (Rd.keep hB _ _ HV.out) (by decide) hh)).mono ?_
        rw [may_none]
        rintro e w9 ⟨rfl, hb9⟩
        replace bl := bl.keep hb9 bl.lt
        replace hB := hB.trans (hb9.mono hB.size)
        clear hb9
        obtain ⟨n0, n1, n2⟩ := bl.three
        go_wp2_with fail
        refine (termMay (.node k (-1) xs) _ _ (rd_with (Rd.keep hB _ _ HV.out) hk (by decide))).mono ?_
        rw [may_less]
        rintro e w10 ⟨rfl, hb10⟩
        replace hB := hB.trans (hb10.mono hB.size)
        clear hb10 n0 n1 n2
        go_wp2_with fail
        go_ret
        exact ⟨rfl, hB⟩
end Go.Proofs.Ytlcoadbeiaiioaa
