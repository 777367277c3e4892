/-
  Texts of one proof, put together. No statement is proved here.
-/
import Derived.Test.YtigfhhfpdggjfaaQh
import Derived.Test.YtigfhhfpdggjfaaPkV

/-
  Declarations that are appended to others. No statement is proved here.
-/
namespace Go.Proofs.Ytigfhhfpdggjfaa
open Go.ChangeShapes Go.WideShapes Go.ChangeAt Go.RowKit
set_option linter.unusedVariables false

theorem infoDecl : (Try.prog.info? 51).map (fun i => (i.zero, i.size, i.bytes)) = some (some (.agg #[.string ByteArray.empty, .int .i64 0, .int .i64 0, .slice none 0 0]), 4, 56) := by kernel_rfl
/-- cells that are declarations, four by four; their types in blocks ahead of some one -/
def KD (B : Nat) (w : World) (cs : List Value) (ds : List T) : Prop :=
  ∀ i x, ds[i]? = some x → ∃ s k h A n c, cs[i * 4]? = some (.string s) ∧ cs[i * 4 + 1]? = some (.int .i64 k) ∧ cs[i * 4 + 2]? = some (.int .i64 h) ∧ cs[i * 4 + 3]? = some (.slice A n c) ∧ RdF (fun b => b < B) w x (.agg #[.int .i64 k, .int .i64 h, .slice A n c])
/-- the cells of a list of declarations -/
theorem DL.raw {w : World} {ds : List T} {A : Option Addr} {n c : Nat} (h : DL w ds A n c) : ∃ cs : List Value, cs.length = n * 4 ∧ (∀ j u, cs[j]? = some u → ∃ b o, A = some ⟨b, o, none⟩ ∧ w.cell? ⟨b, o + j, none⟩ = some u) ∧ (∀ u ∈ cs, u.oneCell' = true) ∧ KD w.heap.size w cs ds := by
  have key : ∀ m, m ≤ n → ∃ cs : List Value, cs.length = m * 4 ∧ (∀ j u, cs[j]? = some u → ∃ b o, A = some ⟨b, o, none⟩ ∧ w.cell? ⟨b, o + j, none⟩ = some u) ∧ (∀ u ∈ cs, u.oneCell' = true) ∧ KD w.heap.size w cs (ds.take m) := by
    intro m
    induction m with
    | zero => intro _; exact ⟨[], rfl, fun j u hu => by simp at hu, fun u hu => absurd hu (by simp), fun i x hx => by simp at hx⟩
    | succ m ih =>
      intro hm
      obtain ⟨cs, h1, h2, h3, h4⟩ := ih (by omega)
      obtain ⟨x, hx⟩ := at_of h.len (show m < n by omega)
      obtain ⟨b, o, s, k, g, A', n', c', rfl, c0, c1, c2, c3, hr⟩ := h.at_ m x hx
      have happ : ∀ q u, [Value.string s, .int .i64 k, .int .i64 g, .slice A' n' c'][q]? = some u → w.cell? ⟨b, o + (m * 4 + q), none⟩ = some u := fun q u hu => by
        match q, hu with
        | 0, hu => cases hu; exact c0
        | 1, hu => cases hu; exact c1
        | 2, hu => cases hu; exact c2
        | 3, hu => cases hu; exact c3
        | q + 4, hu => simp at hu
      refine ⟨cs ++ [.string s, .int .i64 k, .int .i64 g, .slice A' n' c'], by rw [List.length_append, h1]; simp; omega, fun j u hu => ?_, fun u hu => ?_, fun i y hy => ?_⟩
      · by_cases hj : j < cs.length
        · rw [List.getElem?_append_left hj] at hu
          exact h2 j u hu
        · rw [List.getElem?_append_right (by omega)] at hu
          have := happ _ _ hu
          rw [show m * 4 + (j - cs.length) = j by omega] at this
          exact ⟨b, o, rfl, this⟩
      · rcases List.mem_append.1 hu with hu | hu
        · exact h3 u hu
        · simp at hu
          rcases hu with rfl | rfl | rfl | rfl <;> rfl
      · have hil := (List.getElem?_eq_some_iff.1 hy).1
        rw [List.length_take] at hil
        by_cases him : i < m
        · obtain ⟨s', k', g', A2, n2, c2', e0, e1, e2, e3, hr'⟩ := h4 i y (by rw [List.getElem?_take_of_lt (by omega)] at hy ⊢; exact hy)
          refine ⟨s', k', g', A2, n2, c2', ?_, ?_, ?_, ?_, hr'⟩
          all_goals rw [List.getElem?_append_left (by omega)]; assumption
        · obtain rfl : i = m := by omega
          rw [List.getElem?_take_of_lt (by omega), hx] at hy
          cases hy
          refine ⟨s, k, g, A', n', c', ?_, ?_, ?_, ?_, rdF_anyQ _ _ hr⟩
          · rw [List.getElem?_append_right (by omega), h1, Nat.sub_self]; rfl
          · rw [List.getElem?_append_right (by omega), h1, show i * 4 + 1 - i * 4 = 1 by omega]; rfl
          · rw [List.getElem?_append_right (by omega), h1, show i * 4 + 2 - i * 4 = 2 by omega]; rfl
          · rw [List.getElem?_append_right (by omega), h1, show i * 4 + 3 - i * 4 = 3 by omega]; rfl
  obtain ⟨cs, h1, h2, h3, h4⟩ := key n (Nat.le_refl _)
  rw [List.take_of_length_le (by rw [h.len]; omega)] at h4
  exact ⟨cs, h1, h2, h3, h4⟩
theorem KD.keep {B : Nat} {w w' : World} {cs : List Value} {ds : List T} (h : KD B w cs ds) (hm : ∀ b, b < B → w'.heap[b]? = w.heap[b]?) : KD B w' cs ds := fun i x hx => by
  obtain ⟨s, k, g, A, n, c, e0, e1, e2, e3, hr⟩ := h i x hx
  exact ⟨s, k, g, A, n, c, e0, e1, e2, e3, RdF.moveQ (fun b hb _ => ⟨hb, hm b hb⟩) _ _ hr⟩
/-- a row of declarations of a call's own -/
structure DRow (w : World) (B base : Nat) (v : Value) (n : Nat) (ds : List T) (cs : List Value) : Prop where
  own : w.ownsRow base 51 4 v n cs
  len : ds.length = n
  kids : KD B w cs ds
/-- all are appended to nothing -/
theorem declApp1 {W0 W : World} {ds : List T} {A : Option Addr} {n c : Nat} (h : DL W0 ds A n c) (hn : n ≤ 1000) (hb : Below W0.heap.size W0 W) :
    ∃ A' c' w' cs, (Builtin.append_ #[22, 22] 22 #[.slice none 0 0, .slice A n c]).run Try.prog W = .ok (.slice A' n c') w' ∧ DRow w' W0.heap.size W0.heap.size (.slice A' n c') n ds cs ∧ W.grownBy w' none := by
  rcases Nat.eq_zero_or_pos n with rfl | hp
  · obtain ⟨i0, hi, hz0, hz1, hz2⟩ := info_parts infoDecl
    have hds : ds = [] := List.length_eq_zero_iff.1 h.len
    subst hds
    refine ⟨none, 0, W, [], ?_, ⟨World.ownsRow_nil _ _ _ _, rfl, fun i x hx => by simp at hx⟩, grown_of_below (Below.refl _ _)⟩
    cases A <;> simp [Builtin.append_, run_underlying Try.underlying22, sizeOf, typeInfo, hi, Builtin.lenOf, Builtin.firstCells, loadCells, loadCellsFrom]
  · obtain ⟨cs, h1, h2, h3, h4⟩ := (h.keep hb).raw
    obtain ⟨cs0, g1, g2, g3, g4⟩ := h.raw
    obtain ⟨x, hx⟩ := at_of h.len hp
    obtain ⟨b, o, _, _, _, _, _, _, rfl, _⟩ := h.at_ 0 x hx
    obtain ⟨i0, hi, hz0, hz1, hz2⟩ := info_parts infoDecl
    have hcell : ∀ j u, cs0[j]? = some u → W.cell? ((⟨b, o, none⟩ : Addr).add j) = some u := fun j u hu => by
      obtain ⟨b', o', e, hc⟩ := g2 j u hu
      cases e
      rw [addr_add]
      exact (hb.cell (cell_lt hc)).trans hc
    obtain ⟨g, cap, w', hrun, how, hgr, _, _⟩ := run_append_lies (P := Try.prog) W 22 22 W0.heap.size 51 i0 _ 4 56 Try.underlying22 hi hz0 hz1 hz2 rfl (by omega) (.slice none 0 0) 0 []
      (World.ownsRow_nil _ _ _ _) ⟨b, o, none⟩ n c cs0 g1 hcell g3 hp (by unfold maxLen; omega) (by omega) hb.size _ rfl
    rw [Nat.zero_add] at hrun how
    rw [List.nil_append] at how
    exact ⟨some ⟨g, 0, none⟩, cap, w', cs0, hrun, ⟨how, h.len, g4.keep fun b' hb' => (hgr.block b' (Nat.lt_of_lt_of_le hb' hb.size) (by simp [Value.ownBlock])).trans (hb.block b' hb')⟩, hgr⟩
/-- one more is appended -/
theorem declApp2 {W : World} {B base : Nat} {v : Value} {n : Nat} {ds : List T} {cs : List Value} (h : DRow W B base v n ds cs) (hn : n ≤ 1000) (hB : B ≤ base) (hbase : base ≤ W.heap.size) {P : Nat} {s : ByteArray} {k g : Int} {A' : Option Addr} {n' c' : Nat} {x : T}
    (hP : W.heap[P]? = some (.cells #[.string s, .int .i64 k, .int .i64 g, .slice A' n' c'] 51 (0, 0))) (hr : RdF (fun b => b < B) W x (.agg #[.int .i64 k, .int .i64 g, .slice A' n' c'])) :
    ∃ q cap w', (Builtin.append_ #[22, 22] 22 #[v, .slice (some ⟨P, 0, none⟩) 1 1]).run Try.prog W = .ok (.slice (some ⟨q, 0, none⟩) (n + 1) cap) w' ∧ DL w' (ds ++ [x]) (some ⟨q, 0, none⟩) (n + 1) cap ∧ Below base W w' := by
  obtain ⟨i0, hi, hz0, hz1, hz2⟩ := info_parts infoDecl
  obtain ⟨q, cap, w', hrun, how, hgr, _, _⟩ := run_append_lies (P := Try.prog) W 22 22 base 51 i0 _ 4 56 Try.underlying22 hi hz0 hz1 hz2 rfl (by omega) v n cs
    h.own ⟨P, 0, none⟩ 1 1 [.string s, .int .i64 k, .int .i64 g, .slice A' n' c'] rfl (World.news_of_block hP) (by intro u hu; simp at hu; rcases hu with rfl | rfl | rfl | rfl <;> rfl) (by omega) (by unfold maxLen; omega) (by omega) hbase _ rfl
  have hcl : cs.length = n * 4 := h.own.1
  have hcap : n + 1 ≤ cap ∧ cap ≤ maxLen := by
    rcases how.2 with ⟨h0, _⟩ | ⟨g', cap', cur, hv, _, _, h1, h2, _⟩
    · cases h0
    · cases hv; exact ⟨h1, h2⟩
  have hcell : ∀ j u, (cs ++ [.string s, .int .i64 k, .int .i64 g, .slice A' n' c'])[j]? = some u → w'.cell? ⟨q, 0 + j, none⟩ = some u := fun j u hu => by
    have := how.cells (g := q) rfl j u hu
    rwa [addr_add] at this
  have hold : ∀ b, b < B → w'.heap[b]? = W.heap[b]? := fun b hb => hgr.block b (by omega) fun e => by
    have := (h.own.lt b e.symm).1
    omega
  refine ⟨q, cap, w', hrun, ⟨by simp [h.len], hcap.1, hcap.2, fun i y hy => ?_⟩, below_grownQ (Below.refl _ _) hgr (fun r hr => (h.own.lt r hr).1) hbase⟩
  by_cases hlt : i < n
  · rw [List.getElem?_append_left (by rw [h.len]; omega)] at hy
    obtain ⟨s1, k1, g1, A1, n1, c1, e0, e1, e2, e3, hr1⟩ := h.kids i y hy
    have get : ∀ j u, j < n * 4 → cs[j]? = some u → w'.cell? ⟨q, 0 + j, none⟩ = some u := fun j u hj hu => hcell j u (by rw [List.getElem?_append_left (by omega)]; exact hu)
    exact ⟨q, 0, s1, k1, g1, A1, n1, c1, rfl, get _ _ (by omega) e0, by rw [Nat.add_assoc]; exact get _ _ (by omega) e1, by rw [Nat.add_assoc]; exact get _ _ (by omega) e2, by rw [Nat.add_assoc]; exact get _ _ (by omega) e3, RdF.rd _ _ (RdF.moveQ (ok' := fun _ => True) (fun b hb _ => ⟨trivial, hold b hb⟩) _ _ hr1)⟩
  · have hin : i = n := by have := (List.getElem?_eq_some_iff.1 hy).1; simp [h.len] at this; omega
    subst hin
    rw [List.getElem?_append_right (by rw [h.len]; omega), h.len, Nat.sub_self] at hy
    obtain rfl : x = y := by simpa using hy
    have get : ∀ j u, [Value.string s, .int .i64 k, .int .i64 g, .slice A' n' c'][j]? = some u → w'.cell? ⟨q, 0 + (i * 4 + j), none⟩ = some u := fun j u hu => hcell _ u (by rw [List.getElem?_append_right (by omega), hcl, show i * 4 + j - i * 4 = j by omega]; exact hu)
    exact ⟨q, 0, s, k, g, A', n', c', rfl, get 0 _ rfl, get 1 _ rfl, get 2 _ rfl, get 3 _ rfl, RdF.rd _ _ (RdF.moveQ (ok' := fun _ => True) (fun b hb _ => ⟨trivial, hold b hb⟩) _ _ hr)⟩
end Go.Proofs.Ytigfhhfpdggjfaa

/-
  A list of terms that is copied by append, and one more. No statement is proved here.
-/
namespace Go.Proofs.Ytigfhhfpdggjfaa
open Go.ChangeShapes Go.WideShapes Go.ChangeAt Go.RowKit
set_option linter.unusedVariables false

/-- a row of a call's own that holds a list's cells -/
structure TRowV (W0 : World) (A : Option Addr) (n : Nat) (w : World) (v : Value) (olds : List Value) : Prop where
  own : w.ownsRow W0.heap.size 26 3 v n olds
  len : olds.length = n * 3
  at_ : ∀ b o q u, A = some ⟨b, o, none⟩ → q < n * 3 → W0.cell? ⟨b, o + q, none⟩ = some u → olds[q]? = some u
theorem TRowV.kept {W0 : World} {A : Option Addr} {n : Nat} {w w' : World} {v : Value} {olds : List Value} (h : TRowV W0 A n w v olds) (hb : Below w.heap.size w w') : TRowV W0 A n w' v olds :=
  ⟨h.own.kept (grown_of_below hb) (own_none _), h.len, h.at_⟩
theorem termApp1V {W0 W : World} {xs : List T} {A : Option Addr} {n c : Nat} (h : CLV W0 xs A n c) (hn : n ≤ 100000) (hb : Below W0.heap.size W0 W) :
    ∃ A' c' w' olds, (Builtin.append_ #[24, 24] 24 #[.slice none 0 0, .slice A n c]).run Try.prog W = .ok (.slice A' n c') w' ∧ TRowV W0 A n w' (.slice A' n c') olds ∧ Below W.heap.size W w' := by
  obtain ⟨i0, hi, hz0, hz1, hz2⟩ := info_parts infoTerm
  rcases Nat.eq_zero_or_pos n with rfl | hp
  · refine ⟨none, 0, W, [], ?_, ⟨World.ownsRow_nil _ _ _ _, rfl, fun b o q u _ hq => by omega⟩, Below.refl _ _⟩
    cases A <;> simp [Builtin.append_, run_underlying Try.underlying24, sizeOf, typeInfo, hi, Builtin.lenOf, Builtin.firstCells, loadCells, loadCellsFrom]
  · obtain ⟨t, ht⟩ := at_of h.len hp
    obtain ⟨b, o, _, _, _, _, _, e, _⟩ := (h.at_ 0 t ht).full
    subst e
    have hxW := h.keep hb
    obtain ⟨g, cap, w', hrun, how, hgr, _, _⟩ := run_append_lies (P := Try.prog) W 24 24 W0.heap.size 26 i0 _ 3 40 Try.underlying24 hi hz0 hz1 hz2 rfl (by omega) (.slice none 0 0) 0 []
      (World.ownsRow_nil _ _ _ _) ⟨b, o, none⟩ n c (rawV W b o (n * 3)) (rawV_len _ _ _ _) (fun j u hu => by
          have hq : j < n * 3 := by have := (List.getElem?_eq_some_iff.1 hu).1; rwa [rawV_len] at this
          obtain ⟨u', h1, _⟩ := rawV_cell hxW hq
          rw [rawV_at hq, h1] at hu
          rw [addr_add, h1]
          simpa using hu) (fun u hu => by
          obtain ⟨q, hq⟩ := List.getElem?_of_mem hu
          have hlt : q < n * 3 := by have := (List.getElem?_eq_some_iff.1 hq).1; rwa [rawV_len] at this
          obtain ⟨u', h1, h2⟩ := rawV_cell hxW hlt
          rw [rawV_at hlt, h1] at hq
          cases hq
          exact h2) hp (by unfold maxLen; omega) (by omega) hb.size _ rfl
    rw [Nat.zero_add] at hrun how
    rw [List.nil_append] at how
    refine ⟨some ⟨g, 0, none⟩, cap, w', _, hrun, ⟨how, rawV_len _ _ _ _, fun b' o' q u e hq hu => ?_⟩, below_grown (Below.refl _ _) hgr (fun r hr => by cases hr) (Nat.le_refl _)⟩
    cases e
    rw [rawV_at hq, (hb.cell (cell_lt hu)).trans hu]
    rfl
theorem termApp2V {W0 W : World} {xs : List T} {A : Option Addr} {n c : Nat} (h : CLV W0 xs A n c) (hn : n ≤ 100000) (hb : Below W0.heap.size W0 W) {v : Value} {olds : List Value} (hr : TRowV W0 A n W v olds) {P : Nat} {k g : Int} {A2 : Option Addr} {n2 c2 : Nat} {x : T}
    (hP : W.heap[P]? = some (.cells #[.int .i64 k, .int .i64 g, .slice A2 n2 c2] 26 (0, 0))) (hx : Rd W0 x (.agg #[.int .i64 k, .int .i64 g, .slice A2 n2 c2])) :
    ∃ q cap w', (Builtin.append_ #[24, 24] 24 #[v, .slice (some ⟨P, 0, none⟩) 1 1]).run Try.prog W = .ok (.slice (some ⟨q, 0, none⟩) (n + 1) cap) w' ∧ CLV w' (xs ++ [x]) (some ⟨q, 0, none⟩) (n + 1) cap ∧ Below W0.heap.size W0 w' := by
  obtain ⟨i0, hi, hz0, hz1, hz2⟩ := info_parts infoTerm
  obtain ⟨q, cap, w', hrun, how, hgr, _, _⟩ := run_append_lies (P := Try.prog) W 24 24 W0.heap.size 26 i0 _ 3 40 Try.underlying24 hi hz0 hz1 hz2 rfl (by omega) v n olds
    hr.own ⟨P, 0, none⟩ 1 1 [.int .i64 k, .int .i64 g, .slice A2 n2 c2] rfl (World.news_of_block hP) (by intro u hu; simp at hu; rcases hu with rfl | rfl | rfl <;> rfl) (by omega) (by unfold maxLen; omega) (by omega) hb.size _ rfl
  have hbw : Below W0.heap.size W0 w' := below_grown hb hgr (fun r hr' => (hr.own.lt r hr').1) hb.size
  exact ⟨q, cap, w', hrun, rdV_row h hbw hr.at_ hr.len hx how rfl, hbw⟩
end Go.Proofs.Ytigfhhfpdggjfaa

/-
  Lists of declarations and of metas appended to rows of a call's own. No statement is proved here.
-/
namespace Go.Proofs.Ytigfhhfpdggjfaa
open Go.ChangeShapes Go.WideShapes Go.ChangeAt Go.RowKit
set_option linter.unusedVariables false

theorem infoMeta : (Try.prog.info? 55).map (fun i => (i.zero, i.size, i.bytes)) = some (some (.agg #[.slice none 0 0, .int .i64 0, .int .i64 0, .slice none 0 0, .bool false]), 5, 72) := by kernel_rfl

/-- cells of D, as some world reads what they hold -/
def KDv (W0 : World) (cs : List Value) (ds : List T) : Prop :=
  ∀ i x, ds[i]? = some x → ∃ s k g A0 n0 c0, cs[i * 4]? = some (.string s) ∧ cs[i * 4 + 1]? = some (.int .i64 k) ∧ cs[i * 4 + 2]? = some (.int .i64 g) ∧ cs[i * 4 + 3]? = some (.slice A0 n0 c0) ∧ Rd W0 x (.agg #[.int .i64 k, .int .i64 g, .slice A0 n0 c0])
theorem KDv.app {W0 : World} {cs1 cs2 : List Value} {ds1 ds2 : List T} (h1 : KDv W0 cs1 ds1) (h2 : KDv W0 cs2 ds2) (hlen : cs1.length = ds1.length * 4) : KDv W0 (cs1 ++ cs2) (ds1 ++ ds2) := fun i x hx => by
  by_cases hi : i < ds1.length
  · rw [List.getElem?_append_left hi] at hx
    obtain ⟨s, k, g, A0, n0, c0, e0, e1, e2, e3, hr⟩ := h1 i x hx
    have up : ∀ j u, cs1[j]? = some u → (cs1 ++ cs2)[j]? = some u := fun j u hj => by
      rw [List.getElem?_append_left (List.getElem?_eq_some_iff.1 hj).1]; exact hj
    exact ⟨s, k, g, A0, n0, c0, up _ _ e0, up _ _ e1, up _ _ e2, up _ _ e3, hr⟩
  · rw [List.getElem?_append_right (by omega)] at hx
    obtain ⟨s, k, g, A0, n0, c0, e0, e1, e2, e3, hr⟩ := h2 _ x hx
    have up : ∀ q u, cs2[(i - ds1.length) * 4 + q]? = some u → (cs1 ++ cs2)[i * 4 + q]? = some u := fun q u hj => by
      rw [List.getElem?_append_right (by omega), hlen, show i * 4 + q - ds1.length * 4 = (i - ds1.length) * 4 + q by omega]; exact hj
    exact ⟨s, k, g, A0, n0, c0, up 0 _ e0, up 1 _ e1, up 2 _ e2, up 3 _ e3, hr⟩
theorem DL.rawV {w : World} {ds : List T} {A : Option Addr} {n c : Nat} (h : DL w ds A n c) : ∃ cs : List Value, cs.length = n * 4 ∧ (∀ j u, cs[j]? = some u → ∃ b o, A = some ⟨b, o, none⟩ ∧ w.cell? ⟨b, o + j, none⟩ = some u) ∧ (∀ u ∈ cs, u.oneCell' = true) ∧ KDv w cs ds := by
  obtain ⟨cs, h1, h2, h3, h4⟩ := h.raw
  refine ⟨cs, h1, h2, h3, fun i x hx => ?_⟩
  obtain ⟨s, k, g, A, n, c, e0, e1, e2, e3, hr⟩ := h4 i x hx
  exact ⟨s, k, g, A, n, c, e0, e1, e2, e3, RdF.rd _ _ (RdF.moveQ (ok' := fun _ => True) (fun b hb _ => ⟨trivial, rfl⟩) _ _ hr)⟩

/-- a row of a call's own that holds cells of D -/
structure RowDv (W0 w : World) (A : Option Addr) (n c : Nat) (ds : List T) (cs : List Value) : Prop where
  own : w.ownsRow W0.heap.size 51 4 (.slice A n c) n cs
  len : ds.length = n
  kids : KDv W0 cs ds
theorem RowDv.none (W0 w : World) : RowDv W0 w none 0 0 [] [] := ⟨World.ownsRow_nil _ _ _ _, rfl, fun i x hx => by simp at hx⟩
theorem RowDv.cap {W0 w : World} {A : Option Addr} {n c : Nat} {ds : List T} {cs : List Value} (h : RowDv W0 w A n c ds cs) : n ≤ c ∧ c ≤ maxLen := by
  rcases h.own.2 with ⟨e, h0⟩ | ⟨g', cap', cur, hv, _, _, h1, h2, _⟩
  · cases e; exact ⟨Nat.le_refl _, Nat.zero_le _⟩
  · cases hv; exact ⟨h1, h2⟩
theorem RowDv.lst {W0 w : World} {A : Option Addr} {n c : Nat} {ds : List T} {cs : List Value} (h : RowDv W0 w A n c ds cs) (hb : Below W0.heap.size W0 w) : DL w ds A n c := by
  refine ⟨h.len, h.cap.1, h.cap.2, fun i x hx => ?_⟩
  have hi : i < n := by have := (List.getElem?_eq_some_iff.1 hx).1; rw [h.len] at this; exact this
  obtain ⟨s, k, g, A0, n0, c0, e0, e1, e2, e3, hr⟩ := h.kids i x hx
  obtain ⟨q, hq⟩ : ∃ q, A = some ⟨q, 0, Option.none⟩ := by
    rcases h.own.2 with ⟨e, h0⟩ | ⟨g', cap', cur, hv, _⟩
    · omega
    · cases hv; exact ⟨_, rfl⟩
  subst hq
  have get : ∀ j u, cs[j]? = some u → w.cell? ⟨q, 0 + j, Option.none⟩ = some u := fun j u hj => by
    have := h.own.cells (g := q) rfl j u hj
    rwa [addr_add] at this
  exact ⟨q, 0, s, k, g, A0, n0, c0, rfl, get _ _ e0, (by rw [Nat.add_assoc]; exact get _ _ e1), (by rw [Nat.add_assoc]; exact get _ _ e2), (by rw [Nat.add_assoc]; exact get _ _ e3), Rd.keep hb _ _ hr⟩
theorem rowD_app {W0 W : World} {A1 : Option Addr} {n1 c1 : Nat} {ds1 : List T} {cs1 : List Value} (h1 : RowDv W0 W A1 n1 c1 ds1 cs1) {A2 : Option Addr} {n2 c2 : Nat} {ds2 : List T} (h2 : DL W0 ds2 A2 n2 c2) (hn : n1 + n2 ≤ 1000) (hb : Below W0.heap.size W0 W) :
    ∃ A c w' cs, (Builtin.append_ #[22, 22] 22 #[.slice A1 n1 c1, .slice A2 n2 c2]).run Try.prog W = .ok (.slice A (n1 + n2) c) w' ∧ RowDv W0 w' A (n1 + n2) c (ds1 ++ ds2) cs ∧ Below W0.heap.size W0 w' := by
  obtain ⟨i0, hi, hz0, hz1, hz2⟩ := info_parts infoDecl
  rcases Nat.eq_zero_or_pos n2 with rfl | hp
  · have hds : ds2 = [] := List.length_eq_zero_iff.1 h2.len
    subst hds
    have hle := h1.cap.1
    refine ⟨A1, c1, W, cs1, ?_, by rw [List.append_nil]; exact h1, hb⟩
    cases A1 <;> cases A2 <;> simp [Builtin.append_, run_underlying Try.underlying22, sizeOf, typeInfo, hi, Builtin.lenOf, Builtin.firstCells, loadCells, loadCellsFrom, hle, storeCells]
  · obtain ⟨cs2, g1, g2, g3, g4⟩ := h2.rawV
    obtain ⟨x, hx⟩ := at_of h2.len hp
    obtain ⟨b, o, _, _, _, _, _, _, e, _⟩ := h2.at_ 0 x hx
    subst e
    have hcell : ∀ j u, cs2[j]? = some u → W.cell? ((⟨b, o, Option.none⟩ : Addr).add j) = some u := fun j u hu => by
      obtain ⟨b', o', e, hc⟩ := g2 j u hu
      cases e
      rw [addr_add]
      exact (hb.cell (cell_lt hc)).trans hc
    obtain ⟨g, cap, w', hrun, how, hgr, _, _⟩ := run_append_lies (P := Try.prog) W 22 22 W0.heap.size 51 i0 _ 4 56 Try.underlying22 hi hz0 hz1 hz2 rfl (by omega) (.slice A1 n1 c1) n1 cs1
      h1.own ⟨b, o, Option.none⟩ n2 c2 cs2 g1 hcell g3 hp (by unfold maxLen; omega) (by omega) hb.size _ rfl
    have hbw : Below W0.heap.size W0 w' := below_grown hb hgr (fun r hr' => (h1.own.lt r hr').1) hb.size
    exact ⟨some ⟨g, 0, Option.none⟩, cap, w', _, hrun, ⟨how, by rw [List.length_append, h1.len, h2.len], h1.kids.app g4 (by rw [h1.own.1, h1.len])⟩, hbw⟩

/-- cells of M, as some world reads what they hold -/
def KMv (W0 : World) (cs : List Value) (ds : List (List T × T)) : Prop :=
  ∀ i x, ds[i]? = some x → ∃ A1 n1 c1 k g A2 n2 c2 p, cs[i * 5]? = some (.slice A1 n1 c1) ∧ cs[i * 5 + 1]? = some (.int .i64 k) ∧ cs[i * 5 + 2]? = some (.int .i64 g) ∧ cs[i * 5 + 3]? = some (.slice A2 n2 c2) ∧ cs[i * 5 + 4]? = some (.bool p) ∧ CLV W0 x.1 A1 n1 c1 ∧ Rd W0 x.2 (.agg #[.int .i64 k, .int .i64 g, .slice A2 n2 c2])
theorem KMv.app {W0 : World} {cs1 cs2 : List Value} {ds1 ds2 : List (List T × T)} (h1 : KMv W0 cs1 ds1) (h2 : KMv W0 cs2 ds2) (hlen : cs1.length = ds1.length * 5) : KMv W0 (cs1 ++ cs2) (ds1 ++ ds2) := fun i x hx => by
  by_cases hi : i < ds1.length
  · rw [List.getElem?_append_left hi] at hx
    obtain ⟨A1, n1, c1, k, g, A2, n2, c2, p, e0, e1, e2, e3, e4, hl, hr⟩ := h1 i x hx
    have up : ∀ j u, cs1[j]? = some u → (cs1 ++ cs2)[j]? = some u := fun j u hj => by
      rw [List.getElem?_append_left (List.getElem?_eq_some_iff.1 hj).1]; exact hj
    exact ⟨A1, n1, c1, k, g, A2, n2, c2, p, up _ _ e0, up _ _ e1, up _ _ e2, up _ _ e3, up _ _ e4, hl, hr⟩
  · rw [List.getElem?_append_right (by omega)] at hx
    obtain ⟨A1, n1, c1, k, g, A2, n2, c2, p, e0, e1, e2, e3, e4, hl, hr⟩ := h2 _ x hx
    have up : ∀ q u, cs2[(i - ds1.length) * 5 + q]? = some u → (cs1 ++ cs2)[i * 5 + q]? = some u := fun q u hj => by
      rw [List.getElem?_append_right (by omega), hlen, show i * 5 + q - ds1.length * 5 = (i - ds1.length) * 5 + q by omega]; exact hj
    exact ⟨A1, n1, c1, k, g, A2, n2, c2, p, up 0 _ e0, up 1 _ e1, up 2 _ e2, up 3 _ e3, up 4 _ e4, hl, hr⟩
theorem ML.rawV {w : World} {ms : List (List T × T)} {A : Option Addr} {n c : Nat} (h : ML w ms A n c) : ∃ cs : List Value, cs.length = n * 5 ∧ (∀ j u, cs[j]? = some u → ∃ b o, A = some ⟨b, o, none⟩ ∧ w.cell? ⟨b, o + j, none⟩ = some u) ∧ (∀ u ∈ cs, u.oneCell' = true) ∧ KMv w cs ms := by
  have key : ∀ m, m ≤ n → ∃ cs : List Value, cs.length = m * 5 ∧ (∀ j u, cs[j]? = some u → ∃ b o, A = some ⟨b, o, none⟩ ∧ w.cell? ⟨b, o + j, none⟩ = some u) ∧ (∀ u ∈ cs, u.oneCell' = true) ∧ KMv w cs (ms.take m) := by
    intro m
    induction m with
    | zero => intro _; exact ⟨[], rfl, fun j u hu => by simp at hu, fun u hu => absurd hu (by simp), fun i x hx => by simp at hx⟩
    | succ m ih =>
      intro hm
      obtain ⟨cs, h1, h2, h3, h4⟩ := ih (by omega)
      obtain ⟨x, hx⟩ := at_of h.len (show m < n by omega)
      obtain ⟨b, o, A1, n1, c1, k, g, A2, n2, c2, p, rfl, d0, d1, d2, d3, d4, hl, hr⟩ := h.at_ m x hx
      have happ : ∀ q u, [Value.slice A1 n1 c1, .int .i64 k, .int .i64 g, .slice A2 n2 c2, .bool p][q]? = some u → w.cell? ⟨b, o + (m * 5 + q), none⟩ = some u := fun q u hu => by
        match q, hu with
        | 0, hu => cases hu; exact d0
        | 1, hu => cases hu; exact d1
        | 2, hu => cases hu; exact d2
        | 3, hu => cases hu; exact d3
        | 4, hu => cases hu; exact d4
        | q + 5, hu => simp at hu
      have hs : KMv w [Value.slice A1 n1 c1, .int .i64 k, .int .i64 g, .slice A2 n2 c2, .bool p] [x] := fun i y hy => by
        match i, hy with
        | 0, hy => cases hy; exact ⟨A1, n1, c1, k, g, A2, n2, c2, p, rfl, rfl, rfl, rfl, rfl, hl, hr⟩
        | i + 1, hy => simp at hy
      refine ⟨cs ++ [.slice A1 n1 c1, .int .i64 k, .int .i64 g, .slice A2 n2 c2, .bool p], by rw [List.length_append, h1]; simp; omega, fun j u hu => ?_, fun u hu => ?_, ?_⟩
      · by_cases hj : j < cs.length
        · rw [List.getElem?_append_left hj] at hu
          exact h2 j u hu
        · rw [List.getElem?_append_right (by omega)] at hu
          have := happ _ _ hu
          rw [show m * 5 + (j - cs.length) = j by omega] at this
          exact ⟨b, o, rfl, this⟩
      · rcases List.mem_append.1 hu with hu | hu
        · exact h3 u hu
        · simp at hu
          rcases hu with rfl | rfl | rfl | rfl | rfl <;> rfl
      · rw [List.take_add_one, hx]
        exact h4.app hs (by rw [h1, List.length_take, h.len]; omega)
  obtain ⟨cs, h1, h2, h3, h4⟩ := key n (Nat.le_refl _)
  rw [List.take_of_length_le (by rw [h.len]; omega)] at h4
  exact ⟨cs, h1, h2, h3, h4⟩

/-- a row of a call's own that holds cells of M -/
structure RowMv (W0 w : World) (A : Option Addr) (n c : Nat) (ds : List (List T × T)) (cs : List Value) : Prop where
  own : w.ownsRow W0.heap.size 55 5 (.slice A n c) n cs
  len : ds.length = n
  kids : KMv W0 cs ds
theorem RowMv.none (W0 w : World) : RowMv W0 w none 0 0 [] [] := ⟨World.ownsRow_nil _ _ _ _, rfl, fun i x hx => by simp at hx⟩
theorem RowMv.cap {W0 w : World} {A : Option Addr} {n c : Nat} {ds : List (List T × T)} {cs : List Value} (h : RowMv W0 w A n c ds cs) : n ≤ c ∧ c ≤ maxLen := by
  rcases h.own.2 with ⟨e, h0⟩ | ⟨g', cap', cur, hv, _, _, h1, h2, _⟩
  · cases e; exact ⟨Nat.le_refl _, Nat.zero_le _⟩
  · cases hv; exact ⟨h1, h2⟩
theorem RowMv.lst {W0 w : World} {A : Option Addr} {n c : Nat} {ds : List (List T × T)} {cs : List Value} (h : RowMv W0 w A n c ds cs) (hb : Below W0.heap.size W0 w) : ML w ds A n c := by
  refine ⟨h.len, h.cap.1, h.cap.2, fun i x hx => ?_⟩
  have hi : i < n := by have := (List.getElem?_eq_some_iff.1 hx).1; rw [h.len] at this; exact this
  obtain ⟨A1, n1, c1, k, g, A2, n2, c2, p, e0, e1, e2, e3, e4, hl, hr⟩ := h.kids i x hx
  obtain ⟨q, hq⟩ : ∃ q, A = some ⟨q, 0, Option.none⟩ := by
    rcases h.own.2 with ⟨e, h0⟩ | ⟨g', cap', cur, hv, _⟩
    · omega
    · cases hv; exact ⟨_, rfl⟩
  subst hq
  have get : ∀ j u, cs[j]? = some u → w.cell? ⟨q, 0 + j, Option.none⟩ = some u := fun j u hj => by
    have := h.own.cells (g := q) rfl j u hj
    rwa [addr_add] at this
  exact ⟨q, 0, A1, n1, c1, k, g, A2, n2, c2, p, rfl, get _ _ e0, (by rw [Nat.add_assoc]; exact get _ _ e1), (by rw [Nat.add_assoc]; exact get _ _ e2), (by rw [Nat.add_assoc]; exact get _ _ e3), (by rw [Nat.add_assoc]; exact get _ _ e4), hl.keep hb, Rd.keep hb _ _ hr⟩
theorem rowM_app {W0 W : World} {A1 : Option Addr} {n1 c1 : Nat} {ds1 : List (List T × T)} {cs1 : List Value} (h1 : RowMv W0 W A1 n1 c1 ds1 cs1) {A2 : Option Addr} {n2 c2 : Nat} {ds2 : List (List T × T)} (h2 : ML W0 ds2 A2 n2 c2) (hn : n1 + n2 ≤ 1000) (hb : Below W0.heap.size W0 W) :
    ∃ A c w' cs, (Builtin.append_ #[23, 23] 23 #[.slice A1 n1 c1, .slice A2 n2 c2]).run Try.prog W = .ok (.slice A (n1 + n2) c) w' ∧ RowMv W0 w' A (n1 + n2) c (ds1 ++ ds2) cs ∧ Below W0.heap.size W0 w' := by
  obtain ⟨i0, hi, hz0, hz1, hz2⟩ := info_parts infoMeta
  rcases Nat.eq_zero_or_pos n2 with rfl | hp
  · have hds : ds2 = [] := List.length_eq_zero_iff.1 h2.len
    subst hds
    have hle := h1.cap.1
    refine ⟨A1, c1, W, cs1, ?_, by rw [List.append_nil]; exact h1, hb⟩
    cases A1 <;> cases A2 <;> simp [Builtin.append_, run_underlying Try.underlying23, sizeOf, typeInfo, hi, Builtin.lenOf, Builtin.firstCells, loadCells, loadCellsFrom, hle, storeCells]
  · obtain ⟨cs2, g1, g2, g3, g4⟩ := h2.rawV
    obtain ⟨x, hx⟩ := at_of h2.len hp
    obtain ⟨b, o, _, _, _, _, _, _, _, _, _, e, _⟩ := h2.at_ 0 x hx
    subst e
    have hcell : ∀ j u, cs2[j]? = some u → W.cell? ((⟨b, o, Option.none⟩ : Addr).add j) = some u := fun j u hu => by
      obtain ⟨b', o', e, hc⟩ := g2 j u hu
      cases e
      rw [addr_add]
      exact (hb.cell (cell_lt hc)).trans hc
    obtain ⟨g, cap, w', hrun, how, hgr, _, _⟩ := run_append_lies (P := Try.prog) W 23 23 W0.heap.size 55 i0 _ 5 72 Try.underlying23 hi hz0 hz1 hz2 rfl (by omega) (.slice A1 n1 c1) n1 cs1
      h1.own ⟨b, o, Option.none⟩ n2 c2 cs2 g1 hcell g3 hp (by unfold maxLen; omega) (by omega) hb.size _ rfl
    have hbw : Below W0.heap.size W0 w' := below_grown hb hgr (fun r hr' => (h1.own.lt r hr').1) hb.size
    exact ⟨some ⟨g, 0, Option.none⟩, cap, w', _, hrun, ⟨how, by rw [List.length_append, h1.len, h2.len], h1.kids.app g4 (by rw [h1.own.1, h1.len])⟩, hbw⟩
end Go.Proofs.Ytigfhhfpdggjfaa
