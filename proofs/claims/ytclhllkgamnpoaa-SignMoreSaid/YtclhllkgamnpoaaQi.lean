/-
  Declarations that are appended to others. No statement is proved here.
-/
import Derived.Test.YtclhllkgamnpoaaQh
namespace Go.Proofs.Ytclhllkgamnpoaa
open Go.ChangeShapes Go.WideShapes Go.ChangeAt Go.RowKit
set_option linter.unusedVariables false

theorem infoDecl : (Try.prog.info? 39).map (fun i => (i.zero, i.size, i.bytes)) = some (some (.agg #[.string ByteArray.empty, .int .i64 0, .int .i64 0, .slice none 0 0]), 4, 56) := by kernel_rfl
/-- cells that are declarations, four by four; their types in blocks ahead of some one -/
def KD (B : Nat) (w : World) (cs : List Value) (ds : List T) : Prop :=
  ∀ i x, ds[i]? = some x → ∃ s k h A n c, cs[i * 4]? = some (.string s) ∧ cs[i * 4 + 1]? = some (.int .i64 k) ∧ cs[i * 4 + 2]? = some (.int .i64 h) ∧ cs[i * 4 + 3]? = some (.slice A n c) ∧ RdF (fun b => b < B) w x (.agg #[.int .i64 k, .int .i64 h, .slice A n c])
/-- the cells of a list of declarations -/
theorem DL.raw {w : World} {ds : List T} {A : Option Addr} {n c : Nat} (h : DL w ds A n c) : ∃ cs : List Value, cs.length = n * 4 ∧ (∀ j u, cs[j]? = some u → ∃ b o, A = some ⟨b, o, none⟩ ∧ w.cell? ⟨b, o + j, none⟩ = some u) ∧ (∀ u ∈ cs, u.oneCell' = true) ∧ KD w.heap.size w cs ds := by
  have key : ∀ m, m ≤ n → ∃ cs : List Value, cs.length = m * 4 ∧ (∀ j u, cs[j]? = some u → ∃ b o, A = some ⟨b, o, none⟩ ∧ w.cell? ⟨b, o + j, none⟩ = some u) ∧ (∀ u ∈ cs, u.oneCell' = true) ∧ KD w.heap.size w cs (ds.take m) := by
    intro m
    induction m with
    | zero => intro _; exact ⟨[], rfl, fun j u hu => by simp at hu, fun u hu => absurd hu (by simp), fun i x hx => by simp at hx⟩
    | succ m ih =>
      intro hm
      obtain ⟨cs, h1, h2, h3, h4⟩ := ih (by omega)
      obtain ⟨x, hx⟩ := at_of h.len (show m < n by omega)
      obtain ⟨b, o, s, k, g, A', n', c', rfl, c0, c1, c2, c3, hr⟩ := h.at_ m x hx
      have happ : ∀ q u, [Value.string s, .int .i64 k, .int .i64 g, .slice A' n' c'][q]? = some u → w.cell? ⟨b, o + (m * 4 + q), none⟩ = some u := fun q u hu => by
        match q, hu with
        | 0, hu => cases hu; exact c0
        | 1, hu => cases hu; exact c1
        | 2, hu => cases hu; exact c2
        | 3, hu => cases hu; exact c3
        | q + 4, hu => simp at hu
      refine ⟨cs ++ [.string s, .int .i64 k, .int .i64 g, .slice A' n' c'], by rw [List.length_append, h1]; simp; omega, fun j u hu => ?_, fun u hu => ?_, fun i y hy => ?_⟩
      · by_cases hj : j < cs.length
        · rw [List.getElem?_append_left hj] at hu
          exact h2 j u hu
        · rw [List.getElem?_append_right (by omega)] at hu
          have := happ _ _ hu
          rw [show m * 4 + (j - cs.length) = j by omega] at this
          exact ⟨b, o, rfl, this⟩
      · rcases List.mem_append.1 hu with hu | hu
        · exact h3 u hu
        · simp at hu
          rcases hu with rfl | rfl | rfl | rfl <;> rfl
      · have hil := (List.getElem?_eq_some_iff.1 hy).1
        rw [List.length_take] at hil
        by_cases him : i < m
        · obtain ⟨s', k', g', A2, n2, c2', e0, e1, e2, e3, hr'⟩ := h4 i y (by rw [List.getElem?_take_of_lt (by omega)] at hy ⊢; exact hy)
          refine ⟨s', k', g', A2, n2, c2', ?_, ?_, ?_, ?_, hr'⟩
          all_goals rw [List.getElem?_append_left (by omega)]; assumption
        · obtain rfl : i = m := by omega
          rw [List.getElem?_take_of_lt (by omega), hx] at hy
          cases hy
          refine ⟨s, k, g, A', n', c', ?_, ?_, ?_, ?_, rdF_anyQ _ _ hr⟩
          · rw [List.getElem?_append_right (by omega), h1, Nat.sub_self]; rfl
          · rw [List.getElem?_append_right (by omega), h1, show i * 4 + 1 - i * 4 = 1 by omega]; rfl
          · rw [List.getElem?_append_right (by omega), h1, show i * 4 + 2 - i * 4 = 2 by omega]; rfl
          · rw [List.getElem?_append_right (by omega), h1, show i * 4 + 3 - i * 4 = 3 by omega]; rfl
  obtain ⟨cs, h1, h2, h3, h4⟩ := key n (Nat.le_refl _)
  rw [List.take_of_length_le (by rw [h.len]; omega)] at h4
  exact ⟨cs, h1, h2, h3, h4⟩
theorem KD.keep {B : Nat} {w w' : World} {cs : List Value} {ds : List T} (h : KD B w cs ds) (hm : ∀ b, b < B → w'.heap[b]? = w.heap[b]?) : KD B w' cs ds := fun i x hx => by
  obtain ⟨s, k, g, A, n, c, e0, e1, e2, e3, hr⟩ := h i x hx
  exact ⟨s, k, g, A, n, c, e0, e1, e2, e3, RdF.moveQ (fun b hb _ => ⟨hb, hm b hb⟩) _ _ hr⟩
/-- a row of declarations of a call's own -/
structure DRow (w : World) (B base : Nat) (v : Value) (n : Nat) (ds : List T) (cs : List Value) : Prop where
  own : w.ownsRow base 39 4 v n cs
  len : ds.length = n
  kids : KD B w cs ds
/-- all are appended to nothing -/
theorem declApp1 {W0 W : World} {ds : List T} {A : Option Addr} {n c : Nat} (h : DL W0 ds A n c) (hn : n ≤ 1000) (hb : Below W0.heap.size W0 W) :
    ∃ A' c' w' cs, (Builtin.append_ #[25, 25] 25 #[.slice none 0 0, .slice A n c]).run Try.prog W = .ok (.slice A' n c') w' ∧ DRow w' W0.heap.size W0.heap.size (.slice A' n c') n ds cs ∧ W.grownBy w' none := by
  rcases Nat.eq_zero_or_pos n with rfl | hp
  · obtain ⟨i0, hi, hz0, hz1, hz2⟩ := info_parts infoDecl
    have hds : ds = [] := List.length_eq_zero_iff.1 h.len
    subst hds
    refine ⟨none, 0, W, [], ?_, ⟨World.ownsRow_nil _ _ _ _, rfl, fun i x hx => by simp at hx⟩, grown_of_below (Below.refl _ _)⟩
    cases A <;> simp [Builtin.append_, run_underlying Try.underlying25, sizeOf, typeInfo, hi, Builtin.lenOf, Builtin.firstCells, loadCells, loadCellsFrom]
  · obtain ⟨cs, h1, h2, h3, h4⟩ := (h.keep hb).raw
    obtain ⟨cs0, g1, g2, g3, g4⟩ := h.raw
    obtain ⟨x, hx⟩ := at_of h.len hp
    obtain ⟨b, o, _, _, _, _, _, _, rfl, _⟩ := h.at_ 0 x hx
    obtain ⟨i0, hi, hz0, hz1, hz2⟩ := info_parts infoDecl
    have hcell : ∀ j u, cs0[j]? = some u → W.cell? ((⟨b, o, none⟩ : Addr).add j) = some u := fun j u hu => by
      obtain ⟨b', o', e, hc⟩ := g2 j u hu
      cases e
      rw [addr_add]
      exact (hb.cell (cell_lt hc)).trans hc
    obtain ⟨g, cap, w', hrun, how, hgr, _, _⟩ := run_append_lies (P := Try.prog) W 25 25 W0.heap.size 39 i0 _ 4 56 Try.underlying25 hi hz0 hz1 hz2 rfl (by omega) (.slice none 0 0) 0 []
      (World.ownsRow_nil _ _ _ _) ⟨b, o, none⟩ n c cs0 g1 hcell g3 hp (by unfold maxLen; omega) (by omega) hb.size _ rfl
    rw [Nat.zero_add] at hrun how
    rw [List.nil_append] at how
    exact ⟨some ⟨g, 0, none⟩, cap, w', cs0, hrun, ⟨how, h.len, g4.keep fun b' hb' => (hgr.block b' (Nat.lt_of_lt_of_le hb' hb.size) (by simp [Value.ownBlock])).trans (hb.block b' hb')⟩, hgr⟩
/-- one more is appended -/
theorem declApp2 {W : World} {B base : Nat} {v : Value} {n : Nat} {ds : List T} {cs : List Value} (h : DRow W B base v n ds cs) (hn : n ≤ 1000) (hB : B ≤ base) (hbase : base ≤ W.heap.size) {P : Nat} {s : ByteArray} {k g : Int} {A' : Option Addr} {n' c' : Nat} {x : T}
    (hP : W.heap[P]? = some (.cells #[.string s, .int .i64 k, .int .i64 g, .slice A' n' c'] 39 (0, 0))) (hr : RdF (fun b => b < B) W x (.agg #[.int .i64 k, .int .i64 g, .slice A' n' c'])) :
    ∃ q cap w', (Builtin.append_ #[25, 25] 25 #[v, .slice (some ⟨P, 0, none⟩) 1 1]).run Try.prog W = .ok (.slice (some ⟨q, 0, none⟩) (n + 1) cap) w' ∧ DL w' (ds ++ [x]) (some ⟨q, 0, none⟩) (n + 1) cap ∧ Below base W w' := by
  obtain ⟨i0, hi, hz0, hz1, hz2⟩ := info_parts infoDecl
  obtain ⟨q, cap, w', hrun, how, hgr, _, _⟩ := run_append_lies (P := Try.prog) W 25 25 base 39 i0 _ 4 56 Try.underlying25 hi hz0 hz1 hz2 rfl (by omega) v n cs
    h.own ⟨P, 0, none⟩ 1 1 [.string s, .int .i64 k, .int .i64 g, .slice A' n' c'] rfl (World.news_of_block hP) (by intro u hu; simp at hu; rcases hu with rfl | rfl | rfl | rfl <;> rfl) (by omega) (by unfold maxLen; omega) (by omega) hbase _ rfl
  have hcl : cs.length = n * 4 := h.own.1
  have hcap : n + 1 ≤ cap ∧ cap ≤ maxLen := by
    rcases how.2 with ⟨h0, _⟩ | ⟨g', cap', cur, hv, _, _, h1, h2, _⟩
    · cases h0
    · cases hv; exact ⟨h1, h2⟩
  have hcell : ∀ j u, (cs ++ [.string s, .int .i64 k, .int .i64 g, .slice A' n' c'])[j]? = some u → w'.cell? ⟨q, 0 + j, none⟩ = some u := fun j u hu => by
    have := how.cells (g := q) rfl j u hu
    rwa [addr_add] at this
  have hold : ∀ b, b < B → w'.heap[b]? = W.heap[b]? := fun b hb => hgr.block b (by omega) fun e => by
    have := (h.own.lt b e.symm).1
    omega
  refine ⟨q, cap, w', hrun, ⟨by simp [h.len], hcap.1, hcap.2, fun i y hy => ?_⟩, below_grownQ (Below.refl _ _) hgr (fun r hr => (h.own.lt r hr).1) hbase⟩
  by_cases hlt : i < n
  · rw [List.getElem?_append_left (by rw [h.len]; omega)] at hy
    obtain ⟨s1, k1, g1, A1, n1, c1, e0, e1, e2, e3, hr1⟩ := h.kids i y hy
    have get : ∀ j u, j < n * 4 → cs[j]? = some u → w'.cell? ⟨q, 0 + j, none⟩ = some u := fun j u hj hu => hcell j u (by rw [List.getElem?_append_left (by omega)]; exact hu)
    exact ⟨q, 0, s1, k1, g1, A1, n1, c1, rfl, get _ _ (by omega) e0, by rw [Nat.add_assoc]; exact get _ _ (by omega) e1, by rw [Nat.add_assoc]; exact get _ _ (by omega) e2, by rw [Nat.add_assoc]; exact get _ _ (by omega) e3, RdF.rd _ _ (RdF.moveQ (ok' := fun _ => True) (fun b hb _ => ⟨trivial, hold b hb⟩) _ _ hr1)⟩
  · have hin : i = n := by have := (List.getElem?_eq_some_iff.1 hy).1; simp [h.len] at this; omega
    subst hin
    rw [List.getElem?_append_right (by rw [h.len]; omega), h.len, Nat.sub_self] at hy
    obtain rfl : x = y := by simpa using hy
    have get : ∀ j u, [Value.string s, .int .i64 k, .int .i64 g, .slice A' n' c'][j]? = some u → w'.cell? ⟨q, 0 + (i * 4 + j), none⟩ = some u := fun j u hu => hcell _ u (by rw [List.getElem?_append_right (by omega), hcl, show i * 4 + j - i * 4 = j by omega]; exact hu)
    exact ⟨q, 0, s, k, g, A', n', c', rfl, get 0 _ rfl, get 1 _ rfl, get 2 _ rfl, get 3 _ rfl, RdF.rd _ _ (RdF.moveQ (ok' := fun _ => True) (fun b hb _ => ⟨trivial, hold b hb⟩) _ _ hr)⟩
end Go.Proofs.Ytclhllkgamnpoaa
