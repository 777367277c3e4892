/-
  Texts of one proof, put together. No statement is proved here.
-/
import Derived.Test.YtpigmefjcklpkaaQh
import Derived.Test.YtpigmefjcklpkaaPkV
import Derived.Test.YtpigmefjcklpkaaWd
import Derived.Test.YtpigmefjcklpkaaWl

/-
  Declarations that are appended to others. No statement is proved here.
-/
namespace Go.Proofs.Ytpigmefjcklpkaa
open Go.ChangeShapes Go.WideShapes Go.ChangeAt Go.RowKit
set_option linter.unusedVariables false

theorem infoDecl : (Try.prog.info? 38).map (fun i => (i.zero, i.size, i.bytes)) = some (some (.agg #[.string ByteArray.empty, .int .i64 0, .int .i64 0, .slice none 0 0]), 4, 56) := by kernel_rfl
/-- cells that are declarations, four by four; their types in blocks ahead of some one -/
def KD (B : Nat) (w : World) (cs : List Value) (ds : List T) : Prop :=
  ∀ i x, ds[i]? = some x → ∃ s k h A n c, cs[i * 4]? = some (.string s) ∧ cs[i * 4 + 1]? = some (.int .i64 k) ∧ cs[i * 4 + 2]? = some (.int .i64 h) ∧ cs[i * 4 + 3]? = some (.slice A n c) ∧ RdF (fun b => b < B) w x (.agg #[.int .i64 k, .int .i64 h, .slice A n c])
/-- the cells of a list of declarations -/
theorem DL.raw {w : World} {ds : List T} {A : Option Addr} {n c : Nat} (h : DL w ds A n c) : ∃ cs : List Value, cs.length = n * 4 ∧ (∀ j u, cs[j]? = some u → ∃ b o, A = some ⟨b, o, none⟩ ∧ w.cell? ⟨b, o + j, none⟩ = some u) ∧ (∀ u ∈ cs, u.oneCell' = true) ∧ KD w.heap.size w cs ds := by
  have key : ∀ m, m ≤ n → ∃ cs : List Value, cs.length = m * 4 ∧ (∀ j u, cs[j]? = some u → ∃ b o, A = some ⟨b, o, none⟩ ∧ w.cell? ⟨b, o + j, none⟩ = some u) ∧ (∀ u ∈ cs, u.oneCell' = true) ∧ KD w.heap.size w cs (ds.take m) := by
    intro m
    induction m with
    | zero => intro _; exact ⟨[], rfl, fun j u hu => by simp at hu, fun u hu => absurd hu (by simp), fun i x hx => by simp at hx⟩
    | succ m ih =>
      intro hm
      obtain ⟨cs, h1, h2, h3, h4⟩ := ih (by omega)
      obtain ⟨x, hx⟩ := at_of h.len (show m < n by omega)
      obtain ⟨b, o, s, k, g, A', n', c', rfl, c0, c1, c2, c3, hr⟩ := h.at_ m x hx
      have happ : ∀ q u, [Value.string s, .int .i64 k, .int .i64 g, .slice A' n' c'][q]? = some u → w.cell? ⟨b, o + (m * 4 + q), none⟩ = some u := fun q u hu => by
        match q, hu with
        | 0, hu => cases hu; exact c0
        | 1, hu => cases hu; exact c1
        | 2, hu => cases hu; exact c2
        | 3, hu => cases hu; exact c3
        | q + 4, hu => simp at hu
      refine ⟨cs ++ [.string s, .int .i64 k, .int .i64 g, .slice A' n' c'], by rw [List.length_append, h1]; simp; omega, fun j u hu => ?_, fun u hu => ?_, fun i y hy => ?_⟩
      · by_cases hj : j < cs.length
        · rw [List.getElem?_append_left hj] at hu
          exact h2 j u hu
        · rw [List.getElem?_append_right (by omega)] at hu
          have := happ _ _ hu
          rw [show m * 4 + (j - cs.length) = j by omega] at this
          exact ⟨b, o, rfl, this⟩
      · rcases List.mem_append.1 hu with hu | hu
        · exact h3 u hu
        · simp at hu
          rcases hu with rfl | rfl | rfl | rfl <;> rfl
      · have hil := (List.getElem?_eq_some_iff.1 hy).1
        rw [List.length_take] at hil
        by_cases him : i < m
        · obtain ⟨s', k', g', A2, n2, c2', e0, e1, e2, e3, hr'⟩ := h4 i y (by rw [List.getElem?_take_of_lt (by omega)] at hy ⊢; exact hy)
          refine ⟨s', k', g', A2, n2, c2', ?_, ?_, ?_, ?_, hr'⟩
          all_goals rw [List.getElem?_append_left (by omega)]; assumption
        · obtain rfl : i = m := by omega
          rw [List.getElem?_take_of_lt (by omega), hx] at hy
          cases hy
          refine ⟨s, k, g, A', n', c', ?_, ?_, ?_, ?_, rdF_anyQ _ _ hr⟩
          · rw [List.getElem?_append_right (by omega), h1, Nat.sub_self]; rfl
          · rw [List.getElem?_append_right (by omega), h1, show i * 4 + 1 - i * 4 = 1 by omega]; rfl
          · rw [List.getElem?_append_right (by omega), h1, show i * 4 + 2 - i * 4 = 2 by omega]; rfl
          · rw [List.getElem?_append_right (by omega), h1, show i * 4 + 3 - i * 4 = 3 by omega]; rfl
  obtain ⟨cs, h1, h2, h3, h4⟩ := key n (Nat.le_refl _)
  rw [List.take_of_length_le (by rw [h.len]; omega)] at h4
  exact ⟨cs, h1, h2, h3, h4⟩
theorem KD.keep {B : Nat} {w w' : World} {cs : List Value} {ds : List T} (h : KD B w cs ds) (hm : ∀ b, b < B → w'.heap[b]? = w.heap[b]?) : KD B w' cs ds := fun i x hx => by
  obtain ⟨s, k, g, A, n, c, e0, e1, e2, e3, hr⟩ := h i x hx
  exact ⟨s, k, g, A, n, c, e0, e1, e2, e3, RdF.moveQ (fun b hb _ => ⟨hb, hm b hb⟩) _ _ hr⟩
/-- a row of declarations of a call's own -/
structure DRow (w : World) (B base : Nat) (v : Value) (n : Nat) (ds : List T) (cs : List Value) : Prop where
  own : w.ownsRow base 38 4 v n cs
  len : ds.length = n
  kids : KD B w cs ds
/-- all are appended to nothing -/
theorem declApp1 {W0 W : World} {ds : List T} {A : Option Addr} {n c : Nat} (h : DL W0 ds A n c) (hn : n ≤ 1000) (hb : Below W0.heap.size W0 W) :
    ∃ A' c' w' cs, (Builtin.append_ #[22, 22] 22 #[.slice none 0 0, .slice A n c]).run Try.prog W = .ok (.slice A' n c') w' ∧ DRow w' W0.heap.size W0.heap.size (.slice A' n c') n ds cs ∧ W.grownBy w' none := by
  rcases Nat.eq_zero_or_pos n with rfl | hp
  · obtain ⟨i0, hi, hz0, hz1, hz2⟩ := info_parts infoDecl
    have hds : ds = [] := List.length_eq_zero_iff.1 h.len
    subst hds
    refine ⟨none, 0, W, [], ?_, ⟨World.ownsRow_nil _ _ _ _, rfl, fun i x hx => by simp at hx⟩, grown_of_below (Below.refl _ _)⟩
    cases A <;> simp [Builtin.append_, run_underlying Try.underlying22, sizeOf, typeInfo, hi, Builtin.lenOf, Builtin.firstCells, loadCells, loadCellsFrom]
  · obtain ⟨cs, h1, h2, h3, h4⟩ := (h.keep hb).raw
    obtain ⟨cs0, g1, g2, g3, g4⟩ := h.raw
    obtain ⟨x, hx⟩ := at_of h.len hp
    obtain ⟨b, o, _, _, _, _, _, _, rfl, _⟩ := h.at_ 0 x hx
    obtain ⟨i0, hi, hz0, hz1, hz2⟩ := info_parts infoDecl
    have hcell : ∀ j u, cs0[j]? = some u → W.cell? ((⟨b, o, none⟩ : Addr).add j) = some u := fun j u hu => by
      obtain ⟨b', o', e, hc⟩ := g2 j u hu
      cases e
      rw [addr_add]
      exact (hb.cell (cell_lt hc)).trans hc
    obtain ⟨g, cap, w', hrun, how, hgr, _, _⟩ := run_append_lies (P := Try.prog) W 22 22 W0.heap.size 38 i0 _ 4 56 Try.underlying22 hi hz0 hz1 hz2 rfl (by omega) (.slice none 0 0) 0 []
      (World.ownsRow_nil _ _ _ _) ⟨b, o, none⟩ n c cs0 g1 hcell g3 hp (by unfold maxLen; omega) (by omega) hb.size _ rfl
    rw [Nat.zero_add] at hrun how
    rw [List.nil_append] at how
    exact ⟨some ⟨g, 0, none⟩, cap, w', cs0, hrun, ⟨how, h.len, g4.keep fun b' hb' => (hgr.block b' (Nat.lt_of_lt_of_le hb' hb.size) (by simp [Value.ownBlock])).trans (hb.block b' hb')⟩, hgr⟩
/-- one more is appended -/
theorem declApp2 {W : World} {B base : Nat} {v : Value} {n : Nat} {ds : List T} {cs : List Value} (h : DRow W B base v n ds cs) (hn : n ≤ 1000) (hB : B ≤ base) (hbase : base ≤ W.heap.size) {P : Nat} {s : ByteArray} {k g : Int} {A' : Option Addr} {n' c' : Nat} {x : T}
    (hP : W.heap[P]? = some (.cells #[.string s, .int .i64 k, .int .i64 g, .slice A' n' c'] 38 (0, 0))) (hr : RdF (fun b => b < B) W x (.agg #[.int .i64 k, .int .i64 g, .slice A' n' c'])) :
    ∃ q cap w', (Builtin.append_ #[22, 22] 22 #[v, .slice (some ⟨P, 0, none⟩) 1 1]).run Try.prog W = .ok (.slice (some ⟨q, 0, none⟩) (n + 1) cap) w' ∧ DL w' (ds ++ [x]) (some ⟨q, 0, none⟩) (n + 1) cap ∧ Below base W w' := by
  obtain ⟨i0, hi, hz0, hz1, hz2⟩ := info_parts infoDecl
  obtain ⟨q, cap, w', hrun, how, hgr, _, _⟩ := run_append_lies (P := Try.prog) W 22 22 base 38 i0 _ 4 56 Try.underlying22 hi hz0 hz1 hz2 rfl (by omega) v n cs
    h.own ⟨P, 0, none⟩ 1 1 [.string s, .int .i64 k, .int .i64 g, .slice A' n' c'] rfl (World.news_of_block hP) (by intro u hu; simp at hu; rcases hu with rfl | rfl | rfl | rfl <;> rfl) (by omega) (by unfold maxLen; omega) (by omega) hbase _ rfl
  have hcl : cs.length = n * 4 := h.own.1
  have hcap : n + 1 ≤ cap ∧ cap ≤ maxLen := by
    rcases how.2 with ⟨h0, _⟩ | ⟨g', cap', cur, hv, _, _, h1, h2, _⟩
    · cases h0
    · cases hv; exact ⟨h1, h2⟩
  have hcell : ∀ j u, (cs ++ [.string s, .int .i64 k, .int .i64 g, .slice A' n' c'])[j]? = some u → w'.cell? ⟨q, 0 + j, none⟩ = some u := fun j u hu => by
    have := how.cells (g := q) rfl j u hu
    rwa [addr_add] at this
  have hold : ∀ b, b < B → w'.heap[b]? = W.heap[b]? := fun b hb => hgr.block b (by omega) fun e => by
    have := (h.own.lt b e.symm).1
    omega
  refine ⟨q, cap, w', hrun, ⟨by simp [h.len], hcap.1, hcap.2, fun i y hy => ?_⟩, below_grownQ (Below.refl _ _) hgr (fun r hr => (h.own.lt r hr).1) hbase⟩
  by_cases hlt : i < n
  · rw [List.getElem?_append_left (by rw [h.len]; omega)] at hy
    obtain ⟨s1, k1, g1, A1, n1, c1, e0, e1, e2, e3, hr1⟩ := h.kids i y hy
    have get : ∀ j u, j < n * 4 → cs[j]? = some u → w'.cell? ⟨q, 0 + j, none⟩ = some u := fun j u hj hu => hcell j u (by rw [List.getElem?_append_left (by omega)]; exact hu)
    exact ⟨q, 0, s1, k1, g1, A1, n1, c1, rfl, get _ _ (by omega) e0, by rw [Nat.add_assoc]; exact get _ _ (by omega) e1, by rw [Nat.add_assoc]; exact get _ _ (by omega) e2, by rw [Nat.add_assoc]; exact get _ _ (by omega) e3, RdF.rd _ _ (RdF.moveQ (ok' := fun _ => True) (fun b hb _ => ⟨trivial, hold b hb⟩) _ _ hr1)⟩
  · have hin : i = n := by have := (List.getElem?_eq_some_iff.1 hy).1; simp [h.len] at this; omega
    subst hin
    rw [List.getElem?_append_right (by rw [h.len]; omega), h.len, Nat.sub_self] at hy
    obtain rfl : x = y := by simpa using hy
    have get : ∀ j u, [Value.string s, .int .i64 k, .int .i64 g, .slice A' n' c'][j]? = some u → w'.cell? ⟨q, 0 + (i * 4 + j), none⟩ = some u := fun j u hu => hcell _ u (by rw [List.getElem?_append_right (by omega), hcl, show i * 4 + j - i * 4 = j by omega]; exact hu)
    exact ⟨q, 0, s, k, g, A', n', c', rfl, get 0 _ rfl, get 1 _ rfl, get 2 _ rfl, get 3 _ rfl, RdF.rd _ _ (RdF.moveQ (ok' := fun _ => True) (fun b hb _ => ⟨trivial, hold b hb⟩) _ _ hr)⟩
end Go.Proofs.Ytpigmefjcklpkaa

/-
  A list of terms that is copied by append, and one more. No statement is proved here.
-/
namespace Go.Proofs.Ytpigmefjcklpkaa
open Go.ChangeShapes Go.WideShapes Go.ChangeAt Go.RowKit
set_option linter.unusedVariables false

/-- a row of a call's own that holds a list's cells -/
structure TRowV (W0 : World) (A : Option Addr) (n : Nat) (w : World) (v : Value) (olds : List Value) : Prop where
  own : w.ownsRow W0.heap.size 32 3 v n olds
  len : olds.length = n * 3
  at_ : ∀ b o q u, A = some ⟨b, o, none⟩ → q < n * 3 → W0.cell? ⟨b, o + q, none⟩ = some u → olds[q]? = some u
theorem TRowV.kept {W0 : World} {A : Option Addr} {n : Nat} {w w' : World} {v : Value} {olds : List Value} (h : TRowV W0 A n w v olds) (hb : Below w.heap.size w w') : TRowV W0 A n w' v olds :=
  ⟨h.own.kept (grown_of_below hb) (own_none _), h.len, h.at_⟩
theorem termApp1V {W0 W : World} {xs : List T} {A : Option Addr} {n c : Nat} (h : CLV W0 xs A n c) (hn : n ≤ 100000) (hb : Below W0.heap.size W0 W) :
    ∃ A' c' w' olds, (Builtin.append_ #[23, 23] 23 #[.slice none 0 0, .slice A n c]).run Try.prog W = .ok (.slice A' n c') w' ∧ TRowV W0 A n w' (.slice A' n c') olds ∧ Below W.heap.size W w' := by
  obtain ⟨i0, hi, hz0, hz1, hz2⟩ := info_parts infoTerm
  rcases Nat.eq_zero_or_pos n with rfl | hp
  · refine ⟨none, 0, W, [], ?_, ⟨World.ownsRow_nil _ _ _ _, rfl, fun b o q u _ hq => by omega⟩, Below.refl _ _⟩
    cases A <;> simp [Builtin.append_, run_underlying Try.underlying23, sizeOf, typeInfo, hi, Builtin.lenOf, Builtin.firstCells, loadCells, loadCellsFrom]
  · obtain ⟨t, ht⟩ := at_of h.len hp
    obtain ⟨b, o, _, _, _, _, _, e, _⟩ := (h.at_ 0 t ht).full
    subst e
    have hxW := h.keep hb
    obtain ⟨g, cap, w', hrun, how, hgr, _, _⟩ := run_append_lies (P := Try.prog) W 23 23 W0.heap.size 32 i0 _ 3 40 Try.underlying23 hi hz0 hz1 hz2 rfl (by omega) (.slice none 0 0) 0 []
      (World.ownsRow_nil _ _ _ _) ⟨b, o, none⟩ n c (rawV W b o (n * 3)) (rawV_len _ _ _ _) (fun j u hu => by
          have hq : j < n * 3 := by have := (List.getElem?_eq_some_iff.1 hu).1; rwa [rawV_len] at this
          obtain ⟨u', h1, _⟩ := rawV_cell hxW hq
          rw [rawV_at hq, h1] at hu
          rw [addr_add, h1]
          simpa using hu) (fun u hu => by
          obtain ⟨q, hq⟩ := List.getElem?_of_mem hu
          have hlt : q < n * 3 := by have := (List.getElem?_eq_some_iff.1 hq).1; rwa [rawV_len] at this
          obtain ⟨u', h1, h2⟩ := rawV_cell hxW hlt
          rw [rawV_at hlt, h1] at hq
          cases hq
          exact h2) hp (by unfold maxLen; omega) (by omega) hb.size _ rfl
    rw [Nat.zero_add] at hrun how
    rw [List.nil_append] at how
    refine ⟨some ⟨g, 0, none⟩, cap, w', _, hrun, ⟨how, rawV_len _ _ _ _, fun b' o' q u e hq hu => ?_⟩, below_grown (Below.refl _ _) hgr (fun r hr => by cases hr) (Nat.le_refl _)⟩
    cases e
    rw [rawV_at hq, (hb.cell (cell_lt hu)).trans hu]
    rfl
theorem termApp2V {W0 W : World} {xs : List T} {A : Option Addr} {n c : Nat} (h : CLV W0 xs A n c) (hn : n ≤ 100000) (hb : Below W0.heap.size W0 W) {v : Value} {olds : List Value} (hr : TRowV W0 A n W v olds) {P : Nat} {k g : Int} {A2 : Option Addr} {n2 c2 : Nat} {x : T}
    (hP : W.heap[P]? = some (.cells #[.int .i64 k, .int .i64 g, .slice A2 n2 c2] 32 (0, 0))) (hx : Rd W0 x (.agg #[.int .i64 k, .int .i64 g, .slice A2 n2 c2])) :
    ∃ q cap w', (Builtin.append_ #[23, 23] 23 #[v, .slice (some ⟨P, 0, none⟩) 1 1]).run Try.prog W = .ok (.slice (some ⟨q, 0, none⟩) (n + 1) cap) w' ∧ CLV w' (xs ++ [x]) (some ⟨q, 0, none⟩) (n + 1) cap ∧ Below W0.heap.size W0 w' := by
  obtain ⟨i0, hi, hz0, hz1, hz2⟩ := info_parts infoTerm
  obtain ⟨q, cap, w', hrun, how, hgr, _, _⟩ := run_append_lies (P := Try.prog) W 23 23 W0.heap.size 32 i0 _ 3 40 Try.underlying23 hi hz0 hz1 hz2 rfl (by omega) v n olds
    hr.own ⟨P, 0, none⟩ 1 1 [.int .i64 k, .int .i64 g, .slice A2 n2 c2] rfl (World.news_of_block hP) (by intro u hu; simp at hu; rcases hu with rfl | rfl | rfl <;> rfl) (by omega) (by unfold maxLen; omega) (by omega) hb.size _ rfl
  have hbw : Below W0.heap.size W0 w' := below_grown hb hgr (fun r hr' => (hr.own.lt r hr').1) hb.size
  exact ⟨q, cap, w', hrun, rdV_row h hbw hr.at_ hr.len hx how rfl, hbw⟩
end Go.Proofs.Ytpigmefjcklpkaa

/-
  Lists of declarations and of metas appended to rows of a call's own. No statement is proved here.
-/
namespace Go.Proofs.Ytpigmefjcklpkaa
open Go.ChangeShapes Go.WideShapes Go.ChangeAt Go.RowKit
set_option linter.unusedVariables false

theorem infoMeta : (Try.prog.info? 60).map (fun i => (i.zero, i.size, i.bytes)) = some (some (.agg #[.slice none 0 0, .int .i64 0, .int .i64 0, .slice none 0 0, .bool false]), 5, 72) := by kernel_rfl

/-- cells of D, as some world reads what they hold -/
def KDv (W0 : World) (cs : List Value) (ds : List T) : Prop :=
  ∀ i x, ds[i]? = some x → ∃ s k g A0 n0 c0, cs[i * 4]? = some (.string s) ∧ cs[i * 4 + 1]? = some (.int .i64 k) ∧ cs[i * 4 + 2]? = some (.int .i64 g) ∧ cs[i * 4 + 3]? = some (.slice A0 n0 c0) ∧ Rd W0 x (.agg #[.int .i64 k, .int .i64 g, .slice A0 n0 c0])
theorem KDv.app {W0 : World} {cs1 cs2 : List Value} {ds1 ds2 : List T} (h1 : KDv W0 cs1 ds1) (h2 : KDv W0 cs2 ds2) (hlen : cs1.length = ds1.length * 4) : KDv W0 (cs1 ++ cs2) (ds1 ++ ds2) := fun i x hx => by
  by_cases hi : i < ds1.length
  · rw [List.getElem?_append_left hi] at hx
    obtain ⟨s, k, g, A0, n0, c0, e0, e1, e2, e3, hr⟩ := h1 i x hx
    have up : ∀ j u, cs1[j]? = some u → (cs1 ++ cs2)[j]? = some u := fun j u hj => by
      rw [List.getElem?_append_left (List.getElem?_eq_some_iff.1 hj).1]; exact hj
    exact ⟨s, k, g, A0, n0, c0, up _ _ e0, up _ _ e1, up _ _ e2, up _ _ e3, hr⟩
  · rw [List.getElem?_append_right (by omega)] at hx
    obtain ⟨s, k, g, A0, n0, c0, e0, e1, e2, e3, hr⟩ := h2 _ x hx
    have up : ∀ q u, cs2[(i - ds1.length) * 4 + q]? = some u → (cs1 ++ cs2)[i * 4 + q]? = some u := fun q u hj => by
      rw [List.getElem?_append_right (by omega), hlen, show i * 4 + q - ds1.length * 4 = (i - ds1.length) * 4 + q by omega]; exact hj
    exact ⟨s, k, g, A0, n0, c0, up 0 _ e0, up 1 _ e1, up 2 _ e2, up 3 _ e3, hr⟩
theorem DL.rawV {w : World} {ds : List T} {A : Option Addr} {n c : Nat} (h : DL w ds A n c) : ∃ cs : List Value, cs.length = n * 4 ∧ (∀ j u, cs[j]? = some u → ∃ b o, A = some ⟨b, o, none⟩ ∧ w.cell? ⟨b, o + j, none⟩ = some u) ∧ (∀ u ∈ cs, u.oneCell' = true) ∧ KDv w cs ds := by
  obtain ⟨cs, h1, h2, h3, h4⟩ := h.raw
  refine ⟨cs, h1, h2, h3, fun i x hx => ?_⟩
  obtain ⟨s, k, g, A, n, c, e0, e1, e2, e3, hr⟩ := h4 i x hx
  exact ⟨s, k, g, A, n, c, e0, e1, e2, e3, RdF.rd _ _ (RdF.moveQ (ok' := fun _ => True) (fun b hb _ => ⟨trivial, rfl⟩) _ _ hr)⟩

/-- a row of a call's own that holds cells of D -/
structure RowDv (W0 w : World) (A : Option Addr) (n c : Nat) (ds : List T) (cs : List Value) : Prop where
  own : w.ownsRow W0.heap.size 38 4 (.slice A n c) n cs
  len : ds.length = n
  kids : KDv W0 cs ds
theorem RowDv.none (W0 w : World) : RowDv W0 w none 0 0 [] [] := ⟨World.ownsRow_nil _ _ _ _, rfl, fun i x hx => by simp at hx⟩
theorem RowDv.cap {W0 w : World} {A : Option Addr} {n c : Nat} {ds : List T} {cs : List Value} (h : RowDv W0 w A n c ds cs) : n ≤ c ∧ c ≤ maxLen := by
  rcases h.own.2 with ⟨e, h0⟩ | ⟨g', cap', cur, hv, _, _, h1, h2, _⟩
  · cases e; exact ⟨Nat.le_refl _, Nat.zero_le _⟩
  · cases hv; exact ⟨h1, h2⟩
theorem RowDv.lst {W0 w : World} {A : Option Addr} {n c : Nat} {ds : List T} {cs : List Value} (h : RowDv W0 w A n c ds cs) (hb : Below W0.heap.size W0 w) : DL w ds A n c := by
  refine ⟨h.len, h.cap.1, h.cap.2, fun i x hx => ?_⟩
  have hi : i < n := by have := (List.getElem?_eq_some_iff.1 hx).1; rw [h.len] at this; exact this
  obtain ⟨s, k, g, A0, n0, c0, e0, e1, e2, e3, hr⟩ := h.kids i x hx
  obtain ⟨q, hq⟩ : ∃ q, A = some ⟨q, 0, Option.none⟩ := by
    rcases h.own.2 with ⟨e, h0⟩ | ⟨g', cap', cur, hv, _⟩
    · omega
    · cases hv; exact ⟨_, rfl⟩
  subst hq
  have get : ∀ j u, cs[j]? = some u → w.cell? ⟨q, 0 + j, Option.none⟩ = some u := fun j u hj => by
    have := h.own.cells (g := q) rfl j u hj
    rwa [addr_add] at this
  exact ⟨q, 0, s, k, g, A0, n0, c0, rfl, get _ _ e0, (by rw [Nat.add_assoc]; exact get _ _ e1), (by rw [Nat.add_assoc]; exact get _ _ e2), (by rw [Nat.add_assoc]; exact get _ _ e3), Rd.keep hb _ _ hr⟩
theorem rowD_app {W0 W : World} {A1 : Option Addr} {n1 c1 : Nat} {ds1 : List T} {cs1 : List Value} (h1 : RowDv W0 W A1 n1 c1 ds1 cs1) {A2 : Option Addr} {n2 c2 : Nat} {ds2 : List T} (h2 : DL W0 ds2 A2 n2 c2) (hn : n1 + n2 ≤ 1000) (hb : Below W0.heap.size W0 W) :
    ∃ A c w' cs, (Builtin.append_ #[22, 22] 22 #[.slice A1 n1 c1, .slice A2 n2 c2]).run Try.prog W = .ok (.slice A (n1 + n2) c) w' ∧ RowDv W0 w' A (n1 + n2) c (ds1 ++ ds2) cs ∧ Below W0.heap.size W0 w' := by
  obtain ⟨i0, hi, hz0, hz1, hz2⟩ := info_parts infoDecl
  rcases Nat.eq_zero_or_pos n2 with rfl | hp
  · have hds : ds2 = [] := List.length_eq_zero_iff.1 h2.len
    subst hds
    have hle := h1.cap.1
    refine ⟨A1, c1, W, cs1, ?_, by rw [List.append_nil]; exact h1, hb⟩
    cases A1 <;> cases A2 <;> simp [Builtin.append_, run_underlying Try.underlying22, sizeOf, typeInfo, hi, Builtin.lenOf, Builtin.firstCells, loadCells, loadCellsFrom, hle, storeCells]
  · obtain ⟨cs2, g1, g2, g3, g4⟩ := h2.rawV
    obtain ⟨x, hx⟩ := at_of h2.len hp
    obtain ⟨b, o, _, _, _, _, _, _, e, _⟩ := h2.at_ 0 x hx
    subst e
    have hcell : ∀ j u, cs2[j]? = some u → W.cell? ((⟨b, o, Option.none⟩ : Addr).add j) = some u := fun j u hu => by
      obtain ⟨b', o', e, hc⟩ := g2 j u hu
      cases e
      rw [addr_add]
      exact (hb.cell (cell_lt hc)).trans hc
    obtain ⟨g, cap, w', hrun, how, hgr, _, _⟩ := run_append_lies (P := Try.prog) W 22 22 W0.heap.size 38 i0 _ 4 56 Try.underlying22 hi hz0 hz1 hz2 rfl (by omega) (.slice A1 n1 c1) n1 cs1
      h1.own ⟨b, o, Option.none⟩ n2 c2 cs2 g1 hcell g3 hp (by unfold maxLen; omega) (by omega) hb.size _ rfl
    have hbw : Below W0.heap.size W0 w' := below_grown hb hgr (fun r hr' => (h1.own.lt r hr').1) hb.size
    exact ⟨some ⟨g, 0, Option.none⟩, cap, w', _, hrun, ⟨how, by rw [List.length_append, h1.len, h2.len], h1.kids.app g4 (by rw [h1.own.1, h1.len])⟩, hbw⟩

/-- cells of M, as some world reads what they hold -/
def KMv (W0 : World) (cs : List Value) (ds : List (List T × T)) : Prop :=
  ∀ i x, ds[i]? = some x → ∃ A1 n1 c1 k g A2 n2 c2 p, cs[i * 5]? = some (.slice A1 n1 c1) ∧ cs[i * 5 + 1]? = some (.int .i64 k) ∧ cs[i * 5 + 2]? = some (.int .i64 g) ∧ cs[i * 5 + 3]? = some (.slice A2 n2 c2) ∧ cs[i * 5 + 4]? = some (.bool p) ∧ CLV W0 x.1 A1 n1 c1 ∧ Rd W0 x.2 (.agg #[.int .i64 k, .int .i64 g, .slice A2 n2 c2])
theorem KMv.app {W0 : World} {cs1 cs2 : List Value} {ds1 ds2 : List (List T × T)} (h1 : KMv W0 cs1 ds1) (h2 : KMv W0 cs2 ds2) (hlen : cs1.length = ds1.length * 5) : KMv W0 (cs1 ++ cs2) (ds1 ++ ds2) := fun i x hx => by
  by_cases hi : i < ds1.length
  · rw [List.getElem?_append_left hi] at hx
    obtain ⟨A1, n1, c1, k, g, A2, n2, c2, p, e0, e1, e2, e3, e4, hl, hr⟩ := h1 i x hx
    have up : ∀ j u, cs1[j]? = some u → (cs1 ++ cs2)[j]? = some u := fun j u hj => by
      rw [List.getElem?_append_left (List.getElem?_eq_some_iff.1 hj).1]; exact hj
    exact ⟨A1, n1, c1, k, g, A2, n2, c2, p, up _ _ e0, up _ _ e1, up _ _ e2, up _ _ e3, up _ _ e4, hl, hr⟩
  · rw [List.getElem?_append_right (by omega)] at hx
    obtain ⟨A1, n1, c1, k, g, A2, n2, c2, p, e0, e1, e2, e3, e4, hl, hr⟩ := h2 _ x hx
    have up : ∀ q u, cs2[(i - ds1.length) * 5 + q]? = some u → (cs1 ++ cs2)[i * 5 + q]? = some u := fun q u hj => by
      rw [List.getElem?_append_right (by omega), hlen, show i * 5 + q - ds1.length * 5 = (i - ds1.length) * 5 + q by omega]; exact hj
    exact ⟨A1, n1, c1, k, g, A2, n2, c2, p, up 0 _ e0, up 1 _ e1, up 2 _ e2, up 3 _ e3, up 4 _ e4, hl, hr⟩
theorem ML.rawV {w : World} {ms : List (List T × T)} {A : Option Addr} {n c : Nat} (h : ML w ms A n c) : ∃ cs : List Value, cs.length = n * 5 ∧ (∀ j u, cs[j]? = some u → ∃ b o, A = some ⟨b, o, none⟩ ∧ w.cell? ⟨b, o + j, none⟩ = some u) ∧ (∀ u ∈ cs, u.oneCell' = true) ∧ KMv w cs ms := by
  have key : ∀ m, m ≤ n → ∃ cs : List Value, cs.length = m * 5 ∧ (∀ j u, cs[j]? = some u → ∃ b o, A = some ⟨b, o, none⟩ ∧ w.cell? ⟨b, o + j, none⟩ = some u) ∧ (∀ u ∈ cs, u.oneCell' = true) ∧ KMv w cs (ms.take m) := by
    intro m
    induction m with
    | zero => intro _; exact ⟨[], rfl, fun j u hu => by simp at hu, fun u hu => absurd hu (by simp), fun i x hx => by simp at hx⟩
    | succ m ih =>
      intro hm
      obtain ⟨cs, h1, h2, h3, h4⟩ := ih (by omega)
      obtain ⟨x, hx⟩ := at_of h.len (show m < n by omega)
      obtain ⟨b, o, A1, n1, c1, k, g, A2, n2, c2, p, rfl, d0, d1, d2, d3, d4, hl, hr⟩ := h.at_ m x hx
      have happ : ∀ q u, [Value.slice A1 n1 c1, .int .i64 k, .int .i64 g, .slice A2 n2 c2, .bool p][q]? = some u → w.cell? ⟨b, o + (m * 5 + q), none⟩ = some u := fun q u hu => by
        match q, hu with
        | 0, hu => cases hu; exact d0
        | 1, hu => cases hu; exact d1
        | 2, hu => cases hu; exact d2
        | 3, hu => cases hu; exact d3
        | 4, hu => cases hu; exact d4
        | q + 5, hu => simp at hu
      have hs : KMv w [Value.slice A1 n1 c1, .int .i64 k, .int .i64 g, .slice A2 n2 c2, .bool p] [x] := fun i y hy => by
        match i, hy with
        | 0, hy => cases hy; exact ⟨A1, n1, c1, k, g, A2, n2, c2, p, rfl, rfl, rfl, rfl, rfl, hl, hr⟩
        | i + 1, hy => simp at hy
      refine ⟨cs ++ [.slice A1 n1 c1, .int .i64 k, .int .i64 g, .slice A2 n2 c2, .bool p], by rw [List.length_append, h1]; simp; omega, fun j u hu => ?_, fun u hu => ?_, ?_⟩
      · by_cases hj : j < cs.length
        · rw [List.getElem?_append_left hj] at hu
          exact h2 j u hu
        · rw [List.getElem?_append_right (by omega)] at hu
          have := happ _ _ hu
          rw [show m * 5 + (j - cs.length) = j by omega] at this
          exact ⟨b, o, rfl, this⟩
      · rcases List.mem_append.1 hu with hu | hu
        · exact h3 u hu
        · simp at hu
          rcases hu with rfl | rfl | rfl | rfl | rfl <;> rfl
      · rw [List.take_add_one, hx]
        exact h4.app hs (by rw [h1, List.length_take, h.len]; omega)
  obtain ⟨cs, h1, h2, h3, h4⟩ := key n (Nat.le_refl _)
  rw [List.take_of_length_le (by rw [h.len]; omega)] at h4
  exact ⟨cs, h1, h2, h3, h4⟩

/-- a row of a call's own that holds cells of M -/
structure RowMv (W0 w : World) (A : Option Addr) (n c : Nat) (ds : List (List T × T)) (cs : List Value) : Prop where
  own : w.ownsRow W0.heap.size 60 5 (.slice A n c) n cs
  len : ds.length = n
  kids : KMv W0 cs ds
theorem RowMv.none (W0 w : World) : RowMv W0 w none 0 0 [] [] := ⟨World.ownsRow_nil _ _ _ _, rfl, fun i x hx => by simp at hx⟩
theorem RowMv.cap {W0 w : World} {A : Option Addr} {n c : Nat} {ds : List (List T × T)} {cs : List Value} (h : RowMv W0 w A n c ds cs) : n ≤ c ∧ c ≤ maxLen := by
  rcases h.own.2 with ⟨e, h0⟩ | ⟨g', cap', cur, hv, _, _, h1, h2, _⟩
  · cases e; exact ⟨Nat.le_refl _, Nat.zero_le _⟩
  · cases hv; exact ⟨h1, h2⟩
theorem RowMv.lst {W0 w : World} {A : Option Addr} {n c : Nat} {ds : List (List T × T)} {cs : List Value} (h : RowMv W0 w A n c ds cs) (hb : Below W0.heap.size W0 w) : ML w ds A n c := by
  refine ⟨h.len, h.cap.1, h.cap.2, fun i x hx => ?_⟩
  have hi : i < n := by have := (List.getElem?_eq_some_iff.1 hx).1; rw [h.len] at this; exact this
  obtain ⟨A1, n1, c1, k, g, A2, n2, c2, p, e0, e1, e2, e3, e4, hl, hr⟩ := h.kids i x hx
  obtain ⟨q, hq⟩ : ∃ q, A = some ⟨q, 0, Option.none⟩ := by
    rcases h.own.2 with ⟨e, h0⟩ | ⟨g', cap', cur, hv, _⟩
    · omega
    · cases hv; exact ⟨_, rfl⟩
  subst hq
  have get : ∀ j u, cs[j]? = some u → w.cell? ⟨q, 0 + j, Option.none⟩ = some u := fun j u hj => by
    have := h.own.cells (g := q) rfl j u hj
    rwa [addr_add] at this
  exact ⟨q, 0, A1, n1, c1, k, g, A2, n2, c2, p, rfl, get _ _ e0, (by rw [Nat.add_assoc]; exact get _ _ e1), (by rw [Nat.add_assoc]; exact get _ _ e2), (by rw [Nat.add_assoc]; exact get _ _ e3), (by rw [Nat.add_assoc]; exact get _ _ e4), hl.keep hb, Rd.keep hb _ _ hr⟩
theorem rowM_app {W0 W : World} {A1 : Option Addr} {n1 c1 : Nat} {ds1 : List (List T × T)} {cs1 : List Value} (h1 : RowMv W0 W A1 n1 c1 ds1 cs1) {A2 : Option Addr} {n2 c2 : Nat} {ds2 : List (List T × T)} (h2 : ML W0 ds2 A2 n2 c2) (hn : n1 + n2 ≤ 1000) (hb : Below W0.heap.size W0 W) :
    ∃ A c w' cs, (Builtin.append_ #[43, 43] 43 #[.slice A1 n1 c1, .slice A2 n2 c2]).run Try.prog W = .ok (.slice A (n1 + n2) c) w' ∧ RowMv W0 w' A (n1 + n2) c (ds1 ++ ds2) cs ∧ Below W0.heap.size W0 w' := by
  obtain ⟨i0, hi, hz0, hz1, hz2⟩ := info_parts infoMeta
  rcases Nat.eq_zero_or_pos n2 with rfl | hp
  · have hds : ds2 = [] := List.length_eq_zero_iff.1 h2.len
    subst hds
    have hle := h1.cap.1
    refine ⟨A1, c1, W, cs1, ?_, by rw [List.append_nil]; exact h1, hb⟩
    cases A1 <;> cases A2 <;> simp [Builtin.append_, run_underlying Try.underlying43, sizeOf, typeInfo, hi, Builtin.lenOf, Builtin.firstCells, loadCells, loadCellsFrom, hle, storeCells]
  · obtain ⟨cs2, g1, g2, g3, g4⟩ := h2.rawV
    obtain ⟨x, hx⟩ := at_of h2.len hp
    obtain ⟨b, o, _, _, _, _, _, _, _, _, _, e, _⟩ := h2.at_ 0 x hx
    subst e
    have hcell : ∀ j u, cs2[j]? = some u → W.cell? ((⟨b, o, Option.none⟩ : Addr).add j) = some u := fun j u hu => by
      obtain ⟨b', o', e, hc⟩ := g2 j u hu
      cases e
      rw [addr_add]
      exact (hb.cell (cell_lt hc)).trans hc
    obtain ⟨g, cap, w', hrun, how, hgr, _, _⟩ := run_append_lies (P := Try.prog) W 43 43 W0.heap.size 60 i0 _ 5 72 Try.underlying43 hi hz0 hz1 hz2 rfl (by omega) (.slice A1 n1 c1) n1 cs1
      h1.own ⟨b, o, Option.none⟩ n2 c2 cs2 g1 hcell g3 hp (by unfold maxLen; omega) (by omega) hb.size _ rfl
    have hbw : Below W0.heap.size W0 w' := below_grown hb hgr (fun r hr' => (h1.own.lt r hr').1) hb.size
    exact ⟨some ⟨g, 0, Option.none⟩, cap, w', _, hrun, ⟨how, by rw [List.length_append, h1.len, h2.len], h1.kids.app g4 (by rw [h1.own.1, h1.len])⟩, hbw⟩
end Go.Proofs.Ytpigmefjcklpkaa

/-
  Package world, plain; contracts of first, given those of the closures that it is handed. No statement is proved here.
-/
namespace Go.Proofs.Ytpigmefjcklpkaa
open Go.ChangeShapes Go.WideShapes Go.ChangeAt Go.RowKit
set_option linter.unusedVariables false

/-- what goes wrong first, and where -/
def fiV (g : List T → T → Int) : List T → List T → Nat × Int
  | _, [] => (0, 0)
  | dn, x :: xs => if g dn x = 0 then fiV g (dn ++ [x]) xs else (dn.length, g dn x)
def firV (g : List T → T → Int) (l : List T) : Nat × Int := if 40 < l.length then (0, 4) else fiV g [] l
/-- what is wrong with a declaration, an entry, a type of a schema -/
def sgW (ah : List T) (d : T) : Int := if kiB d = true then ckKi ⟨ah, []⟩ [] d else ckTy ⟨ah, []⟩ [] d
def cxW (W : WV) (ar ah : List T) (a : T) : Int := ckTy W (ar ++ ah) a
def scW (sg ah : List T) (a : T) : Int := if kdQ a = 2 then ckTy ⟨sg, []⟩ [] a else 1
/-- does all conform -/
def cfV (sc cx : List T) : Bool := cx.all fun a => sc.any fun b => samB a b
theorem take_snoc {α : Type} {l : List α} {j : Nat} {x : α} (h : l[j]? = some x) : l.take (j + 1) = l.take j ++ [x] := by rw [List.take_add_one, h]; rfl
theorem fi_go {g : List T → T → Int} {l : List T} {j : Nat} {x : T} (h : l[j]? = some x) (h0 : g (l.take j) x = 0) : fiV g (l.take j) (l.drop j) = fiV g (l.take (j + 1)) (l.drop (j + 1)) := by
  rw [drop_at h, fiV, if_pos h0, take_snoc h]
theorem fi_e {g : List T → T → Int} {l : List T} {j : Nat} {x : T} {e : Int} (h : l[j]? = some x) (h0 : g (l.take j) x = e) (he : e ≠ 0) : fiV g (l.take j) (l.drop j) = (j, e) := by
  have hl := (List.getElem?_eq_some_iff.1 h).1
  rw [drop_at h, fiV, if_neg (by rw [h0]; exact he), h0, List.length_take, Nat.min_eq_left (by omega)]
theorem DL.take {w : World} {ds : List T} {A : Option Addr} {n c i : Nat} (h : DL w ds A n c) (hi : i ≤ n) : DL w (ds.take i) A i c :=
  ⟨by rw [List.length_take, h.len]; omega, by have := h.le; omega, h.cap, fun j x hx => h.at_ j x (by
    by_cases hj : j < i
    · rwa [List.getElem?_take_of_lt hj] at hx
    · rw [List.getElem?_eq_none (by rw [List.length_take]; omega)] at hx; cases hx)⟩
theorem CLV.take {w : World} {ds : List T} {A : Option Addr} {n c i : Nat} (h : CLV w ds A n c) (hi : i ≤ n) : CLV w (ds.take i) A i c :=
  ⟨by rw [List.length_take, h.len]; omega, by have := h.le; omega, h.cap, fun j x hx => h.at_ j x (by
    by_cases hj : j < i
    · rwa [List.getElem?_take_of_lt hj] at hx
    · rw [List.getElem?_eq_none (by rw [List.length_take]; omega)] at hx; cases hx)⟩
def FiE (r : Nat × Int) (w : World) (e : Ending) (w' : World) : Prop := e = .returned (.tuple #[.int .i64 (r.1 : Int), .int .i64 r.2]) ∧ Below w.heap.size w w'
theorem FiE.of {r : Nat × Int} {w w' : World} {i : Nat} {e : Int} (h : r = (i, e)) (hb : Below w.heap.size w w') : FiE r w (.returned (.tuple #[.int .i64 (i : Int), .int .i64 e])) w' := by subst h; exact ⟨rfl, hb⟩
theorem FiE.of0 {r : Nat × Int} {w w' : World} {e : Int} (h : r = (0, e)) (hb : Below w.heap.size w w') : FiE r w (.returned (.tuple #[.int .i64 0, .int .i64 e])) w' := by subst h; exact ⟨rfl, hb⟩

set_option maxRecDepth 100000 in
set_option maxHeartbeats 4000000 in
theorem yFirstD (g : List T → T → Int) (ds : List T) (A : Option Addr) (n c : Nat) (w : World) (hx : DL w ds A n c)
    (HF : ∀ (i : Nat) (x : T) (s : ByteArray) (k h : Int) (A2 : Option Addr) (n2 c2 : Nat) (W : World), ds[i]? = some x → Below w.heap.size w W → Rd W x (.agg #[.int .i64 k, .int .i64 h, .slice A2 n2 c2]) → DL W (ds.take i) A i c → Calls Try.prog 34 #[.slice A i c, .agg #[.string s, .int .i64 k, .int .i64 h, .slice A2 n2 c2]] W fun e w' => e = .returned (.int .i64 (g (ds.take i) x)) ∧ Below W.heap.size W w') :
    Calls Try.prog 33 #[.slice A n c, .func (.func 34) #[] #[]] w (FiE (firV g ds) w) := by
  have hm := hx.cap
  have hc := hx.le
  unfold maxLen at hm
  have HX := Lib.hid hx; clear hx
  replace HF := Lib.hid HF
  by_cases hbig : 40 < n
  · have d1 : decide ((40 : Int) < (n : Int)) = true := by simp; omega
    have HE := Lib.hid (show firV g ds = (0, 4) by unfold firV; rw [if_pos (by rw [HX.out.len]; omega)])
    go_enter Try.func33, Try.ntmps33
    go_wp2_with fail
    refine bodyPost_ret (v := .tuple #[.int .i64 0, .int .i64 4]) (by simp [results, Try.results33, go_sem]) rfl ?_
    exact FiE.of0 HE.out (Below.refl _ _)
  have d1 : decide ((40 : Int) < (n : Int)) = false := by simp; omega
  have HE := Lib.hid (show firV g ds = fiV g [] ds by unfold firV; rw [if_neg (by rw [HX.out.len]; omega)])
  go_enter Try.func33, Try.ntmps33
  go_wp2_with fail
  go_loopw [14] (fun i wr => ∃ (j : Nat), j ≤ n ∧ i = .int .i64 j ∧ Hid (fiV g (ds.take j) (ds.drop j) = fiV g [] ds) ∧ Hid (Below w.heap.size w wr)) (fun i _ => n - (Go.RowKit.intOf i).toNat)
  case atStart => exact ⟨0, Nat.zero_le _, rfl, Lib.hid (by simp), Lib.hid (Below.refl _ _)⟩
  case round =>
    obtain ⟨j, hj, rfl, HS, HB⟩ := hrel
    by_cases hlt : j < n
    · obtain ⟨x, ht⟩ := at_of HX.out.len hlt
      obtain ⟨b, o, s, k2, h2, A2, n2, c2', rfl, c0, c1, c2, c3, hr⟩ := (HX.out.at_ j x ht).keep HB.out
      have hi0 : (0 : Int) ≤ j := by omega
      have hi1 : (j : Int) < n := by omega
      have hi2 : (j : Int) ≤ c := by omega
      obtain ⟨W1, hW1⟩ : ∃ W1, wr.alloc (.cells #[.string s, .int .i64 k2, .int .i64 h2, .slice A2 n2 c2'] 38) = W1 := ⟨_, rfl⟩
      have hbA : Below wr.heap.size wr W1 := by rw [← hW1]; exact (Below.refl _ _).alloc (Nat.le_refl _) _
      have z5 : Box W1 wr.heap.size 38 #[.string s, .int .i64 k2, .int .i64 h2, .slice A2 n2 c2'] := by rw [← hW1]; exact Box.new _ _ _
      have hbw := HB.out.trans (hbA.mono HB.out.size)
      obtain ⟨e1, he1⟩ : ∃ e, g (ds.take j) x = e := ⟨_, rfl⟩
      have HC := fun (W' : World) (h' : Below W1.heap.size W1 W') => HF.out j x s k2 h2 A2 n2 c2' W' ht (hbw.trans (h'.mono hbw.size)) (Rd.keep (hbA.trans (h'.mono hbA.size)) _ _ hr) ((HX.out.take (by omega)).keep (hbw.trans (h'.mono hbw.size)))
      rw [he1] at HC
      replace HC := Lib.hid HC
      have HE1 := Lib.hid he1; clear he1
      have HT := Lib.hid ht; clear ht
      have HBW := Lib.hid hbw; clear hbw

      have a0 : W1.cell? ⟨wr.heap.size, 0, none⟩ = some (.string s) := z5.cell 0
      have a1 : W1.cell? ⟨wr.heap.size, 1, none⟩ = some (.int .i64 k2) := z5.cell 1
      have a2 : W1.cell? ⟨wr.heap.size, 2, none⟩ = some (.int .i64 h2) := z5.cell 2
      have a3 : W1.cell? ⟨wr.heap.size, 3, none⟩ = some (.slice A2 n2 c2') := z5.cell 3
      clear hr hbA z5
      have HW1 := Lib.hid hW1; clear hW1
      go_wp2_with fail
      try rw [HW1.out]
      have HKS : Hid (∀ w' : World, Below W1.heap.size W1 w' → (fun w' => w'.cell? ⟨wr.heap.size, 0, none⟩ = some (.string s) ∧ w'.cell? ⟨wr.heap.size, 1, none⟩ = some (.int .i64 k2) ∧ w'.cell? ⟨wr.heap.size, 2, none⟩ = some (.int .i64 h2) ∧ w'.cell? ⟨wr.heap.size, 3, none⟩ = some (.slice A2 n2 c2')) w') := Lib.hid fun w' h => ⟨(h.cell (cell_lt a0)).trans a0, (h.cell (cell_lt a1)).trans a1, (h.cell (cell_lt a2)).trans a2, (h.cell (cell_lt a3)).trans a3⟩
      have hbd : Below W1.heap.size W1 W1.drew := (Below.refl _ W1).drew
      refine wp_region_held_drew (S := fun w' => w'.cell? ⟨wr.heap.size, 0, none⟩ = some (.string s) ∧ w'.cell? ⟨wr.heap.size, 1, none⟩ = some (.int .i64 k2) ∧ w'.cell? ⟨wr.heap.size, 2, none⟩ = some (.int .i64 h2) ∧ w'.cell? ⟨wr.heap.size, 3, none⟩ = some (.slice A2 n2 c2')) (by kernel_rfl) (HKS.out _ hbd) (fun hS => ?_)
      simp only [List.size_toArray, List.length_cons, List.length_nil, Nat.reduceAdd]
      refine wpAnyH_take (i := 0) (v := .func (.func 34) #[] #[]) rfl (by kernel_rfl) (by kernel_rfl) (by kernel_rfl) (fun _ _ _ h => h) (Or.inl ⟨by kernel_rfl, ?_⟩) hS ?_
      · intro w' hSw
        obtain ⟨s0, s1, s2, s3⟩ := hSw
        go_simp
      try simp only [Act.put, List.setIfInBounds_toArray]
      refine wpAnyH_take (i := 1) (v := .slice (some ⟨b, o, none⟩) n c) rfl (by kernel_rfl) (by kernel_rfl) (by kernel_rfl) (fun _ _ _ h => h) (Or.inl ⟨by kernel_rfl, ?_⟩) hS ?_
      · intro w' hSw
        obtain ⟨s0, s1, s2, s3⟩ := hSw
        go_simp
      try simp only [Act.put]
      refine wpAnyH_take (i := 2) (v := .int .i64 j) rfl (by kernel_rfl) (by kernel_rfl) (by kernel_rfl) (fun _ _ _ h => h) (Or.inl ⟨by kernel_rfl, ?_⟩) hS ?_
      · intro w' hSw
        obtain ⟨s0, s1, s2, s3⟩ := hSw
        go_simp
      try simp only [Act.put]
      refine wpAnyH_take (i := 3) (v := .slice (some ⟨b, o, none⟩) j c) rfl (by kernel_rfl) (by kernel_rfl) (by kernel_rfl) (fun _ _ _ h => h) (Or.inl ⟨by kernel_rfl, ?_⟩) hS ?_
      · intro w' hSw
        obtain ⟨s0, s1, s2, s3⟩ := hSw
        go_simp
      try simp only [Act.put]
      refine wpAnyH_take (i := 4) (v := .agg #[.string s, .int .i64 k2, .int .i64 h2, .slice A2 n2 c2']) rfl (by kernel_rfl) (by kernel_rfl) (by kernel_rfl) (fun _ _ _ h => h) (Or.inl ⟨by kernel_rfl, ?_⟩) hS ?_
      · intro w' hSw
        obtain ⟨s0, s1, s2, s3⟩ := hSw
        go_simp
      try simp only [Act.put]
      refine wpAnyH_ready (rs := [5]) (by kernel_rfl) (by simp) ?_
      refine AllReadyH.cons rfl (fun KN hK => ?_) AllReadyH.nil
      go_simp
      refine (HC.out W1.drew hbd).mono ?_
      rintro e w1 ⟨rfl, hb8⟩
      have hb8' : Below W1.heap.size W1 w1 := hbd.trans (hb8.mono hbd.size)
      refine hK.out _ _ (HKS.out _ hb8') (fun hS => ?_)
      clear hK KN
      try simp only [Act.put, List.setIfInBounds_toArray, List.set_cons_zero, List.set_cons_succ]
      refine wpAnyH_take (i := 6) (v := .int .i64 e1) rfl (by kernel_rfl) (by kernel_rfl) (by kernel_rfl) (fun _ _ _ h => h) (Or.inl ⟨by kernel_rfl, ?_⟩) hS ?_
      · intro w' hSw
        obtain ⟨s0, s1, s2, s3⟩ := hSw
        go_simp
      try simp only [Act.put, List.setIfInBounds_toArray]
      refine wpAnyH_done (by kernel_rfl) ?_ _
      try simp only [List.setIfInBounds_toArray]
      try simp only [List.getElem_toArray, List.getElem_cons_succ, List.getElem_cons_zero, List.set_cons_zero, List.set_cons_succ]
      have HB1 := Lib.hid (HBW.out.trans (hb8'.mono HBW.out.size))
      clear hb8 hb8' HC HBW HKS hS hbd a0 a1 a2 a3 c0 c1 c2 c3
      by_cases hz : e1 = 0
      case' neg =>
        have d2 : (e1 != 0) = true := by simpa using hz
        have HQ := Lib.hid (HE.out.trans (HS.out.symm.trans (fi_e HT.out HE1.out hz)))
        go_wp2_with fail
        refine bodyPost_ret (v := .tuple #[.int .i64 j, .int .i64 e1]) (by simp [results, Try.results33, go_sem]) rfl ?_
        exact FiE.of HQ.out HB1.out
      subst hz
      have HQ := Lib.hid ((fi_go HT.out HE1.out).symm.trans HS.out)
      go_wp2_with fail
      go_roundw
      case rel => exact ⟨j + 1, by omega, by go_num, HQ, HB1⟩
      case measure => simp [Go.RowKit.intOf]; omega
    · have HQ := Lib.hid (show firV g ds = (0, 0) by rw [HE.out, ← HS.out, drop_all HX.out.len (by omega), fiV])
      go_wp2_with fail
      refine bodyPost_ret (v := .tuple #[.int .i64 0, .int .i64 0]) (by simp [results, Try.results33, go_sem]) rfl ?_
      exact FiE.of0 HQ.out HB.out

set_option maxRecDepth 100000 in
set_option maxHeartbeats 4000000 in
theorem yFirstC (g : List T → T → Int) (ds : List T) (A : Option Addr) (n c : Nat) (p1 : Value) (p2 : Value) (p3 : Value) (w : World) (hx : CLV w ds A n c)
    (HF : ∀ (i : Nat) (x : T) (k h : Int) (A2 : Option Addr) (n2 c2 : Nat) (W : World), ds[i]? = some x → Below w.heap.size w W → Rd W x (.agg #[.int .i64 k, .int .i64 h, .slice A2 n2 c2]) → CLV W (ds.take i) A i c → Calls Try.prog 37 #[.slice A i c, .agg #[.int .i64 k, .int .i64 h, .slice A2 n2 c2], p1, p2, p3] W fun e w' => e = .returned (.int .i64 (g (ds.take i) x)) ∧ Below W.heap.size W w') :
    Calls Try.prog 36 #[.slice A n c, .func (.func 37) #[] #[p1, p2, p3]] w (FiE (firV g ds) w) := by
  have hm := hx.cap
  have hc := hx.le
  unfold maxLen at hm
  have HX := Lib.hid hx; clear hx
  replace HF := Lib.hid HF
  by_cases hbig : 40 < n
  · have d1 : decide ((40 : Int) < (n : Int)) = true := by simp; omega
    have HE := Lib.hid (show firV g ds = (0, 4) by unfold firV; rw [if_pos (by rw [HX.out.len]; omega)])
    go_enter Try.func36, Try.ntmps36
    go_wp2_with fail
    refine bodyPost_ret (v := .tuple #[.int .i64 0, .int .i64 4]) (by simp [results, Try.results36, go_sem]) rfl ?_
    exact FiE.of0 HE.out (Below.refl _ _)
  have d1 : decide ((40 : Int) < (n : Int)) = false := by simp; omega
  have HE := Lib.hid (show firV g ds = fiV g [] ds by unfold firV; rw [if_neg (by rw [HX.out.len]; omega)])
  go_enter Try.func36, Try.ntmps36
  go_wp2_with fail
  go_loopw [14] (fun i wr => ∃ (j : Nat), j ≤ n ∧ i = .int .i64 j ∧ Hid (fiV g (ds.take j) (ds.drop j) = fiV g [] ds) ∧ Hid (Below w.heap.size w wr)) (fun i _ => n - (Go.RowKit.intOf i).toNat)
  case atStart => exact ⟨0, Nat.zero_le _, rfl, Lib.hid (by simp), Lib.hid (Below.refl _ _)⟩
  case round =>
    obtain ⟨j, hj, rfl, HS, HB⟩ := hrel
    by_cases hlt : j < n
    · obtain ⟨x, ht⟩ := at_of HX.out.len hlt
      obtain ⟨b, o, k2, h2, A2, n2, c2', rfl, c0, c1, c2, hr⟩ := (RdAt.keep HB.out (HX.out.at_ j x ht)).full
      have hi0 : (0 : Int) ≤ j := by omega
      have hi1 : (j : Int) < n := by omega
      have hi2 : (j : Int) ≤ c := by omega
      obtain ⟨W1, hW1⟩ : ∃ W1, wr.alloc (.cells #[.int .i64 k2, .int .i64 h2, .slice A2 n2 c2'] 32) = W1 := ⟨_, rfl⟩
      have hbA : Below wr.heap.size wr W1 := by rw [← hW1]; exact (Below.refl _ _).alloc (Nat.le_refl _) _
      have z5 : Box W1 wr.heap.size 32 #[.int .i64 k2, .int .i64 h2, .slice A2 n2 c2'] := by rw [← hW1]; exact Box.new _ _ _
      have hbw := HB.out.trans (hbA.mono HB.out.size)
      obtain ⟨e1, he1⟩ : ∃ e, g (ds.take j) x = e := ⟨_, rfl⟩
      have HC := fun (W' : World) (h' : Below W1.heap.size W1 W') => HF.out j x k2 h2 A2 n2 c2' W' ht (hbw.trans (h'.mono hbw.size)) (Rd.keep (hbA.trans (h'.mono hbA.size)) _ _ hr) ((HX.out.take (by omega)).keep (hbw.trans (h'.mono hbw.size)))
      rw [he1] at HC
      replace HC := Lib.hid HC
      have HE1 := Lib.hid he1; clear he1
      have HT := Lib.hid ht; clear ht
      have HBW := Lib.hid hbw; clear hbw

      have a0 : W1.cell? ⟨wr.heap.size, 0, none⟩ = some (.int .i64 k2) := z5.cell 0
      have a1 : W1.cell? ⟨wr.heap.size, 1, none⟩ = some (.int .i64 h2) := z5.cell 1
      have a2 : W1.cell? ⟨wr.heap.size, 2, none⟩ = some (.slice A2 n2 c2') := z5.cell 2
      clear hr hbA z5
      have HW1 := Lib.hid hW1; clear hW1
      go_wp2_with fail
      try rw [HW1.out]
      have HKS : Hid (∀ w' : World, Below W1.heap.size W1 w' → (fun w' => w'.cell? ⟨wr.heap.size, 0, none⟩ = some (.int .i64 k2) ∧ w'.cell? ⟨wr.heap.size, 1, none⟩ = some (.int .i64 h2) ∧ w'.cell? ⟨wr.heap.size, 2, none⟩ = some (.slice A2 n2 c2')) w') := Lib.hid fun w' h => ⟨(h.cell (cell_lt a0)).trans a0, (h.cell (cell_lt a1)).trans a1, (h.cell (cell_lt a2)).trans a2⟩
      have hbd : Below W1.heap.size W1 W1.drew := (Below.refl _ W1).drew
      refine wp_region_held_drew (S := fun w' => w'.cell? ⟨wr.heap.size, 0, none⟩ = some (.int .i64 k2) ∧ w'.cell? ⟨wr.heap.size, 1, none⟩ = some (.int .i64 h2) ∧ w'.cell? ⟨wr.heap.size, 2, none⟩ = some (.slice A2 n2 c2')) (by kernel_rfl) (HKS.out _ hbd) (fun hS => ?_)
      simp only [List.size_toArray, List.length_cons, List.length_nil, Nat.reduceAdd]
      refine wpAnyH_take (i := 0) (v := .func (.func 37) #[] #[p1, p2, p3]) rfl (by kernel_rfl) (by kernel_rfl) (by kernel_rfl) (fun _ _ _ h => h) (Or.inl ⟨by kernel_rfl, ?_⟩) hS ?_
      · intro w' hSw
        obtain ⟨s0, s1, s2⟩ := hSw
        go_simp
      try simp only [Act.put, List.setIfInBounds_toArray]
      refine wpAnyH_take (i := 1) (v := .slice (some ⟨b, o, none⟩) n c) rfl (by kernel_rfl) (by kernel_rfl) (by kernel_rfl) (fun _ _ _ h => h) (Or.inl ⟨by kernel_rfl, ?_⟩) hS ?_
      · intro w' hSw
        obtain ⟨s0, s1, s2⟩ := hSw
        go_simp
      try simp only [Act.put]
      refine wpAnyH_take (i := 2) (v := .int .i64 j) rfl (by kernel_rfl) (by kernel_rfl) (by kernel_rfl) (fun _ _ _ h => h) (Or.inl ⟨by kernel_rfl, ?_⟩) hS ?_
      · intro w' hSw
        obtain ⟨s0, s1, s2⟩ := hSw
        go_simp
      try simp only [Act.put]
      refine wpAnyH_take (i := 3) (v := .slice (some ⟨b, o, none⟩) j c) rfl (by kernel_rfl) (by kernel_rfl) (by kernel_rfl) (fun _ _ _ h => h) (Or.inl ⟨by kernel_rfl, ?_⟩) hS ?_
      · intro w' hSw
        obtain ⟨s0, s1, s2⟩ := hSw
        go_simp
      try simp only [Act.put]
      refine wpAnyH_take (i := 4) (v := .agg #[.int .i64 k2, .int .i64 h2, .slice A2 n2 c2']) rfl (by kernel_rfl) (by kernel_rfl) (by kernel_rfl) (fun _ _ _ h => h) (Or.inl ⟨by kernel_rfl, ?_⟩) hS ?_
      · intro w' hSw
        obtain ⟨s0, s1, s2⟩ := hSw
        go_simp
      try simp only [Act.put]
      refine wpAnyH_ready (rs := [5]) (by kernel_rfl) (by simp) ?_
      refine AllReadyH.cons rfl (fun KN hK => ?_) AllReadyH.nil
      go_simp
      refine (HC.out W1.drew hbd).mono ?_
      rintro e w1 ⟨rfl, hb8⟩
      have hb8' : Below W1.heap.size W1 w1 := hbd.trans (hb8.mono hbd.size)
      refine hK.out _ _ (HKS.out _ hb8') (fun hS => ?_)
      clear hK KN
      try simp only [Act.put, List.setIfInBounds_toArray, List.set_cons_zero, List.set_cons_succ]
      refine wpAnyH_take (i := 6) (v := .int .i64 e1) rfl (by kernel_rfl) (by kernel_rfl) (by kernel_rfl) (fun _ _ _ h => h) (Or.inl ⟨by kernel_rfl, ?_⟩) hS ?_
      · intro w' hSw
        obtain ⟨s0, s1, s2⟩ := hSw
        go_simp
      try simp only [Act.put, List.setIfInBounds_toArray]
      refine wpAnyH_done (by kernel_rfl) ?_ _
      try simp only [List.setIfInBounds_toArray]
      try simp only [List.getElem_toArray, List.getElem_cons_succ, List.getElem_cons_zero, List.set_cons_zero, List.set_cons_succ]
      have HB1 := Lib.hid (HBW.out.trans (hb8'.mono HBW.out.size))
      clear hb8 hb8' HC HBW HKS hS hbd a0 a1 a2 c0 c1 c2
      by_cases hz : e1 = 0
      case' neg =>
        have d2 : (e1 != 0) = true := by simpa using hz
        have HQ := Lib.hid (HE.out.trans (HS.out.symm.trans (fi_e HT.out HE1.out hz)))
        go_wp2_with fail
        refine bodyPost_ret (v := .tuple #[.int .i64 j, .int .i64 e1]) (by simp [results, Try.results36, go_sem]) rfl ?_
        exact FiE.of HQ.out HB1.out
      subst hz
      have HQ := Lib.hid ((fi_go HT.out HE1.out).symm.trans HS.out)
      go_wp2_with fail
      go_roundw
      case rel => exact ⟨j + 1, by omega, by go_num, HQ, HB1⟩
      case measure => simp [Go.RowKit.intOf]; omega
    · have HQ := Lib.hid (show firV g ds = (0, 0) by rw [HE.out, ← HS.out, drop_all HX.out.len (by omega), fiV])
      go_wp2_with fail
      refine bodyPost_ret (v := .tuple #[.int .i64 0, .int .i64 0]) (by simp [results, Try.results36, go_sem]) rfl ?_
      exact FiE.of0 HQ.out HB.out

set_option maxRecDepth 100000 in
set_option maxHeartbeats 4000000 in
theorem yFirstS (g : List T → T → Int) (ds : List T) (A : Option Addr) (n c : Nat) (p1 : Value) (w : World) (hx : CLV w ds A n c)
    (HF : ∀ (i : Nat) (x : T) (k h : Int) (A2 : Option Addr) (n2 c2 : Nat) (W : World), ds[i]? = some x → Below w.heap.size w W → Rd W x (.agg #[.int .i64 k, .int .i64 h, .slice A2 n2 c2]) → CLV W (ds.take i) A i c → Calls Try.prog 42 #[.slice A i c, .agg #[.int .i64 k, .int .i64 h, .slice A2 n2 c2], p1] W fun e w' => e = .returned (.int .i64 (g (ds.take i) x)) ∧ Below W.heap.size W w') :
    Calls Try.prog 36 #[.slice A n c, .func (.func 42) #[] #[p1]] w (FiE (firV g ds) w) := by
  have hm := hx.cap
  have hc := hx.le
  unfold maxLen at hm
  have HX := Lib.hid hx; clear hx
  replace HF := Lib.hid HF
  by_cases hbig : 40 < n
  · have d1 : decide ((40 : Int) < (n : Int)) = true := by simp; omega
    have HE := Lib.hid (show firV g ds = (0, 4) by unfold firV; rw [if_pos (by rw [HX.out.len]; omega)])
    go_enter Try.func36, Try.ntmps36
    go_wp2_with fail
    refine bodyPost_ret (v := .tuple #[.int .i64 0, .int .i64 4]) (by simp [results, Try.results36, go_sem]) rfl ?_
    exact FiE.of0 HE.out (Below.refl _ _)
  have d1 : decide ((40 : Int) < (n : Int)) = false := by simp; omega
  have HE := Lib.hid (show firV g ds = fiV g [] ds by unfold firV; rw [if_neg (by rw [HX.out.len]; omega)])
  go_enter Try.func36, Try.ntmps36
  go_wp2_with fail
  go_loopw [14] (fun i wr => ∃ (j : Nat), j ≤ n ∧ i = .int .i64 j ∧ Hid (fiV g (ds.take j) (ds.drop j) = fiV g [] ds) ∧ Hid (Below w.heap.size w wr)) (fun i _ => n - (Go.RowKit.intOf i).toNat)
  case atStart => exact ⟨0, Nat.zero_le _, rfl, Lib.hid (by simp), Lib.hid (Below.refl _ _)⟩
  case round =>
    obtain ⟨j, hj, rfl, HS, HB⟩ := hrel
    by_cases hlt : j < n
    · obtain ⟨x, ht⟩ := at_of HX.out.len hlt
      obtain ⟨b, o, k2, h2, A2, n2, c2', rfl, c0, c1, c2, hr⟩ := (RdAt.keep HB.out (HX.out.at_ j x ht)).full
      have hi0 : (0 : Int) ≤ j := by omega
      have hi1 : (j : Int) < n := by omega
      have hi2 : (j : Int) ≤ c := by omega
      obtain ⟨W1, hW1⟩ : ∃ W1, wr.alloc (.cells #[.int .i64 k2, .int .i64 h2, .slice A2 n2 c2'] 32) = W1 := ⟨_, rfl⟩
      have hbA : Below wr.heap.size wr W1 := by rw [← hW1]; exact (Below.refl _ _).alloc (Nat.le_refl _) _
      have z5 : Box W1 wr.heap.size 32 #[.int .i64 k2, .int .i64 h2, .slice A2 n2 c2'] := by rw [← hW1]; exact Box.new _ _ _
      have hbw := HB.out.trans (hbA.mono HB.out.size)
      obtain ⟨e1, he1⟩ : ∃ e, g (ds.take j) x = e := ⟨_, rfl⟩
      have HC := fun (W' : World) (h' : Below W1.heap.size W1 W') => HF.out j x k2 h2 A2 n2 c2' W' ht (hbw.trans (h'.mono hbw.size)) (Rd.keep (hbA.trans (h'.mono hbA.size)) _ _ hr) ((HX.out.take (by omega)).keep (hbw.trans (h'.mono hbw.size)))
      rw [he1] at HC
      replace HC := Lib.hid HC
      have HE1 := Lib.hid he1; clear he1
      have HT := Lib.hid ht; clear ht
      have HBW := Lib.hid hbw; clear hbw

      have a0 : W1.cell? ⟨wr.heap.size, 0, none⟩ = some (.int .i64 k2) := z5.cell 0
      have a1 : W1.cell? ⟨wr.heap.size, 1, none⟩ = some (.int .i64 h2) := z5.cell 1
      have a2 : W1.cell? ⟨wr.heap.size, 2, none⟩ = some (.slice A2 n2 c2') := z5.cell 2
      clear hr hbA z5
      have HW1 := Lib.hid hW1; clear hW1
      go_wp2_with fail
      try rw [HW1.out]
      have HKS : Hid (∀ w' : World, Below W1.heap.size W1 w' → (fun w' => w'.cell? ⟨wr.heap.size, 0, none⟩ = some (.int .i64 k2) ∧ w'.cell? ⟨wr.heap.size, 1, none⟩ = some (.int .i64 h2) ∧ w'.cell? ⟨wr.heap.size, 2, none⟩ = some (.slice A2 n2 c2')) w') := Lib.hid fun w' h => ⟨(h.cell (cell_lt a0)).trans a0, (h.cell (cell_lt a1)).trans a1, (h.cell (cell_lt a2)).trans a2⟩
      have hbd : Below W1.heap.size W1 W1.drew := (Below.refl _ W1).drew
      refine wp_region_held_drew (S := fun w' => w'.cell? ⟨wr.heap.size, 0, none⟩ = some (.int .i64 k2) ∧ w'.cell? ⟨wr.heap.size, 1, none⟩ = some (.int .i64 h2) ∧ w'.cell? ⟨wr.heap.size, 2, none⟩ = some (.slice A2 n2 c2')) (by kernel_rfl) (HKS.out _ hbd) (fun hS => ?_)
      simp only [List.size_toArray, List.length_cons, List.length_nil, Nat.reduceAdd]
      refine wpAnyH_take (i := 0) (v := .func (.func 42) #[] #[p1]) rfl (by kernel_rfl) (by kernel_rfl) (by kernel_rfl) (fun _ _ _ h => h) (Or.inl ⟨by kernel_rfl, ?_⟩) hS ?_
      · intro w' hSw
        obtain ⟨s0, s1, s2⟩ := hSw
        go_simp
      try simp only [Act.put, List.setIfInBounds_toArray]
      refine wpAnyH_take (i := 1) (v := .slice (some ⟨b, o, none⟩) n c) rfl (by kernel_rfl) (by kernel_rfl) (by kernel_rfl) (fun _ _ _ h => h) (Or.inl ⟨by kernel_rfl, ?_⟩) hS ?_
      · intro w' hSw
        obtain ⟨s0, s1, s2⟩ := hSw
        go_simp
      try simp only [Act.put]
      refine wpAnyH_take (i := 2) (v := .int .i64 j) rfl (by kernel_rfl) (by kernel_rfl) (by kernel_rfl) (fun _ _ _ h => h) (Or.inl ⟨by kernel_rfl, ?_⟩) hS ?_
      · intro w' hSw
        obtain ⟨s0, s1, s2⟩ := hSw
        go_simp
      try simp only [Act.put]
      refine wpAnyH_take (i := 3) (v := .slice (some ⟨b, o, none⟩) j c) rfl (by kernel_rfl) (by kernel_rfl) (by kernel_rfl) (fun _ _ _ h => h) (Or.inl ⟨by kernel_rfl, ?_⟩) hS ?_
      · intro w' hSw
        obtain ⟨s0, s1, s2⟩ := hSw
        go_simp
      try simp only [Act.put]
      refine wpAnyH_take (i := 4) (v := .agg #[.int .i64 k2, .int .i64 h2, .slice A2 n2 c2']) rfl (by kernel_rfl) (by kernel_rfl) (by kernel_rfl) (fun _ _ _ h => h) (Or.inl ⟨by kernel_rfl, ?_⟩) hS ?_
      · intro w' hSw
        obtain ⟨s0, s1, s2⟩ := hSw
        go_simp
      try simp only [Act.put]
      refine wpAnyH_ready (rs := [5]) (by kernel_rfl) (by simp) ?_
      refine AllReadyH.cons rfl (fun KN hK => ?_) AllReadyH.nil
      go_simp
      refine (HC.out W1.drew hbd).mono ?_
      rintro e w1 ⟨rfl, hb8⟩
      have hb8' : Below W1.heap.size W1 w1 := hbd.trans (hb8.mono hbd.size)
      refine hK.out _ _ (HKS.out _ hb8') (fun hS => ?_)
      clear hK KN
      try simp only [Act.put, List.setIfInBounds_toArray, List.set_cons_zero, List.set_cons_succ]
      refine wpAnyH_take (i := 6) (v := .int .i64 e1) rfl (by kernel_rfl) (by kernel_rfl) (by kernel_rfl) (fun _ _ _ h => h) (Or.inl ⟨by kernel_rfl, ?_⟩) hS ?_
      · intro w' hSw
        obtain ⟨s0, s1, s2⟩ := hSw
        go_simp
      try simp only [Act.put, List.setIfInBounds_toArray]
      refine wpAnyH_done (by kernel_rfl) ?_ _
      try simp only [List.setIfInBounds_toArray]
      try simp only [List.getElem_toArray, List.getElem_cons_succ, List.getElem_cons_zero, List.set_cons_zero, List.set_cons_succ]
      have HB1 := Lib.hid (HBW.out.trans (hb8'.mono HBW.out.size))
      clear hb8 hb8' HC HBW HKS hS hbd a0 a1 a2 c0 c1 c2
      by_cases hz : e1 = 0
      case' neg =>
        have d2 : (e1 != 0) = true := by simpa using hz
        have HQ := Lib.hid (HE.out.trans (HS.out.symm.trans (fi_e HT.out HE1.out hz)))
        go_wp2_with fail
        refine bodyPost_ret (v := .tuple #[.int .i64 j, .int .i64 e1]) (by simp [results, Try.results36, go_sem]) rfl ?_
        exact FiE.of HQ.out HB1.out
      subst hz
      have HQ := Lib.hid ((fi_go HT.out HE1.out).symm.trans HS.out)
      go_wp2_with fail
      go_roundw
      case rel => exact ⟨j + 1, by omega, by go_num, HQ, HB1⟩
      case measure => simp [Go.RowKit.intOf]; omega
    · have HQ := Lib.hid (show firV g ds = (0, 0) by rw [HE.out, ← HS.out, drop_all HX.out.len (by omega), fiV])
      go_wp2_with fail
      refine bodyPost_ret (v := .tuple #[.int .i64 0, .int .i64 0]) (by simp [results, Try.results36, go_sem]) rfl ?_
      exact FiE.of0 HQ.out HB.out

end Go.Proofs.Ytpigmefjcklpkaa

/-
  Contracts of package world. No statement is proved here.
-/
namespace Go.Proofs.Ytpigmefjcklpkaa
open Go.ChangeShapes Go.WideShapes Go.ChangeAt Go.RowKit
set_option linter.unusedVariables false

/-! ### Concat -/
set_option maxRecDepth 100000 in
set_option maxHeartbeats 2000000 in
theorem yConcatC {X : Nat → Prop} {w : World} {xs ys : List T} {A1 A2 : Option Addr} {n1 c1 n2 c2 B : Nat} (hx : RXL X w xs A1 n1 c1) (hy : RXL X w ys A2 n2 c2) (hX : ∀ b, X b → b < w.heap.size) (b0 : w.cell? ⟨B, 0, none⟩ = some (.slice A1 n1 c1)) (b1 : w.cell? ⟨B, 1, none⟩ = some (.slice A2 n2 c2))
    (h2 : 0 < n1 + n2) (hs : n1 + n2 ≤ 3518437208780) : Calls Try.prog 38 #[.slice (some ⟨B, 0, none⟩) 2 2] w (CEnd X (xs ++ ys) (n1 + n2) w) := by
  obtain ⟨cs, l1, k1, o1, e1⟩ := hx.cells
  obtain ⟨ds, l2, k2, o2, e2⟩ := hy.cells
  have ha1 : 0 < n1 → ∃ b o, A1 = some ⟨b, o, none⟩ := fun h => by
    obtain ⟨t, ht⟩ := at_of hx.len h
    obtain ⟨b, o, _, _, _, e, _⟩ := hx.at_ 0 t ht
    exact ⟨b, o, e⟩
  have ha2 : 0 < n2 → ∃ b o, A2 = some ⟨b, o, none⟩ := fun h => by
    obtain ⟨t, ht⟩ := at_of hy.len h
    obtain ⟨b, o, _, _, _, e, _⟩ := hy.at_ 0 t ht
    exact ⟨b, o, e⟩
  have lb := cell_lt b0
  dsimp only at lb
  have q1 := hx.le; have q2 := hx.cap; have q3 := hy.le; have q4 := hy.cap
  unfold maxLen at q2 q4
  have HX := Lib.hid hx; clear hx
  have HY := Lib.hid hy; clear hy
  have HXX := Lib.hid hX; clear hX
  have HL1 := Lib.hid (And.intro l1 (And.intro k1 (And.intro o1 e1))); clear l1 k1 o1 e1
  have HL2 := Lib.hid (And.intro l2 (And.intro k2 (And.intro o2 e2))); clear l2 k2 o2 e2
  have HA1 := Lib.hid ha1; clear ha1
  have HA2 := Lib.hid ha2; clear ha2
  go_enter Try.func38, Try.ntmps38
  go_wp2_with fail
  go_loop [3, 11] (fun z i => ∃ j : Nat, j ≤ 2 ∧ i = .int .i64 j ∧ z = .int .i64 (sm n1 n2 j : Nat)) (fun _ i => 2 - (intOf i).toNat)
  case atStart => exact ⟨0, by omega, rfl, rfl⟩
  case round =>
    obtain ⟨j, hj, rfl, rfl⟩ := hrel
    rcases (show j = 0 ∨ j = 1 ∨ j = 2 by omega) with rfl | rfl | rfl
    · have z0 : sm n1 n2 0 = 0 := rfl
      go_wp2_with fail
      go_round
      case rel => exact ⟨1, by omega, rfl, by simp [sm]⟩
      case measure => simp [intOf]
    · have z0 : sm n1 n2 1 = n1 := rfl
      go_wp2_with fail
      go_round
      case rel => exact ⟨2, by omega, rfl, by simp [sm]⟩
      case measure => simp [intOf]
    · have z0 : sm n1 n2 2 = n1 + n2 := rfl
      go_wp2_with fail
      have hG := growC (n1 + n2) (by omega) hs w
      rw [show ((n1 + n2 : Nat) : Int) = (n1 : Int) + n2 by omega] at hG
      refine hG.mono ?_
      clear hG
      rintro e w1 ⟨cap, rfl, how, hb⟩
      have HO := Lib.hid how; clear how
      have HB := Lib.hid hb; clear hb
      go_wp2_with fail
      go_loopw [6, 27] (fun v i wr => ∃ (j g cap : Nat), j ≤ 2 ∧ i = .int .i64 j ∧ v = .slice (some ⟨g, 0, none⟩) (sm n1 n2 j) cap ∧ Hid (wr.ownsRow w.heap.size 32 3 (.slice (some ⟨g, 0, none⟩) (sm n1 n2 j) cap) (sm n1 n2 j) (cl2 cs ds j)) ∧ sm n1 n2 j ≤ cap ∧ Hid (Below w.heap.size w wr)) (fun _ i _ => 2 - (intOf i).toNat)
      case atStart => exact ⟨0, w.heap.size, cap, by omega, rfl, rfl, HO, Nat.zero_le _, HB⟩
      case round =>
        obtain ⟨j, g, cap, hj, rfl, rfl, HO, hcap, HB⟩ := hrel
        have d0 : wr.cell? ⟨B, 0, none⟩ = some (.slice A1 n1 c1) := (HB.out.cell (p := ⟨B, 0, none⟩) lb).trans b0
        have d1 : wr.cell? ⟨B, 1, none⟩ = some (.slice A2 n2 c2) := (HB.out.cell (p := ⟨B, 1, none⟩) lb).trans b1
        rcases (show j = 0 ∨ j = 1 ∨ j = 2 by omega) with rfl | rfl | rfl
        · have hap := append_row (c := c1) (m := n1) HB.out HO.out hcap HL1.out.1 HL1.out.2.2.2 HL1.out.2.2.1 HA1.out (by show 0 + n1 ≤ _; omega)
          obtain ⟨g', cap', w', hrun, how', hle, hb'⟩ := hap 23
          have HO' := Lib.hid how'; clear how'
          have HB' := Lib.hid hb'; clear hb'
          have z0 : sm n1 n2 0 = 0 := rfl
          rw [z0] at hrun hle HO' ⊢
          go_wp2_with (at_builtin; refine Lib.wpList_append_run _ rfl _ _ _ _ rfl _ _ rfl rfl _ _ hrun ?_)
          go_roundw
          case rel => exact ⟨1, g', cap', by omega, rfl, by simp [sm], Lib.hid (by have := HO'.out; simpa [sm, cl2] using this), by simpa [sm] using hle, HB'⟩
          case measure => simp [intOf]
        · have hap := append_row (c := c2) (m := n2) HB.out HO.out hcap HL2.out.1 HL2.out.2.2.2 HL2.out.2.2.1 HA2.out (by show n1 + n2 ≤ _; omega)
          obtain ⟨g', cap', w', hrun, how', hle, hb'⟩ := hap 23
          have HO' := Lib.hid how'; clear how'
          have HB' := Lib.hid hb'; clear hb'
          have z0 : sm n1 n2 1 = n1 := rfl
          rw [z0] at hrun hle HO' ⊢
          go_wp2_with (at_builtin; refine Lib.wpList_append_run _ rfl _ _ _ _ rfl _ _ rfl rfl _ _ hrun ?_)
          go_roundw
          case rel => exact ⟨2, g', cap', by omega, rfl, by simp [sm], Lib.hid (by have := HO'.out; simpa [sm, cl2] using this), by simpa [sm] using hle, HB'⟩
          case measure => simp [intOf]
        · go_wp2_with fail
          go_ret
          refine ⟨_, cap, rfl, rxl_row (w := w) HO.out (KidL.app (HL1.out.2.1.move (fun _ h => h) fun b _ hl => HB.out.block b hl) (by rw [HL1.out.1, HX.out.len]) (HL2.out.2.1.move (fun _ h => h) fun b _ hl => HB.out.block b hl)) (by rw [List.length_append, HX.out.len, HY.out.len]) HXX.out, HB.out⟩

theorem clv_rxl {w : World} {xs : List T} {A : Option Addr} {n c : Nat} (h : CLV w xs A n c) : RXL (fun _ => False) w xs A n c :=
  ⟨h.len, h.le, h.cap, fun i t ht => by
    obtain ⟨b, o, k, g, A', n', c', e, c0, c1, c2, hr⟩ := (h.at_ i t ht).full
    exact ⟨b, o, _, _, _, e, id, c0, c1, c2, RdF.moveX (fun _ _ _ => ⟨id, rfl⟩) _ _ (rdF_anyQ _ _ hr)⟩⟩
theorem rxl_clv {w : World} {xs : List T} {A : Option Addr} {n c : Nat} (h : RXL (fun _ => False) w xs A n c) : CLV w xs A n c :=
  ⟨h.len, h.le, h.cap, fun i t ht => by
    obtain ⟨b, o, k, g, A', n', c', e, c0, c1, c2, hr⟩ := (h.at_ i t ht).full
    exact ⟨b, o, _, _, _, e, c0, c1, c2, RdF.rd _ _ hr⟩⟩
theorem yGrow0 (w : World) : Calls Try.prog 65 #[.slice none 0 0, .int .i64 0] w fun e w' => e = .returned (.slice none 0 0) ∧ Below w.heap.size w w' := by
  go_enter Try.func65, Try.ntmps65
  go_wp2_with fail
  go_ret
  exact ⟨rfl, Below.refl _ _⟩
theorem run_app_nil (ty : TypeId) (A : Option Addr) (c : Nat) (w : World) : (Builtin.append_ #[23, 23] ty #[.slice none 0 0, .slice A 0 c]).run Try.prog w = .ok (.slice none 0 0) w := by
  obtain ⟨i0, hi, hz0, hz1, hz2⟩ := info_parts infoTerm
  cases A <;> simp [Builtin.append_, run_underlying Try.underlying23, sizeOf, typeInfo, hi, Builtin.lenOf, Builtin.firstCells, loadCells, loadCellsFrom]
set_option maxRecDepth 100000 in
set_option maxHeartbeats 2000000 in
theorem yConcat0 {w : World} {A1 A2 : Option Addr} {c1 c2 B : Nat} (b0 : w.cell? ⟨B, 0, none⟩ = some (.slice A1 0 c1)) (b1 : w.cell? ⟨B, 1, none⟩ = some (.slice A2 0 c2)) :
    Calls Try.prog 38 #[.slice (some ⟨B, 0, none⟩) 2 2] w fun e w' => e = .returned (.slice none 0 0) ∧ Below w.heap.size w w' := by
  have lb := cell_lt b0
  dsimp only at lb
  go_enter Try.func38, Try.ntmps38
  go_wp2_with fail
  go_loop [3, 11] (fun z i => ∃ j : Nat, j ≤ 2 ∧ i = .int .i64 j ∧ z = .int .i64 0) (fun _ i => 2 - (intOf i).toNat)
  case atStart => exact ⟨0, by omega, rfl, rfl⟩
  case round =>
    obtain ⟨j, hj, rfl, rfl⟩ := hrel
    rcases (show j = 0 ∨ j = 1 ∨ j = 2 by omega) with rfl | rfl | rfl
    · go_wp2_with fail
      go_round
      case rel => exact ⟨1, by omega, rfl, by simp⟩
      case measure => simp [intOf]
    · go_wp2_with fail
      go_round
      case rel => exact ⟨2, by omega, rfl, by simp⟩
      case measure => simp [intOf]
    · go_wp2_with fail
      refine (yGrow0 w).mono ?_
      rintro e w1 ⟨rfl, hb⟩
      have HB := Lib.hid hb; clear hb
      go_wp2_with fail
      go_loopw [6, 27] (fun v i wr => ∃ (j : Nat), j ≤ 2 ∧ i = .int .i64 j ∧ v = .slice none 0 0 ∧ Hid (Below w.heap.size w wr)) (fun _ i _ => 2 - (intOf i).toNat)
      case atStart => exact ⟨0, by omega, rfl, rfl, HB⟩
      case round =>
        obtain ⟨j, hj, rfl, rfl, HB⟩ := hrel
        have d0 : wr.cell? ⟨B, 0, none⟩ = some (.slice A1 0 c1) := (HB.out.cell (p := ⟨B, 0, none⟩) lb).trans b0
        have d1 : wr.cell? ⟨B, 1, none⟩ = some (.slice A2 0 c2) := (HB.out.cell (p := ⟨B, 1, none⟩) lb).trans b1
        rcases (show j = 0 ∨ j = 1 ∨ j = 2 by omega) with rfl | rfl | rfl
        · have hrun := run_app_nil 23 A1 c1 wr
          go_wp2_with (at_builtin; refine Lib.wpList_append_run _ rfl _ _ _ _ rfl _ _ rfl rfl _ _ hrun ?_)
          go_roundw
          case rel => exact ⟨1, by omega, rfl, rfl, HB⟩
          case measure => simp [intOf]
        · have hrun := run_app_nil 23 A2 c2 wr
          go_wp2_with (at_builtin; refine Lib.wpList_append_run _ rfl _ _ _ _ rfl _ _ rfl rfl _ _ hrun ?_)
          go_roundw
          case rel => exact ⟨2, by omega, rfl, rfl, HB⟩
          case measure => simp [intOf]
        · go_wp2_with fail
          go_ret
          exact ⟨rfl, HB.out⟩
/-- two lists, one behind the other -/
theorem yConcat {w : World} {xs ys : List T} {A1 A2 : Option Addr} {n1 c1 n2 c2 B : Nat} (hx : CLV w xs A1 n1 c1) (hy : CLV w ys A2 n2 c2) (b0 : w.cell? ⟨B, 0, none⟩ = some (.slice A1 n1 c1)) (b1 : w.cell? ⟨B, 1, none⟩ = some (.slice A2 n2 c2)) (hs : n1 + n2 ≤ 3518437208780) :
    Calls Try.prog 38 #[.slice (some ⟨B, 0, none⟩) 2 2] w fun e w' => ∃ A c, e = .returned (.slice A (n1 + n2) c) ∧ CLV w' (xs ++ ys) A (n1 + n2) c ∧ Below w.heap.size w w' := by
  rcases Nat.eq_zero_or_pos (n1 + n2) with h | h
  · obtain ⟨rfl, rfl⟩ : n1 = 0 ∧ n2 = 0 := by omega
    refine (yConcat0 b0 b1).mono ?_
    rintro e w' ⟨rfl, hb⟩
    refine ⟨none, 0, rfl, ⟨by rw [List.length_append, hx.len, hy.len], Nat.le_refl _, Nat.zero_le _, fun i t ht => ?_⟩, hb⟩
    rw [List.length_eq_zero_iff.1 hx.len, List.length_eq_zero_iff.1 hy.len] at ht
    simp at ht
  · refine (yConcatC (clv_rxl hx) (clv_rxl hy) (fun b hb => hb.elim) b0 b1 h hs).mono ?_
    rintro e w' ⟨A, c, rfl, hr, hb⟩
    exact ⟨A, c, rfl, rxl_clv hr, hb⟩

/-! ### Conforms -/
theorem ySame1C (a b : T) (pa : Nat) (ka ha : Int) (Aa : Option Addr) (na ca : Nat) (v : Value) (w : World) (xa : Box w pa 32 #[.int .i64 ka, .int .i64 ha, .slice Aa na ca]) (hva : Rd w a (.agg #[.int .i64 ka, .int .i64 ha, .slice Aa na ca])) (hv : Rd w b v) :
    Calls Try.prog 40 #[v, .pointer (some ⟨pa, 0, none⟩)] w fun e w' => e = .returned (.bool (samB a b)) ∧ Below w.heap.size w w' := by
  obtain ⟨k, h, A, n, c, rfl⟩ := hv.full
  obtain ⟨W, hW⟩ : ∃ W, w.alloc (.cells #[.int .i64 k, .int .i64 h, .slice A n c] 32) = W := ⟨_, rfl⟩
  have hb : Below w.heap.size w W := by rw [← hW]; exact (Below.refl _ _).alloc (Nat.le_refl _) _
  have x0 : Box W w.heap.size 32 #[.int .i64 k, .int .i64 h, .slice A n c] := by rw [← hW]; exact Box.new _ _ _
  obtain ⟨a0, a1, a2⟩ := (xa.keep hb xa.lt).three
  obtain ⟨b0, b1, b2⟩ := x0.three
  have HC := Lib.hid (termSame a b _ _ W (Rd.keep hb _ _ hva) (Rd.keep hb _ _ hv))
  have HB := Lib.hid hb
  clear hva hv xa x0 hb
  generalize samB a b = r at *
  go_enter Try.func40, Try.ntmps40
  go_wp2_with fail
  try rw [hW]
  go_wp2_with fail
  refine HC.out.mono ?_
  rintro e w1 ⟨rfl, hb1⟩
  have HB1 := Lib.hid (HB.out.trans (hb1.mono HB.out.size))
  clear hb1
  go_wp2_with fail
  go_ret
  exact ⟨rfl, HB1.out⟩
theorem yIndexC (a : T) (ys : List T) (A : Option Addr) (n c : Nat) (pa : Nat) (ka ha : Int) (Aa : Option Addr) (na ca : Nat) (w : World) (hx : CLV w ys A n c) (xa : Box w pa 32 #[.int .i64 ka, .int .i64 ha, .slice Aa na ca]) (hva : Rd w a (.agg #[.int .i64 ka, .int .i64 ha, .slice Aa na ca])) :
    Calls Try.prog 66 #[.slice A n c, .func (.func 40) #[] #[.pointer (some ⟨pa, 0, none⟩)]] w fun e w' => ∃ i : Int, e = .returned (.int .i64 i) ∧ decide (0 ≤ i) = (ys.any fun b => samB a b) ∧ Below w.heap.size w w' := by
  have hm := hx.cap
  have hc := hx.le
  unfold maxLen at hm
  have HX := Lib.hid hx; clear hx
  have XA := Lib.hid xa; clear xa
  have HVA := Lib.hid hva; clear hva
  go_enter Try.func66, Try.ntmps66
  go_wp2_with fail
  go_loopw [8] (fun i wr => ∃ (j : Nat), j ≤ n ∧ i = .int .i64 j ∧ Hid (((ys.drop j).any fun b => samB a b) = ys.any fun b => samB a b) ∧ Hid (Below w.heap.size w wr)) (fun i _ => n - (Go.RowKit.intOf i).toNat)
  case atStart => exact ⟨0, Nat.zero_le _, rfl, Lib.hid (by simp), Lib.hid (Below.refl _ _)⟩
  case round =>
    obtain ⟨j, hj, rfl, HS, HB⟩ := hrel
    by_cases hlt : j < n
    · obtain ⟨x, ht⟩ := at_of HX.out.len hlt
      obtain ⟨b, o, k2, h2, A2, n2, c2', rfl, c0, c1, c2, hr⟩ := (RdAt.keep HB.out (HX.out.at_ j x ht)).full
      have HT := Lib.hid ht; clear ht
      have hi0 : (0 : Int) ≤ j := by omega
      have hi1 : (j : Int) < n := by omega
      have HM := Lib.hid (ySame1C a x pa ka ha Aa na ca _ wr (XA.out.keep HB.out XA.out.lt) (Rd.keep HB.out _ _ HVA.out) hr)
      clear hr
      have HS' := HS.out
      rw [drop_at HT.out, List.any_cons] at HS'
      have HS := Lib.hid HS'; clear HS'
      generalize samB a x = r at *
      go_wp2_with fail
      clear c0 c1 c2
      refine HM.out.mono ?_
      rintro e w1 ⟨rfl, hb1⟩
      have HB1 := Lib.hid (HB.out.trans (hb1.mono HB.out.size))
      clear hb1 HM
      cases r
      · go_wp2_with fail
        go_roundw
        case rel => exact ⟨j + 1, by omega, by go_num, Lib.hid (by simpa using HS.out), HB1⟩
        case measure => simp [Go.RowKit.intOf]; omega
      · go_wp2_with fail
        go_ret
        exact ⟨_, rfl, by rw [← HS.out]; simp, HB1.out⟩
    · go_wp2_with fail
      go_ret
      exact ⟨_, rfl, by have := HS.out; rw [drop_all HX.out.len (by omega)] at this; rw [← this]; simp, HB.out⟩
theorem yContainsC (a : T) (ys : List T) (A : Option Addr) (n c : Nat) (pa : Nat) (ka ha : Int) (Aa : Option Addr) (na ca : Nat) (w : World) (hx : CLV w ys A n c) (xa : Box w pa 32 #[.int .i64 ka, .int .i64 ha, .slice Aa na ca]) (hva : Rd w a (.agg #[.int .i64 ka, .int .i64 ha, .slice Aa na ca])) :
    Calls Try.prog 39 #[.slice A n c, .func (.func 40) #[] #[.pointer (some ⟨pa, 0, none⟩)]] w fun e w' => e = .returned (.bool (ys.any fun b => samB a b)) ∧ Below w.heap.size w w' := by
  have HI := Lib.hid (yIndexC a ys A n c pa ka ha Aa na ca w hx xa hva)
  clear hx xa hva
  generalize (ys.any fun b => samB a b) = r at *
  go_enter Try.func39, Try.ntmps39
  go_wp2_with fail
  refine HI.out.mono ?_
  rintro e w1 ⟨i, rfl, hi, hb1⟩
  go_wp2_with fail
  go_ret
  exact ⟨ret_bool (by first | exact hi | rfl | simp), hb1⟩
set_option maxRecDepth 100000 in
set_option maxHeartbeats 2000000 in
theorem yConformsC (sc cx : List T) (A1 A2 : Option Addr) (n1 c1 n2 c2 : Nat) (w : World) (hs : CLV w sc A1 n1 c1) (hx : CLV w cx A2 n2 c2) :
    Calls Try.prog 17 #[.slice A1 n1 c1, .slice A2 n2 c2] w fun e w' => e = .returned (.bool (cfV sc cx)) ∧ Below w.heap.size w w' := by
  have hm := hx.cap
  have hc := hx.le
  unfold maxLen at hm
  have HX := Lib.hid hx; clear hx
  have HS0 := Lib.hid hs; clear hs
  obtain ⟨R, hR⟩ : ∃ R, cfV sc cx = R := ⟨_, rfl⟩
  have HR := Lib.hid hR
  rw [hR]
  clear hR
  go_enter Try.func17, Try.ntmps17
  go_wp2_with fail
  go_loopw [9] (fun i wr => ∃ (j : Nat), j ≤ n2 ∧ i = .int .i64 j ∧ Hid (cfV sc (cx.drop j) = R) ∧ Hid (Below w.heap.size w wr)) (fun i _ => n2 - (Go.RowKit.intOf i).toNat)
  case atStart => exact ⟨0, Nat.zero_le _, rfl, Lib.hid (by simpa using HR.out), Lib.hid (Below.refl _ _)⟩
  case round =>
    obtain ⟨j, hj, rfl, HS, HB⟩ := hrel
    by_cases hlt : j < n2
    · obtain ⟨x, ht⟩ := at_of HX.out.len hlt
      obtain ⟨b, o, k3, h3, A3, n3, c3', rfl, e0, e1, e2, hr⟩ := (RdAt.keep HB.out (HX.out.at_ j x ht)).full
      have HT := Lib.hid ht; clear ht
      have hi0 : (0 : Int) ≤ j := by omega
      have hi1 : (j : Int) < n2 := by omega
      obtain ⟨W1, hW1⟩ : ∃ W1, wr.alloc (.cells #[.int .i64 k3, .int .i64 h3, .slice A3 n3 c3'] 32) = W1 := ⟨_, rfl⟩
      have hbA : Below wr.heap.size wr W1 := by rw [← hW1]; exact (Below.refl _ _).alloc (Nat.le_refl _) _
      have z5 : Box W1 wr.heap.size 32 #[.int .i64 k3, .int .i64 h3, .slice A3 n3 c3'] := by rw [← hW1]; exact Box.new _ _ _
      have HM := Lib.hid (yContainsC x sc A1 n1 c1 wr.heap.size k3 h3 A3 n3 c3' W1 (HS0.out.keep (HB.out.trans (hbA.mono HB.out.size))) z5 (Rd.keep hbA _ _ hr))
      have HBW := Lib.hid (HB.out.trans (hbA.mono HB.out.size))
      clear hr z5 hbA
      have HS' := HS.out
      rw [drop_at HT.out, cfV, List.all_cons] at HS'
      have HS := Lib.hid HS'; clear HS'
      generalize (sc.any fun b => samB x b) = r at *
      subst hW1
      go_wp2_with fail
      clear e0 e1 e2
      refine HM.out.mono ?_
      rintro e w1 ⟨rfl, hb1⟩
      have HB1 := Lib.hid (HBW.out.trans (hb1.mono HBW.out.size))
      clear hb1 HM HBW
      cases r
      · go_wp2_with fail
        go_ret
        exact ⟨ret_bool (by rw [← HS.out]; rfl), HB1.out⟩
      · go_wp2_with fail
        go_roundw
        case rel => exact ⟨j + 1, by omega, by go_num, Lib.hid (by have := HS.out; rw [Bool.true_and] at this; exact this), HB1⟩
        case measure => simp [Go.RowKit.intOf]; omega
    · go_wp2_with fail
      go_ret
      exact ⟨ret_bool (by have := HS.out; rw [drop_all HX.out.len (by omega)] at this; rw [← this]; rfl), HB.out⟩
end Go.Proofs.Ytpigmefjcklpkaa

/-
  Contracts of package world's Sig, Ctx and Schema. No statement is proved here.
-/
namespace Go.Proofs.Ytpigmefjcklpkaa
open Go.ChangeShapes Go.WideShapes Go.ChangeAt Go.RowKit
set_option linter.unusedVariables false

theorem ml_nil (w : World) : ML w [] none 0 0 := ⟨rfl, Nat.le_refl _, Nat.zero_le _, fun i x hx => by simp at hx⟩
theorem clv_nil (w : World) (A : Option Addr) (c : Nat) (hc : c ≤ maxLen) : CLV w [] A 0 c := ⟨rfl, Nat.zero_le _, hc, fun i x hx => by simp at hx⟩
/-- all that may be has low Heads -/
def LwV (l : List T) : Prop := ∀ t ∈ l, myB t = true → okT loV t
theorem LwV.take {l : List T} (h : LwV l) (i : Nat) : LwV (l.take i) := fun t ht => h t (List.mem_of_mem_take ht)
theorem LwV.at_ {l : List T} (h : LwV l) {i : Nat} {x : T} (hx : l[i]? = some x) : myB x = true → okT loV x := h x (List.mem_of_getElem? hx)
theorem LwV.app {l m : List T} (h : LwV l) (k : LwV m) : LwV (l ++ m) := fun t ht => by
  rcases List.mem_append.1 ht with ht | ht
  · exact h t ht
  · exact k t ht
theorem LwV.nil : LwV [] := fun t ht => by cases ht
theorem lo_sg {ah : List T} (h : LwV ah) : LoV ⟨ah, []⟩ [] := ⟨h, (fun m hm => by cases hm), (fun t ht => by cases ht)⟩
set_option maxRecDepth 100000 in
set_option maxHeartbeats 2000000 in
theorem ySig1C (ah : List T) (d : T) (A : Option Addr) (i c : Nat) (s : ByteArray) (k h : Int) (A2 : Option Addr) (n2 c2 : Nat) (w : World) (hx : DL w ah A i c) (hd : Rd w d (.agg #[.int .i64 k, .int .i64 h, .slice A2 n2 c2])) (hl : LwV ah) (hld : myB d = true → okT loV d) :
    Calls Try.prog 34 #[.slice A i c, .agg #[.string s, .int .i64 k, .int .i64 h, .slice A2 n2 c2]] w fun e w' => e = .returned (.int .i64 (sgW ah d)) ∧ Below w.heap.size w w' := by
  obtain ⟨W, hW⟩ : ∃ W, w.alloc (.cells #[.string s, .int .i64 k, .int .i64 h, .slice A2 n2 c2] 38) = W := ⟨_, rfl⟩
  have hb : Below w.heap.size w W := by rw [← hW]; exact (Below.refl _ _).alloc (Nat.le_refl _) _
  have z5 : Box W w.heap.size 38 #[.string s, .int .i64 k, .int .i64 h, .slice A2 n2 c2] := by rw [← hW]; exact Box.new _ _ _
  have a1 : W.cell? ⟨w.heap.size, 1, none⟩ = some (.int .i64 k) := z5.cell 1
  have a2 : W.cell? ⟨w.heap.size, 2, none⟩ = some (.int .i64 h) := z5.cell 2
  have a3 : W.cell? ⟨w.heap.size, 3, none⟩ = some (.slice A2 n2 c2) := z5.cell 3
  have HK := Lib.hid (kindC d _ W (Rd.keep hb _ _ hd))
  have HC : ∀ W', Below W.heap.size W W' → CkV W' ⟨ah, []⟩ [] A i c none 0 0 none 0 0 := fun W' h' => ⟨(hx.keep hb).keep h', ml_nil _, clv_nil _ _ _ (Nat.zero_le _)⟩
  have HCK := Lib.hid (fun W' (h' : Below W.heap.size W W') => vCheckKindC ⟨ah, []⟩ [] d A i c none 0 0 none 0 0 _ W' (HC W' h') (Rd.keep h' _ _ (Rd.keep hb _ _ hd)) (lo_sg hl) hld)
  have HCT := Lib.hid (fun W' (h' : Below W.heap.size W W') => vCheckTypeC ⟨ah, []⟩ [] d A i c none 0 0 none 0 0 _ W' (HC W' h') (Rd.keep h' _ _ (Rd.keep hb _ _ hd)) (lo_sg hl) hld)
  have HB := Lib.hid hb
  have HE := Lib.hid (show sgW ah d = if kiB d = true then ckKi ⟨ah, []⟩ [] d else ckTy ⟨ah, []⟩ [] d from rfl)
  clear HC hx hd hl hld z5 hb
  generalize sgW ah d = R at *
  generalize ckKi ⟨ah, []⟩ [] d = R1 at *
  generalize ckTy ⟨ah, []⟩ [] d = R2 at *
  generalize kiB d = r at *
  go_enter Try.func34, Try.ntmps34
  go_wp2_with fail
  try rw [hW]
  go_wp2_with fail
  refine HK.out.mono ?_
  rintro e w1 ⟨rfl, hb1⟩
  replace a1 := (hb1.cell (cell_lt a1)).trans a1
  replace a2 := (hb1.cell (cell_lt a2)).trans a2
  replace a3 := (hb1.cell (cell_lt a3)).trans a3
  have HB1 := Lib.hid (HB.out.trans (hb1.mono HB.out.size))
  cases r
  · have HF := Lib.hid (HCT.out w1 hb1)
    have HQ := Lib.hid (show R2 = R by rw [HE.out]; rfl)
    clear hb1 HK HCK HCT HE
    go_wp2_with fail
    refine HF.out.mono ?_
    rintro e w2 ⟨rfl, hb2⟩
    have HB2 := Lib.hid (HB1.out.trans (hb2.mono HB1.out.size))
    clear hb2 a1 a2 a3
    go_wp2_with fail
    go_ret
    exact ⟨ret_int HQ.out, HB2.out⟩
  · have HF := Lib.hid (HCK.out w1 hb1)
    have HQ := Lib.hid (show R1 = R by rw [HE.out]; rfl)
    clear hb1 HK HCK HCT HE
    go_wp2_with fail
    refine HF.out.mono ?_
    rintro e w2 ⟨rfl, hb2⟩
    have HB2 := Lib.hid (HB1.out.trans (hb2.mono HB1.out.size))
    clear hb2 a1 a2 a3
    go_wp2_with fail
    go_ret
    exact ⟨ret_int HQ.out, HB2.out⟩
/-- what Sig tells -/
def siV (sg : List T) : Nat × Int := firV sgW sg
theorem ySigC (sg : List T) (A : Option Addr) (n c : Nat) (w : World) (hx : DL w sg A n c) (hl : LwV sg) :
    Calls Try.prog 14 #[.slice A n c] w (FiE (siV sg) w) := by
  have HF := Lib.hid (yFirstD sgW sg A n c w hx fun i x s k h A2 n2 c2 W hi hb hr hd => ySig1C (sg.take i) x A i c s k h A2 n2 c2 W hd hr (hl.take i) (hl.at_ hi))
  clear hx hl
  rw [siV]
  generalize firV sgW sg = R at *
  go_enter Try.func14, Try.ntmps14
  go_wp2_with fail
  refine HF.out.mono ?_
  rintro e w1 ⟨rfl, hb1⟩
  have HB1 := Lib.hid hb1; clear hb1
  go_wp2_with fail
  refine bodyPost_ret (v := .tuple #[.int .i64 (R.1 : Int), .int .i64 R.2]) (by simp [results, Try.results14, go_sem]) rfl ?_
  exact ⟨rfl, HB1.out⟩

set_option maxRecDepth 100000 in
set_option maxHeartbeats 2000000 in
theorem ySchema1C (sg ah : List T) (a : T) (v0 : Value) (ps : Nat) (As : Option Addr) (ns cs : Nat) (k h : Int) (A2 : Option Addr) (n2 c2 : Nat) (w : World) (xs : Box w ps 22 #[.slice As ns cs]) (hx : DL w sg As ns cs) (hd : Rd w a (.agg #[.int .i64 k, .int .i64 h, .slice A2 n2 c2])) (hl : LwV sg) (hld : myB a = true → okT loV a) :
    Calls Try.prog 42 #[v0, .agg #[.int .i64 k, .int .i64 h, .slice A2 n2 c2], .pointer (some ⟨ps, 0, none⟩)] w fun e w' => e = .returned (.int .i64 (scW sg ah a)) ∧ Below w.heap.size w w' := by
  obtain ⟨W, hW⟩ : ∃ W, w.alloc (.cells #[.int .i64 k, .int .i64 h, .slice A2 n2 c2] 32) = W := ⟨_, rfl⟩
  have hb : Below w.heap.size w W := by rw [← hW]; exact (Below.refl _ _).alloc (Nat.le_refl _) _
  have z5 : Box W w.heap.size 32 #[.int .i64 k, .int .i64 h, .slice A2 n2 c2] := by rw [← hW]; exact Box.new _ _ _
  obtain ⟨a0, a1, a2⟩ := z5.three
  have s0 : W.cell? ⟨ps, 0, none⟩ = some (.slice As ns cs) := (xs.keep hb xs.lt).cell 0
  have hkd := (rdF_kind hd).1
  have HCT := Lib.hid (vCheckTypeC ⟨sg, []⟩ [] a As ns cs none 0 0 none 0 0 _ W ⟨hx.keep hb, ml_nil _, clv_nil _ _ _ (Nat.zero_le _)⟩ (Rd.keep hb _ _ hd) (lo_sg hl) hld)
  have HB := Lib.hid hb
  have HE := Lib.hid (show scW sg ah a = if kdQ a = 2 then ckTy ⟨sg, []⟩ [] a else 1 from rfl)
  rw [hkd] at HE
  clear hx hd hl hld z5 hb hkd xs
  generalize scW sg ah a = R at *
  generalize ckTy ⟨sg, []⟩ [] a = R2 at *
  by_cases hk : k = 2
  case' neg =>
    have d1 : (k != 2) = true := by simpa using hk
    have HQ := Lib.hid (show 1 = R by rw [HE.out, if_neg hk])
    clear HE HCT
    go_enter Try.func42, Try.ntmps42
    go_wp2_with fail
    try rw [hW]
    go_wp2_with fail
    go_ret
    exact ⟨ret_int HQ.out, HB.out⟩
  subst hk
  have HQ := Lib.hid (show R2 = R by rw [HE.out, if_pos rfl])
  clear HE
  go_enter Try.func42, Try.ntmps42
  go_wp2_with fail
  try rw [hW]
  go_wp2_with fail
  refine HCT.out.mono ?_
  rintro e w2 ⟨rfl, hb2⟩
  have HB2 := Lib.hid (HB.out.trans (hb2.mono HB.out.size))
  clear hb2 a0 a1 a2 s0
  go_wp2_with fail
  go_ret
  exact ⟨ret_int HQ.out, HB2.out⟩
/-- what Schema tells -/
def schV (sg sc : List T) : Int := (firV (scW sg) sc).2
set_option maxRecDepth 100000 in
set_option maxHeartbeats 2000000 in
theorem ySchemaC (sg sc : List T) (As : Option Addr) (ns cs : Nat) (A : Option Addr) (n c : Nat) (w : World) (hs : DL w sg As ns cs) (hx : CLV w sc A n c) (hl : LwV sg) (hls : LwV sc) :
    Calls Try.prog 18 #[.slice As ns cs, .slice A n c] w fun e w' => e = .returned (.int .i64 (schV sg sc)) ∧ Below w.heap.size w w' := by
  obtain ⟨W, hW⟩ : ∃ W, w.alloc (.cells #[.slice As ns cs] 22) = W := ⟨_, rfl⟩
  have hb : Below w.heap.size w W := by rw [← hW]; exact (Below.refl _ _).alloc (Nat.le_refl _) _
  have z5 : Box W w.heap.size 22 #[.slice As ns cs] := by rw [← hW]; exact Box.new _ _ _
  have HF := Lib.hid (yFirstS (scW sg) sc A n c (.pointer (some ⟨w.heap.size, 0, none⟩)) W (hx.keep hb) fun i x k h A2 n2 c2 W' hi hb' hr hd =>
    ySchema1C sg (sc.take i) x _ w.heap.size As ns cs k h A2 n2 c2 W' (z5.keep hb' z5.lt) ((hs.keep hb).keep hb') hr hl (hls.at_ hi))
  have HB := Lib.hid hb
  clear hx hl hls hs hb z5
  rw [schV]
  generalize firV (scW sg) sc = R at *
  go_enter Try.func18, Try.ntmps18
  go_wp2_with fail
  try rw [hW]
  go_wp2_with fail
  refine HF.out.mono ?_
  rintro e w1 ⟨rfl, hb1⟩
  have HB1 := Lib.hid (HB.out.trans (hb1.mono HB.out.size)); clear hb1
  go_wp2_with fail
  go_ret
  exact ⟨rfl, HB1.out⟩

set_option maxRecDepth 100000 in
set_option maxHeartbeats 4000000 in
theorem yCtx1C (W0 : WV) (ar ah : List T) (a : T) (ps pm pa : Nat) (As : Option Addr) (ns cs : Nat) (Am : Option Addr) (nm cm : Nat) (Aa : Option Addr) (na ca : Nat) (A : Option Addr) (i c : Nat) (k h : Int) (A2 : Option Addr) (n2 c2 : Nat) (w : World)
    (xs : Box w ps 22 #[.slice As ns cs]) (xm : Box w pm 43 #[.slice Am nm cm]) (xa : Box w pa 23 #[.slice Aa na ca]) (hk : CkV w W0 ar As ns cs Am nm cm Aa na ca) (hah : CLV w ah A i c) (hd : Rd w a (.agg #[.int .i64 k, .int .i64 h, .slice A2 n2 c2]))
    (hl : LoV W0 (ar ++ ah)) (hld : myB a = true → okT loV a) (hlen : na + i ≤ 3518437208780) :
    Calls Try.prog 37 #[.slice A i c, .agg #[.int .i64 k, .int .i64 h, .slice A2 n2 c2], .pointer (some ⟨ps, 0, none⟩), .pointer (some ⟨pm, 0, none⟩), .pointer (some ⟨pa, 0, none⟩)] w fun e w' => e = .returned (.int .i64 (cxW W0 ar ah a)) ∧ Below w.heap.size w w' := by
  obtain ⟨W, hW⟩ : ∃ W, w.alloc (.cells #[.int .i64 k, .int .i64 h, .slice A2 n2 c2] 32) = W := ⟨_, rfl⟩
  have hb : Below w.heap.size w W := by rw [← hW]; exact (Below.refl _ _).alloc (Nat.le_refl _) _
  have z5 : Box W w.heap.size 32 #[.int .i64 k, .int .i64 h, .slice A2 n2 c2] := by rw [← hW]; exact Box.new _ _ _
  obtain ⟨a0, a1, a2⟩ := z5.three
  have s0 : W.cell? ⟨ps, 0, none⟩ = some (.slice As ns cs) := (xs.keep hb xs.lt).cell 0
  have m0 : W.cell? ⟨pm, 0, none⟩ = some (.slice Am nm cm) := (xm.keep hb xm.lt).cell 0
  have r0 : W.cell? ⟨pa, 0, none⟩ = some (.slice Aa na ca) := (xa.keep hb xa.lt).cell 0
  have HTY := Lib.hid (fun (A8 : Option Addr) (c8 : Nat) (W' : World) (h' : Below W.heap.size W W') (hcl : CLV W' (ar ++ ah) A8 (na + i) c8) => vCheckTypeC W0 (ar ++ ah) a As ns cs Am nm cm A8 (na + i) c8 _ W' ⟨(hk.sg.keep hb).keep h', (hk.ms.keep hb).keep h', hcl⟩ (Rd.keep h' _ _ (Rd.keep hb _ _ hd)) hl hld)
  have HAR := Lib.hid (hk.cx.keep hb)
  have HAH := Lib.hid (hah.keep hb)
  have HB := Lib.hid hb
  rw [cxW]
  obtain ⟨R, hR⟩ : ∃ R, ckTy W0 (ar ++ ah) a = R := ⟨_, rfl⟩
  rw [hR] at HTY ⊢
  clear xs xm xa hk hah hd hl hld hb z5 hR
  go_enter Try.func37, Try.ntmps37
  go_wp2_with fail
  try rw [hW]
  have HKS : Hid (∀ w' : World, Below W.heap.size W w' → (fun w' => w'.cell? ⟨ps, 0, none⟩ = some (.slice As ns cs) ∧ w'.cell? ⟨pm, 0, none⟩ = some (.slice Am nm cm) ∧ w'.cell? ⟨pa, 0, none⟩ = some (.slice Aa na ca) ∧ w'.cell? ⟨w.heap.size, 0, none⟩ = some (.int .i64 k) ∧ w'.cell? ⟨w.heap.size, 1, none⟩ = some (.int .i64 h) ∧ w'.cell? ⟨w.heap.size, 2, none⟩ = some (.slice A2 n2 c2)) w') := Lib.hid fun w' h => ⟨(h.cell (cell_lt s0)).trans s0, (h.cell (cell_lt m0)).trans m0, (h.cell (cell_lt r0)).trans r0, (h.cell (cell_lt a0)).trans a0, (h.cell (cell_lt a1)).trans a1, (h.cell (cell_lt a2)).trans a2⟩
  have hbd : Below W.heap.size W W.drew := (Below.refl _ W).drew
  refine wp_region_held_drew (S := fun w' => w'.cell? ⟨ps, 0, none⟩ = some (.slice As ns cs) ∧ w'.cell? ⟨pm, 0, none⟩ = some (.slice Am nm cm) ∧ w'.cell? ⟨pa, 0, none⟩ = some (.slice Aa na ca) ∧ w'.cell? ⟨w.heap.size, 0, none⟩ = some (.int .i64 k) ∧ w'.cell? ⟨w.heap.size, 1, none⟩ = some (.int .i64 h) ∧ w'.cell? ⟨w.heap.size, 2, none⟩ = some (.slice A2 n2 c2)) (by kernel_rfl) (HKS.out _ hbd) (fun hS => ?_)
  simp only [List.size_toArray, List.length_cons, List.length_nil, Nat.reduceAdd]
  refine wpAnyH_take (i := 0) (v := .slice As ns cs) rfl (by kernel_rfl) (by kernel_rfl) (by kernel_rfl) (fun _ _ _ h => h) (Or.inl ⟨by kernel_rfl, ?_⟩) hS ?_
  · intro w' hSw
    obtain ⟨s0, s1, s2, s3, s4, s5⟩ := hSw
    go_simp
  try simp only [Act.put, List.setIfInBounds_toArray]
  refine wpAnyH_take (i := 1) (v := .slice Am nm cm) rfl (by kernel_rfl) (by kernel_rfl) (by kernel_rfl) (fun _ _ _ h => h) (Or.inl ⟨by kernel_rfl, ?_⟩) hS ?_
  · intro w' hSw
    obtain ⟨s0, s1, s2, s3, s4, s5⟩ := hSw
    go_simp
  try simp only [Act.put]
  refine wpAnyH_take (i := 2) (v := .slice Aa na ca) rfl (by kernel_rfl) (by kernel_rfl) (by kernel_rfl) (fun _ _ _ h => h) (Or.inl ⟨by kernel_rfl, ?_⟩) hS ?_
  · intro w' hSw
    obtain ⟨s0, s1, s2, s3, s4, s5⟩ := hSw
    go_simp
  try simp only [Act.put]
  refine wpAnyH_take (i := 3) (v := .slice A i c) rfl (by kernel_rfl) (by kernel_rfl) (by kernel_rfl) (fun _ _ _ h => h) (Or.inl ⟨by kernel_rfl, ?_⟩) hS ?_
  · intro w' hSw
    obtain ⟨s0, s1, s2, s3, s4, s5⟩ := hSw
    go_simp
  try simp only [Act.put]
  refine wpAnyH_take (i := 6) (v := .agg #[.int .i64 k, .int .i64 h, .slice A2 n2 c2]) rfl (by kernel_rfl) (by kernel_rfl) (by kernel_rfl) (fun _ _ _ h => h) (Or.inl ⟨by kernel_rfl, ?_⟩) hS ?_
  · intro w' hSw
    obtain ⟨s0, s1, s2, s3, s4, s5⟩ := hSw
    go_simp
  try simp only [Act.put]
  refine wpAnyH_ready (rs := [4]) (by kernel_rfl) (by simp) ?_
  refine AllReadyH.cons rfl (fun KN hK => ?_) AllReadyH.nil
  go_simp
  have hb7 : Below W.heap.size W (W.alloc (.cells #[.slice Aa na ca, .slice A i c] 23)).drew := ((Below.refl _ W).alloc (Nat.le_refl _) _).drew
  refine hK.out _ _ (HKS.out _ hb7) (fun hS => ?_)
  clear hK KN
  try simp only [Act.put, List.setIfInBounds_toArray, List.set_cons_zero, List.set_cons_succ]
  have xz : Box (W.alloc (.cells #[.slice Aa na ca, .slice A i c] 23)).drew W.heap.size 23 #[.slice Aa na ca, .slice A i c] := Box.drewI (Box.new _ _ _)
  have e0 : ((W.alloc (.cells #[.slice Aa na ca, .slice A i c] 23)).drew).cell? ⟨W.heap.size, 0, none⟩ = some (.slice Aa na ca) := xz.cell 0
  have e1 : ((W.alloc (.cells #[.slice Aa na ca, .slice A i c] 23)).drew).cell? ⟨W.heap.size, 1, none⟩ = some (.slice A i c) := xz.cell 1
  generalize (W.alloc (.cells #[.slice Aa na ca, .slice A i c] 23)).drew = w7 at *
  refine wpAnyH_ready (rs := [5]) (by kernel_rfl) (by simp) ?_
  refine AllReadyH.cons rfl (fun KN hK => ?_) AllReadyH.nil
  go_simp
  refine (yConcat (HAR.out.keep hb7) (HAH.out.keep hb7) e0 e1 (by omega)).mono ?_
  rintro e w8 ⟨A8, c8, rfl, hcl, hb8⟩
  have hb8' : Below W.heap.size W w8 := hb7.trans (hb8.mono hb7.size)
  refine hK.out _ _ (HKS.out _ hb8') (fun hS => ?_)
  clear hK KN
  try simp only [Act.put, List.setIfInBounds_toArray, List.set_cons_zero, List.set_cons_succ]
  clear hb8 hb7 xz e0 e1
  refine wpAnyH_ready (rs := [7]) (by kernel_rfl) (by simp) ?_
  refine AllReadyH.cons rfl (fun KN hK => ?_) AllReadyH.nil
  go_simp
  refine (HTY.out A8 c8 w8 hb8' hcl).mono ?_
  rintro e w9 ⟨rfl, hb9⟩
  have hb9' : Below W.heap.size W w9 := hb8'.trans (hb9.mono hb8'.size)
  refine hK.out _ _ (HKS.out _ hb9') (fun hS => ?_)
  clear hK KN
  try simp only [Act.put, List.setIfInBounds_toArray, List.set_cons_zero, List.set_cons_succ]
  refine wpAnyH_take (i := 8) (v := .int .i64 R) rfl (by kernel_rfl) (by kernel_rfl) (by kernel_rfl) (fun _ _ _ h => h) (Or.inl ⟨by kernel_rfl, ?_⟩) hS ?_
  · intro w' hSw
    obtain ⟨s0, s1, s2, s3, s4, s5⟩ := hSw
    go_simp
  try simp only [Act.put, List.setIfInBounds_toArray]
  refine wpAnyH_done (by kernel_rfl) ?_ _
  try simp only [List.setIfInBounds_toArray]
  try simp only [List.getElem_toArray, List.getElem_cons_succ, List.getElem_cons_zero, List.set_cons_zero, List.set_cons_succ]
  have HBF := Lib.hid (HB.out.trans (hb9'.mono HB.out.size))
  clear hb9 hb9' hb8' hcl
  go_wp2_with fail
  go_ret
  exact ⟨rfl, HBF.out⟩
/-- what Ctx tells -/
def ctV (W0 : WV) (ar cx : List T) : Int := (firV (cxW W0 ar) cx).2
theorem lo_take {W0 : WV} {ar cx : List T} (h : LoV W0 (ar ++ cx)) (i : Nat) : LoV W0 (ar ++ cx.take i) := ⟨h.sg, h.ms, fun t ht => h.cx t (by
  rcases List.mem_append.1 ht with ht | ht
  · exact List.mem_append_left _ ht
  · exact List.mem_append_right _ (List.mem_of_mem_take ht))⟩
set_option maxRecDepth 100000 in
set_option maxHeartbeats 2000000 in
theorem yCtxC (W0 : WV) (ar cx : List T) (As : Option Addr) (ns cs : Nat) (Am : Option Addr) (nm cm : Nat) (Aa : Option Addr) (na ca : Nat) (A : Option Addr) (n c : Nat) (w : World) (hk : CkV w W0 ar As ns cs Am nm cm Aa na ca) (hx : CLV w cx A n c) (hl : LoV W0 (ar ++ cx)) (hlen : na + n ≤ 3518437208780) :
    Calls Try.prog 15 #[.slice As ns cs, .slice Am nm cm, .slice Aa na ca, .slice A n c] w fun e w' => e = .returned (.int .i64 (ctV W0 ar cx)) ∧ Below w.heap.size w w' := by
  obtain ⟨W, hW⟩ : ∃ W, ((w.alloc (.cells #[.slice As ns cs] 22)).alloc (.cells #[.slice Am nm cm] 43)).alloc (.cells #[.slice Aa na ca] 23) = W := ⟨_, rfl⟩
  have hb : Below w.heap.size w W := by rw [← hW]; exact (((Below.refl _ _).alloc (Nat.le_refl _) _).alloc (by simp) _).alloc (by simp; omega) _
  have x0 : Box W w.heap.size 22 #[.slice As ns cs] := by rw [← hW]; exact ((Box.new _ _ _).alloc _).alloc _
  have x1 : Box W (w.heap.size + 1) 43 #[.slice Am nm cm] := by rw [← hW]; exact ((Box.new (w.alloc _) _ _).at (by simp)).alloc _
  have x2 : Box W (w.heap.size + 1 + 1) 23 #[.slice Aa na ca] := by rw [← hW]; exact (Box.new ((w.alloc _).alloc _) _ _).at (by simp)
  have HF := Lib.hid (yFirstC (cxW W0 ar) cx A n c (.pointer (some ⟨w.heap.size, 0, none⟩)) (.pointer (some ⟨w.heap.size + 1, 0, none⟩)) (.pointer (some ⟨w.heap.size + 1 + 1, 0, none⟩)) W (hx.keep hb) fun i x k h A2 n2 c2 W' hi hb' hr hd =>
    yCtx1C W0 ar (cx.take i) x _ _ _ As ns cs Am nm cm Aa na ca A i c k h A2 n2 c2 W' (x0.keep hb' x0.lt) (x1.keep hb' x1.lt) (x2.keep hb' x2.lt) ((hk.keep hb).keep hb') hd hr (lo_take hl i) (fun hm => hl.cx x (List.mem_append_right _ (List.mem_of_getElem? hi)) hm) (by have := (List.getElem?_eq_some_iff.1 hi).1; have := hx.len; omega))
  have HB := Lib.hid hb
  clear hx hl hk hb x0 x1 x2
  rw [ctV]
  generalize firV (cxW W0 ar) cx = R at *
  go_enter Try.func15, Try.ntmps15
  go_wp2_with fail
  try rw [hW]
  go_wp2_with fail
  refine HF.out.mono ?_
  rintro e w1 ⟨rfl, hb1⟩
  have HB1 := Lib.hid (HB.out.trans (hb1.mono HB.out.size)); clear hb1
  go_wp2_with fail
  go_ret
  exact ⟨rfl, HB1.out⟩
end Go.Proofs.Ytpigmefjcklpkaa

/-
  Package world, plain: beginnings, more declarations, what conforms. No statement is proved here.
-/
namespace Go.Proofs.Ytpigmefjcklpkaa
open Go.ChangeShapes Go.WideShapes Go.ChangeAt Go.RowKit
set_option linter.unusedVariables false

mutual
theorem sam_eqY : ∀ (t u : T), samB t u = true → t = u
  | .node k h xs, .node k' h' ys, e => by
    rw [samB] at e
    simp only [Bool.and_eq_true, beq_iff_eq] at e
    obtain ⟨⟨⟨rfl, rfl⟩, hl⟩, hs⟩ := e
    rw [sam_eqLY xs ys hl hs]
theorem sam_eqLY : ∀ (xs ys : List T), xs.length = ys.length → samL xs ys = true → xs = ys
  | [], [], _, _ => rfl
  | x :: xs, y :: ys, hl, e => by
    rw [samL, Bool.and_eq_true] at e
    rw [sam_eqY x y e.1, sam_eqLY xs ys (by simpa using hl) e.2]
end
/-! ### More declarations, more entries in front: types and kinds -/
theorem fa_more {W W' : WV} {fr : List T} (M : MoV W W' fr) {h : Int} {xs cx : List T} (h0 : 0 ≤ h) (hn : ∀ x ∈ xs, nodB x = true) (ht : faV W h xs cx = 0) : faV W' h xs (fr ++ cx) = 0 := by
  obtain ⟨s2, hs⟩ := M.sg
  rw [faV] at ht ⊢
  split at ht
  · rename_i hl
    have e : W'.sg.getD h.toNat (.node 0 0 []) = W.sg.getD h.toNat (.node 0 0 []) := by rw [hs, getD_appV (by omega)]
    rw [if_pos (by rw [hs, List.length_append]; omega), e]
    split at ht
    · rename_i hk
      rw [if_pos hk]
      cases hsp : spV W xs cx (W.sg.getD h.toNat (.node 0 0 [])) with
      | error e => rw [hsp] at ht; exact absurd (show e = 0 from ht) (sp_err W _ _ _ _ hsp)
      | ok t =>
        rw [hsp] at ht
        rw [sp_more xs cx _ _ (fun x hx a ha => tm_more M x cx a (hn x hx) ha) hsp]
        exact ht
    · cases ht
  · cases ht
theorem ty_more {W W' : WV} {fr : List T} (M : MoV W W' fr) (a : T) : ∀ (cx : List T), nodB a = true → tyV W a cx = 0 → tyV W' a (fr ++ cx) = 0 := by
  induction a using T.ind with
  | step k h xs ih =>
    intro cx hn ht
    by_cases h1 : k = 1
    · subst h1
      obtain ⟨rfl, x, y, rfl, hx, hy⟩ := piV hn
      rw [ty_pi] at ht ⊢
      by_cases h2 : tyV W x cx = 0
      · rw [if_pos h2] at ht
        rw [if_pos (ih x (by simp) cx hx h2), List.append_assoc]
        exact ih y (by simp) _ hy ht
      · rw [if_neg h2] at ht; exact absurd ht h2
    · by_cases h2 : k = 2
      · subst h2
        rw [ty_fam] at ht ⊢
        exact fa_more M (headV hn) (nodV hn).2 ht
      · rw [ty_no W h1 h2] at ht; cases ht
/-! ### What goes wrong first -/
theorem fi_zero {g : List T → T → Int} : ∀ (l dn : List T), (fiV g dn l).2 = 0 ↔ ∀ i x, l[i]? = some x → g (dn ++ l.take i) x = 0
  | [], dn => ⟨fun _ i x h => by simp at h, fun _ => rfl⟩
  | y :: l, dn => by
    rw [fiV]
    by_cases h0 : g dn y = 0
    · rw [if_pos h0, fi_zero l]
      constructor
      · intro h i x hx
        cases i with
        | zero => simp at hx; subst hx; simpa using h0
        | succ i => simpa [List.append_assoc] using h i x (by simpa using hx)
      · intro h i x hx
        simpa [List.append_assoc] using h (i + 1) x (by simpa using hx)
    · rw [if_neg h0]
      exact ⟨fun h => absurd h h0, fun h => absurd (by simpa using h 0 y rfl) h0⟩
theorem fi_take {g : List T → T → Int} : ∀ (l dn : List T) (n : Nat), (fiV g dn l).2 = 0 → (fiV g dn (l.take n)).2 = 0 := fun l dn n h => by
  rw [fi_zero] at h ⊢
  intro i x hx
  by_cases hi : i < n
  · rw [List.getElem?_take_of_lt hi] at hx
    rw [List.take_take, Nat.min_eq_left (by omega)]
    exact h i x hx
  · rw [List.getElem?_eq_none (by rw [List.length_take]; omega)] at hx; cases hx
theorem fi_none {g : List T → T → Int} : ∀ (l dn : List T), (fiV g dn l).2 = 0 → (fiV g dn l).1 = 0
  | [], _, _ => rfl
  | y :: l, dn, h => by
    rw [fiV] at h ⊢
    by_cases h0 : g dn y = 0
    · rw [if_pos h0] at h ⊢; exact fi_none l _ h
    · rw [if_neg h0] at h; exact absurd h h0
theorem fi_lt {g : List T → T → Int} : ∀ (l dn : List T) (n i : Nat) (e : Int), fiV g dn l = (i, e) → e ≠ 0 → i < dn.length + n → fiV g dn (l.take n) = (i, e)
  | [], dn, n, i, e, h, he, _ => by rw [fiV] at h; cases h; exact absurd rfl he
  | y :: l, dn, n, i, e, h, he, hi => by
    have hge : ∀ (l dn : List T) (i : Nat) (e : Int), fiV g dn l = (i, e) → e ≠ 0 → dn.length ≤ i := by
      intro l
      induction l with
      | nil => intro dn i e h he; rw [fiV] at h; cases h; exact absurd rfl he
      | cons z l ih =>
        intro dn i e h he
        rw [fiV] at h
        by_cases h0 : g dn z = 0
        · rw [if_pos h0] at h
          have := ih _ _ _ h he
          rw [List.length_append, List.length_singleton] at this
          omega
        · rw [if_neg h0] at h; cases h; exact Nat.le_refl _
    cases n with
    | zero => have := hge _ _ _ _ h he; omega
    | succ n =>
      rw [List.take_succ_cons, fiV]
      rw [fiV] at h
      by_cases h0 : g dn y = 0
      · rw [if_pos h0] at h ⊢
        exact fi_lt l _ n i e h he (by rw [List.length_append, List.length_singleton]; omega)
      · rw [if_neg h0] at h ⊢; exact h
theorem fi_ge {g : List T → T → Int} : ∀ (l dn : List T) (n i : Nat) (e : Int), fiV g dn l = (i, e) → e ≠ 0 → dn.length + n ≤ i → (fiV g dn (l.take n)).2 = 0
  | [], dn, n, i, e, h, he, _ => by rw [fiV] at h; cases h; exact absurd rfl he
  | y :: l, dn, n, i, e, h, he, hi => by
    cases n with
    | zero => rfl
    | succ n =>
      rw [List.take_succ_cons, fiV]
      rw [fiV] at h
      by_cases h0 : g dn y = 0
      · rw [if_pos h0] at h ⊢
        exact fi_ge l _ n i e h he (by rw [List.length_append, List.length_singleton]; omega)
      · rw [if_neg h0] at h; cases h; omega
theorem fir_small {g : List T → T → Int} {l : List T} (h : l.length ≤ 40) : firV g l = fiV g [] l := by rw [firV, if_neg (by omega)]
theorem fir_zero {g : List T → T → Int} {l : List T} (h : l.length ≤ 40) : (firV g l).2 = 0 ↔ ∀ i x, l[i]? = some x → g (l.take i) x = 0 := by
  rw [fir_small h, fi_zero]
  simp
theorem fir_len {g : List T → T → Int} {l : List T} (h : (firV g l).2 = 0) : l.length ≤ 40 := by
  unfold firV at h
  by_cases hl : 40 < l.length
  · rw [if_pos hl] at h; cases h
  · omega
/-- the law's three cases of a beginning of a signature -/
theorem si_begins {sg : List T} (hl : sg.length ≤ 40) {n i k : Nat} {e f : Int} (h1 : siV sg = (i, e)) (h2 : siV (sg.take n) = (k, f)) : (e = 0 → f = 0) ∧ (e ≠ 0 → i < n → k = i ∧ f = e) ∧ (e ≠ 0 → n ≤ i → f = 0) := by
  rw [siV, fir_small hl] at h1
  rw [siV, fir_small (by rw [List.length_take]; omega)] at h2
  refine ⟨fun he => ?_, fun he hi => ?_, fun he hi => ?_⟩
  · have := fi_take sg [] n (g := sgW) (by rw [h1]; exact he)
    rw [h2] at this; exact this
  · have := fi_lt sg [] n i e h1 he (by simpa using hi)
    rw [h2] at this; cases this; exact ⟨rfl, rfl⟩
  · have := fi_ge sg [] n i e h1 he (by simpa using hi)
    rw [h2] at this; exact this
/-- a beginning of a context, and what is behind it -/
theorem ct_begins {W : WV} {cx : List T} (h : ctV W [] cx = 0) (m : Nat) : ctV W [] (cx.take m) = 0 ∧ ctV W (cx.take m) (cx.drop m) = 0 := by
  have hl := fir_len h
  have hz := (fir_zero hl).1 h
  refine ⟨(fir_zero (by rw [List.length_take]; omega)).2 fun i x hx => ?_, (fir_zero (by rw [List.length_drop]; omega)).2 fun i x hx => ?_⟩
  · by_cases hi : i < m
    · rw [List.getElem?_take_of_lt hi] at hx
      rw [List.take_take, Nat.min_eq_left (by omega)]
      exact hz i x hx
    · rw [List.getElem?_eq_none (by rw [List.length_take]; omega)] at hx; cases hx
  · rw [List.getElem?_drop] at hx
    have := hz _ x hx
    rw [cxW] at this ⊢
    rw [List.nil_append] at this
    by_cases hm : m ≤ cx.length
    · rw [← this]
      congr 1
      rw [List.take_add]
    · rw [List.getElem?_eq_none (by omega)] at hx; cases hx
theorem ckTy_ok {W : WV} {cx : List T} {a : T} (h : ckTy W cx a = 0) : mayV W cx [a] = true ∧ tyV W a cx = 0 := by
  unfold ckTy at h
  split at h
  · rename_i h1; exact ⟨h1, h⟩
  · cases h
theorem ckTy_of {W : WV} {cx : List T} {a : T} (h : mayV W cx [a] = true) (h2 : tyV W a cx = 0) : ckTy W cx a = 0 := by
  unfold ckTy
  rw [if_pos h, h2]
/-- what conforms is a context -/
theorem cf_ctx {sg sc cx : List T} (hc : cfV sc cx = true) (hs : schV sg sc = 0) (hl : cx.length ≤ 40) : ctV ⟨sg, []⟩ [] cx = 0 := by
  have hsl := fir_len hs
  have hz := (fir_zero hsl).1 hs
  have hmem : ∀ x ∈ cx, ckTy ⟨sg, []⟩ [] x = 0 := fun x hx => by
    have h1 := (List.all_eq_true.1 hc) x hx
    obtain ⟨b, hb, hsm⟩ := List.any_eq_true.1 h1
    obtain rfl := sam_eqY x b hsm
    obtain ⟨i, hi, rfl⟩ := List.mem_iff_getElem.1 hb
    have := hz i _ (List.getElem?_eq_getElem hi)
    rw [scW] at this
    split at this
    · exact this
    · cases this
  refine (fir_zero hl).2 fun i x hx => ?_
  have hx' := List.mem_of_getElem? hx
  obtain ⟨h1, h2⟩ := ckTy_ok (hmem x hx')
  obtain ⟨y1, y2, y3, y4, y5⟩ := (mayV_iff ⟨sg, []⟩ [] [x]).1 h1
  rw [cxW, List.nil_append]
  refine ckTy_of ((mayV_iff _ _ _).2 ⟨by rw [List.length_take]; omega, fun t ht => ?_, y3, y4, y5⟩) ?_
  · exact ((mayV_iff ⟨sg, []⟩ [] [t]).1 (ckTy_ok (hmem t (List.mem_of_mem_take ht))).1).2.2.1 t (by simp)
  · have := ty_more (W' := ⟨sg, []⟩) (fr := cx.take i) ⟨⟨[], by simp⟩, ⟨[], rfl⟩, .inr rfl⟩ x [] ((myB_iff x).1 (y3 x (by simp))).1 h2
    rwa [List.append_nil] at this
theorem cf_more {sc cx : List T} {b : T} (hc : cfV sc cx = true) : cfV (sc ++ [b]) cx = true := by
  rw [cfV, List.all_eq_true] at hc ⊢
  intro x hx
  rw [List.any_append, hc x hx]
  rfl
theorem cf_app (sc a b : List T) : cfV sc (a ++ b) = (cfV sc a && cfV sc b) := by rw [cfV, List.all_append]; rfl
/-- over one declaration more -/
theorem ct_more {sg cx : List T} {d : T} (h : ctV ⟨sg, []⟩ [] cx = 0) : ctV ⟨sg ++ [d], []⟩ [] cx = 0 ∨ ctV ⟨sg ++ [d], []⟩ [] cx = 1 := by
  have hl := fir_len h
  have hz := (fir_zero hl).1 h
  by_cases hd : myB d = true
  · refine .inl ((fir_zero hl).2 fun i x hx => ?_)
    have h0 := hz i x hx
    rw [cxW, List.nil_append] at h0 ⊢
    obtain ⟨h1, h2⟩ := ckTy_ok h0
    obtain ⟨y1, y2, y3, y4, y5⟩ := (mayV_iff ⟨sg, []⟩ _ [x]).1 h1
    refine ckTy_of ((mayV_iff _ _ _).2 ⟨y1, y2, y3, fun t ht => ?_, fun m hm => by cases hm⟩) ?_
    · rcases List.mem_append.1 ht with ht | ht
      · exact y4 t ht
      · rw [List.mem_singleton.1 ht]; exact hd
    · have := ty_more (W := ⟨sg, []⟩) (W' := ⟨sg ++ [d], []⟩) (fr := []) ⟨⟨[d], rfl⟩, ⟨[], rfl⟩, .inl rfl⟩ x (cx.take i) ((myB_iff x).1 (y3 x (by simp))).1 h2
      exact this
  · cases cx with
    | nil => exact .inl rfl
    | cons x cx =>
      refine .inr ?_
      have hm : mayV ⟨sg ++ [d], []⟩ ([] ++ []) [x] = false := by
        rw [Bool.eq_false_iff]
        intro hm
        exact hd (((mayV_iff _ _ _).1 hm).2.2.2.1 d (by simp))
      have hc : cxW ⟨sg ++ [d], []⟩ [] [] x = 1 := by rw [cxW, ckTy, hm, if_neg (by decide)]
      rw [ctV, fir_small hl, fiV, if_neg (by rw [hc]; decide), hc]
theorem si_big {sg : List T} (h : 40 < sg.length) : siV sg = (0, 4) := by rw [siV, firV, if_pos h]
theorem ct_big {W : WV} {ar cx : List T} (h : 40 < cx.length) : ctV W ar cx = 4 := by rw [ctV, firV, if_pos h]
theorem sch_big {sg sc : List T} (h : 40 < sc.length) : schV sg sc = 4 := by rw [schV, firV, if_pos h]
theorem cf_same {a : T} {l : List T} (h : ∀ x ∈ l, x = a) : cfV [a] l = true := by
  rw [cfV, List.all_eq_true]
  intro x hx
  rw [h x hx]
  simp [sam_refl]
theorem cf_nil (sc : List T) : cfV sc [] = true := rfl
end Go.Proofs.Ytpigmefjcklpkaa

/-
  Contract of the laws' own Few; the Heads of what is few are low. No statement is proved here.
-/
namespace Go.Proofs.Ytpigmefjcklpkaa
open Go.ChangeShapes Go.WideShapes Go.ChangeAt Go.RowKit
set_option linter.unusedVariables false

def fmB (x : List T × T) : Bool := lsB x.1 500 80 && ltB x.2 500 80
/-- few -/
def fwV (W : WV) (cx : List T) (ns nm : Nat) : Bool := fwQ W.sg ns && (decide (nm ≤ 30) && (W.ms.all fmB && lsB cx 500 80))
theorem lo_lt {t : T} {s d : Int} (h : ltB t s d = true) (hm : myB t = true) : okT loV t := by
  have h4 := ((myB_iff t).1 hm).2.1
  rw [ltB, szW_small (by omega), dpW_eq t (by omega)] at h
  simp only [Bool.and_eq_true, decide_eq_true_eq] at h
  exact okT_of t ((myB_iff t).1 hm).1 h.1.1
theorem loV_of {W : WV} {cx : List T} {ns nm : Nat} (h : fwV W cx ns nm = true) : LoV W cx := by
  simp only [fwV, fwQ, fmB, lsB, Bool.and_eq_true, decide_eq_true_eq, List.all_eq_true] at h
  obtain ⟨⟨_, h1⟩, _, h3, _, h4⟩ := h
  exact ⟨fun t ht => lo_lt (h1 t ht), fun m hm => ⟨fun e he => lo_lt ((h3 m hm).1.2 e he), lo_lt (h3 m hm).2⟩, fun t ht => lo_lt (h4 t ht)⟩
theorem few_len {W : WV} {cx : List T} {ns nm : Nat} (h : fwV W cx ns nm = true) : ns ≤ 30 ∧ nm ≤ 30 ∧ cx.length ≤ 60 := by
  simp only [fwV, fwQ, fmB, lsB, Bool.and_eq_true, decide_eq_true_eq, List.all_eq_true] at h
  obtain ⟨⟨h1, _⟩, h2, _, h3, _⟩ := h
  exact ⟨h1, h2, h3⟩

set_option maxRecDepth 100000 in
set_option maxHeartbeats 4000000 in
theorem vFewC (W : WV) (cx : List T) (As Am Ac : Option Addr) (ns cs nm cm nc cc : Nat) (w : World) (hk : CkV w W cx As ns cs Am nm cm Ac nc cc) :
    Calls Try.prog 13 #[.slice As ns cs, .slice Am nm cm, .slice Ac nc cc] w fun e w' => e = .returned (.bool (fwV W cx ns nm)) ∧ Below w.heap.size w w' := by
  have hmcap := hk.ms.cap
  have hmle := hk.ms.le
  unfold maxLen at hmcap
  have HFW := Lib.hid (fewC W.sg As ns cs w hk.sg)
  have HLC := Lib.hid (fun W' (h' : Below w.heap.size w W') => lightsC cx Ac nc cc 500 80 W' (hk.cx.keep h').len (hk.cx.keep h').le (hk.cx.keep h').cap (hk.cx.keep h').at_)
  have HM := Lib.hid hk.ms
  clear hk
  have hR : fwV W cx ns nm = (fwQ W.sg ns && (decide (nm ≤ 30) && (W.ms.all fmB && lsB cx 500 80))) := rfl
  obtain ⟨R, hRR⟩ : ∃ R, fwV W cx ns nm = R := ⟨_, rfl⟩
  rw [hRR] at hR ⊢
  have HR := Lib.hid hR
  clear hR hRR
  generalize fwQ W.sg ns = r1 at *
  generalize lsB cx 500 80 = r3 at *
  go_enter Try.func13, Try.ntmps13
  go_wp2_with fail
  refine HFW.out.mono ?_
  rintro e w1 ⟨rfl, hb1⟩
  have HB1 := Lib.hid hb1
  clear hb1 HFW
  cases r1
  · go_wp2_with fail
    go_ret
    exact ⟨ret_bool (by rw [HR.out]; rfl), HB1.out⟩
  by_cases hgt : 30 < nm
  · have d1 : decide ((30 : Int) < (nm : Int)) = true := by simp; omega
    have HR1 := Lib.hid (show false = R by rw [HR.out, decide_eq_false (by omega)]; rfl)
    go_wp2_with fail
    go_ret
    exact ⟨ret_bool HR1.out, HB1.out⟩
  have d1 : decide ((30 : Int) < (nm : Int)) = false := by simp; omega
  have HR1 := Lib.hid (show R = (W.ms.all fmB && r3) by rw [HR.out, decide_eq_true (by omega), Bool.true_and, Bool.true_and])
  clear HR
  go_wp2_with fail
  go_loopw [8] (fun i wr => ∃ (j : Nat), j ≤ nm ∧ i = .int .i64 j ∧ Hid ((W.ms.drop j).all fmB = W.ms.all fmB) ∧ Hid (Below w.heap.size w wr)) (fun i _ => nm - (Go.RowKit.intOf i).toNat)
  case atStart => exact ⟨0, Nat.zero_le _, rfl, Lib.hid (by simp), HB1⟩
  case round =>
    clear HB1
    obtain ⟨i, hi, rfl, HJ, HB1⟩ := hrel
    by_cases hlt : i < nm
    · obtain ⟨x, hx⟩ := at_of HM.out.len hlt
      obtain ⟨b1, o1, A0, n0, c0, k1, h1, A1, n1, c1, pb, rfl, e0, e1, e2, e3, e4, hl1, hr1⟩ := (HM.out.at_ i x hx).keep HB1.out
      have HJ' := HJ.out
      rw [drop_at hx, List.all_cons] at HJ'
      have HJ1 := Lib.hid HJ'; clear HJ' hx HJ
      have HLS := Lib.hid (lightsC x.1 A0 n0 c0 500 80 wr hl1.len hl1.le hl1.cap hl1.at_)
      have HLT := Lib.hid (fun W' (h' : Below wr.heap.size wr W') => refLight x.2 500 80 _ W' (Rd.keep h' _ _ hr1))
      have hi0 : (0 : Int) ≤ i := by omega
      have hi1 : (i : Int) < nm := by omega
      have HMM := Lib.hid (show fmB x = (lsB x.1 500 80 && ltB x.2 500 80) from rfl)
      replace e1 : wr.cell? ⟨b1, o1 + i * 5 + 1, none⟩ = some (.int .i64 k1) := e1
      replace e2 : wr.cell? ⟨b1, o1 + i * 5 + 1 + 1, none⟩ = some (.int .i64 h1) := e2
      replace e3 : wr.cell? ⟨b1, o1 + i * 5 + 1 + 2, none⟩ = some (.slice A1 n1 c1) := e3
      clear hr1 hl1
      generalize fmB x = r at *
      generalize lsB x.1 500 80 = q1 at *
      generalize ltB x.2 500 80 = q2 at *
      go_wp2_with fail
      refine HLS.out.mono ?_
      rintro e w3 ⟨rfl, hb3⟩
      have HB3 := Lib.hid (HB1.out.trans (hb3.mono HB1.out.size))
      have HLT3 := Lib.hid (HLT.out w3 hb3)
      replace e1 := (hb3.cell (cell_lt e1)).trans e1
      replace e2 := (hb3.cell (cell_lt e2)).trans e2
      replace e3 := (hb3.cell (cell_lt e3)).trans e3
      clear hb3 HB1 HLS HLT e0 e4
      go_wp2_with fail
      refine HLT3.out.mono ?_
      rintro e w4 ⟨rfl, hb4⟩
      have HB4 := Lib.hid (HB3.out.trans (hb4.mono HB3.out.size))
      clear hb4 HB3 HLT3 e1 e2 e3
      cases q1
      · go_wp2_with fail
        go_ret
        exact ⟨ret_bool (by rw [HR1.out, ← HJ1.out, HMM.out]; rfl), HB4.out⟩
      · cases q2
        · go_wp2_with fail
          go_ret
          exact ⟨ret_bool (by rw [HR1.out, ← HJ1.out, HMM.out]; rfl), HB4.out⟩
        · go_wp2_with fail
          go_roundw
          case rel => exact ⟨i + 1, by omega, by go_num, Lib.hid (by have := HJ1.out; rw [HMM.out] at this; simpa using this), HB4⟩
          case measure => simp [Go.RowKit.intOf]; omega
    · have e := HJ.out
      rw [drop_all HM.out.len (by omega)] at e
      have HR5 := Lib.hid (show r3 = R by rw [HR1.out, ← e]; rfl)
      have HLC1 := Lib.hid (HLC.out _ HB1.out)
      clear e HJ HR1
      go_wp2_with fail
      refine HLC1.out.mono ?_
      rintro e w3 ⟨rfl, hb3⟩
      have HB3 := Lib.hid (HB1.out.trans (hb3.mono HB1.out.size))
      clear hb3 HLC1
      go_wp2_with fail
      go_ret
      exact ⟨ret_bool HR5.out, HB3.out⟩
end Go.Proofs.Ytpigmefjcklpkaa

/-
  Contracts of the laws' own Nat and awake. No statement is proved here.
-/
namespace Go.Proofs.Ytpigmefjcklpkaa
open Go.ChangeShapes Go.WideShapes Go.ChangeAt Go.RowKit
set_option linter.unusedVariables false

def natT : T := .node 2 0 []
def natS : List T := [.node 0 0 [], natT, .node 1 0 [natT, natT]]
def natW : WV := ⟨natS, []⟩
theorem wf_ofV {x : Int} (h0 : 0 ≤ x) (h1 : x ≤ 1099511627776) : (Lit.int .i64 x).wf = true := by
  have := wf_wrap64 x
  rwa [wrap_small (by omega) (by omega)] at this
theorem wfV {x : Int} (h : 0 ≤ x) (h' : x ≤ 1000) : (Lit.int .i64 x).wf = true := wf_ofV h (by omega)
theorem nat_low : LoV natW [] := ⟨fun t ht _ => by
    simp only [natW, natS, natT, List.mem_cons, List.not_mem_nil, or_false] at ht
    rcases ht with rfl | rfl | rfl <;> simp [okT, okL], fun m hm => by simp [natW] at hm, fun t ht => by simp at ht⟩
theorem nat_ck {w : World} {q : Nat} (hd : DL w natS (some ⟨q, 0, none⟩) 3 3) : CkV w natW [] (some ⟨q, 0, none⟩) 3 3 none 0 0 none 0 0 :=
  ⟨hd, ⟨rfl, Nat.le_refl _, Nat.zero_le _, fun i x hx => by simp [natW] at hx⟩, ⟨rfl, Nat.le_refl _, Nat.zero_le _, fun i x hx => by simp at hx⟩⟩
set_option maxRecDepth 100000 in
set_option maxHeartbeats 4000000 in
theorem vNatC (w : World) : Calls Try.prog 31 #[] w fun e w' => ∃ q, e = .returned (.slice (some ⟨q, 0, none⟩) 3 3) ∧ DL w' natS (some ⟨q, 0, none⟩) 3 3 ∧ Below w.heap.size w w' := by
  obtain ⟨W1, hW1⟩ : ∃ W1, w.alloc (.cells #[.int .i64 2, .int .i64 0, .slice none 0 0] 32) = W1 := ⟨_, rfl⟩
  have hb1 : Below w.heap.size w W1 := by rw [← hW1]; exact (Below.refl _ _).alloc (Nat.le_refl _) _
  have x1 : Box W1 w.heap.size 32 #[.int .i64 2, .int .i64 0, .slice none 0 0] := by rw [← hW1]; exact Box.new _ _ _
  have l1 : W1.heap.size = w.heap.size + 1 := by rw [← hW1]; simp
  obtain ⟨W2, hW2⟩ : ∃ W2, W1.alloc (.cells #[.int .i64 2, .int .i64 0, .slice none 0 0, .int .i64 2, .int .i64 0, .slice none 0 0] 32) = W2 := ⟨_, rfl⟩
  have hb2 : Below W1.heap.size W1 W2 := by rw [← hW2]; exact (Below.refl _ _).alloc (Nat.le_refl _) _
  have x2 : Box W2 (w.heap.size + 1) 32 #[.int .i64 2, .int .i64 0, .slice none 0 0, .int .i64 2, .int .i64 0, .slice none 0 0] := by rw [← hW2]; exact (Box.new _ _ _).at l1
  have l2 : W2.heap.size = w.heap.size + 1 + 1 := by rw [← hW2]; simp [l1]
  obtain ⟨W3, hW3⟩ : ∃ W3, W2.alloc (.cells #[.string { data := #[110, 97, 116] }, .int .i64 0, .int .i64 0, .slice none 0 0, .string { data := #[122] }, .int .i64 2, .int .i64 0, .slice none 0 0, .string { data := #[115] }, .int .i64 1, .int .i64 0, .slice (some ⟨w.heap.size + 1, 0, none⟩) 2 2] 38) = W3 := ⟨_, rfl⟩
  have hb3 : Below W2.heap.size W2 W3 := by rw [← hW3]; exact (Below.refl _ _).alloc (Nat.le_refl _) _
  have x3 : Box W3 (w.heap.size + 1 + 1) 38 #[.string { data := #[110, 97, 116] }, .int .i64 0, .int .i64 0, .slice none 0 0, .string { data := #[122] }, .int .i64 2, .int .i64 0, .slice none 0 0, .string { data := #[115] }, .int .i64 1, .int .i64 0, .slice (some ⟨w.heap.size + 1, 0, none⟩) 2 2] := by rw [← hW3]; exact (Box.new _ _ _).at l2
  have y2 := x2.keep hb3 x2.lt
  have hbw := hb1.trans ((hb2.trans (hb3.mono hb2.size)).mono hb1.size)
  have leaf : ∀ W' : World, Rd W' natT (.agg #[.int .i64 2, .int .i64 0, .slice none 0 0]) := fun W' => rd_leaf (wfV (by omega) (by omega)) (wfV (by omega) (by omega))
  have hdl : DL W3 natS (some ⟨w.heap.size + 1 + 1, 0, none⟩) 3 3 := ⟨rfl, Nat.le_refl _, by unfold maxLen; omega, fun i x hx => by
    match i, hx with
    | 0, hx =>
      cases hx
      exact ⟨w.heap.size + 1 + 1, 0, _, _, _, _, _, _, rfl, x3.cell 0, x3.cell 1, x3.cell 2, x3.cell 3, rd_leaf (wfV (by omega) (by omega)) (wfV (by omega) (by omega))⟩
    | 1, hx =>
      cases hx
      exact ⟨w.heap.size + 1 + 1, 0, _, _, _, _, _, _, rfl, x3.cell 4, x3.cell 5, x3.cell 6, x3.cell 7, leaf _⟩
    | 2, hx =>
      cases hx
      exact ⟨w.heap.size + 1 + 1, 0, _, _, _, _, _, _, rfl, x3.cell 8, x3.cell 9, x3.cell 10, x3.cell 11, Rd_node.2 ⟨_, _, _, rfl, wfV (by omega) (by omega), wfV (by omega) (by omega), rfl, Nat.le_refl _, by unfold maxLen; omega, rd_two y2 (leaf _) (leaf _)⟩⟩
    | i + 3, hx => simp [natS] at hx⟩
  have HD := Lib.hid hdl
  have HB := Lib.hid hbw
  obtain ⟨c0, c1, c2⟩ := x1.three
  have g1 := x1.frozen 1
  have g2 := x1.frozen 2
  clear hdl hbw leaf x1 x2 x3 y2 hb1 hb2 hb3 l1
  subst hW1
  go_enter Try.func31, Try.ntmps31
  go_wp2_with fail
  clear hW2 hW3
  go_ret
  exact ⟨_, rfl, HD.out, HB.out⟩

/-- the terms of awake -/
def awS : T := .node 5 2 [.node 4 0 []]
def awL : T := .node 3 0 [awS]
theorem aw_a : ckT natW [] (.node 5 2 [.node 5 1 []]) natT = 0 := by kernel_rfl
theorem aw_b : ckT natW [] (.node 5 2 []) natT = 3 := by kernel_rfl
theorem aw_c : ckT natW [] awL (.node 1 0 [natT, natT]) = 0 := by kernel_rfl
theorem aw_d : ckT natW [] awS natT = 2 := by kernel_rfl
theorem aw_e : ckTy natW [] natT = 0 := by kernel_rfl
theorem natTermC {W' : World} {q : Nat} (hd : DL W' natS (some ⟨q, 0, none⟩) 3 3) {m a : T} {vm va : Value} (hm : Rd W' m vm) (ha : Rd W' a va) (hlm : okT loV m) (hla : okT loV a) (R : Int) (hR : ckT natW [] m a = R) :
    Calls Try.prog 21 #[.slice (some ⟨q, 0, none⟩) 3 3, .slice none 0 0, .slice none 0 0, vm, va] W' (ByQ R W') := by
  rw [← hR]
  exact vCheckTermC natW [] m a _ 3 3 none 0 0 none 0 0 vm va W' (nat_ck hd) hm ha nat_low (fun _ => hlm) (fun _ => hla)

set_option maxRecDepth 100000 in
set_option maxHeartbeats 16000000 in
theorem vAwakeC (w : World) : Calls Try.prog 20 #[] w fun e w' => e = .returned (.bool true) ∧ Below w.heap.size w w' := by
  obtain ⟨W1, hW1⟩ : ∃ W1, w.alloc (.cells #[.int .i64 2, .int .i64 0, .slice none 0 0] 32) = W1 := ⟨_, rfl⟩
  have hb1 : Below w.heap.size w W1 := by rw [← hW1]; exact (Below.refl _ _).alloc (Nat.le_refl _) _
  have x1 : Box W1 w.heap.size 32 #[.int .i64 2, .int .i64 0, .slice none 0 0] := by rw [← hW1]; exact Box.new _ _ _
  obtain ⟨W2, hW2⟩ : ∃ W2, W1.alloc (.cells #[.int .i64 4, .int .i64 0, .slice none 0 0] 32) = W2 := ⟨_, rfl⟩
  have hb2 : Below W1.heap.size W1 W2 := by rw [← hW2]; exact (Below.refl _ _).alloc (Nat.le_refl _) _
  have l1 : W1.heap.size = w.heap.size + 1 := by rw [← hW1]; simp
  have x2 : Box W2 (w.heap.size + 1) 32 #[.int .i64 4, .int .i64 0, .slice none 0 0] := by rw [← hW2]; exact (Box.new _ _ _).at l1
  have l2 : W2.heap.size = w.heap.size + 1 + 1 := by rw [← hW2]; simp [l1]
  obtain ⟨W3, hW3⟩ : ∃ W3, W2.alloc (.cells #[.int .i64 5, .int .i64 2, .slice (some ⟨w.heap.size + 1, 0, none⟩) 1 1] 32) = W3 := ⟨_, rfl⟩
  have hb3 : Below W2.heap.size W2 W3 := by rw [← hW3]; exact (Below.refl _ _).alloc (Nat.le_refl _) _
  have x3 : Box W3 (w.heap.size + 1 + 1) 32 #[.int .i64 5, .int .i64 2, .slice (some ⟨w.heap.size + 1, 0, none⟩) 1 1] := by rw [← hW3]; exact (Box.new _ _ _).at l2
  have l3 : W3.heap.size = w.heap.size + 1 + 1 + 1 := by rw [← hW3]; simp [l2]
  obtain ⟨W4, hW4⟩ : ∃ W4, W3.alloc (.cells #[.int .i64 5, .int .i64 2, .slice (some ⟨w.heap.size + 1, 0, none⟩) 1 1] 32) = W4 := ⟨_, rfl⟩
  have hb4 : Below W3.heap.size W3 W4 := by rw [← hW4]; exact (Below.refl _ _).alloc (Nat.le_refl _) _
  have x4 : Box W4 (w.heap.size + 1 + 1 + 1) 32 #[.int .i64 5, .int .i64 2, .slice (some ⟨w.heap.size + 1, 0, none⟩) 1 1] := by rw [← hW4]; exact (Box.new _ _ _).at l3
  have l4 : W4.heap.size = w.heap.size + 1 + 1 + 1 + 1 := by rw [← hW4]; simp [l3]
  obtain ⟨W5, hW5⟩ : ∃ W5, W4.alloc (.cells #[.int .i64 3, .int .i64 0, .slice (some ⟨w.heap.size + 1 + 1 + 1, 0, none⟩) 1 1] 32) = W5 := ⟨_, rfl⟩
  have hb5 : Below W4.heap.size W4 W5 := by rw [← hW5]; exact (Below.refl _ _).alloc (Nat.le_refl _) _
  have x5 : Box W5 (w.heap.size + 1 + 1 + 1 + 1) 32 #[.int .i64 3, .int .i64 0, .slice (some ⟨w.heap.size + 1 + 1 + 1, 0, none⟩) 1 1] := by rw [← hW5]; exact (Box.new _ _ _).at l4
  obtain ⟨s0, s1, s2⟩ := x3.three
  obtain ⟨t0, t1, t2⟩ := x1.three
  have g1 := x1.frozen 1
  have g2 := x1.frozen 2
  replace x4 := x4.keep hb5 x4.lt
  have hb35 := hb4.trans (hb5.mono hb4.size)
  replace x3 := x3.keep hb35 x3.lt
  have hb25 := hb3.trans (hb35.mono hb3.size)
  replace x2 := x2.keep hb25 x2.lt
  have hb15 := hb2.trans (hb25.mono hb2.size)
  replace x1 := x1.keep hb15 x1.lt
  have HB := Lib.hid (hb1.trans (hb15.mono hb1.size))
  have leaf : ∀ (W' : World) (k h : Int), 0 ≤ k → k ≤ 1000 → 0 ≤ h → h ≤ 1000 → Rd W' (.node k h []) (.agg #[.int .i64 k, .int .i64 h, .slice none 0 0]) := fun W' k h h1 h2 h3 h4 => rd_leaf (wfV h1 h2) (wfV h3 h4)
  have hrS : Rd W5 awS (.agg #[.int .i64 5, .int .i64 2, .slice (some ⟨w.heap.size + 1, 0, none⟩) 1 1]) := rd_node1 x2 (leaf _ 4 0 (by omega) (by omega) (by omega) (by omega)) (wfV (by omega) (by omega)) (wfV (by omega) (by omega))
  have hrL : Rd W5 awL (.agg #[.int .i64 3, .int .i64 0, .slice (some ⟨w.heap.size + 1 + 1 + 1, 0, none⟩) 1 1]) := rd_node1 x4 hrS (wfV (by omega) (by omega)) (wfV (by omega) (by omega))
  have lowN : okT loV natT := by simp [natT, okT, okL]
  have lowS : okT loV awS := by simp [awS, okT, okL]
  have lowL : okT loV awL := by simp [awL, awS, okT, okL]
  have lowP : okT loV (.node 1 0 [natT, natT]) := by simp [natT, okT, okL]
  have HTA : Hid (∀ (W' : World) (q p : Nat), DL W' natS (some ⟨q, 0, none⟩) 3 3 → Box W' p 32 #[.int .i64 5, .int .i64 1, .slice none 0 0] → Calls Try.prog 21 #[.slice (some ⟨q, 0, none⟩) 3 3, .slice none 0 0, .slice none 0 0, .agg #[.int .i64 5, .int .i64 2, .slice (some ⟨p, 0, none⟩) 1 1], .agg #[.int .i64 2, .int .i64 0, .slice none 0 0]] W' (ByQ 0 W')) := Lib.hid fun W' q p hd hb =>
    natTermC hd (rd_node1 hb (leaf _ 5 1 (by omega) (by omega) (by omega) (by omega)) (wfV (by omega) (by omega)) (wfV (by omega) (by omega))) (leaf _ 2 0 (by omega) (by omega) (by omega) (by omega)) (by simp [okT, okL]) lowN 0 aw_a
  have HTB : Hid (∀ (W' : World) (q : Nat), DL W' natS (some ⟨q, 0, none⟩) 3 3 → Calls Try.prog 21 #[.slice (some ⟨q, 0, none⟩) 3 3, .slice none 0 0, .slice none 0 0, .agg #[.int .i64 5, .int .i64 2, .slice none 0 0], .agg #[.int .i64 2, .int .i64 0, .slice none 0 0]] W' (ByQ 3 W')) := Lib.hid fun W' q hd =>
    natTermC hd (leaf _ 5 2 (by omega) (by omega) (by omega) (by omega)) (leaf _ 2 0 (by omega) (by omega) (by omega) (by omega)) (by simp [okT, okL]) lowN 3 aw_b
  have HTC : Hid (∀ (W' : World) (q : Nat) (k h : Int) (A : Option Addr) (n c : Nat), Below W5.heap.size W5 W' → DL W' natS (some ⟨q, 0, none⟩) 3 3 → Rd W' (.node 1 0 [natT, natT]) (.agg #[.int .i64 k, .int .i64 h, .slice A n c]) → Calls Try.prog 21 #[.slice (some ⟨q, 0, none⟩) 3 3, .slice none 0 0, .slice none 0 0, .agg #[.int .i64 3, .int .i64 0, .slice (some ⟨w.heap.size + 1 + 1 + 1, 0, none⟩) 1 1], .agg #[.int .i64 k, .int .i64 h, .slice A n c]] W' (ByQ 0 W')) := Lib.hid fun W' q k h A n c hb hd hr =>
    natTermC hd (Rd.keep hb _ _ hrL) hr lowL lowP 0 aw_c
  have HTD : Hid (∀ (W' : World) (q : Nat), Below W5.heap.size W5 W' → DL W' natS (some ⟨q, 0, none⟩) 3 3 → Calls Try.prog 21 #[.slice (some ⟨q, 0, none⟩) 3 3, .slice none 0 0, .slice none 0 0, .agg #[.int .i64 5, .int .i64 2, .slice (some ⟨w.heap.size + 1, 0, none⟩) 1 1], .agg #[.int .i64 2, .int .i64 0, .slice none 0 0]] W' (ByQ 2 W')) := Lib.hid fun W' q hb hd =>
    natTermC hd (Rd.keep hb _ _ hrS) (leaf _ 2 0 (by omega) (by omega) (by omega) (by omega)) lowS lowN 2 aw_d
  have HTE : Hid (∀ (W' : World) (q : Nat), DL W' natS (some ⟨q, 0, none⟩) 3 3 → Calls Try.prog 23 #[.slice (some ⟨q, 0, none⟩) 3 3, .slice none 0 0, .slice none 0 0, .agg #[.int .i64 2, .int .i64 0, .slice none 0 0]] W' (ByQ 0 W')) := Lib.hid fun W' q hd => by
    have h := vCheckTypeC natW [] natT _ 3 3 none 0 0 none 0 0 _ W' (nat_ck hd) (leaf _ 2 0 (by omega) (by omega) (by omega) (by omega)) nat_low (fun _ => lowN)
    rw [aw_e] at h
    exact h
  obtain ⟨c0, c1, c2⟩ := x1.three
  obtain ⟨d0, d1, d2⟩ := x3.three
  obtain ⟨e0, e1, e2⟩ := x5.three
  clear x1 x2 x3 x4 x5 hb1 hb2 hb3 hb4 hb5 hb35 hb25 hb15 l1 leaf hrS hrL lowN lowS lowL lowP
  subst hW1
  go_enter Try.func20, Try.ntmps20
  go_wp2_with fail
  clear hW2 hW3 hW4 hW5 s0 s1 s2 t0 t1 t2 g1 g2 l2 l3 l4
  generalize w.heap.size + 1 + 1 + 1 + 1 = P4 at *
  generalize w.heap.size + 1 + 1 + 1 = P3 at *
  generalize w.heap.size + 1 + 1 = P2 at *
  generalize w.heap.size + 1 = P1 at *
  have HKS : Hid (∀ w' : World, Below W5.heap.size W5 w' → (fun w' => w'.cell? ⟨w.heap.size, 0, none⟩ = some (.int .i64 2) ∧ w'.cell? ⟨w.heap.size, 1, none⟩ = some (.int .i64 0) ∧ w'.cell? ⟨w.heap.size, 2, none⟩ = some (.slice none 0 0) ∧ w'.cell? ⟨P2, 0, none⟩ = some (.int .i64 5) ∧ w'.cell? ⟨P2, 1, none⟩ = some (.int .i64 2) ∧ w'.cell? ⟨P2, 2, none⟩ = some (.slice (some ⟨P1, 0, none⟩) 1 1) ∧ w'.cell? ⟨P4, 0, none⟩ = some (.int .i64 3) ∧ w'.cell? ⟨P4, 1, none⟩ = some (.int .i64 0) ∧ w'.cell? ⟨P4, 2, none⟩ = some (.slice (some ⟨P3, 0, none⟩) 1 1)) w') := Lib.hid fun w' h => ⟨(h.cell (cell_lt c0)).trans c0, (h.cell (cell_lt c1)).trans c1, (h.cell (cell_lt c2)).trans c2, (h.cell (cell_lt d0)).trans d0, (h.cell (cell_lt d1)).trans d1, (h.cell (cell_lt d2)).trans d2, (h.cell (cell_lt e0)).trans e0, (h.cell (cell_lt e1)).trans e1, (h.cell (cell_lt e2)).trans e2⟩
  have hbd : Below W5.heap.size W5 W5.drew := (Below.refl _ W5).drew
  refine wp_region_held_drew (S := fun w' => w'.cell? ⟨w.heap.size, 0, none⟩ = some (.int .i64 2) ∧ w'.cell? ⟨w.heap.size, 1, none⟩ = some (.int .i64 0) ∧ w'.cell? ⟨w.heap.size, 2, none⟩ = some (.slice none 0 0) ∧ w'.cell? ⟨P2, 0, none⟩ = some (.int .i64 5) ∧ w'.cell? ⟨P2, 1, none⟩ = some (.int .i64 2) ∧ w'.cell? ⟨P2, 2, none⟩ = some (.slice (some ⟨P1, 0, none⟩) 1 1) ∧ w'.cell? ⟨P4, 0, none⟩ = some (.int .i64 3) ∧ w'.cell? ⟨P4, 1, none⟩ = some (.int .i64 0) ∧ w'.cell? ⟨P4, 2, none⟩ = some (.slice (some ⟨P3, 0, none⟩) 1 1)) (by kernel_rfl) (HKS.out _ hbd) (fun hS => ?_)
  simp only [List.size_toArray, List.length_cons, List.length_nil, Nat.reduceAdd]
  refine wpAnyH_take (i := 1) (v := .agg #[.int .i64 5, .int .i64 1, .slice none 0 0]) rfl (by kernel_rfl) (by kernel_rfl) (by kernel_rfl) (fun _ _ _ h => h) (Or.inl ⟨by kernel_rfl, ?_⟩) hS ?_
  · intro w' hSw
    obtain ⟨s0, s1, s2, s3, s4, s5, s6, s7, s8⟩ := hSw
    go_simp
  try simp only [Act.put, List.setIfInBounds_toArray]
  refine wpAnyH_take (i := 4) (v := .agg #[.int .i64 2, .int .i64 0, .slice none 0 0]) rfl (by kernel_rfl) (by kernel_rfl) (by kernel_rfl) (fun _ _ _ h => h) (Or.inl ⟨by kernel_rfl, ?_⟩) hS ?_
  · intro w' hSw
    obtain ⟨s0, s1, s2, s3, s4, s5, s6, s7, s8⟩ := hSw
    go_simp
  try simp only [Act.put]
  refine wpAnyH_ready (rs := [0, 2]) (by kernel_rfl) (by simp) ?_
  refine AllReadyH.cons rfl (fun KN hK => ?_) (AllReadyH.cons rfl (fun KN hK => ?_) AllReadyH.nil)
  · go_simp
    refine (vNatC _).mono ?_
    rintro e w40 ⟨q4, rfl, hdw40, hnw40⟩
    have hbw40 := hbd.trans (hnw40.mono hbd.size)
    refine hK.out _ _ (HKS.out _ hbw40) (fun hS => ?_)
    clear hK KN
    try simp only [Act.put, List.setIfInBounds_toArray, List.set_cons_zero, List.set_cons_succ]
    refine wpAnyH_ready (rs := [2]) (by kernel_rfl) (by simp) ?_
    refine AllReadyH.cons rfl (fun KN hK => ?_) AllReadyH.nil
    go_simp
    have hb41 : Below W5.heap.size W5 (w40.alloc (.cells #[.int .i64 5, .int .i64 1, .slice none 0 0] 32)) := hbw40.alloc hbw40.size _
    have hd41 := hdw40.keep (show Below w40.heap.size w40 (w40.alloc (.cells #[.int .i64 5, .int .i64 1, .slice none 0 0] 32)) from (Below.refl _ _).alloc (Nat.le_refl _) _)
    have x41 : Box (w40.alloc (.cells #[.int .i64 5, .int .i64 1, .slice none 0 0] 32)) w40.heap.size 32 #[.int .i64 5, .int .i64 1, .slice none 0 0] := Box.new _ _ _
    refine hK.out _ _ (HKS.out _ hb41) (fun hS => ?_)
    clear hK KN
    try simp only [Act.put, List.setIfInBounds_toArray, List.set_cons_zero, List.set_cons_succ]
    clear hdw40 hnw40 hbw40
    generalize w40.alloc (.cells #[.int .i64 5, .int .i64 1, .slice none 0 0] 32) = w41 at *
    generalize w40.heap.size = P9 at *
    refine wpAnyH_take (i := 3) (v := .agg #[.int .i64 5, .int .i64 2, .slice (some ⟨P9, 0, none⟩) 1 1]) rfl (by kernel_rfl) (by kernel_rfl) (by kernel_rfl) (fun _ _ _ h => h) (Or.inl ⟨by kernel_rfl, ?_⟩) hS ?_
    · intro w' hSw
      obtain ⟨s0, s1, s2, s3, s4, s5, s6, s7, s8⟩ := hSw
      go_simp
    try simp only [Act.put, List.setIfInBounds_toArray]
    refine wpAnyH_ready (rs := [5]) (by kernel_rfl) (by simp) ?_
    refine AllReadyH.cons rfl (fun KN hK => ?_) AllReadyH.nil
    go_simp
    refine (HTA.out _ q4 P9 hd41 x41).mono ?_
    rintro e w42 ⟨rfl, hnw42⟩
    have hbw42 := hb41.trans (hnw42.mono hb41.size)
    refine hK.out _ _ (HKS.out _ hbw42) (fun hS => ?_)
    clear hK KN
    try simp only [Act.put, List.setIfInBounds_toArray, List.set_cons_zero, List.set_cons_succ]
    refine wpAnyH_take (i := 6) (v := .int .i64 0) rfl (by kernel_rfl) (by kernel_rfl) (by kernel_rfl) (fun _ _ _ h => h) (Or.inl ⟨by kernel_rfl, ?_⟩) hS ?_
    · intro w' hSw
      obtain ⟨s0, s1, s2, s3, s4, s5, s6, s7, s8⟩ := hSw
      go_simp
    try simp only [Act.put, List.setIfInBounds_toArray]
    refine wpAnyH_done (by kernel_rfl) ?_ _
    try simp only [List.setIfInBounds_toArray]
    try simp only [List.getElem_toArray, List.getElem_cons_succ, List.getElem_cons_zero, List.set_cons_zero, List.set_cons_succ]
    replace c0 := (hbw42.cell (cell_lt c0)).trans c0
    replace c1 := (hbw42.cell (cell_lt c1)).trans c1
    replace c2 := (hbw42.cell (cell_lt c2)).trans c2
    replace d0 := (hbw42.cell (cell_lt d0)).trans d0
    replace d1 := (hbw42.cell (cell_lt d1)).trans d1
    replace d2 := (hbw42.cell (cell_lt d2)).trans d2
    replace e0 := (hbw42.cell (cell_lt e0)).trans e0
    replace e1 := (hbw42.cell (cell_lt e1)).trans e1
    replace e2 := (hbw42.cell (cell_lt e2)).trans e2
    have HBw42 := Lib.hid (HB.out.trans (hbw42.mono HB.out.size))
    have HXw42 : Hid (Below W5.heap.size W5 w42) := Lib.hid (hbw42)
    clear hS HKS hbd hb41 hd41 x41 hnw42 hbw42
    go_wp2_with fail
    have HKS : Hid (∀ w' : World, Below w42.heap.size w42 w' → (fun w' => w'.cell? ⟨w.heap.size, 0, none⟩ = some (.int .i64 2) ∧ w'.cell? ⟨w.heap.size, 1, none⟩ = some (.int .i64 0) ∧ w'.cell? ⟨w.heap.size, 2, none⟩ = some (.slice none 0 0) ∧ w'.cell? ⟨P2, 0, none⟩ = some (.int .i64 5) ∧ w'.cell? ⟨P2, 1, none⟩ = some (.int .i64 2) ∧ w'.cell? ⟨P2, 2, none⟩ = some (.slice (some ⟨P1, 0, none⟩) 1 1) ∧ w'.cell? ⟨P4, 0, none⟩ = some (.int .i64 3) ∧ w'.cell? ⟨P4, 1, none⟩ = some (.int .i64 0) ∧ w'.cell? ⟨P4, 2, none⟩ = some (.slice (some ⟨P3, 0, none⟩) 1 1)) w') := Lib.hid fun w' h => ⟨(h.cell (cell_lt c0)).trans c0, (h.cell (cell_lt c1)).trans c1, (h.cell (cell_lt c2)).trans c2, (h.cell (cell_lt d0)).trans d0, (h.cell (cell_lt d1)).trans d1, (h.cell (cell_lt d2)).trans d2, (h.cell (cell_lt e0)).trans e0, (h.cell (cell_lt e1)).trans e1, (h.cell (cell_lt e2)).trans e2⟩
    have hbd : Below w42.heap.size w42 w42.drew := (Below.refl _ w42).drew
    refine wp_region_held_drew (S := fun w' => w'.cell? ⟨w.heap.size, 0, none⟩ = some (.int .i64 2) ∧ w'.cell? ⟨w.heap.size, 1, none⟩ = some (.int .i64 0) ∧ w'.cell? ⟨w.heap.size, 2, none⟩ = some (.slice none 0 0) ∧ w'.cell? ⟨P2, 0, none⟩ = some (.int .i64 5) ∧ w'.cell? ⟨P2, 1, none⟩ = some (.int .i64 2) ∧ w'.cell? ⟨P2, 2, none⟩ = some (.slice (some ⟨P1, 0, none⟩) 1 1) ∧ w'.cell? ⟨P4, 0, none⟩ = some (.int .i64 3) ∧ w'.cell? ⟨P4, 1, none⟩ = some (.int .i64 0) ∧ w'.cell? ⟨P4, 2, none⟩ = some (.slice (some ⟨P3, 0, none⟩) 1 1)) (by kernel_rfl) (HKS.out _ hbd) (fun hS => ?_)
    simp only [List.size_toArray, List.length_cons, List.length_nil, Nat.reduceAdd]
    refine wpAnyH_take (i := 1) (v := .agg #[.int .i64 5, .int .i64 2, .slice none 0 0]) rfl (by kernel_rfl) (by kernel_rfl) (by kernel_rfl) (fun _ _ _ h => h) (Or.inl ⟨by kernel_rfl, ?_⟩) hS ?_
    · intro w' hSw
      obtain ⟨s0, s1, s2, s3, s4, s5, s6, s7, s8⟩ := hSw
      go_simp
    try simp only [Act.put, List.setIfInBounds_toArray]
    refine wpAnyH_take (i := 2) (v := .agg #[.int .i64 2, .int .i64 0, .slice none 0 0]) rfl (by kernel_rfl) (by kernel_rfl) (by kernel_rfl) (fun _ _ _ h => h) (Or.inl ⟨by kernel_rfl, ?_⟩) hS ?_
    · intro w' hSw
      obtain ⟨s0, s1, s2, s3, s4, s5, s6, s7, s8⟩ := hSw
      go_simp
    try simp only [Act.put]
    refine wpAnyH_ready (rs := [0]) (by kernel_rfl) (by simp) ?_
    refine AllReadyH.cons rfl (fun KN hK => ?_) AllReadyH.nil
    go_simp
    refine (vNatC _).mono ?_
    rintro e w50 ⟨q5, rfl, hdw50, hnw50⟩
    have hbw50 := hbd.trans (hnw50.mono hbd.size)
    refine hK.out _ _ (HKS.out _ hbw50) (fun hS => ?_)
    clear hK KN
    try simp only [Act.put, List.setIfInBounds_toArray, List.set_cons_zero, List.set_cons_succ]
    refine wpAnyH_ready (rs := [3]) (by kernel_rfl) (by simp) ?_
    refine AllReadyH.cons rfl (fun KN hK => ?_) AllReadyH.nil
    go_simp
    refine (HTB.out _ q5 hdw50).mono ?_
    rintro e w51 ⟨rfl, hnw51⟩
    have hbw51 := hbw50.trans (hnw51.mono hbw50.size)
    refine hK.out _ _ (HKS.out _ hbw51) (fun hS => ?_)
    clear hK KN
    try simp only [Act.put, List.setIfInBounds_toArray, List.set_cons_zero, List.set_cons_succ]
    refine wpAnyH_take (i := 4) (v := .int .i64 3) rfl (by kernel_rfl) (by kernel_rfl) (by kernel_rfl) (fun _ _ _ h => h) (Or.inl ⟨by kernel_rfl, ?_⟩) hS ?_
    · intro w' hSw
      obtain ⟨s0, s1, s2, s3, s4, s5, s6, s7, s8⟩ := hSw
      go_simp
    try simp only [Act.put, List.setIfInBounds_toArray]
    refine wpAnyH_done (by kernel_rfl) ?_ _
    try simp only [List.setIfInBounds_toArray]
    try simp only [List.getElem_toArray, List.getElem_cons_succ, List.getElem_cons_zero, List.set_cons_zero, List.set_cons_succ]
    replace c0 := (hbw51.cell (cell_lt c0)).trans c0
    replace c1 := (hbw51.cell (cell_lt c1)).trans c1
    replace c2 := (hbw51.cell (cell_lt c2)).trans c2
    replace d0 := (hbw51.cell (cell_lt d0)).trans d0
    replace d1 := (hbw51.cell (cell_lt d1)).trans d1
    replace d2 := (hbw51.cell (cell_lt d2)).trans d2
    replace e0 := (hbw51.cell (cell_lt e0)).trans e0
    replace e1 := (hbw51.cell (cell_lt e1)).trans e1
    replace e2 := (hbw51.cell (cell_lt e2)).trans e2
    have HBw51 := Lib.hid (HBw42.out.trans (hbw51.mono HBw42.out.size))
    have HXw51 : Hid (Below W5.heap.size W5 w51) := Lib.hid (HXw42.out.trans (hbw51.mono HXw42.out.size))
    clear hS HKS hbd hdw50 hnw50 hbw50 hnw51 hbw51
    go_wp2_with fail
    have HKS : Hid (∀ w' : World, Below w51.heap.size w51 w' → (fun w' => w'.cell? ⟨w.heap.size, 0, none⟩ = some (.int .i64 2) ∧ w'.cell? ⟨w.heap.size, 1, none⟩ = some (.int .i64 0) ∧ w'.cell? ⟨w.heap.size, 2, none⟩ = some (.slice none 0 0) ∧ w'.cell? ⟨P2, 0, none⟩ = some (.int .i64 5) ∧ w'.cell? ⟨P2, 1, none⟩ = some (.int .i64 2) ∧ w'.cell? ⟨P2, 2, none⟩ = some (.slice (some ⟨P1, 0, none⟩) 1 1) ∧ w'.cell? ⟨P4, 0, none⟩ = some (.int .i64 3) ∧ w'.cell? ⟨P4, 1, none⟩ = some (.int .i64 0) ∧ w'.cell? ⟨P4, 2, none⟩ = some (.slice (some ⟨P3, 0, none⟩) 1 1)) w') := Lib.hid fun w' h => ⟨(h.cell (cell_lt c0)).trans c0, (h.cell (cell_lt c1)).trans c1, (h.cell (cell_lt c2)).trans c2, (h.cell (cell_lt d0)).trans d0, (h.cell (cell_lt d1)).trans d1, (h.cell (cell_lt d2)).trans d2, (h.cell (cell_lt e0)).trans e0, (h.cell (cell_lt e1)).trans e1, (h.cell (cell_lt e2)).trans e2⟩
    have hbd : Below w51.heap.size w51 w51.drew := (Below.refl _ w51).drew
    refine wp_region_held_drew (S := fun w' => w'.cell? ⟨w.heap.size, 0, none⟩ = some (.int .i64 2) ∧ w'.cell? ⟨w.heap.size, 1, none⟩ = some (.int .i64 0) ∧ w'.cell? ⟨w.heap.size, 2, none⟩ = some (.slice none 0 0) ∧ w'.cell? ⟨P2, 0, none⟩ = some (.int .i64 5) ∧ w'.cell? ⟨P2, 1, none⟩ = some (.int .i64 2) ∧ w'.cell? ⟨P2, 2, none⟩ = some (.slice (some ⟨P1, 0, none⟩) 1 1) ∧ w'.cell? ⟨P4, 0, none⟩ = some (.int .i64 3) ∧ w'.cell? ⟨P4, 1, none⟩ = some (.int .i64 0) ∧ w'.cell? ⟨P4, 2, none⟩ = some (.slice (some ⟨P3, 0, none⟩) 1 1)) (by kernel_rfl) (HKS.out _ hbd) (fun hS => ?_)
    simp only [List.size_toArray, List.length_cons, List.length_nil, Nat.reduceAdd]
    refine wpAnyH_take (i := 1) (v := .agg #[.int .i64 3, .int .i64 0, .slice (some ⟨P3, 0, none⟩) 1 1]) rfl (by kernel_rfl) (by kernel_rfl) (by kernel_rfl) (fun _ _ _ h => h) (Or.inl ⟨by kernel_rfl, ?_⟩) hS ?_
    · intro w' hSw
      obtain ⟨s0, s1, s2, s3, s4, s5, s6, s7, s8⟩ := hSw
      go_simp
    try simp only [Act.put, List.setIfInBounds_toArray]
    refine wpAnyH_ready (rs := [0]) (by kernel_rfl) (by simp) ?_
    refine AllReadyH.cons rfl (fun KN hK => ?_) AllReadyH.nil
    go_simp
    refine (vNatC _).mono ?_
    rintro e w60 ⟨q6, rfl, hdw60, hnw60⟩
    have hbw60 := hbd.trans (hnw60.mono hbd.size)
    refine hK.out _ _ (HKS.out _ hbw60) (fun hS => ?_)
    clear hK KN
    try simp only [Act.put, List.setIfInBounds_toArray, List.set_cons_zero, List.set_cons_succ]
    refine wpAnyH_ready (rs := [2]) (by kernel_rfl) (by simp) ?_
    refine AllReadyH.cons rfl (fun KN hK => ?_) AllReadyH.nil
    go_simp
    refine (vNatC _).mono ?_
    rintro e w61 ⟨q7, rfl, hdw61, hnw61⟩
    have hbw61 := hbw60.trans (hnw61.mono hbw60.size)
    refine hK.out _ _ (HKS.out _ hbw61) (fun hS => ?_)
    clear hK KN
    try simp only [Act.put, List.setIfInBounds_toArray, List.set_cons_zero, List.set_cons_succ]
    obtain ⟨bN, oN, sN, kN, hN, AN, nN, cN, eN, g9, g0, g1, g2, hrN⟩ := hdw61.at_ 2 _ rfl
    cases eN
    simp only [Nat.zero_add, Nat.reduceMul, Nat.reduceAdd] at g0 g1 g2
    have HRN := Lib.hid hrN
    clear hrN g9
    refine wpAnyH_take (i := 3) (v := .pointer (some ⟨q7, 8, none⟩)) rfl (by kernel_rfl) (by kernel_rfl) (by kernel_rfl) (fun _ _ _ h => h) (Or.inl ⟨by kernel_rfl, ?_⟩) hS ?_
    · intro w' hSw
      obtain ⟨s0, s1, s2, s3, s4, s5, s6, s7, s8⟩ := hSw
      go_simp
    try simp only [Act.put, List.setIfInBounds_toArray]
    refine wpAnyH_take (i := 4) (v := .pointer (some ⟨q7, 9, none⟩)) rfl (by kernel_rfl) (by kernel_rfl) (by kernel_rfl) (fun _ _ _ h => h) (Or.inl ⟨by kernel_rfl, ?_⟩) hS ?_
    · intro w' hSw
      obtain ⟨s0, s1, s2, s3, s4, s5, s6, s7, s8⟩ := hSw
      go_simp
    try simp only [Act.put]
    refine wpAnyH_ready (rs := [5]) (by kernel_rfl) (by simp) ?_
    refine AllReadyH.cons rfl (fun KN hK => ?_) AllReadyH.nil
    go_simp
    refine hK.out _ _ (HKS.out _ hbw61) (fun hS => ?_)
    clear hK KN
    try simp only [Act.put, List.setIfInBounds_toArray, List.set_cons_zero, List.set_cons_succ]
    refine wpAnyH_ready (rs := [6]) (by kernel_rfl) (by simp) ?_
    refine AllReadyH.cons rfl (fun KN hK => ?_) AllReadyH.nil
    go_simp
    refine (HTC.out _ q6 _ _ _ _ _ (HXw51.out.trans (hbw61.mono HXw51.out.size)) (hdw60.keep hnw61) HRN.out).mono ?_
    rintro e w62 ⟨rfl, hnw62⟩
    have hbw62 := hbw61.trans (hnw62.mono hbw61.size)
    refine hK.out _ _ (HKS.out _ hbw62) (fun hS => ?_)
    clear hK KN
    try simp only [Act.put, List.setIfInBounds_toArray, List.set_cons_zero, List.set_cons_succ]
    refine wpAnyH_take (i := 7) (v := .int .i64 0) rfl (by kernel_rfl) (by kernel_rfl) (by kernel_rfl) (fun _ _ _ h => h) (Or.inl ⟨by kernel_rfl, ?_⟩) hS ?_
    · intro w' hSw
      obtain ⟨s0, s1, s2, s3, s4, s5, s6, s7, s8⟩ := hSw
      go_simp
    try simp only [Act.put, List.setIfInBounds_toArray]
    refine wpAnyH_done (by kernel_rfl) ?_ _
    try simp only [List.setIfInBounds_toArray]
    try simp only [List.getElem_toArray, List.getElem_cons_succ, List.getElem_cons_zero, List.set_cons_zero, List.set_cons_succ]
    replace c0 := (hbw62.cell (cell_lt c0)).trans c0
    replace c1 := (hbw62.cell (cell_lt c1)).trans c1
    replace c2 := (hbw62.cell (cell_lt c2)).trans c2
    replace d0 := (hbw62.cell (cell_lt d0)).trans d0
    replace d1 := (hbw62.cell (cell_lt d1)).trans d1
    replace d2 := (hbw62.cell (cell_lt d2)).trans d2
    replace e0 := (hbw62.cell (cell_lt e0)).trans e0
    replace e1 := (hbw62.cell (cell_lt e1)).trans e1
    replace e2 := (hbw62.cell (cell_lt e2)).trans e2
    have HBw62 := Lib.hid (HBw51.out.trans (hbw62.mono HBw51.out.size))
    have HXw62 : Hid (Below W5.heap.size W5 w62) := Lib.hid (HXw51.out.trans (hbw62.mono HXw51.out.size))
    clear hS HKS hbd hdw60 hnw60 hbw60 hdw61 hnw61 hbw61 hnw62 hbw62 g0 g1 g2
    go_wp2_with fail
    have HKS : Hid (∀ w' : World, Below w62.heap.size w62 w' → (fun w' => w'.cell? ⟨w.heap.size, 0, none⟩ = some (.int .i64 2) ∧ w'.cell? ⟨w.heap.size, 1, none⟩ = some (.int .i64 0) ∧ w'.cell? ⟨w.heap.size, 2, none⟩ = some (.slice none 0 0) ∧ w'.cell? ⟨P2, 0, none⟩ = some (.int .i64 5) ∧ w'.cell? ⟨P2, 1, none⟩ = some (.int .i64 2) ∧ w'.cell? ⟨P2, 2, none⟩ = some (.slice (some ⟨P1, 0, none⟩) 1 1) ∧ w'.cell? ⟨P4, 0, none⟩ = some (.int .i64 3) ∧ w'.cell? ⟨P4, 1, none⟩ = some (.int .i64 0) ∧ w'.cell? ⟨P4, 2, none⟩ = some (.slice (some ⟨P3, 0, none⟩) 1 1)) w') := Lib.hid fun w' h => ⟨(h.cell (cell_lt c0)).trans c0, (h.cell (cell_lt c1)).trans c1, (h.cell (cell_lt c2)).trans c2, (h.cell (cell_lt d0)).trans d0, (h.cell (cell_lt d1)).trans d1, (h.cell (cell_lt d2)).trans d2, (h.cell (cell_lt e0)).trans e0, (h.cell (cell_lt e1)).trans e1, (h.cell (cell_lt e2)).trans e2⟩
    have hbd : Below w62.heap.size w62 w62.drew := (Below.refl _ w62).drew
    refine wp_region_held_drew (S := fun w' => w'.cell? ⟨w.heap.size, 0, none⟩ = some (.int .i64 2) ∧ w'.cell? ⟨w.heap.size, 1, none⟩ = some (.int .i64 0) ∧ w'.cell? ⟨w.heap.size, 2, none⟩ = some (.slice none 0 0) ∧ w'.cell? ⟨P2, 0, none⟩ = some (.int .i64 5) ∧ w'.cell? ⟨P2, 1, none⟩ = some (.int .i64 2) ∧ w'.cell? ⟨P2, 2, none⟩ = some (.slice (some ⟨P1, 0, none⟩) 1 1) ∧ w'.cell? ⟨P4, 0, none⟩ = some (.int .i64 3) ∧ w'.cell? ⟨P4, 1, none⟩ = some (.int .i64 0) ∧ w'.cell? ⟨P4, 2, none⟩ = some (.slice (some ⟨P3, 0, none⟩) 1 1)) (by kernel_rfl) (HKS.out _ hbd) (fun hS => ?_)
    simp only [List.size_toArray, List.length_cons, List.length_nil, Nat.reduceAdd]
    refine wpAnyH_take (i := 1) (v := .agg #[.int .i64 5, .int .i64 2, .slice (some ⟨P1, 0, none⟩) 1 1]) rfl (by kernel_rfl) (by kernel_rfl) (by kernel_rfl) (fun _ _ _ h => h) (Or.inl ⟨by kernel_rfl, ?_⟩) hS ?_
    · intro w' hSw
      obtain ⟨s0, s1, s2, s3, s4, s5, s6, s7, s8⟩ := hSw
      go_simp
    try simp only [Act.put, List.setIfInBounds_toArray]
    refine wpAnyH_take (i := 2) (v := .agg #[.int .i64 2, .int .i64 0, .slice none 0 0]) rfl (by kernel_rfl) (by kernel_rfl) (by kernel_rfl) (fun _ _ _ h => h) (Or.inl ⟨by kernel_rfl, ?_⟩) hS ?_
    · intro w' hSw
      obtain ⟨s0, s1, s2, s3, s4, s5, s6, s7, s8⟩ := hSw
      go_simp
    try simp only [Act.put]
    refine wpAnyH_ready (rs := [0]) (by kernel_rfl) (by simp) ?_
    refine AllReadyH.cons rfl (fun KN hK => ?_) AllReadyH.nil
    go_simp
    refine (vNatC _).mono ?_
    rintro e w70 ⟨q8, rfl, hdw70, hnw70⟩
    have hbw70 := hbd.trans (hnw70.mono hbd.size)
    refine hK.out _ _ (HKS.out _ hbw70) (fun hS => ?_)
    clear hK KN
    try simp only [Act.put, List.setIfInBounds_toArray, List.set_cons_zero, List.set_cons_succ]
    refine wpAnyH_ready (rs := [3]) (by kernel_rfl) (by simp) ?_
    refine AllReadyH.cons rfl (fun KN hK => ?_) AllReadyH.nil
    go_simp
    refine (HTD.out _ q8 (HXw62.out.trans (hbw70.mono HXw62.out.size)) hdw70).mono ?_
    rintro e w71 ⟨rfl, hnw71⟩
    have hbw71 := hbw70.trans (hnw71.mono hbw70.size)
    refine hK.out _ _ (HKS.out _ hbw71) (fun hS => ?_)
    clear hK KN
    try simp only [Act.put, List.setIfInBounds_toArray, List.set_cons_zero, List.set_cons_succ]
    refine wpAnyH_take (i := 4) (v := .int .i64 2) rfl (by kernel_rfl) (by kernel_rfl) (by kernel_rfl) (fun _ _ _ h => h) (Or.inl ⟨by kernel_rfl, ?_⟩) hS ?_
    · intro w' hSw
      obtain ⟨s0, s1, s2, s3, s4, s5, s6, s7, s8⟩ := hSw
      go_simp
    try simp only [Act.put, List.setIfInBounds_toArray]
    refine wpAnyH_done (by kernel_rfl) ?_ _
    try simp only [List.setIfInBounds_toArray]
    try simp only [List.getElem_toArray, List.getElem_cons_succ, List.getElem_cons_zero, List.set_cons_zero, List.set_cons_succ]
    replace c0 := (hbw71.cell (cell_lt c0)).trans c0
    replace c1 := (hbw71.cell (cell_lt c1)).trans c1
    replace c2 := (hbw71.cell (cell_lt c2)).trans c2
    replace d0 := (hbw71.cell (cell_lt d0)).trans d0
    replace d1 := (hbw71.cell (cell_lt d1)).trans d1
    replace d2 := (hbw71.cell (cell_lt d2)).trans d2
    replace e0 := (hbw71.cell (cell_lt e0)).trans e0
    replace e1 := (hbw71.cell (cell_lt e1)).trans e1
    replace e2 := (hbw71.cell (cell_lt e2)).trans e2
    have HBw71 := Lib.hid (HBw62.out.trans (hbw71.mono HBw62.out.size))
    have HXw71 : Hid (Below W5.heap.size W5 w71) := Lib.hid (HXw62.out.trans (hbw71.mono HXw62.out.size))
    clear hS HKS hbd hdw70 hnw70 hbw70 hnw71 hbw71
    go_wp2_with fail
    have HKS : Hid (∀ w' : World, Below w71.heap.size w71 w' → (fun w' => w'.cell? ⟨w.heap.size, 0, none⟩ = some (.int .i64 2) ∧ w'.cell? ⟨w.heap.size, 1, none⟩ = some (.int .i64 0) ∧ w'.cell? ⟨w.heap.size, 2, none⟩ = some (.slice none 0 0) ∧ w'.cell? ⟨P2, 0, none⟩ = some (.int .i64 5) ∧ w'.cell? ⟨P2, 1, none⟩ = some (.int .i64 2) ∧ w'.cell? ⟨P2, 2, none⟩ = some (.slice (some ⟨P1, 0, none⟩) 1 1) ∧ w'.cell? ⟨P4, 0, none⟩ = some (.int .i64 3) ∧ w'.cell? ⟨P4, 1, none⟩ = some (.int .i64 0) ∧ w'.cell? ⟨P4, 2, none⟩ = some (.slice (some ⟨P3, 0, none⟩) 1 1)) w') := Lib.hid fun w' h => ⟨(h.cell (cell_lt c0)).trans c0, (h.cell (cell_lt c1)).trans c1, (h.cell (cell_lt c2)).trans c2, (h.cell (cell_lt d0)).trans d0, (h.cell (cell_lt d1)).trans d1, (h.cell (cell_lt d2)).trans d2, (h.cell (cell_lt e0)).trans e0, (h.cell (cell_lt e1)).trans e1, (h.cell (cell_lt e2)).trans e2⟩
    have hbd : Below w71.heap.size w71 w71.drew := (Below.refl _ w71).drew
    refine wp_region_held_drew (S := fun w' => w'.cell? ⟨w.heap.size, 0, none⟩ = some (.int .i64 2) ∧ w'.cell? ⟨w.heap.size, 1, none⟩ = some (.int .i64 0) ∧ w'.cell? ⟨w.heap.size, 2, none⟩ = some (.slice none 0 0) ∧ w'.cell? ⟨P2, 0, none⟩ = some (.int .i64 5) ∧ w'.cell? ⟨P2, 1, none⟩ = some (.int .i64 2) ∧ w'.cell? ⟨P2, 2, none⟩ = some (.slice (some ⟨P1, 0, none⟩) 1 1) ∧ w'.cell? ⟨P4, 0, none⟩ = some (.int .i64 3) ∧ w'.cell? ⟨P4, 1, none⟩ = some (.int .i64 0) ∧ w'.cell? ⟨P4, 2, none⟩ = some (.slice (some ⟨P3, 0, none⟩) 1 1)) (by kernel_rfl) (HKS.out _ hbd) (fun hS => ?_)
    simp only [List.size_toArray, List.length_cons, List.length_nil, Nat.reduceAdd]
    refine wpAnyH_take (i := 0) (v := .int .i64 0) rfl (by kernel_rfl) (by kernel_rfl) (by kernel_rfl) (fun _ _ _ h => h) (Or.inl ⟨by kernel_rfl, ?_⟩) hS ?_
    · intro w' hSw
      obtain ⟨s0, s1, s2, s3, s4, s5, s6, s7, s8⟩ := hSw
      go_simp
    try simp only [Act.put, List.setIfInBounds_toArray]
    refine wpAnyH_take (i := 1) (v := .bool true) rfl (by kernel_rfl) (by kernel_rfl) (by kernel_rfl) (fun _ _ _ h => h) (Or.inl ⟨by kernel_rfl, ?_⟩) hS ?_
    · intro w' hSw
      obtain ⟨s0, s1, s2, s3, s4, s5, s6, s7, s8⟩ := hSw
      go_simp
    try simp only [Act.put]
    refine wpAnyH_take (i := 2) (v := .bool true) rfl (by kernel_rfl) (by kernel_rfl) (by kernel_rfl) (fun _ _ _ h => h) (Or.inl ⟨by kernel_rfl, ?_⟩) hS ?_
    · intro w' hSw
      obtain ⟨s0, s1, s2, s3, s4, s5, s6, s7, s8⟩ := hSw
      go_simp
    try simp only [Act.put]
    refine wpAnyH_take (i := 3) (v := .int .i64 3) rfl (by kernel_rfl) (by kernel_rfl) (by kernel_rfl) (fun _ _ _ h => h) (Or.inl ⟨by kernel_rfl, ?_⟩) hS ?_
    · intro w' hSw
      obtain ⟨s0, s1, s2, s3, s4, s5, s6, s7, s8⟩ := hSw
      go_simp
    try simp only [Act.put]
    refine wpAnyH_take (i := 4) (v := .bool true) rfl (by kernel_rfl) (by kernel_rfl) (by kernel_rfl) (fun _ _ _ h => h) (Or.inl ⟨by kernel_rfl, ?_⟩) hS ?_
    · intro w' hSw
      obtain ⟨s0, s1, s2, s3, s4, s5, s6, s7, s8⟩ := hSw
      go_simp
    try simp only [Act.put]
    refine wpAnyH_take (i := 5) (v := .bool true) rfl (by kernel_rfl) (by kernel_rfl) (by kernel_rfl) (fun _ _ _ h => h) (Or.inl ⟨by kernel_rfl, ?_⟩) hS ?_
    · intro w' hSw
      obtain ⟨s0, s1, s2, s3, s4, s5, s6, s7, s8⟩ := hSw
      go_simp
    try simp only [Act.put]
    refine wpAnyH_take (i := 6) (v := .bool true) rfl (by kernel_rfl) (by kernel_rfl) (by kernel_rfl) (fun _ _ _ h => h) (Or.inl ⟨by kernel_rfl, ?_⟩) hS ?_
    · intro w' hSw
      obtain ⟨s0, s1, s2, s3, s4, s5, s6, s7, s8⟩ := hSw
      go_simp
    try simp only [Act.put]
    refine wpAnyH_take (i := 7) (v := .int .i64 0) rfl (by kernel_rfl) (by kernel_rfl) (by kernel_rfl) (fun _ _ _ h => h) (Or.inl ⟨by kernel_rfl, ?_⟩) hS ?_
    · intro w' hSw
      obtain ⟨s0, s1, s2, s3, s4, s5, s6, s7, s8⟩ := hSw
      go_simp
    try simp only [Act.put]
    refine wpAnyH_take (i := 8) (v := .bool true) rfl (by kernel_rfl) (by kernel_rfl) (by kernel_rfl) (fun _ _ _ h => h) (Or.inl ⟨by kernel_rfl, ?_⟩) hS ?_
    · intro w' hSw
      obtain ⟨s0, s1, s2, s3, s4, s5, s6, s7, s8⟩ := hSw
      go_simp
    try simp only [Act.put]
    refine wpAnyH_take (i := 9) (v := .bool true) rfl (by kernel_rfl) (by kernel_rfl) (by kernel_rfl) (fun _ _ _ h => h) (Or.inl ⟨by kernel_rfl, ?_⟩) hS ?_
    · intro w' hSw
      obtain ⟨s0, s1, s2, s3, s4, s5, s6, s7, s8⟩ := hSw
      go_simp
    try simp only [Act.put]
    refine wpAnyH_take (i := 10) (v := .bool true) rfl (by kernel_rfl) (by kernel_rfl) (by kernel_rfl) (fun _ _ _ h => h) (Or.inl ⟨by kernel_rfl, ?_⟩) hS ?_
    · intro w' hSw
      obtain ⟨s0, s1, s2, s3, s4, s5, s6, s7, s8⟩ := hSw
      go_simp
    try simp only [Act.put]
    refine wpAnyH_take (i := 11) (v := .int .i64 2) rfl (by kernel_rfl) (by kernel_rfl) (by kernel_rfl) (fun _ _ _ h => h) (Or.inl ⟨by kernel_rfl, ?_⟩) hS ?_
    · intro w' hSw
      obtain ⟨s0, s1, s2, s3, s4, s5, s6, s7, s8⟩ := hSw
      go_simp
    try simp only [Act.put]
    refine wpAnyH_take (i := 12) (v := .bool true) rfl (by kernel_rfl) (by kernel_rfl) (by kernel_rfl) (fun _ _ _ h => h) (Or.inl ⟨by kernel_rfl, ?_⟩) hS ?_
    · intro w' hSw
      obtain ⟨s0, s1, s2, s3, s4, s5, s6, s7, s8⟩ := hSw
      go_simp
    try simp only [Act.put]
    refine wpAnyH_take (i := 13) (v := .bool true) rfl (by kernel_rfl) (by kernel_rfl) (by kernel_rfl) (fun _ _ _ h => h) (Or.inl ⟨by kernel_rfl, ?_⟩) hS ?_
    · intro w' hSw
      obtain ⟨s0, s1, s2, s3, s4, s5, s6, s7, s8⟩ := hSw
      go_simp
    try simp only [Act.put]
    refine wpAnyH_take (i := 14) (v := .bool true) rfl (by kernel_rfl) (by kernel_rfl) (by kernel_rfl) (fun _ _ _ h => h) (Or.inl ⟨by kernel_rfl, ?_⟩) hS ?_
    · intro w' hSw
      obtain ⟨s0, s1, s2, s3, s4, s5, s6, s7, s8⟩ := hSw
      go_simp
    try simp only [Act.put]
    refine wpAnyH_take (i := 16) (v := .agg #[.int .i64 2, .int .i64 0, .slice none 0 0]) rfl (by kernel_rfl) (by kernel_rfl) (by kernel_rfl) (fun _ _ _ h => h) (Or.inl ⟨by kernel_rfl, ?_⟩) hS ?_
    · intro w' hSw
      obtain ⟨s0, s1, s2, s3, s4, s5, s6, s7, s8⟩ := hSw
      go_simp
    try simp only [Act.put]
    refine wpAnyH_ready (rs := [15]) (by kernel_rfl) (by simp) ?_
    refine AllReadyH.cons rfl (fun KN hK => ?_) AllReadyH.nil
    go_simp
    refine (vNatC _).mono ?_
    rintro e w80 ⟨q9, rfl, hdw80, hnw80⟩
    have hbw80 := hbd.trans (hnw80.mono hbd.size)
    refine hK.out _ _ (HKS.out _ hbw80) (fun hS => ?_)
    clear hK KN
    try simp only [Act.put, List.setIfInBounds_toArray, List.set_cons_zero, List.set_cons_succ]
    refine wpAnyH_ready (rs := [17]) (by kernel_rfl) (by simp) ?_
    refine AllReadyH.cons rfl (fun KN hK => ?_) AllReadyH.nil
    go_simp
    refine (HTE.out _ q9 hdw80).mono ?_
    rintro e w81 ⟨rfl, hnw81⟩
    have hbw81 := hbw80.trans (hnw81.mono hbw80.size)
    refine hK.out _ _ (HKS.out _ hbw81) (fun hS => ?_)
    clear hK KN
    try simp only [Act.put, List.setIfInBounds_toArray, List.set_cons_zero, List.set_cons_succ]
    refine wpAnyH_take (i := 18) (v := .bool true) rfl (by kernel_rfl) (by kernel_rfl) (by kernel_rfl) (fun _ _ _ h => h) (Or.inl ⟨by kernel_rfl, ?_⟩) hS ?_
    · intro w' hSw
      obtain ⟨s0, s1, s2, s3, s4, s5, s6, s7, s8⟩ := hSw
      go_simp
    try simp only [Act.put, List.setIfInBounds_toArray]
    refine wpAnyH_take (i := 19) (v := .bool true) rfl (by kernel_rfl) (by kernel_rfl) (by kernel_rfl) (fun _ _ _ h => h) (Or.inl ⟨by kernel_rfl, ?_⟩) hS ?_
    · intro w' hSw
      obtain ⟨s0, s1, s2, s3, s4, s5, s6, s7, s8⟩ := hSw
      go_simp
    try simp only [Act.put]
    refine wpAnyH_take (i := 20) (v := .bool true) rfl (by kernel_rfl) (by kernel_rfl) (by kernel_rfl) (fun _ _ _ h => h) (Or.inl ⟨by kernel_rfl, ?_⟩) hS ?_
    · intro w' hSw
      obtain ⟨s0, s1, s2, s3, s4, s5, s6, s7, s8⟩ := hSw
      go_simp
    try simp only [Act.put]
    refine wpAnyH_done (by kernel_rfl) ?_ _
    try simp only [List.setIfInBounds_toArray]
    try simp only [List.getElem_toArray, List.getElem_cons_succ, List.getElem_cons_zero, List.setIfInBounds_toArray, List.set_cons_zero, List.set_cons_succ]
    have HBF := Lib.hid (HBw71.out.trans (hbw81.mono HBw71.out.size))
    clear hS HKS hbd hdw80 hnw80 hbw80 hnw81 hbw81
    go_wp2_with fail
    refine bodyPost_ret (v := .bool true) (by simp [results, Try.results20, go_sem]) rfl ?_
    exact ⟨rfl, HBF.out⟩
  · go_simp
    have hb41 : Below W5.heap.size W5 (W5.alloc (.cells #[.int .i64 5, .int .i64 1, .slice none 0 0] 32)).drew := ((Below.refl _ W5).alloc (Nat.le_refl _) _).drew
    refine hK.out _ _ (HKS.out _ hb41) (fun hS => ?_)
    clear hK KN
    try simp only [Act.put, List.setIfInBounds_toArray, List.set_cons_zero, List.set_cons_succ]
    have x41 : Box (W5.alloc (.cells #[.int .i64 5, .int .i64 1, .slice none 0 0] 32)).drew W5.heap.size 32 #[.int .i64 5, .int .i64 1, .slice none 0 0] := Box.drewI (Box.new _ _ _)
    obtain ⟨P9, hP9⟩ : ∃ p, W5.heap.size = p := ⟨_, rfl⟩
    rw [hP9] at x41
    try rw [hP9]
    clear hP9
    generalize (W5.alloc (.cells #[.int .i64 5, .int .i64 1, .slice none 0 0] 32)).drew = w41 at *
    refine wpAnyH_take (i := 3) (v := .agg #[.int .i64 5, .int .i64 2, .slice (some ⟨P9, 0, none⟩) 1 1]) rfl (by kernel_rfl) (by kernel_rfl) (by kernel_rfl) (fun _ _ _ h => h) (Or.inl ⟨by kernel_rfl, ?_⟩) hS ?_
    · intro w' hSw
      obtain ⟨s0, s1, s2, s3, s4, s5, s6, s7, s8⟩ := hSw
      go_simp
    try simp only [Act.put, List.setIfInBounds_toArray]
    refine wpAnyH_ready (rs := [0]) (by kernel_rfl) (by simp) ?_
    refine AllReadyH.cons rfl (fun KN hK => ?_) AllReadyH.nil
    go_simp
    refine (vNatC _).mono ?_
    rintro e w40 ⟨q4, rfl, hdw40, hnw40⟩
    have hbw40 := hb41.trans (hnw40.mono hb41.size)
    refine hK.out _ _ (HKS.out _ hbw40) (fun hS => ?_)
    clear hK KN
    try simp only [Act.put, List.setIfInBounds_toArray, List.set_cons_zero, List.set_cons_succ]
    replace x41 := x41.keep hnw40 x41.lt
    refine wpAnyH_ready (rs := [5]) (by kernel_rfl) (by simp) ?_
    refine AllReadyH.cons rfl (fun KN hK => ?_) AllReadyH.nil
    go_simp
    refine (HTA.out _ q4 P9 hdw40 x41).mono ?_
    rintro e w42 ⟨rfl, hnw42⟩
    have hbw42 := hbw40.trans (hnw42.mono hbw40.size)
    refine hK.out _ _ (HKS.out _ hbw42) (fun hS => ?_)
    clear hK KN
    try simp only [Act.put, List.setIfInBounds_toArray, List.set_cons_zero, List.set_cons_succ]
    refine wpAnyH_take (i := 6) (v := .int .i64 0) rfl (by kernel_rfl) (by kernel_rfl) (by kernel_rfl) (fun _ _ _ h => h) (Or.inl ⟨by kernel_rfl, ?_⟩) hS ?_
    · intro w' hSw
      obtain ⟨s0, s1, s2, s3, s4, s5, s6, s7, s8⟩ := hSw
      go_simp
    try simp only [Act.put, List.setIfInBounds_toArray]
    refine wpAnyH_done (by kernel_rfl) ?_ _
    try simp only [List.setIfInBounds_toArray]
    try simp only [List.getElem_toArray, List.getElem_cons_succ, List.getElem_cons_zero, List.set_cons_zero, List.set_cons_succ]
    replace c0 := (hbw42.cell (cell_lt c0)).trans c0
    replace c1 := (hbw42.cell (cell_lt c1)).trans c1
    replace c2 := (hbw42.cell (cell_lt c2)).trans c2
    replace d0 := (hbw42.cell (cell_lt d0)).trans d0
    replace d1 := (hbw42.cell (cell_lt d1)).trans d1
    replace d2 := (hbw42.cell (cell_lt d2)).trans d2
    replace e0 := (hbw42.cell (cell_lt e0)).trans e0
    replace e1 := (hbw42.cell (cell_lt e1)).trans e1
    replace e2 := (hbw42.cell (cell_lt e2)).trans e2
    have HBw42 := Lib.hid (HB.out.trans (hbw42.mono HB.out.size))
    have HXw42 : Hid (Below W5.heap.size W5 w42) := Lib.hid (hbw42)
    clear hS HKS hbd hb41 hdw40 hnw40 hbw40 x41 hnw42 hbw42
    go_wp2_with fail
    have HKS : Hid (∀ w' : World, Below w42.heap.size w42 w' → (fun w' => w'.cell? ⟨w.heap.size, 0, none⟩ = some (.int .i64 2) ∧ w'.cell? ⟨w.heap.size, 1, none⟩ = some (.int .i64 0) ∧ w'.cell? ⟨w.heap.size, 2, none⟩ = some (.slice none 0 0) ∧ w'.cell? ⟨P2, 0, none⟩ = some (.int .i64 5) ∧ w'.cell? ⟨P2, 1, none⟩ = some (.int .i64 2) ∧ w'.cell? ⟨P2, 2, none⟩ = some (.slice (some ⟨P1, 0, none⟩) 1 1) ∧ w'.cell? ⟨P4, 0, none⟩ = some (.int .i64 3) ∧ w'.cell? ⟨P4, 1, none⟩ = some (.int .i64 0) ∧ w'.cell? ⟨P4, 2, none⟩ = some (.slice (some ⟨P3, 0, none⟩) 1 1)) w') := Lib.hid fun w' h => ⟨(h.cell (cell_lt c0)).trans c0, (h.cell (cell_lt c1)).trans c1, (h.cell (cell_lt c2)).trans c2, (h.cell (cell_lt d0)).trans d0, (h.cell (cell_lt d1)).trans d1, (h.cell (cell_lt d2)).trans d2, (h.cell (cell_lt e0)).trans e0, (h.cell (cell_lt e1)).trans e1, (h.cell (cell_lt e2)).trans e2⟩
    have hbd : Below w42.heap.size w42 w42.drew := (Below.refl _ w42).drew
    refine wp_region_held_drew (S := fun w' => w'.cell? ⟨w.heap.size, 0, none⟩ = some (.int .i64 2) ∧ w'.cell? ⟨w.heap.size, 1, none⟩ = some (.int .i64 0) ∧ w'.cell? ⟨w.heap.size, 2, none⟩ = some (.slice none 0 0) ∧ w'.cell? ⟨P2, 0, none⟩ = some (.int .i64 5) ∧ w'.cell? ⟨P2, 1, none⟩ = some (.int .i64 2) ∧ w'.cell? ⟨P2, 2, none⟩ = some (.slice (some ⟨P1, 0, none⟩) 1 1) ∧ w'.cell? ⟨P4, 0, none⟩ = some (.int .i64 3) ∧ w'.cell? ⟨P4, 1, none⟩ = some (.int .i64 0) ∧ w'.cell? ⟨P4, 2, none⟩ = some (.slice (some ⟨P3, 0, none⟩) 1 1)) (by kernel_rfl) (HKS.out _ hbd) (fun hS => ?_)
    simp only [List.size_toArray, List.length_cons, List.length_nil, Nat.reduceAdd]
    refine wpAnyH_take (i := 1) (v := .agg #[.int .i64 5, .int .i64 2, .slice none 0 0]) rfl (by kernel_rfl) (by kernel_rfl) (by kernel_rfl) (fun _ _ _ h => h) (Or.inl ⟨by kernel_rfl, ?_⟩) hS ?_
    · intro w' hSw
      obtain ⟨s0, s1, s2, s3, s4, s5, s6, s7, s8⟩ := hSw
      go_simp
    try simp only [Act.put, List.setIfInBounds_toArray]
    refine wpAnyH_take (i := 2) (v := .agg #[.int .i64 2, .int .i64 0, .slice none 0 0]) rfl (by kernel_rfl) (by kernel_rfl) (by kernel_rfl) (fun _ _ _ h => h) (Or.inl ⟨by kernel_rfl, ?_⟩) hS ?_
    · intro w' hSw
      obtain ⟨s0, s1, s2, s3, s4, s5, s6, s7, s8⟩ := hSw
      go_simp
    try simp only [Act.put]
    refine wpAnyH_ready (rs := [0]) (by kernel_rfl) (by simp) ?_
    refine AllReadyH.cons rfl (fun KN hK => ?_) AllReadyH.nil
    go_simp
    refine (vNatC _).mono ?_
    rintro e w50 ⟨q5, rfl, hdw50, hnw50⟩
    have hbw50 := hbd.trans (hnw50.mono hbd.size)
    refine hK.out _ _ (HKS.out _ hbw50) (fun hS => ?_)
    clear hK KN
    try simp only [Act.put, List.setIfInBounds_toArray, List.set_cons_zero, List.set_cons_succ]
    refine wpAnyH_ready (rs := [3]) (by kernel_rfl) (by simp) ?_
    refine AllReadyH.cons rfl (fun KN hK => ?_) AllReadyH.nil
    go_simp
    refine (HTB.out _ q5 hdw50).mono ?_
    rintro e w51 ⟨rfl, hnw51⟩
    have hbw51 := hbw50.trans (hnw51.mono hbw50.size)
    refine hK.out _ _ (HKS.out _ hbw51) (fun hS => ?_)
    clear hK KN
    try simp only [Act.put, List.setIfInBounds_toArray, List.set_cons_zero, List.set_cons_succ]
    refine wpAnyH_take (i := 4) (v := .int .i64 3) rfl (by kernel_rfl) (by kernel_rfl) (by kernel_rfl) (fun _ _ _ h => h) (Or.inl ⟨by kernel_rfl, ?_⟩) hS ?_
    · intro w' hSw
      obtain ⟨s0, s1, s2, s3, s4, s5, s6, s7, s8⟩ := hSw
      go_simp
    try simp only [Act.put, List.setIfInBounds_toArray]
    refine wpAnyH_done (by kernel_rfl) ?_ _
    try simp only [List.setIfInBounds_toArray]
    try simp only [List.getElem_toArray, List.getElem_cons_succ, List.getElem_cons_zero, List.set_cons_zero, List.set_cons_succ]
    replace c0 := (hbw51.cell (cell_lt c0)).trans c0
    replace c1 := (hbw51.cell (cell_lt c1)).trans c1
    replace c2 := (hbw51.cell (cell_lt c2)).trans c2
    replace d0 := (hbw51.cell (cell_lt d0)).trans d0
    replace d1 := (hbw51.cell (cell_lt d1)).trans d1
    replace d2 := (hbw51.cell (cell_lt d2)).trans d2
    replace e0 := (hbw51.cell (cell_lt e0)).trans e0
    replace e1 := (hbw51.cell (cell_lt e1)).trans e1
    replace e2 := (hbw51.cell (cell_lt e2)).trans e2
    have HBw51 := Lib.hid (HBw42.out.trans (hbw51.mono HBw42.out.size))
    have HXw51 : Hid (Below W5.heap.size W5 w51) := Lib.hid (HXw42.out.trans (hbw51.mono HXw42.out.size))
    clear hS HKS hbd hdw50 hnw50 hbw50 hnw51 hbw51
    go_wp2_with fail
    have HKS : Hid (∀ w' : World, Below w51.heap.size w51 w' → (fun w' => w'.cell? ⟨w.heap.size, 0, none⟩ = some (.int .i64 2) ∧ w'.cell? ⟨w.heap.size, 1, none⟩ = some (.int .i64 0) ∧ w'.cell? ⟨w.heap.size, 2, none⟩ = some (.slice none 0 0) ∧ w'.cell? ⟨P2, 0, none⟩ = some (.int .i64 5) ∧ w'.cell? ⟨P2, 1, none⟩ = some (.int .i64 2) ∧ w'.cell? ⟨P2, 2, none⟩ = some (.slice (some ⟨P1, 0, none⟩) 1 1) ∧ w'.cell? ⟨P4, 0, none⟩ = some (.int .i64 3) ∧ w'.cell? ⟨P4, 1, none⟩ = some (.int .i64 0) ∧ w'.cell? ⟨P4, 2, none⟩ = some (.slice (some ⟨P3, 0, none⟩) 1 1)) w') := Lib.hid fun w' h => ⟨(h.cell (cell_lt c0)).trans c0, (h.cell (cell_lt c1)).trans c1, (h.cell (cell_lt c2)).trans c2, (h.cell (cell_lt d0)).trans d0, (h.cell (cell_lt d1)).trans d1, (h.cell (cell_lt d2)).trans d2, (h.cell (cell_lt e0)).trans e0, (h.cell (cell_lt e1)).trans e1, (h.cell (cell_lt e2)).trans e2⟩
    have hbd : Below w51.heap.size w51 w51.drew := (Below.refl _ w51).drew
    refine wp_region_held_drew (S := fun w' => w'.cell? ⟨w.heap.size, 0, none⟩ = some (.int .i64 2) ∧ w'.cell? ⟨w.heap.size, 1, none⟩ = some (.int .i64 0) ∧ w'.cell? ⟨w.heap.size, 2, none⟩ = some (.slice none 0 0) ∧ w'.cell? ⟨P2, 0, none⟩ = some (.int .i64 5) ∧ w'.cell? ⟨P2, 1, none⟩ = some (.int .i64 2) ∧ w'.cell? ⟨P2, 2, none⟩ = some (.slice (some ⟨P1, 0, none⟩) 1 1) ∧ w'.cell? ⟨P4, 0, none⟩ = some (.int .i64 3) ∧ w'.cell? ⟨P4, 1, none⟩ = some (.int .i64 0) ∧ w'.cell? ⟨P4, 2, none⟩ = some (.slice (some ⟨P3, 0, none⟩) 1 1)) (by kernel_rfl) (HKS.out _ hbd) (fun hS => ?_)
    simp only [List.size_toArray, List.length_cons, List.length_nil, Nat.reduceAdd]
    refine wpAnyH_take (i := 1) (v := .agg #[.int .i64 3, .int .i64 0, .slice (some ⟨P3, 0, none⟩) 1 1]) rfl (by kernel_rfl) (by kernel_rfl) (by kernel_rfl) (fun _ _ _ h => h) (Or.inl ⟨by kernel_rfl, ?_⟩) hS ?_
    · intro w' hSw
      obtain ⟨s0, s1, s2, s3, s4, s5, s6, s7, s8⟩ := hSw
      go_simp
    try simp only [Act.put, List.setIfInBounds_toArray]
    refine wpAnyH_ready (rs := [0]) (by kernel_rfl) (by simp) ?_
    refine AllReadyH.cons rfl (fun KN hK => ?_) AllReadyH.nil
    go_simp
    refine (vNatC _).mono ?_
    rintro e w60 ⟨q6, rfl, hdw60, hnw60⟩
    have hbw60 := hbd.trans (hnw60.mono hbd.size)
    refine hK.out _ _ (HKS.out _ hbw60) (fun hS => ?_)
    clear hK KN
    try simp only [Act.put, List.setIfInBounds_toArray, List.set_cons_zero, List.set_cons_succ]
    refine wpAnyH_ready (rs := [2]) (by kernel_rfl) (by simp) ?_
    refine AllReadyH.cons rfl (fun KN hK => ?_) AllReadyH.nil
    go_simp
    refine (vNatC _).mono ?_
    rintro e w61 ⟨q7, rfl, hdw61, hnw61⟩
    have hbw61 := hbw60.trans (hnw61.mono hbw60.size)
    refine hK.out _ _ (HKS.out _ hbw61) (fun hS => ?_)
    clear hK KN
    try simp only [Act.put, List.setIfInBounds_toArray, List.set_cons_zero, List.set_cons_succ]
    obtain ⟨bN, oN, sN, kN, hN, AN, nN, cN, eN, g9, g0, g1, g2, hrN⟩ := hdw61.at_ 2 _ rfl
    cases eN
    simp only [Nat.zero_add, Nat.reduceMul, Nat.reduceAdd] at g0 g1 g2
    have HRN := Lib.hid hrN
    clear hrN g9
    refine wpAnyH_take (i := 3) (v := .pointer (some ⟨q7, 8, none⟩)) rfl (by kernel_rfl) (by kernel_rfl) (by kernel_rfl) (fun _ _ _ h => h) (Or.inl ⟨by kernel_rfl, ?_⟩) hS ?_
    · intro w' hSw
      obtain ⟨s0, s1, s2, s3, s4, s5, s6, s7, s8⟩ := hSw
      go_simp
    try simp only [Act.put, List.setIfInBounds_toArray]
    refine wpAnyH_take (i := 4) (v := .pointer (some ⟨q7, 9, none⟩)) rfl (by kernel_rfl) (by kernel_rfl) (by kernel_rfl) (fun _ _ _ h => h) (Or.inl ⟨by kernel_rfl, ?_⟩) hS ?_
    · intro w' hSw
      obtain ⟨s0, s1, s2, s3, s4, s5, s6, s7, s8⟩ := hSw
      go_simp
    try simp only [Act.put]
    refine wpAnyH_ready (rs := [5]) (by kernel_rfl) (by simp) ?_
    refine AllReadyH.cons rfl (fun KN hK => ?_) AllReadyH.nil
    go_simp
    refine hK.out _ _ (HKS.out _ hbw61) (fun hS => ?_)
    clear hK KN
    try simp only [Act.put, List.setIfInBounds_toArray, List.set_cons_zero, List.set_cons_succ]
    refine wpAnyH_ready (rs := [6]) (by kernel_rfl) (by simp) ?_
    refine AllReadyH.cons rfl (fun KN hK => ?_) AllReadyH.nil
    go_simp
    refine (HTC.out _ q6 _ _ _ _ _ (HXw51.out.trans (hbw61.mono HXw51.out.size)) (hdw60.keep hnw61) HRN.out).mono ?_
    rintro e w62 ⟨rfl, hnw62⟩
    have hbw62 := hbw61.trans (hnw62.mono hbw61.size)
    refine hK.out _ _ (HKS.out _ hbw62) (fun hS => ?_)
    clear hK KN
    try simp only [Act.put, List.setIfInBounds_toArray, List.set_cons_zero, List.set_cons_succ]
    refine wpAnyH_take (i := 7) (v := .int .i64 0) rfl (by kernel_rfl) (by kernel_rfl) (by kernel_rfl) (fun _ _ _ h => h) (Or.inl ⟨by kernel_rfl, ?_⟩) hS ?_
    · intro w' hSw
      obtain ⟨s0, s1, s2, s3, s4, s5, s6, s7, s8⟩ := hSw
      go_simp
    try simp only [Act.put, List.setIfInBounds_toArray]
    refine wpAnyH_done (by kernel_rfl) ?_ _
    try simp only [List.setIfInBounds_toArray]
    try simp only [List.getElem_toArray, List.getElem_cons_succ, List.getElem_cons_zero, List.set_cons_zero, List.set_cons_succ]
    replace c0 := (hbw62.cell (cell_lt c0)).trans c0
    replace c1 := (hbw62.cell (cell_lt c1)).trans c1
    replace c2 := (hbw62.cell (cell_lt c2)).trans c2
    replace d0 := (hbw62.cell (cell_lt d0)).trans d0
    replace d1 := (hbw62.cell (cell_lt d1)).trans d1
    replace d2 := (hbw62.cell (cell_lt d2)).trans d2
    replace e0 := (hbw62.cell (cell_lt e0)).trans e0
    replace e1 := (hbw62.cell (cell_lt e1)).trans e1
    replace e2 := (hbw62.cell (cell_lt e2)).trans e2
    have HBw62 := Lib.hid (HBw51.out.trans (hbw62.mono HBw51.out.size))
    have HXw62 : Hid (Below W5.heap.size W5 w62) := Lib.hid (HXw51.out.trans (hbw62.mono HXw51.out.size))
    clear hS HKS hbd hdw60 hnw60 hbw60 hdw61 hnw61 hbw61 hnw62 hbw62 g0 g1 g2
    go_wp2_with fail
    have HKS : Hid (∀ w' : World, Below w62.heap.size w62 w' → (fun w' => w'.cell? ⟨w.heap.size, 0, none⟩ = some (.int .i64 2) ∧ w'.cell? ⟨w.heap.size, 1, none⟩ = some (.int .i64 0) ∧ w'.cell? ⟨w.heap.size, 2, none⟩ = some (.slice none 0 0) ∧ w'.cell? ⟨P2, 0, none⟩ = some (.int .i64 5) ∧ w'.cell? ⟨P2, 1, none⟩ = some (.int .i64 2) ∧ w'.cell? ⟨P2, 2, none⟩ = some (.slice (some ⟨P1, 0, none⟩) 1 1) ∧ w'.cell? ⟨P4, 0, none⟩ = some (.int .i64 3) ∧ w'.cell? ⟨P4, 1, none⟩ = some (.int .i64 0) ∧ w'.cell? ⟨P4, 2, none⟩ = some (.slice (some ⟨P3, 0, none⟩) 1 1)) w') := Lib.hid fun w' h => ⟨(h.cell (cell_lt c0)).trans c0, (h.cell (cell_lt c1)).trans c1, (h.cell (cell_lt c2)).trans c2, (h.cell (cell_lt d0)).trans d0, (h.cell (cell_lt d1)).trans d1, (h.cell (cell_lt d2)).trans d2, (h.cell (cell_lt e0)).trans e0, (h.cell (cell_lt e1)).trans e1, (h.cell (cell_lt e2)).trans e2⟩
    have hbd : Below w62.heap.size w62 w62.drew := (Below.refl _ w62).drew
    refine wp_region_held_drew (S := fun w' => w'.cell? ⟨w.heap.size, 0, none⟩ = some (.int .i64 2) ∧ w'.cell? ⟨w.heap.size, 1, none⟩ = some (.int .i64 0) ∧ w'.cell? ⟨w.heap.size, 2, none⟩ = some (.slice none 0 0) ∧ w'.cell? ⟨P2, 0, none⟩ = some (.int .i64 5) ∧ w'.cell? ⟨P2, 1, none⟩ = some (.int .i64 2) ∧ w'.cell? ⟨P2, 2, none⟩ = some (.slice (some ⟨P1, 0, none⟩) 1 1) ∧ w'.cell? ⟨P4, 0, none⟩ = some (.int .i64 3) ∧ w'.cell? ⟨P4, 1, none⟩ = some (.int .i64 0) ∧ w'.cell? ⟨P4, 2, none⟩ = some (.slice (some ⟨P3, 0, none⟩) 1 1)) (by kernel_rfl) (HKS.out _ hbd) (fun hS => ?_)
    simp only [List.size_toArray, List.length_cons, List.length_nil, Nat.reduceAdd]
    refine wpAnyH_take (i := 1) (v := .agg #[.int .i64 5, .int .i64 2, .slice (some ⟨P1, 0, none⟩) 1 1]) rfl (by kernel_rfl) (by kernel_rfl) (by kernel_rfl) (fun _ _ _ h => h) (Or.inl ⟨by kernel_rfl, ?_⟩) hS ?_
    · intro w' hSw
      obtain ⟨s0, s1, s2, s3, s4, s5, s6, s7, s8⟩ := hSw
      go_simp
    try simp only [Act.put, List.setIfInBounds_toArray]
    refine wpAnyH_take (i := 2) (v := .agg #[.int .i64 2, .int .i64 0, .slice none 0 0]) rfl (by kernel_rfl) (by kernel_rfl) (by kernel_rfl) (fun _ _ _ h => h) (Or.inl ⟨by kernel_rfl, ?_⟩) hS ?_
    · intro w' hSw
      obtain ⟨s0, s1, s2, s3, s4, s5, s6, s7, s8⟩ := hSw
      go_simp
    try simp only [Act.put]
    refine wpAnyH_ready (rs := [0]) (by kernel_rfl) (by simp) ?_
    refine AllReadyH.cons rfl (fun KN hK => ?_) AllReadyH.nil
    go_simp
    refine (vNatC _).mono ?_
    rintro e w70 ⟨q8, rfl, hdw70, hnw70⟩
    have hbw70 := hbd.trans (hnw70.mono hbd.size)
    refine hK.out _ _ (HKS.out _ hbw70) (fun hS => ?_)
    clear hK KN
    try simp only [Act.put, List.setIfInBounds_toArray, List.set_cons_zero, List.set_cons_succ]
    refine wpAnyH_ready (rs := [3]) (by kernel_rfl) (by simp) ?_
    refine AllReadyH.cons rfl (fun KN hK => ?_) AllReadyH.nil
    go_simp
    refine (HTD.out _ q8 (HXw62.out.trans (hbw70.mono HXw62.out.size)) hdw70).mono ?_
    rintro e w71 ⟨rfl, hnw71⟩
    have hbw71 := hbw70.trans (hnw71.mono hbw70.size)
    refine hK.out _ _ (HKS.out _ hbw71) (fun hS => ?_)
    clear hK KN
    try simp only [Act.put, List.setIfInBounds_toArray, List.set_cons_zero, List.set_cons_succ]
    refine wpAnyH_take (i := 4) (v := .int .i64 2) rfl (by kernel_rfl) (by kernel_rfl) (by kernel_rfl) (fun _ _ _ h => h) (Or.inl ⟨by kernel_rfl, ?_⟩) hS ?_
    · intro w' hSw
      obtain ⟨s0, s1, s2, s3, s4, s5, s6, s7, s8⟩ := hSw
      go_simp
    try simp only [Act.put, List.setIfInBounds_toArray]
    refine wpAnyH_done (by kernel_rfl) ?_ _
    try simp only [List.setIfInBounds_toArray]
    try simp only [List.getElem_toArray, List.getElem_cons_succ, List.getElem_cons_zero, List.set_cons_zero, List.set_cons_succ]
    replace c0 := (hbw71.cell (cell_lt c0)).trans c0
    replace c1 := (hbw71.cell (cell_lt c1)).trans c1
    replace c2 := (hbw71.cell (cell_lt c2)).trans c2
    replace d0 := (hbw71.cell (cell_lt d0)).trans d0
    replace d1 := (hbw71.cell (cell_lt d1)).trans d1
    replace d2 := (hbw71.cell (cell_lt d2)).trans d2
    replace e0 := (hbw71.cell (cell_lt e0)).trans e0
    replace e1 := (hbw71.cell (cell_lt e1)).trans e1
    replace e2 := (hbw71.cell (cell_lt e2)).trans e2
    have HBw71 := Lib.hid (HBw62.out.trans (hbw71.mono HBw62.out.size))
    have HXw71 : Hid (Below W5.heap.size W5 w71) := Lib.hid (HXw62.out.trans (hbw71.mono HXw62.out.size))
    clear hS HKS hbd hdw70 hnw70 hbw70 hnw71 hbw71
    go_wp2_with fail
    have HKS : Hid (∀ w' : World, Below w71.heap.size w71 w' → (fun w' => w'.cell? ⟨w.heap.size, 0, none⟩ = some (.int .i64 2) ∧ w'.cell? ⟨w.heap.size, 1, none⟩ = some (.int .i64 0) ∧ w'.cell? ⟨w.heap.size, 2, none⟩ = some (.slice none 0 0) ∧ w'.cell? ⟨P2, 0, none⟩ = some (.int .i64 5) ∧ w'.cell? ⟨P2, 1, none⟩ = some (.int .i64 2) ∧ w'.cell? ⟨P2, 2, none⟩ = some (.slice (some ⟨P1, 0, none⟩) 1 1) ∧ w'.cell? ⟨P4, 0, none⟩ = some (.int .i64 3) ∧ w'.cell? ⟨P4, 1, none⟩ = some (.int .i64 0) ∧ w'.cell? ⟨P4, 2, none⟩ = some (.slice (some ⟨P3, 0, none⟩) 1 1)) w') := Lib.hid fun w' h => ⟨(h.cell (cell_lt c0)).trans c0, (h.cell (cell_lt c1)).trans c1, (h.cell (cell_lt c2)).trans c2, (h.cell (cell_lt d0)).trans d0, (h.cell (cell_lt d1)).trans d1, (h.cell (cell_lt d2)).trans d2, (h.cell (cell_lt e0)).trans e0, (h.cell (cell_lt e1)).trans e1, (h.cell (cell_lt e2)).trans e2⟩
    have hbd : Below w71.heap.size w71 w71.drew := (Below.refl _ w71).drew
    refine wp_region_held_drew (S := fun w' => w'.cell? ⟨w.heap.size, 0, none⟩ = some (.int .i64 2) ∧ w'.cell? ⟨w.heap.size, 1, none⟩ = some (.int .i64 0) ∧ w'.cell? ⟨w.heap.size, 2, none⟩ = some (.slice none 0 0) ∧ w'.cell? ⟨P2, 0, none⟩ = some (.int .i64 5) ∧ w'.cell? ⟨P2, 1, none⟩ = some (.int .i64 2) ∧ w'.cell? ⟨P2, 2, none⟩ = some (.slice (some ⟨P1, 0, none⟩) 1 1) ∧ w'.cell? ⟨P4, 0, none⟩ = some (.int .i64 3) ∧ w'.cell? ⟨P4, 1, none⟩ = some (.int .i64 0) ∧ w'.cell? ⟨P4, 2, none⟩ = some (.slice (some ⟨P3, 0, none⟩) 1 1)) (by kernel_rfl) (HKS.out _ hbd) (fun hS => ?_)
    simp only [List.size_toArray, List.length_cons, List.length_nil, Nat.reduceAdd]
    refine wpAnyH_take (i := 0) (v := .int .i64 0) rfl (by kernel_rfl) (by kernel_rfl) (by kernel_rfl) (fun _ _ _ h => h) (Or.inl ⟨by kernel_rfl, ?_⟩) hS ?_
    · intro w' hSw
      obtain ⟨s0, s1, s2, s3, s4, s5, s6, s7, s8⟩ := hSw
      go_simp
    try simp only [Act.put, List.setIfInBounds_toArray]
    refine wpAnyH_take (i := 1) (v := .bool true) rfl (by kernel_rfl) (by kernel_rfl) (by kernel_rfl) (fun _ _ _ h => h) (Or.inl ⟨by kernel_rfl, ?_⟩) hS ?_
    · intro w' hSw
      obtain ⟨s0, s1, s2, s3, s4, s5, s6, s7, s8⟩ := hSw
      go_simp
    try simp only [Act.put]
    refine wpAnyH_take (i := 2) (v := .bool true) rfl (by kernel_rfl) (by kernel_rfl) (by kernel_rfl) (fun _ _ _ h => h) (Or.inl ⟨by kernel_rfl, ?_⟩) hS ?_
    · intro w' hSw
      obtain ⟨s0, s1, s2, s3, s4, s5, s6, s7, s8⟩ := hSw
      go_simp
    try simp only [Act.put]
    refine wpAnyH_take (i := 3) (v := .int .i64 3) rfl (by kernel_rfl) (by kernel_rfl) (by kernel_rfl) (fun _ _ _ h => h) (Or.inl ⟨by kernel_rfl, ?_⟩) hS ?_
    · intro w' hSw
      obtain ⟨s0, s1, s2, s3, s4, s5, s6, s7, s8⟩ := hSw
      go_simp
    try simp only [Act.put]
    refine wpAnyH_take (i := 4) (v := .bool true) rfl (by kernel_rfl) (by kernel_rfl) (by kernel_rfl) (fun _ _ _ h => h) (Or.inl ⟨by kernel_rfl, ?_⟩) hS ?_
    · intro w' hSw
      obtain ⟨s0, s1, s2, s3, s4, s5, s6, s7, s8⟩ := hSw
      go_simp
    try simp only [Act.put]
    refine wpAnyH_take (i := 5) (v := .bool true) rfl (by kernel_rfl) (by kernel_rfl) (by kernel_rfl) (fun _ _ _ h => h) (Or.inl ⟨by kernel_rfl, ?_⟩) hS ?_
    · intro w' hSw
      obtain ⟨s0, s1, s2, s3, s4, s5, s6, s7, s8⟩ := hSw
      go_simp
    try simp only [Act.put]
    refine wpAnyH_take (i := 6) (v := .bool true) rfl (by kernel_rfl) (by kernel_rfl) (by kernel_rfl) (fun _ _ _ h => h) (Or.inl ⟨by kernel_rfl, ?_⟩) hS ?_
    · intro w' hSw
      obtain ⟨s0, s1, s2, s3, s4, s5, s6, s7, s8⟩ := hSw
      go_simp
    try simp only [Act.put]
    refine wpAnyH_take (i := 7) (v := .int .i64 0) rfl (by kernel_rfl) (by kernel_rfl) (by kernel_rfl) (fun _ _ _ h => h) (Or.inl ⟨by kernel_rfl, ?_⟩) hS ?_
    · intro w' hSw
      obtain ⟨s0, s1, s2, s3, s4, s5, s6, s7, s8⟩ := hSw
      go_simp
    try simp only [Act.put]
    refine wpAnyH_take (i := 8) (v := .bool true) rfl (by kernel_rfl) (by kernel_rfl) (by kernel_rfl) (fun _ _ _ h => h) (Or.inl ⟨by kernel_rfl, ?_⟩) hS ?_
    · intro w' hSw
      obtain ⟨s0, s1, s2, s3, s4, s5, s6, s7, s8⟩ := hSw
      go_simp
    try simp only [Act.put]
    refine wpAnyH_take (i := 9) (v := .bool true) rfl (by kernel_rfl) (by kernel_rfl) (by kernel_rfl) (fun _ _ _ h => h) (Or.inl ⟨by kernel_rfl, ?_⟩) hS ?_
    · intro w' hSw
      obtain ⟨s0, s1, s2, s3, s4, s5, s6, s7, s8⟩ := hSw
      go_simp
    try simp only [Act.put]
    refine wpAnyH_take (i := 10) (v := .bool true) rfl (by kernel_rfl) (by kernel_rfl) (by kernel_rfl) (fun _ _ _ h => h) (Or.inl ⟨by kernel_rfl, ?_⟩) hS ?_
    · intro w' hSw
      obtain ⟨s0, s1, s2, s3, s4, s5, s6, s7, s8⟩ := hSw
      go_simp
    try simp only [Act.put]
    refine wpAnyH_take (i := 11) (v := .int .i64 2) rfl (by kernel_rfl) (by kernel_rfl) (by kernel_rfl) (fun _ _ _ h => h) (Or.inl ⟨by kernel_rfl, ?_⟩) hS ?_
    · intro w' hSw
      obtain ⟨s0, s1, s2, s3, s4, s5, s6, s7, s8⟩ := hSw
      go_simp
    try simp only [Act.put]
    refine wpAnyH_take (i := 12) (v := .bool true) rfl (by kernel_rfl) (by kernel_rfl) (by kernel_rfl) (fun _ _ _ h => h) (Or.inl ⟨by kernel_rfl, ?_⟩) hS ?_
    · intro w' hSw
      obtain ⟨s0, s1, s2, s3, s4, s5, s6, s7, s8⟩ := hSw
      go_simp
    try simp only [Act.put]
    refine wpAnyH_take (i := 13) (v := .bool true) rfl (by kernel_rfl) (by kernel_rfl) (by kernel_rfl) (fun _ _ _ h => h) (Or.inl ⟨by kernel_rfl, ?_⟩) hS ?_
    · intro w' hSw
      obtain ⟨s0, s1, s2, s3, s4, s5, s6, s7, s8⟩ := hSw
      go_simp
    try simp only [Act.put]
    refine wpAnyH_take (i := 14) (v := .bool true) rfl (by kernel_rfl) (by kernel_rfl) (by kernel_rfl) (fun _ _ _ h => h) (Or.inl ⟨by kernel_rfl, ?_⟩) hS ?_
    · intro w' hSw
      obtain ⟨s0, s1, s2, s3, s4, s5, s6, s7, s8⟩ := hSw
      go_simp
    try simp only [Act.put]
    refine wpAnyH_take (i := 16) (v := .agg #[.int .i64 2, .int .i64 0, .slice none 0 0]) rfl (by kernel_rfl) (by kernel_rfl) (by kernel_rfl) (fun _ _ _ h => h) (Or.inl ⟨by kernel_rfl, ?_⟩) hS ?_
    · intro w' hSw
      obtain ⟨s0, s1, s2, s3, s4, s5, s6, s7, s8⟩ := hSw
      go_simp
    try simp only [Act.put]
    refine wpAnyH_ready (rs := [15]) (by kernel_rfl) (by simp) ?_
    refine AllReadyH.cons rfl (fun KN hK => ?_) AllReadyH.nil
    go_simp
    refine (vNatC _).mono ?_
    rintro e w80 ⟨q9, rfl, hdw80, hnw80⟩
    have hbw80 := hbd.trans (hnw80.mono hbd.size)
    refine hK.out _ _ (HKS.out _ hbw80) (fun hS => ?_)
    clear hK KN
    try simp only [Act.put, List.setIfInBounds_toArray, List.set_cons_zero, List.set_cons_succ]
    refine wpAnyH_ready (rs := [17]) (by kernel_rfl) (by simp) ?_
    refine AllReadyH.cons rfl (fun KN hK => ?_) AllReadyH.nil
    go_simp
    refine (HTE.out _ q9 hdw80).mono ?_
    rintro e w81 ⟨rfl, hnw81⟩
    have hbw81 := hbw80.trans (hnw81.mono hbw80.size)
    refine hK.out _ _ (HKS.out _ hbw81) (fun hS => ?_)
    clear hK KN
    try simp only [Act.put, List.setIfInBounds_toArray, List.set_cons_zero, List.set_cons_succ]
    refine wpAnyH_take (i := 18) (v := .bool true) rfl (by kernel_rfl) (by kernel_rfl) (by kernel_rfl) (fun _ _ _ h => h) (Or.inl ⟨by kernel_rfl, ?_⟩) hS ?_
    · intro w' hSw
      obtain ⟨s0, s1, s2, s3, s4, s5, s6, s7, s8⟩ := hSw
      go_simp
    try simp only [Act.put, List.setIfInBounds_toArray]
    refine wpAnyH_take (i := 19) (v := .bool true) rfl (by kernel_rfl) (by kernel_rfl) (by kernel_rfl) (fun _ _ _ h => h) (Or.inl ⟨by kernel_rfl, ?_⟩) hS ?_
    · intro w' hSw
      obtain ⟨s0, s1, s2, s3, s4, s5, s6, s7, s8⟩ := hSw
      go_simp
    try simp only [Act.put]
    refine wpAnyH_take (i := 20) (v := .bool true) rfl (by kernel_rfl) (by kernel_rfl) (by kernel_rfl) (fun _ _ _ h => h) (Or.inl ⟨by kernel_rfl, ?_⟩) hS ?_
    · intro w' hSw
      obtain ⟨s0, s1, s2, s3, s4, s5, s6, s7, s8⟩ := hSw
      go_simp
    try simp only [Act.put]
    refine wpAnyH_done (by kernel_rfl) ?_ _
    try simp only [List.setIfInBounds_toArray]
    try simp only [List.getElem_toArray, List.getElem_cons_succ, List.getElem_cons_zero, List.setIfInBounds_toArray, List.set_cons_zero, List.set_cons_succ]
    have HBF := Lib.hid (HBw71.out.trans (hbw81.mono HBw71.out.size))
    clear hS HKS hbd hdw80 hnw80 hbw80 hnw81 hbw81
    go_wp2_with fail
    refine bodyPost_ret (v := .bool true) (by simp [results, Try.results20, go_sem]) rfl ?_
    exact ⟨rfl, HBF.out⟩

end Go.Proofs.Ytpigmefjcklpkaa

/-
  Contract of the laws' own awake. No statement is proved here.
-/
namespace Go.Proofs.Ytpigmefjcklpkaa
open Go.ChangeShapes Go.WideShapes Go.ChangeAt Go.RowKit
set_option linter.unusedVariables false

def SiE (i e : Int) (w : World) (en : Ending) (w' : World) : Prop := en = .returned (.tuple #[.int .i64 i, .int .i64 e]) ∧ Below w.heap.size w w'
theorem ySigD (sg : List T) (A : Option Addr) (n c : Nat) (w : World) (hx : DL w sg A n c) (hl : LwV sg) {i e : Int} (hi : ((siV sg).1 : Int) = i) (he : (siV sg).2 = e) :
    Calls Try.prog 14 #[.slice A n c] w (SiE i e w) := by
  subst hi; subst he
  exact ySigC sg A n c w hx hl
theorem low_leafY {k : Int} (hk : k ≠ 4) : okT loV (.node k 0 []) := by rw [okT, okL]; exact ⟨fun e => absurd e hk, trivial⟩
theorem nat_lw : LwV natS := nat_low.sg
theorem zn_lw : LwV [natT, .node 0 0 []] := fun t ht _ => by
  simp only [natT, List.mem_cons, List.not_mem_nil, or_false] at ht
  rcases ht with rfl | rfl <;> exact low_leafY (by decide)
theorem aw_s : siV natS = (0, 0) := by kernel_rfl
theorem aw_z : siV [natT, .node 0 0 []] = (0, 2) := by kernel_rfl
theorem aw_c1 : cfV [natT] [natT, natT] = true := by kernel_rfl
theorem aw_c2 : cfV [] [natT] = false := by kernel_rfl
set_option maxRecDepth 100000 in
set_option maxHeartbeats 16000000 in
theorem yAwakeC (w : World) : Calls Try.prog 12 #[] w fun e w' => e = .returned (.bool true) ∧ Below w.heap.size w w' := by
  go_enter Try.func12, Try.ntmps12
  go_wp2_with fail
  refine (vNatC _).mono ?_
  rintro e w1 ⟨q, rfl, hdl, hb1⟩
  have HD := Lib.hid hdl
  have HB1 := Lib.hid hb1; clear hb1 hdl
  go_wp2_with fail
  refine (ySigD natS _ 3 3 w1 HD.out nat_lw (congrArg (fun p => ((p.1 : Nat) : Int)) aw_s) (congrArg Prod.snd aw_s)).mono ?_
  rintro e w2 ⟨rfl, hb2⟩
  have HD2 := Lib.hid (HD.out.keep hb2)
  have HB2 := Lib.hid (HB1.out.trans (hb2.mono HB1.out.size))
  clear hb2 HD HB1
  go_wp2_with fail
  obtain ⟨b, o, s0, k0, h0, A0, n0, c0, e0, d0, d1, d2, d3, hr0⟩ := HD2.out.at_ 0 _ rfl
  cases e0
  obtain ⟨b, o, s1, k1, h1, A1, n1, c1, e1, f0, f1, f2, f3, hr1⟩ := HD2.out.at_ 1 _ rfl
  cases e1
  simp only [Nat.zero_mul, Nat.zero_add, Nat.one_mul, Nat.reduceAdd] at d0 d1 d2 d3 f0 f1 f2 f3
  have HR0 := Lib.hid hr0
  have HR1 := Lib.hid hr1
  clear hr0 hr1
  have HKS : Hid (∀ w' : World, Below w2.heap.size w2 w' → (fun w' => w'.cell? ⟨q, 0, none⟩ = some (.string s0) ∧ w'.cell? ⟨q, 1, none⟩ = some (.int .i64 k0) ∧ w'.cell? ⟨q, 2, none⟩ = some (.int .i64 h0) ∧ w'.cell? ⟨q, 3, none⟩ = some (.slice A0 n0 c0) ∧ w'.cell? ⟨q, 4, none⟩ = some (.string s1) ∧ w'.cell? ⟨q, 5, none⟩ = some (.int .i64 k1) ∧ w'.cell? ⟨q, 6, none⟩ = some (.int .i64 h1) ∧ w'.cell? ⟨q, 7, none⟩ = some (.slice A1 n1 c1)) w') := Lib.hid fun w' h => ⟨(h.cell (cell_lt d0)).trans d0, (h.cell (cell_lt d1)).trans d1, (h.cell (cell_lt d2)).trans d2, (h.cell (cell_lt d3)).trans d3, (h.cell (cell_lt f0)).trans f0, (h.cell (cell_lt f1)).trans f1, (h.cell (cell_lt f2)).trans f2, (h.cell (cell_lt f3)).trans f3⟩
  have hbd : Below w2.heap.size w2 w2.drew := (Below.refl _ w2).drew
  refine wp_region_held_drew (S := fun w' => w'.cell? ⟨q, 0, none⟩ = some (.string s0) ∧ w'.cell? ⟨q, 1, none⟩ = some (.int .i64 k0) ∧ w'.cell? ⟨q, 2, none⟩ = some (.int .i64 h0) ∧ w'.cell? ⟨q, 3, none⟩ = some (.slice A0 n0 c0) ∧ w'.cell? ⟨q, 4, none⟩ = some (.string s1) ∧ w'.cell? ⟨q, 5, none⟩ = some (.int .i64 k1) ∧ w'.cell? ⟨q, 6, none⟩ = some (.int .i64 h1) ∧ w'.cell? ⟨q, 7, none⟩ = some (.slice A1 n1 c1)) (by kernel_rfl) (HKS.out _ hbd) (fun hS => ?_)
  simp only [List.size_toArray, List.length_cons, List.length_nil, Nat.reduceAdd]
  refine wpAnyH_take (i := 0) (v := .slice (some ⟨q, 0, none⟩) 3 3) rfl (by kernel_rfl) (by kernel_rfl) (by kernel_rfl) (fun _ _ _ h => h) (Or.inl ⟨by kernel_rfl, ?_⟩) hS ?_
  · intro w' hSw
    obtain ⟨s0, s1, s2, s3, s4, s5, s6, s7⟩ := hSw
    go_simp
  try simp only [Act.put, List.setIfInBounds_toArray]
  refine wpAnyH_take (i := 1) (v := .pointer (some ⟨q, 4, none⟩)) rfl (by kernel_rfl) (by kernel_rfl) (by kernel_rfl) (fun _ _ _ h => h) (Or.inl ⟨by kernel_rfl, ?_⟩) hS ?_
  · intro w' hSw
    obtain ⟨s0, s1, s2, s3, s4, s5, s6, s7⟩ := hSw
    go_simp
  try simp only [Act.put]
  refine wpAnyH_take (i := 2) (v := .agg #[.string s1, .int .i64 k1, .int .i64 h1, .slice A1 n1 c1]) rfl (by kernel_rfl) (by kernel_rfl) (by kernel_rfl) (fun _ _ _ h => h) (Or.inl ⟨by kernel_rfl, ?_⟩) hS ?_
  · intro w' hSw
    obtain ⟨s0, s1, s2, s3, s4, s5, s6, s7⟩ := hSw
    go_simp
  try simp only [Act.put]
  refine wpAnyH_take (i := 3) (v := .slice (some ⟨q, 0, none⟩) 3 3) rfl (by kernel_rfl) (by kernel_rfl) (by kernel_rfl) (fun _ _ _ h => h) (Or.inl ⟨by kernel_rfl, ?_⟩) hS ?_
  · intro w' hSw
    obtain ⟨s0, s1, s2, s3, s4, s5, s6, s7⟩ := hSw
    go_simp
  try simp only [Act.put]
  refine wpAnyH_take (i := 4) (v := .pointer (some ⟨q, 0, none⟩)) rfl (by kernel_rfl) (by kernel_rfl) (by kernel_rfl) (fun _ _ _ h => h) (Or.inl ⟨by kernel_rfl, ?_⟩) hS ?_
  · intro w' hSw
    obtain ⟨s0, s1, s2, s3, s4, s5, s6, s7⟩ := hSw
    go_simp
  try simp only [Act.put]
  refine wpAnyH_take (i := 5) (v := .agg #[.string s0, .int .i64 k0, .int .i64 h0, .slice A0 n0 c0]) rfl (by kernel_rfl) (by kernel_rfl) (by kernel_rfl) (fun _ _ _ h => h) (Or.inl ⟨by kernel_rfl, ?_⟩) hS ?_
  · intro w' hSw
    obtain ⟨s0, s1, s2, s3, s4, s5, s6, s7⟩ := hSw
    go_simp
  try simp only [Act.put]
  refine wpAnyH_ready (rs := [6]) (by kernel_rfl) (by simp) ?_
  refine AllReadyH.cons rfl (fun KN hK => ?_) AllReadyH.nil
  go_simp
  have hb7 : Below w2.heap.size w2 (w2.alloc (.cells #[.string s1, .int .i64 k1, .int .i64 h1, .slice A1 n1 c1, .string s0, .int .i64 k0, .int .i64 h0, .slice A0 n0 c0] 38)).drew := ((Below.refl _ w2).alloc (Nat.le_refl _) _).drew
  refine hK.out _ _ (HKS.out _ hb7) (fun hS => ?_)
  clear hK KN
  try simp only [Act.put, List.setIfInBounds_toArray, List.set_cons_zero, List.set_cons_succ]
  have xz : Box (w2.alloc (.cells #[.string s1, .int .i64 k1, .int .i64 h1, .slice A1 n1 c1, .string s0, .int .i64 k0, .int .i64 h0, .slice A0 n0 c0] 38)).drew w2.heap.size 38 #[.string s1, .int .i64 k1, .int .i64 h1, .slice A1 n1 c1, .string s0, .int .i64 k0, .int .i64 h0, .slice A0 n0 c0] := Box.drewI (Box.new _ _ _)
  have hdl : DL (w2.alloc (.cells #[.string s1, .int .i64 k1, .int .i64 h1, .slice A1 n1 c1, .string s0, .int .i64 k0, .int .i64 h0, .slice A0 n0 c0] 38)).drew [natT, .node 0 0 []] (some ⟨w2.heap.size, 0, none⟩) 2 2 := ⟨rfl, Nat.le_refl _, by unfold maxLen; omega, fun i x hx => by
    match i, hx with
    | 0, hx => cases hx; exact ⟨_, 0, _, _, _, _, _, _, rfl, xz.cell 0, xz.cell 1, xz.cell 2, xz.cell 3, Rd.keep hb7 _ _ HR1.out⟩
    | 1, hx => cases hx; exact ⟨_, 0, _, _, _, _, _, _, rfl, xz.cell 4, xz.cell 5, xz.cell 6, xz.cell 7, Rd.keep hb7 _ _ HR0.out⟩
    | i + 2, hx => simp at hx⟩
  clear xz
  generalize (w2.alloc (.cells #[.string s1, .int .i64 k1, .int .i64 h1, .slice A1 n1 c1, .string s0, .int .i64 k0, .int .i64 h0, .slice A0 n0 c0] 38)).drew = w7 at *
  refine wpAnyH_ready (rs := [7]) (by kernel_rfl) (by simp) ?_
  refine AllReadyH.cons rfl (fun KN hK => ?_) AllReadyH.nil
  go_simp
  refine (ySigD _ _ 2 2 w7 hdl zn_lw (congrArg (fun p => ((p.1 : Nat) : Int)) aw_z) (congrArg Prod.snd aw_z)).mono ?_
  rintro e w8 ⟨rfl, hb8⟩
  have hb8' : Below w2.heap.size w2 w8 := hb7.trans (hb8.mono hb7.size)
  refine hK.out _ _ (HKS.out _ hb8') (fun hS => ?_)
  clear hK KN
  skip
  refine wpAnyH_take (i := 8) (v := .tuple #[.int .i64 0, .int .i64 2]) rfl (by kernel_rfl) (by kernel_rfl) (by kernel_rfl) (fun _ _ _ h => h) (Or.inl ⟨by kernel_rfl, ?_⟩) hS ?_
  · intro w' hSw
    obtain ⟨s0, s1, s2, s3, s4, s5, s6, s7⟩ := hSw
    go_simp
  try simp only [Act.put, List.setIfInBounds_toArray]
  refine wpAnyH_take (i := 9) (v := .int .i64 0) rfl (by kernel_rfl) (by kernel_rfl) (by kernel_rfl) (fun _ _ _ h => h) (Or.inl ⟨by kernel_rfl, ?_⟩) hS ?_
  · intro w' hSw
    obtain ⟨s0, s1, s2, s3, s4, s5, s6, s7⟩ := hSw
    go_simp
  try simp only [Act.put]
  refine wpAnyH_take (i := 10) (v := .int .i64 2) rfl (by kernel_rfl) (by kernel_rfl) (by kernel_rfl) (fun _ _ _ h => h) (Or.inl ⟨by kernel_rfl, ?_⟩) hS ?_
  · intro w' hSw
    obtain ⟨s0, s1, s2, s3, s4, s5, s6, s7⟩ := hSw
    go_simp
  try simp only [Act.put]
  refine wpAnyH_take (i := 11) (v := .int .i64 0) rfl (by kernel_rfl) (by kernel_rfl) (by kernel_rfl) (fun _ _ _ h => h) (Or.inl ⟨by kernel_rfl, ?_⟩) hS ?_
  · intro w' hSw
    obtain ⟨s0, s1, s2, s3, s4, s5, s6, s7⟩ := hSw
    go_simp
  try simp only [Act.put]
  refine wpAnyH_take (i := 12) (v := .int .i64 2) rfl (by kernel_rfl) (by kernel_rfl) (by kernel_rfl) (fun _ _ _ h => h) (Or.inl ⟨by kernel_rfl, ?_⟩) hS ?_
  · intro w' hSw
    obtain ⟨s0, s1, s2, s3, s4, s5, s6, s7⟩ := hSw
    go_simp
  try simp only [Act.put]
  refine wpAnyH_done (by kernel_rfl) ?_ _
  try simp only [List.setIfInBounds_toArray]
  try simp only [List.getElem_toArray, List.getElem_cons_succ, List.getElem_cons_zero, List.setIfInBounds_toArray, List.set_cons_zero, List.set_cons_succ]
  have HB8 := Lib.hid (HB2.out.trans (hb8'.mono HB2.out.size))
  clear hb8 hb8' hb7 hdl HR0 HR1 hS HKS hbd d0 d1 d2 d3 f0 f1 f2 f3 HD2 HB2
  obtain ⟨W1, hW1⟩ : ∃ W, w8.alloc (.cells #[.int .i64 2, .int .i64 0, .slice none 0 0] 32) = W := ⟨_, rfl⟩
  obtain ⟨W2, hW2⟩ : ∃ W, W1.alloc (.cells #[.int .i64 2, .int .i64 0, .slice none 0 0] 32) = W := ⟨_, rfl⟩
  obtain ⟨W3, hW3⟩ : ∃ W, W2.alloc (.cells #[.int .i64 2, .int .i64 0, .slice none 0 0, .int .i64 2, .int .i64 0, .slice none 0 0] 32) = W := ⟨_, rfl⟩
  have g1 : Below w8.heap.size w8 W1 := by rw [← hW1]; exact (Below.refl _ _).alloc (Nat.le_refl _) _
  have g2 : Below W1.heap.size W1 W2 := by rw [← hW2]; exact (Below.refl _ _).alloc (Nat.le_refl _) _
  have g3 : Below W2.heap.size W2 W3 := by rw [← hW3]; exact (Below.refl _ _).alloc (Nat.le_refl _) _
  have x1 : Box W1 w8.heap.size 32 #[.int .i64 2, .int .i64 0, .slice none 0 0] := by rw [← hW1]; exact Box.new _ _ _
  have l1 : W1.heap.size = w8.heap.size + 1 := by rw [← hW1]; simp
  have l2 : W2.heap.size = w8.heap.size + 1 + 1 := by rw [← hW2, World.size_alloc, l1]
  have x2 : Box W2 (w8.heap.size + 1) 32 #[.int .i64 2, .int .i64 0, .slice none 0 0] := by rw [← hW2]; exact (Box.new _ _ _).at l1
  have x3 : Box W3 (w8.heap.size + 1 + 1) 32 #[.int .i64 2, .int .i64 0, .slice none 0 0, .int .i64 2, .int .i64 0, .slice none 0 0] := by rw [← hW3]; exact (Box.new _ _ _).at l2
  have leaf : ∀ W' : World, Rd W' natT (.agg #[.int .i64 2, .int .i64 0, .slice none 0 0]) := fun W' => rd_leaf (wfV (by omega) (by omega)) (wfV (by omega) (by omega))
  have g23 := g2.trans (g3.mono g2.size)
  have HC1 := Lib.hid (yConformsC [natT] [natT, natT] _ _ 1 1 2 2 W3 (clv_one (x2.keep g3 x2.lt) (leaf _)) (clv_two x3 (leaf _) (leaf _)))
  rw [aw_c1] at HC1
  have HX1 := Lib.hid (x1.keep g23 x1.lt)
  have HBW := Lib.hid (HB8.out.trans ((g1.trans (g23.mono g1.size)).mono HB8.out.size))
  have hlt := x1.lt
  obtain ⟨c0, c1, c2⟩ := x1.three
  have q0 := x1.frozen 0
  have q1 := x1.frozen 1
  have q2 := x1.frozen 2
  have HSZ := Lib.hid (show W3.heap.size = w8.heap.size + 1 + 1 + 1 by rw [← hW3, World.size_alloc, l2])
  clear x1 x2 x3 g1 g2 g3 g23 leaf HB8 l1 l2
  subst hW1
  subst hW2
  subst hW3
  go_wp2_with fail
  clear c0 c1 c2 q0 q1 q2
  refine HC1.out.mono ?_
  rintro e w9 ⟨rfl, hb9⟩
  have HBX := Lib.hid (HBW.out.trans (hb9.mono HBW.out.size))
  obtain ⟨c0, c1, c2⟩ := (HX1.out.keep hb9 HX1.out.lt).three
  have HZ := Lib.hid (Nat.lt_of_lt_of_le HX1.out.lt hb9.size)
  clear HC1 HX1 HBW hlt hb9 HSZ
  obtain ⟨W4, hW4⟩ : ∃ W, w9.alloc (.cells #[.int .i64 2, .int .i64 0, .slice none 0 0] 32) = W := ⟨_, rfl⟩
  have g4 : Below w9.heap.size w9 W4 := by rw [← hW4]; exact (Below.refl _ _).alloc (Nat.le_refl _) _
  have x4 : Box W4 w9.heap.size 32 #[.int .i64 2, .int .i64 0, .slice none 0 0] := by rw [← hW4]; exact Box.new _ _ _
  have HC2 := Lib.hid (yConformsC [] [natT] none _ 0 0 1 1 W4 (clv_nil _ _ _ (Nat.zero_le _)) (clv_one x4 (rd_leaf (wfV (by omega) (by omega)) (wfV (by omega) (by omega)))))
  rw [aw_c2] at HC2
  have HBY := Lib.hid (HBX.out.trans (g4.mono HBX.out.size))
  clear x4 g4 HBX
  subst hW4
  go_wp2_with fail
  refine HC2.out.mono ?_
  rintro e w10 ⟨rfl, hb10⟩
  have HBZ := Lib.hid (HBY.out.trans (hb10.mono HBY.out.size))
  clear hb10 c0 c1 c2 HC2
  go_wp2_with fail
  go_ret
  exact ⟨rfl, HBZ.out⟩
end Go.Proofs.Ytpigmefjcklpkaa

/-
  Terms, and declarations, that are appended to rows of a call's own. No statement is proved here.
-/
namespace Go.Proofs.Ytpigmefjcklpkaa
open Go.ChangeShapes Go.WideShapes Go.ChangeAt Go.RowKit
set_option linter.unusedVariables false

theorem ite_of {c : Prop} [Decidable c] {p q : Prop} (h : c) (hp : p) : if c then p else q := by rw [if_pos h]; exact hp
/-- cells that are terms, three by three, as some world reads what they hold -/
def KTv (W0 : World) (cs : List Value) (xs : List T) : Prop :=
  ∀ i x, xs[i]? = some x → ∃ k g A0 n0 c0, cs[i * 3]? = some (.int .i64 k) ∧ cs[i * 3 + 1]? = some (.int .i64 g) ∧ cs[i * 3 + 2]? = some (.slice A0 n0 c0) ∧ Rd W0 x (.agg #[.int .i64 k, .int .i64 g, .slice A0 n0 c0])
theorem KTv.app {W0 : World} {cs1 cs2 : List Value} {xs1 xs2 : List T} (h1 : KTv W0 cs1 xs1) (h2 : KTv W0 cs2 xs2) (hlen : cs1.length = xs1.length * 3) : KTv W0 (cs1 ++ cs2) (xs1 ++ xs2) := fun i x hx => by
  by_cases hi : i < xs1.length
  · rw [List.getElem?_append_left hi] at hx
    obtain ⟨k, g, A0, n0, c0, e1, e2, e3, hr⟩ := h1 i x hx
    have up : ∀ j u, cs1[j]? = some u → (cs1 ++ cs2)[j]? = some u := fun j u hj => by
      rw [List.getElem?_append_left (List.getElem?_eq_some_iff.1 hj).1]; exact hj
    exact ⟨k, g, A0, n0, c0, up _ _ e1, up _ _ e2, up _ _ e3, hr⟩
  · rw [List.getElem?_append_right (by omega)] at hx
    obtain ⟨k, g, A0, n0, c0, e1, e2, e3, hr⟩ := h2 _ x hx
    have up : ∀ q u, cs2[(i - xs1.length) * 3 + q]? = some u → (cs1 ++ cs2)[i * 3 + q]? = some u := fun q u hj => by
      rw [List.getElem?_append_right (by omega), hlen, show i * 3 + q - xs1.length * 3 = (i - xs1.length) * 3 + q by omega]; exact hj
    exact ⟨k, g, A0, n0, c0, up 0 _ e1, up 1 _ e2, up 2 _ e3, hr⟩
theorem CLV.rawV {w : World} {xs : List T} {A : Option Addr} {n c : Nat} (h : CLV w xs A n c) : ∃ cs : List Value, cs.length = n * 3 ∧ (∀ j u, cs[j]? = some u → ∃ b o, A = some ⟨b, o, none⟩ ∧ w.cell? ⟨b, o + j, none⟩ = some u) ∧ (∀ u ∈ cs, u.oneCell' = true) ∧ KTv w cs xs := by
  have key : ∀ m, m ≤ n → ∃ cs : List Value, cs.length = m * 3 ∧ (∀ j u, cs[j]? = some u → ∃ b o, A = some ⟨b, o, none⟩ ∧ w.cell? ⟨b, o + j, none⟩ = some u) ∧ (∀ u ∈ cs, u.oneCell' = true) ∧ KTv w cs (xs.take m) := by
    intro m
    induction m with
    | zero => intro _; exact ⟨[], rfl, fun j u hu => by simp at hu, fun u hu => absurd hu (by simp), fun i x hx => by simp at hx⟩
    | succ m ih =>
      intro hm
      obtain ⟨cs, h1, h2, h3, h4⟩ := ih (by omega)
      obtain ⟨x, hx⟩ := at_of h.len (show m < n by omega)
      obtain ⟨b, o, k, g, A', n', c', rfl, d0, d1, d2, hr⟩ := (h.at_ m x hx).full
      have happ : ∀ q u, [Value.int .i64 k, .int .i64 g, .slice A' n' c'][q]? = some u → w.cell? ⟨b, o + (m * 3 + q), none⟩ = some u := fun q u hu => by
        match q, hu with
        | 0, hu => cases hu; exact d0
        | 1, hu => cases hu; exact d1
        | 2, hu => cases hu; exact d2
        | q + 3, hu => simp at hu
      have hs : KTv w [Value.int .i64 k, .int .i64 g, .slice A' n' c'] [x] := fun i y hy => by
        match i, hy with
        | 0, hy => cases hy; exact ⟨k, g, A', n', c', rfl, rfl, rfl, hr⟩
        | i + 1, hy => simp at hy
      refine ⟨cs ++ [.int .i64 k, .int .i64 g, .slice A' n' c'], by rw [List.length_append, h1]; simp; omega, fun j u hu => ?_, fun u hu => ?_, ?_⟩
      · by_cases hj : j < cs.length
        · rw [List.getElem?_append_left hj] at hu
          exact h2 j u hu
        · rw [List.getElem?_append_right (by omega)] at hu
          have := happ _ _ hu
          rw [show m * 3 + (j - cs.length) = j by omega] at this
          exact ⟨b, o, rfl, this⟩
      · rcases List.mem_append.1 hu with hu | hu
        · exact h3 u hu
        · simp at hu
          rcases hu with rfl | rfl | rfl <;> rfl
      · rw [List.take_add_one, hx]
        exact h4.app hs (by rw [h1, List.length_take, h.len]; omega)
  obtain ⟨cs, h1, h2, h3, h4⟩ := key n (Nat.le_refl _)
  rw [List.take_of_length_le (by rw [h.len]; omega)] at h4
  exact ⟨cs, h1, h2, h3, h4⟩
/-- a row of a call's own that holds terms -/
structure RowTv (W0 w : World) (A : Option Addr) (n c : Nat) (xs : List T) (cs : List Value) : Prop where
  own : w.ownsRow W0.heap.size 32 3 (.slice A n c) n cs
  len : xs.length = n
  kids : KTv W0 cs xs
theorem RowTv.none (W0 w : World) : RowTv W0 w none 0 0 [] [] := ⟨World.ownsRow_nil _ _ _ _, rfl, fun i x hx => by simp at hx⟩
theorem RowTv.cap {W0 w : World} {A : Option Addr} {n c : Nat} {xs : List T} {cs : List Value} (h : RowTv W0 w A n c xs cs) : n ≤ c ∧ c ≤ maxLen := by
  rcases h.own.2 with ⟨e, h0⟩ | ⟨g', cap', cur, hv, _, _, h1, h2, _⟩
  · cases e; exact ⟨Nat.le_refl _, Nat.zero_le _⟩
  · cases hv; exact ⟨h1, h2⟩
theorem RowTv.lst {W0 w : World} {A : Option Addr} {n c : Nat} {xs : List T} {cs : List Value} (h : RowTv W0 w A n c xs cs) (hb : Below W0.heap.size W0 w) : CLV w xs A n c := by
  refine ⟨h.len, h.cap.1, h.cap.2, fun i x hx => ?_⟩
  have hi : i < n := by have := (List.getElem?_eq_some_iff.1 hx).1; rw [h.len] at this; exact this
  obtain ⟨k, g, A0, n0, c0, e1, e2, e3, hr⟩ := h.kids i x hx
  obtain ⟨q, hq⟩ : ∃ q, A = some ⟨q, 0, Option.none⟩ := by
    rcases h.own.2 with ⟨e, h0⟩ | ⟨g', cap', cur, hv, _⟩
    · omega
    · cases hv; exact ⟨_, rfl⟩
  subst hq
  have get : ∀ j u, cs[j]? = some u → w.cell? ⟨q, 0 + j, Option.none⟩ = some u := fun j u hj => by
    have := h.own.cells (g := q) rfl j u hj
    rwa [addr_add] at this
  exact ⟨q, 0, _, _, _, rfl, get _ _ e1, (by rw [Nat.add_assoc]; exact get _ _ e2), (by rw [Nat.add_assoc]; exact get _ _ e3), Rd.keep hb _ _ hr⟩
theorem RowTv.kept {W0 w w' : World} {A : Option Addr} {n c : Nat} {xs : List T} {cs : List Value} (h : RowTv W0 w A n c xs cs) (hb : Below w.heap.size w w') : RowTv W0 w' A n c xs cs :=
  ⟨h.own.kept (grown_of_below hb) (own_none _), h.len, h.kids⟩
theorem RowDv.kept {W0 w w' : World} {A : Option Addr} {n c : Nat} {xs : List T} {cs : List Value} (h : RowDv W0 w A n c xs cs) (hb : Below w.heap.size w w') : RowDv W0 w' A n c xs cs :=
  ⟨h.own.kept (grown_of_below hb) (own_none _), h.len, h.kids⟩
theorem rowT_raw {W0 W : World} {A1 : Option Addr} {n1 c1 : Nat} {xs1 : List T} {cs1 : List Value} (h1 : RowTv W0 W A1 n1 c1 xs1 cs1) {b o n2 c2 : Nat} {xs2 : List T} {cs2 : List Value} (hl : xs2.length = n2) (g1 : cs2.length = n2 * 3)
    (g2 : ∀ j u, cs2[j]? = some u → W.cell? ⟨b, o + j, none⟩ = some u) (g3 : ∀ u ∈ cs2, u.oneCell' = true) (g4 : KTv W0 cs2 xs2) (hp : 0 < n2) (hn : n1 + n2 ≤ 100000) (hb : Below W0.heap.size W0 W) :
    ∃ g c w' cs, (Builtin.append_ #[23, 23] 23 #[.slice A1 n1 c1, .slice (some ⟨b, o, none⟩) n2 c2]).run Try.prog W = .ok (.slice (some ⟨g, 0, none⟩) (n1 + n2) c) w' ∧ RowTv W0 w' (some ⟨g, 0, none⟩) (n1 + n2) c (xs1 ++ xs2) cs ∧ Below W0.heap.size W0 w' ∧ W.grownBy w' (Value.slice A1 n1 c1).ownBlock ∧ ((Value.slice A1 n1 c1).ownBlock = some g ∨ g = W.heap.size) := by
  obtain ⟨i0, hi, hz0, hz1, hz2⟩ := info_parts infoTerm
  obtain ⟨g, cap, w', hrun, how, hgr, hfr, _⟩ := run_append_lies (P := Try.prog) W 23 23 W0.heap.size 32 i0 _ 3 40 Try.underlying23 hi hz0 hz1 hz2 rfl (by omega) (.slice A1 n1 c1) n1 cs1
    h1.own ⟨b, o, none⟩ n2 c2 cs2 g1 (fun j u hu => by rw [addr_add]; exact g2 j u hu) g3 hp (by unfold maxLen; omega) (by omega) hb.size _ rfl
  have hbw : Below W0.heap.size W0 w' := below_grown hb hgr (fun r hr' => (h1.own.lt r hr').1) hb.size
  exact ⟨g, cap, w', _, hrun, ⟨how, by rw [List.length_append, h1.len, hl], h1.kids.app g4 (by rw [h1.own.1, h1.len])⟩, hbw, hgr, hfr⟩
theorem rowT_app {W0 W : World} {A1 : Option Addr} {n1 c1 : Nat} {xs1 : List T} {cs1 : List Value} (h1 : RowTv W0 W A1 n1 c1 xs1 cs1) {A2 : Option Addr} {n2 c2 : Nat} {xs2 : List T} (h2 : CLV W0 xs2 A2 n2 c2) (hn : n1 + n2 ≤ 100000) (hb : Below W0.heap.size W0 W) :
    ∃ A c w' cs, (Builtin.append_ #[23, 23] 23 #[.slice A1 n1 c1, .slice A2 n2 c2]).run Try.prog W = .ok (.slice A (n1 + n2) c) w' ∧ RowTv W0 w' A (n1 + n2) c (xs1 ++ xs2) cs ∧ Below W0.heap.size W0 w' := by
  rcases Nat.eq_zero_or_pos n2 with rfl | hp
  · obtain ⟨i0, hi, hz0, hz1, hz2⟩ := info_parts infoTerm
    have hds : xs2 = [] := List.length_eq_zero_iff.1 h2.len
    subst hds
    have hle := h1.cap.1
    refine ⟨A1, c1, W, cs1, ?_, by rw [List.append_nil]; exact h1, hb⟩
    cases A1 <;> cases A2 <;> simp [Builtin.append_, run_underlying Try.underlying23, sizeOf, typeInfo, hi, Builtin.lenOf, Builtin.firstCells, loadCells, loadCellsFrom, hle, storeCells]
  · obtain ⟨cs2, g1, g2, g3, g4⟩ := h2.rawV
    obtain ⟨x, hx⟩ := at_of h2.len hp
    obtain ⟨b, o, _, _, _, e, _⟩ := h2.at_ 0 x hx
    subst e
    obtain ⟨g, c, w', cs, hrun, hr, hbw, _, _⟩ := rowT_raw (c2 := c2) h1 h2.len g1 (fun j u hu => by
      obtain ⟨b', o', e, hc⟩ := g2 j u hu
      cases e
      exact (hb.cell (cell_lt hc)).trans hc) g3 g4 hp hn hb
    exact ⟨_, c, w', cs, hrun, hr, hbw⟩
/-- one that a block of its own holds -/
theorem rowT_one {W0 W : World} {A1 : Option Addr} {n1 c1 : Nat} {xs1 : List T} {cs1 : List Value} (h1 : RowTv W0 W A1 n1 c1 xs1 cs1) {P : Nat} {ty : TypeId} {k g : Int} {A2 : Option Addr} {n2 c2 : Nat} {x : T} (hP : Box W P ty #[.int .i64 k, .int .i64 g, .slice A2 n2 c2]) (hx : Rd W0 x (.agg #[.int .i64 k, .int .i64 g, .slice A2 n2 c2]))
    (hn : n1 + 1 ≤ 100000) (hb : Below W0.heap.size W0 W) :
    ∃ q c w' cs, (Builtin.append_ #[23, 23] 23 #[.slice A1 n1 c1, .slice (some ⟨P, 0, none⟩) 1 1]).run Try.prog W = .ok (.slice (some ⟨q, 0, none⟩) (n1 + 1) c) w' ∧ RowTv W0 w' (some ⟨q, 0, none⟩) (n1 + 1) c (xs1 ++ [x]) cs ∧ Below W0.heap.size W0 w' ∧ W.grownBy w' (Value.slice A1 n1 c1).ownBlock ∧ ((Value.slice A1 n1 c1).ownBlock = some q ∨ q = W.heap.size) :=
  rowT_raw (b := P) (o := 0) (n2 := 1) (c2 := 1) (xs2 := [x]) (cs2 := [.int .i64 k, .int .i64 g, .slice A2 n2 c2]) h1 rfl rfl (fun j u hu => by
    rw [Nat.zero_add]
    match j, hu with
    | 0, hu => cases hu; exact hP.cell 0
    | 1, hu => cases hu; exact hP.cell 1
    | 2, hu => cases hu; exact hP.cell 2
    | j + 3, hu => simp at hu) (fun u hu => by
    simp at hu
    rcases hu with rfl | rfl | rfl <;> rfl) (fun i y hy => by
    match i, hy with
    | 0, hy => cases hy; exact ⟨k, g, A2, n2, c2, rfl, rfl, rfl, hx⟩
    | i + 1, hy => simp at hy) (by omega) hn hb
theorem rowD_one {W0 W : World} {A1 : Option Addr} {n1 c1 : Nat} {ds1 : List T} {cs1 : List Value} (h1 : RowDv W0 W A1 n1 c1 ds1 cs1) {P : Nat} {ty : TypeId} {s : ByteArray} {k g : Int} {A2 : Option Addr} {n2 c2 : Nat} {x : T} (hP : Box W P ty #[.string s, .int .i64 k, .int .i64 g, .slice A2 n2 c2]) (hx : Rd W0 x (.agg #[.int .i64 k, .int .i64 g, .slice A2 n2 c2]))
    (hn : n1 + 1 ≤ 1000) (hb : Below W0.heap.size W0 W) :
    ∃ q c w' cs, (Builtin.append_ #[22, 22] 22 #[.slice A1 n1 c1, .slice (some ⟨P, 0, none⟩) 1 1]).run Try.prog W = .ok (.slice (some ⟨q, 0, none⟩) (n1 + 1) c) w' ∧ RowDv W0 w' (some ⟨q, 0, none⟩) (n1 + 1) c (ds1 ++ [x]) cs ∧ Below W0.heap.size W0 w' ∧ W.grownBy w' (Value.slice A1 n1 c1).ownBlock ∧ ((Value.slice A1 n1 c1).ownBlock = some q ∨ q = W.heap.size) := by
  obtain ⟨i0, hi, hz0, hz1, hz2⟩ := info_parts infoDecl
  obtain ⟨q, cap, w', hrun, how, hgr, hfr, _⟩ := run_append_lies (P := Try.prog) W 22 22 W0.heap.size 38 i0 _ 4 56 Try.underlying22 hi hz0 hz1 hz2 rfl (by omega) (.slice A1 n1 c1) n1 cs1
    h1.own ⟨P, 0, none⟩ 1 1 [.string s, .int .i64 k, .int .i64 g, .slice A2 n2 c2] rfl (fun j u hu => by
      rw [addr_add, Nat.zero_add]
      match j, hu with
      | 0, hu => cases hu; exact hP.cell 0
      | 1, hu => cases hu; exact hP.cell 1
      | 2, hu => cases hu; exact hP.cell 2
      | 3, hu => cases hu; exact hP.cell 3
      | j + 4, hu => simp at hu) (fun u hu => by
      simp at hu
      rcases hu with rfl | rfl | rfl | rfl <;> rfl) (by omega) (by unfold maxLen; omega) (by omega) hb.size _ rfl
  have hbw : Below W0.heap.size W0 w' := below_grown hb hgr (fun r hr' => (h1.own.lt r hr').1) hb.size
  exact ⟨q, cap, w', _, hrun, ⟨how, by rw [List.length_append, h1.len]; rfl, h1.kids.app (cs2 := [.string s, .int .i64 k, .int .i64 g, .slice A2 n2 c2]) (ds2 := [x]) (fun i y hy => by
    match i, hy with
    | 0, hy => cases hy; exact ⟨s, k, g, A2, n2, c2, rfl, rfl, rfl, rfl, hx⟩
    | i + 1, hy => simp at hy) (by rw [h1.own.1, h1.len])⟩, hbw, hgr, hfr⟩
/-- all are appended to nothing -/
theorem rowT_new {W0 W : World} {A2 : Option Addr} {n2 c2 : Nat} {xs2 : List T} (h2 : CLV W0 xs2 A2 n2 c2) (hn : n2 ≤ 100000) (hb : Below W0.heap.size W0 W) :
    ∃ A c w' cs, (Builtin.append_ #[23, 23] 23 #[.slice none 0 0, .slice A2 n2 c2]).run Try.prog W = .ok (.slice A n2 c) w' ∧ RowTv W0 w' A n2 c xs2 cs ∧ Below W.heap.size W w' := by
  rcases Nat.eq_zero_or_pos n2 with rfl | hp
  · obtain ⟨i0, hi, hz0, hz1, hz2⟩ := info_parts infoTerm
    have hds : xs2 = [] := List.length_eq_zero_iff.1 h2.len
    subst hds
    refine ⟨none, 0, W, [], ?_, RowTv.none _ _, Below.refl _ _⟩
    cases A2 <;> simp [Builtin.append_, run_underlying Try.underlying23, sizeOf, typeInfo, hi, Builtin.lenOf, Builtin.firstCells, loadCells, loadCellsFrom]
  · obtain ⟨cs2, g1, g2, g3, g4⟩ := h2.rawV
    obtain ⟨x, hx⟩ := at_of h2.len hp
    obtain ⟨b, o, _, _, _, e, _⟩ := h2.at_ 0 x hx
    subst e
    obtain ⟨g, c, w', cs, hrun, hr, _, hg, _⟩ := rowT_raw (c2 := c2) (RowTv.none W0 W) h2.len g1 (fun j u hu => by
      obtain ⟨b', o', e, hc⟩ := g2 j u hu
      cases e
      exact (hb.cell (cell_lt hc)).trans hc) g3 g4 hp (by omega) hb
    rw [Nat.zero_add] at hrun hr
    rw [List.nil_append] at hr
    exact ⟨_, c, w', cs, hrun, hr, below_grown (Below.refl _ _) hg (fun r h => by cases h) (Nat.le_refl _)⟩
theorem rowD_new {W0 W : World} {A2 : Option Addr} {n2 c2 : Nat} {xs2 : List T} (h2 : DL W0 xs2 A2 n2 c2) (hn : n2 ≤ 1000) (hb : Below W0.heap.size W0 W) :
    ∃ A c w' cs, (Builtin.append_ #[22, 22] 22 #[.slice none 0 0, .slice A2 n2 c2]).run Try.prog W = .ok (.slice A n2 c) w' ∧ RowDv W0 w' A n2 c xs2 cs ∧ Below W.heap.size W w' := by
  rcases Nat.eq_zero_or_pos n2 with rfl | hp
  · obtain ⟨i0, hi, hz0, hz1, hz2⟩ := info_parts infoDecl
    have hds : xs2 = [] := List.length_eq_zero_iff.1 h2.len
    subst hds
    refine ⟨none, 0, W, [], ?_, RowDv.none _ _, Below.refl _ _⟩
    cases A2 <;> simp [Builtin.append_, run_underlying Try.underlying22, sizeOf, typeInfo, hi, Builtin.lenOf, Builtin.firstCells, loadCells, loadCellsFrom]
  · obtain ⟨i0, hi, hz0, hz1, hz2⟩ := info_parts infoDecl
    obtain ⟨cs2, g1, g2, g3, g4⟩ := h2.rawV
    obtain ⟨x, hx⟩ := at_of h2.len hp
    obtain ⟨b, o, _, _, _, _, _, _, e, _⟩ := h2.at_ 0 x hx
    subst e
    obtain ⟨g, cap, w', hrun, how, hgr, _, _⟩ := run_append_lies (P := Try.prog) W 22 22 W0.heap.size 38 i0 _ 4 56 Try.underlying22 hi hz0 hz1 hz2 rfl (by omega) (.slice none 0 0) 0 []
      (World.ownsRow_nil _ _ _ _) ⟨b, o, none⟩ n2 c2 cs2 g1 (fun j u hu => by
        obtain ⟨b', o', e, hc⟩ := g2 j u hu
        cases e
        rw [addr_add]
        exact (hb.cell (cell_lt hc)).trans hc) g3 hp (by unfold maxLen; omega) (by omega) hb.size _ rfl
    rw [Nat.zero_add] at hrun how
    rw [List.nil_append] at how
    exact ⟨_, cap, w', cs2, hrun, ⟨how, h2.len, g4⟩, below_grown (Below.refl _ _) hgr (fun r h => by cases h) (Nat.le_refl _)⟩
end Go.Proofs.Ytpigmefjcklpkaa

/-
  The walk of the law WorldLimits.
-/
namespace Go.Proofs.Ytpigmefjcklpkaa
open Go.ChangeShapes Go.WideShapes Go.ChangeAt Go.RowKit
set_option linter.unusedVariables false

theorem lw_rep {t : T} {s d : Int} (h : ltB t s d = true) (n : Nat) : LwV (List.replicate n t) := fun x hx hm => by
  rw [(List.mem_replicate.1 hx).2] at hm ⊢
  exact lo_lt h hm
theorem rep_snoc (n : Nat) (t : T) : List.replicate n t ++ [t] = List.replicate (n + 1) t := by rw [List.replicate_succ']
def Apart (u v : Value) : Prop := (u.ownBlock = none ∨ u.ownBlock ≠ v.ownBlock) ∧ (v.ownBlock = none ∨ v.ownBlock ≠ u.ownBlock)
set_option maxRecDepth 100000 in
set_option maxHeartbeats 16000000 in
theorem worldLimitsC (d a : T) (s : ByteArray) (kd hd : Int) (Ad : Option Addr) (nd1 cd : Nat) (va : Value) (more : Int) (w : World) (hvd : Rd w d (.agg #[.int .i64 kd, .int .i64 hd, .slice Ad nd1 cd])) (hva : Rd w a va) :
    Calls Try.prog 5 #[.agg #[.string s, .int .i64 kd, .int .i64 hd, .slice Ad nd1 cd], va, .int .i64 more] w fun e w' => e = .returned (.bool true) ∧ Below w.heap.size w w' := by
  obtain ⟨ka, ha, Aa, na, ca, rfl⟩ := hva.full
  obtain ⟨ra, hra⟩ : ∃ r, ltB a 300 60 = r := ⟨_, rfl⟩
  obtain ⟨rd, hrd⟩ : ∃ r, ltB d 300 60 = r := ⟨_, rfl⟩
  have HRa := Lib.hid hra; clear hra
  have HRd := Lib.hid hrd; clear hrd
  have HVD := Lib.hid hvd; clear hvd
  have HVA := Lib.hid hva; clear hva
  obtain ⟨w0, hW⟩ : ∃ w0, (w.alloc (.cells #[.string s, .int .i64 kd, .int .i64 hd, .slice Ad nd1 cd] 38)).alloc (.cells #[.int .i64 ka, .int .i64 ha, .slice Aa na ca] 32) = w0 := ⟨_, rfl⟩
  have hb0 : Below w.heap.size w w0 := by rw [← hW]; exact ((Below.refl _ _).alloc (Nat.le_refl _) _).alloc (by simp) _
  have XD := Lib.hid (show Box w0 w.heap.size 38 #[.string s, .int .i64 kd, .int .i64 hd, .slice Ad nd1 cd] by rw [← hW]; exact (Box.new w _ _).alloc _)
  have XT := Lib.hid (show Box w0 (w.heap.size + 1) 32 #[.int .i64 ka, .int .i64 ha, .slice Aa na ca] by rw [← hW]; exact (Box.new (w.alloc _) _ _).at (by simp))
  have HB := Lib.hid hb0; clear hb0
  go_enter Try.func5, Try.ntmps5
  go_wp2_with fail
  clear hW
  refine (yAwakeC _).mono ?_
  rintro e w1 ⟨rfl, hb1⟩
  replace XD := Lib.hid (XD.out.keep hb1 XD.out.lt)
  replace XT := Lib.hid (XT.out.keep hb1 XT.out.lt)
  replace HB := Lib.hid (HB.out.trans (hb1.mono HB.out.size))
  clear hb1
  obtain ⟨f0, f1, f2⟩ := XT.out.three
  go_wp2_with fail
  clear f0 f1 f2
  have HC := Lib.hid (refLight a 300 60 _ _ (Rd.keep HB.out _ _ HVA.out))
  rw [HRa.out] at HC
  refine HC.out.mono ?_
  rintro e w2 ⟨rfl, hb1⟩
  replace XD := Lib.hid (XD.out.keep hb1 XD.out.lt)
  replace XT := Lib.hid (XT.out.keep hb1 XT.out.lt)
  replace HB := Lib.hid (HB.out.trans (hb1.mono HB.out.size))
  clear hb1 HC
  have b0 : w2.cell? ⟨w.heap.size, 0, none⟩ = some (.string s) := XD.out.cell 0
  have b1 : w2.cell? ⟨w.heap.size, 1, none⟩ = some (.int .i64 kd) := XD.out.cell 1
  have b2 : w2.cell? ⟨w.heap.size, 2, none⟩ = some (.int .i64 hd) := XD.out.cell 2
  have b3 : w2.cell? ⟨w.heap.size, 3, none⟩ = some (.slice Ad nd1 cd) := XD.out.cell 3
  go_wp2_with fail
  clear b0 b1 b2 b3
  have HC := Lib.hid (refLight d 300 60 _ _ (Rd.keep HB.out _ _ HVD.out))
  rw [HRd.out] at HC
  refine HC.out.mono ?_
  rintro e w3 ⟨rfl, hb1⟩
  replace XD := Lib.hid (XD.out.keep hb1 XD.out.lt)
  replace XT := Lib.hid (XT.out.keep hb1 XT.out.lt)
  replace HB := Lib.hid (HB.out.trans (hb1.mono HB.out.size))
  clear hb1 HC
  cases ra
  · go_wp2_with fail
    go_ret
    exact ⟨rfl, HB.out⟩
  cases rd
  · go_wp2_with fail
    go_ret
    exact ⟨rfl, HB.out⟩
  by_cases hm0 : more < 0
  · have d1 : decide (more < 0) = true := decide_eq_true hm0
    go_wp2_with fail
    go_ret
    exact ⟨rfl, HB.out⟩
  have d1 : decide (more < 0) = false := decide_eq_false hm0
  by_cases hm1 : 10 < more
  · have d2 : decide (10 < more) = true := decide_eq_true hm1
    go_wp2_with fail
    go_ret
    exact ⟨rfl, HB.out⟩
  have d2 : decide (10 < more) = false := decide_eq_false hm1
  obtain ⟨m, rfl⟩ : ∃ m : Nat, more = m := ⟨more.toNat, by omega⟩
  have hml : m ≤ 10 := by omega
  clear hm0 hm1
  have hsum : IntKind.i64.wrap (41 + (m : Int)) = ((41 + m : Nat) : Int) := by rw [wrapEq, wrap_small (by omega) (by omega)]; omega
  go_wp2_with fail
  clear d1 d2
  go_loopw [10, 11, 12] (fun vs vl i wr => ∃ (j : Nat) (As : Option Addr) (cs : Nat) (Al : Option Addr) (cl : Nat) (us ul : List Value), j ≤ 41 + m ∧ i = .int .i64 j ∧ vs = .slice As j cs ∧ vl = .slice Al j cl ∧ Hid (RowDv w3 wr As j cs (List.replicate j d) us) ∧ Hid (RowTv w3 wr Al j cl (List.replicate j a) ul) ∧ Hid (Apart (.slice As j cs) (.slice Al j cl)) ∧ Hid (Below w3.heap.size w3 wr)) (fun _ _ i _ => 41 + m - (Go.RowKit.intOf i).toNat)
  case atStart => exact ⟨0, none, 0, none, 0, [], [], by omega, rfl, rfl, rfl, Lib.hid (RowDv.none _ _), Lib.hid (RowTv.none _ _), Lib.hid ⟨.inl rfl, .inl rfl⟩, Lib.hid (Below.refl _ _)⟩
  case round =>
    obtain ⟨j, As, cs, Al, cl, us, ul, hj, rfl, rfl, rfl, HD, HT, HA, HW⟩ := hrel
    have YD := Lib.hid (XD.out.keep HW.out XD.out.lt)
    have YT := Lib.hid (XT.out.keep HW.out XT.out.lt)
    have hdl := HD.out.cap
    have htl := HT.out.cap
    by_cases hlt : j < 41 + m
    · have dj : decide ((j : Int) < ((41 + m : Nat) : Int)) = true := by simp; omega
      have hsj : IntKind.i64.wrap ((j : Int) + 1) = ((j + 1 : Nat) : Int) := by rw [wrapEq, wrap_small (by omega) (by omega)]; omega
      obtain ⟨W1, hW1⟩ : ∃ W1, wr.alloc (.cells #[.string s, .int .i64 kd, .int .i64 hd, .slice Ad nd1 cd] 38) = W1 := ⟨_, rfl⟩
      have g1 : Below wr.heap.size wr W1 := by rw [← hW1]; exact (Below.refl _ _).alloc (Nat.le_refl _) _
      have z1 : Box W1 wr.heap.size 38 #[.string s, .int .i64 kd, .int .i64 hd, .slice Ad nd1 cd] := by rw [← hW1]; exact Box.new _ _ _
      have hs1 : W1.heap.size = wr.heap.size + 1 := by rw [← hW1]; simp
      obtain ⟨q1, c1', w1', us', hrun1, hr1, hb1, hg1, hf1⟩ := rowD_one (HD.out.kept g1) z1 (Rd.keep HB.out _ _ HVD.out) (by omega) (HW.out.trans (g1.mono HW.out.size))
      have hl1 : RowTv w3 w1' Al j cl (List.replicate j a) ul := ⟨(HT.out.kept g1).own.kept hg1 HA.out.2, HT.out.len, HT.out.kids⟩
      have hq1 : (Value.slice Al j cl).ownBlock = none ∨ (Value.slice Al j cl).ownBlock ≠ some q1 := by
        rcases hf1 with h | h
        · rw [← h]; exact HA.out.2
        · refine .inr fun e => ?_
          have := (HT.out.own.lt q1 e).2
          omega
      obtain ⟨W2, hW2⟩ : ∃ W2, w1'.alloc (.cells #[.int .i64 ka, .int .i64 ha, .slice Aa na ca] 32) = W2 := ⟨_, rfl⟩
      have g2 : Below w1'.heap.size w1' W2 := by rw [← hW2]; exact (Below.refl _ _).alloc (Nat.le_refl _) _
      have z2 : Box W2 w1'.heap.size 32 #[.int .i64 ka, .int .i64 ha, .slice Aa na ca] := by rw [← hW2]; exact Box.new _ _ _
      have hs2 : W2.heap.size = w1'.heap.size + 1 := by rw [← hW2]; simp
      obtain ⟨q2, c2', w2', ul', hrun2, hr2, hb2, hg2, hf2⟩ := rowT_one (hl1.kept g2) z2 (Rd.keep HB.out _ _ HVA.out) (by omega) (hb1.trans (g2.mono hb1.size))
      have hd2 : RowDv w3 w2' (some ⟨q1, 0, none⟩) (j + 1) c1' (List.replicate j d ++ [d]) us' := ⟨(hr1.kept g2).own.kept hg2 (by
        rcases hq1 with h | h
        · exact .inr (by rw [h]; exact fun e => by cases e)
        · exact .inr (fun e => h e.symm)), hr1.len, hr1.kids⟩
      have hne : q1 ≠ q2 := fun e => by
        subst e
        rcases hf2 with h | h
        · rcases hq1 with h' | h'
          · rw [h'] at h; cases h
          · exact h' h
        · have := (hr1.own.lt q1 rfl).2
          omega
      rw [rep_snoc] at hd2 hr2
      have HD2 := Lib.hid hd2
      have HT2 := Lib.hid hr2
      have HB2 := Lib.hid hb2
      have HA2 : Hid (Apart (.slice (some ⟨q1, 0, none⟩) (j + 1) c1') (.slice (some ⟨q2, 0, none⟩) (j + 1) c2')) := Lib.hid ⟨.inr (fun e => hne (Option.some.inj e)), .inr (fun e => hne (Option.some.inj e).symm)⟩
      have HBW1 := Lib.hid (YD.out.keep g1 YD.out.lt)
      have t0 := (((YT.out.keep g1 YT.out.lt)).three).1
      have XTW : Box w1' (w.heap.size + 1) 32 #[.int .i64 ka, .int .i64 ha, .slice Aa na ca] := XT.out.keep hb1 XT.out.lt
      obtain ⟨f0, f1, f2⟩ := XTW.three
      have b0 : wr.cell? ⟨w.heap.size, 0, none⟩ = some (.string s) := YD.out.cell 0
      have b1 : wr.cell? ⟨w.heap.size, 1, none⟩ = some (.int .i64 kd) := YD.out.cell 1
      have b2 : wr.cell? ⟨w.heap.size, 2, none⟩ = some (.int .i64 hd) := YD.out.cell 2
      have b3 : wr.cell? ⟨w.heap.size, 3, none⟩ = some (.slice Ad nd1 cd) := YD.out.cell 3
      clear hd2 hr2 hb2 hg2 hf2 hr1 hb1 hg1 hf1 hl1 hq1 hne z1 z2 g1 g2 t0 XTW hs1 hs2
      subst hW1
      subst hW2
      go_wp2_with (at_builtin; first | (refine Lib.wpList_append_run _ rfl _ _ _ _ rfl _ _ rfl rfl _ _ hrun1 ?_; clear hrun1) | (refine Lib.wpList_append_run _ rfl _ _ _ _ rfl _ _ rfl rfl _ _ hrun2 ?_; clear hrun2))
      go_roundw
      case rel => exact ⟨j + 1, _, _, _, _, us', ul', by omega, by go_num, rfl, rfl, HD2, HT2, HA2, HB2⟩
      case measure => simp [Go.RowKit.intOf]; omega
    · obtain rfl : j = 41 + m := by omega
      have dj : decide (((41 + m : Nat) : Int) < ((41 + m : Nat) : Int)) = false := by simp
      have HBR := Lib.hid (HB.out.trans (HW.out.mono HB.out.size))
      have HDL := Lib.hid (HD.out.lst HW.out)
      have HTL := Lib.hid (HT.out.lst HW.out)
      clear hdl htl HD HT HA
      have hbig : ∀ t : T, 40 < (List.replicate (41 + m) t).length := fun t => by rw [List.length_replicate]; omega
      have hrl : ∀ t : T, (List.replicate (41 + m) t).length = 41 + m := fun t => List.length_replicate
      go_wp2_with fail
      refine (ySigD _ _ _ _ wr HDL.out (lw_rep HRd.out _) (congrArg (fun p => ((p.1 : Nat) : Int)) (si_big (hbig d))) (congrArg Prod.snd (si_big (hbig d)))).mono ?_
      rintro e w5 ⟨rfl, hb1⟩
      replace YT := Lib.hid (YT.out.keep hb1 YT.out.lt)
      replace HTL := Lib.hid (HTL.out.keep hb1)
      replace HBR := Lib.hid (HBR.out.trans (hb1.mono HBR.out.size))
      clear hb1
      go_wp2_with fail
      have HC := Lib.hid (yCtxC ⟨[], []⟩ [] (List.replicate (41 + m) a) none 0 0 none 0 0 none 0 0 Al (41 + m) cl w5 ⟨⟨rfl, Nat.le_refl _, Nat.zero_le _, fun i x hx => by simp at hx⟩, ml_nil _, clv_nil _ _ _ (Nat.zero_le _)⟩ HTL.out ⟨(fun t ht => by cases ht), (fun t ht => by cases ht), lw_rep HRa.out _⟩ (by omega))
      rw [ct_big (hbig a)] at HC
      refine HC.out.mono ?_
      rintro e w6 ⟨rfl, hb1⟩
      replace YT := Lib.hid (YT.out.keep hb1 YT.out.lt)
      replace HTL := Lib.hid (HTL.out.keep hb1)
      replace HBR := Lib.hid (HBR.out.trans (hb1.mono HBR.out.size))
      clear hb1 HC
      go_wp2_with fail
      have HC := Lib.hid (ySchemaC [] (List.replicate (41 + m) a) none 0 0 Al (41 + m) cl w6 ⟨rfl, Nat.le_refl _, Nat.zero_le _, fun i x hx => by simp at hx⟩ HTL.out LwV.nil (lw_rep HRa.out _))
      rw [sch_big (hbig a)] at HC
      refine HC.out.mono ?_
      rintro e w7 ⟨rfl, hb1⟩
      replace YT := Lib.hid (YT.out.keep hb1 YT.out.lt)
      replace HTL := Lib.hid (HTL.out.keep hb1)
      replace HBR := Lib.hid (HBR.out.trans (hb1.mono HBR.out.size))
      clear hb1 HC
      obtain ⟨W1, hW1⟩ : ∃ W1, w7.alloc (.cells #[.int .i64 ka, .int .i64 ha, .slice Aa na ca] 32) = W1 := ⟨_, rfl⟩
      have g1 : Below w7.heap.size w7 W1 := by rw [← hW1]; exact (Below.refl _ _).alloc (Nat.le_refl _) _
      have z1 : Box W1 w7.heap.size 32 #[.int .i64 ka, .int .i64 ha, .slice Aa na ca] := by rw [← hW1]; exact Box.new _ _ _
      have HC := Lib.hid (yConformsC [a] (List.replicate (41 + m) a) _ _ 1 1 (41 + m) cl W1 (clv_one z1 (Rd.keep (HBR.out.trans (g1.mono HBR.out.size)) _ _ HVA.out)) (HTL.out.keep g1))
      rw [cf_same (fun x hx => (List.mem_replicate.1 hx).2)] at HC
      replace HBR := Lib.hid (HBR.out.trans (g1.mono HBR.out.size))
      obtain ⟨f0, f1, f2⟩ := YT.out.three
      clear g1 z1
      subst hW1
      go_wp2_with fail
      clear f0 f1 f2
      refine HC.out.mono ?_
      rintro e w8 ⟨rfl, hb1⟩
      replace HBR := Lib.hid (HBR.out.trans (hb1.mono HBR.out.size))
      clear hb1 HC
      go_wp2_with fail
      go_ret
      exact ⟨rfl, HBR.out⟩
end Go.Proofs.Ytpigmefjcklpkaa
