/-
  A list of terms that is copied by append, and one more. No statement is proved here.
-/
import Derived.Test.YtigfhhfpdggjfaaPkV
namespace Go.Proofs.Ytigfhhfpdggjfaa
open Go.ChangeShapes Go.WideShapes Go.ChangeAt Go.RowKit
set_option linter.unusedVariables false

/-- a row of a call's own that holds a list's cells -/
structure TRowV (W0 : World) (A : Option Addr) (n : Nat) (w : World) (v : Value) (olds : List Value) : Prop where
  own : w.ownsRow W0.heap.size 26 3 v n olds
  len : olds.length = n * 3
  at_ : ∀ b o q u, A = some ⟨b, o, none⟩ → q < n * 3 → W0.cell? ⟨b, o + q, none⟩ = some u → olds[q]? = some u
theorem TRowV.kept {W0 : World} {A : Option Addr} {n : Nat} {w w' : World} {v : Value} {olds : List Value} (h : TRowV W0 A n w v olds) (hb : Below w.heap.size w w') : TRowV W0 A n w' v olds :=
  ⟨h.own.kept (grown_of_below hb) (own_none _), h.len, h.at_⟩
theorem termApp1V {W0 W : World} {xs : List T} {A : Option Addr} {n c : Nat} (h : CLV W0 xs A n c) (hn : n ≤ 100000) (hb : Below W0.heap.size W0 W) :
    ∃ A' c' w' olds, (Builtin.append_ #[24, 24] 24 #[.slice none 0 0, .slice A n c]).run Try.prog W = .ok (.slice A' n c') w' ∧ TRowV W0 A n w' (.slice A' n c') olds ∧ Below W.heap.size W w' := by
  obtain ⟨i0, hi, hz0, hz1, hz2⟩ := info_parts infoTerm
  rcases Nat.eq_zero_or_pos n with rfl | hp
  · refine ⟨none, 0, W, [], ?_, ⟨World.ownsRow_nil _ _ _ _, rfl, fun b o q u _ hq => by omega⟩, Below.refl _ _⟩
    cases A <;> simp [Builtin.append_, run_underlying Try.underlying24, sizeOf, typeInfo, hi, Builtin.lenOf, Builtin.firstCells, loadCells, loadCellsFrom]
  · obtain ⟨t, ht⟩ := at_of h.len hp
    obtain ⟨b, o, _, _, _, _, _, e, _⟩ := (h.at_ 0 t ht).full
    subst e
    have hxW := h.keep hb
    obtain ⟨g, cap, w', hrun, how, hgr, _, _⟩ := run_append_lies (P := Try.prog) W 24 24 W0.heap.size 26 i0 _ 3 40 Try.underlying24 hi hz0 hz1 hz2 rfl (by omega) (.slice none 0 0) 0 []
      (World.ownsRow_nil _ _ _ _) ⟨b, o, none⟩ n c (rawV W b o (n * 3)) (rawV_len _ _ _ _) (fun j u hu => by
          have hq : j < n * 3 := by have := (List.getElem?_eq_some_iff.1 hu).1; rwa [rawV_len] at this
          obtain ⟨u', h1, _⟩ := rawV_cell hxW hq
          rw [rawV_at hq, h1] at hu
          rw [addr_add, h1]
          simpa using hu) (fun u hu => by
          obtain ⟨q, hq⟩ := List.getElem?_of_mem hu
          have hlt : q < n * 3 := by have := (List.getElem?_eq_some_iff.1 hq).1; rwa [rawV_len] at this
          obtain ⟨u', h1, h2⟩ := rawV_cell hxW hlt
          rw [rawV_at hlt, h1] at hq
          cases hq
          exact h2) hp (by unfold maxLen; omega) (by omega) hb.size _ rfl
    rw [Nat.zero_add] at hrun how
    rw [List.nil_append] at how
    refine ⟨some ⟨g, 0, none⟩, cap, w', _, hrun, ⟨how, rawV_len _ _ _ _, fun b' o' q u e hq hu => ?_⟩, below_grown (Below.refl _ _) hgr (fun r hr => by cases hr) (Nat.le_refl _)⟩
    cases e
    rw [rawV_at hq, (hb.cell (cell_lt hu)).trans hu]
    rfl
theorem termApp2V {W0 W : World} {xs : List T} {A : Option Addr} {n c : Nat} (h : CLV W0 xs A n c) (hn : n ≤ 100000) (hb : Below W0.heap.size W0 W) {v : Value} {olds : List Value} (hr : TRowV W0 A n W v olds) {P : Nat} {k g : Int} {A2 : Option Addr} {n2 c2 : Nat} {x : T}
    (hP : W.heap[P]? = some (.cells #[.int .i64 k, .int .i64 g, .slice A2 n2 c2] 26 (0, 0))) (hx : Rd W0 x (.agg #[.int .i64 k, .int .i64 g, .slice A2 n2 c2])) :
    ∃ q cap w', (Builtin.append_ #[24, 24] 24 #[v, .slice (some ⟨P, 0, none⟩) 1 1]).run Try.prog W = .ok (.slice (some ⟨q, 0, none⟩) (n + 1) cap) w' ∧ CLV w' (xs ++ [x]) (some ⟨q, 0, none⟩) (n + 1) cap ∧ Below W0.heap.size W0 w' := by
  obtain ⟨i0, hi, hz0, hz1, hz2⟩ := info_parts infoTerm
  obtain ⟨q, cap, w', hrun, how, hgr, _, _⟩ := run_append_lies (P := Try.prog) W 24 24 W0.heap.size 26 i0 _ 3 40 Try.underlying24 hi hz0 hz1 hz2 rfl (by omega) v n olds
    hr.own ⟨P, 0, none⟩ 1 1 [.int .i64 k, .int .i64 g, .slice A2 n2 c2] rfl (World.news_of_block hP) (by intro u hu; simp at hu; rcases hu with rfl | rfl | rfl <;> rfl) (by omega) (by unfold maxLen; omega) (by omega) hb.size _ rfl
  have hbw : Below W0.heap.size W0 w' := below_grown hb hgr (fun r hr' => (hr.own.lt r hr').1) hb.size
  exact ⟨q, cap, w', hrun, rdV_row h hbw hr.at_ hr.len hx how rfl, hbw⟩
end Go.Proofs.Ytigfhhfpdggjfaa
