/-
  Contract of package sign's Split. No statement is proved here.
-/
import Derived.Test.YtloeainlpcnhnaaGreatQa
namespace Go.Proofs.YtloeainlpcnhnaaGreat
open Go.ChangeShapes Go.WideShapes Go.ChangeAt Go.RowKit
set_option linter.unusedVariables false

mutual
theorem sp_nd : ∀ t : T, (spA t).length + nd (spRq t) ≤ nd t ∧ ∀ a ∈ spA t, nd a ≤ nd t
  | .node k h xs => by
    by_cases hk : asB k xs.length = true
    · obtain ⟨rfl, a, b, rfl⟩ := pi_of hk
      have ih := sp_nd b
      rw [spA_pi, spR_pi, nd, ndL, ndL, ndL]
      refine ⟨by rw [List.length_cons]; omega, fun x hx => ?_⟩
      rcases List.mem_cons.1 hx with rfl | hx
      · omega
      · have := ih.2 x hx; omega
    · have hk : asB k xs.length = false := by simpa using hk
      rw [spA_no hk, spR_no hk]
      exact ⟨by simp, fun x hx => by cases hx⟩
end
/-- an answer: what it asks for, and what it comes to -/
def SpEnd (t : T) (w : World) (e : Ending) (w' : World) : Prop :=
  ∃ Av n cv k h A m c, e = .returned (.tuple #[.slice Av n cv, .agg #[.int .i64 k, .int .i64 h, .slice A m c]]) ∧ (spA t).length = n ∧ n ≤ cv ∧ cv ≤ maxLen ∧ (∀ i u, (spA t)[i]? = some u → RdAt w' Av i u) ∧ Rd w' (spRq t) (.agg #[.int .i64 k, .int .i64 h, .slice A m c]) ∧ Below w.heap.size w w'
/-- the two blocks of a call's own -/
def XQ (B b : Nat) : Prop := b = B ∨ b = B + 1
/-- what holds at the head of Split's loop -/
structure SpIq (w wr : World) (t0 t : T) (k h : Int) (A : Option Addr) (n c : Nat) (j : Nat) (Av : Option Addr) (cv : Nat) (cs : List Value) (ys : List T) : Prop where
  box : Box wr w.heap.size 44 #[.int .i64 k, .int .i64 h, .slice A n c]
  res : Box wr (w.heap.size + 1) 44 #[.int .i64 0, .int .i64 0, .slice none 0 0]
  rd : Rd w t (.agg #[.int .i64 k, .int .i64 h, .slice A n c])
  row : GRowQ (XQ w.heap.size) wr (w.heap.size + 2) (.slice Av j cv) j cs ys
  below : Below w.heap.size w wr
  eqA : spA t0 = ys ++ spA t
  eqR : spRq t0 = spRq t
  small : nd t + j ≤ nd t0
/-- one Pi more is split -/
theorem SpIq.step {w w1 w2 w4 : World} {t0 a b : T} {h0 : Int} {k h : Int} {A : Option Addr} {n c j : Nat} {Av : Option Addr} {cv : Nat} {cs : List Value} {ys : List T} (hI : SpIq w w1 t0 (.node 1 h0 [a, b]) k h A n c j Av cv cs ys) {kb gb : Int} {Ab : Option Addr} {nb cb : Nat} {cs' : List Value} {g cap : Nat}
    (hrb : Rd w b (.agg #[.int .i64 kb, .int .i64 gb, .slice Ab nb cb])) (hb2 : Below w1.heap.size w1 w2) (hrow : GRowQ (XQ w.heap.size) w4 (w.heap.size + 2) (.slice (some ⟨g, 0, none⟩) (j + 1) cap) (j + 1) cs' (ys ++ [a])) (hold : ∀ q, q < w2.heap.size → some q ≠ Value.ownBlock (.slice Av j cv) → w4.heap[q]? = w2.heap[q]?) (hb4 : Below (w.heap.size + 2) w2 w4) :
    SpIq w (((w4.setCell ⟨w.heap.size, 0, none⟩ (.int .i64 kb)).setCell ⟨w.heap.size, 1, none⟩ (.int .i64 gb)).setCell ⟨w.heap.size, 2, none⟩ (.slice Ab nb cb)) t0 b kb gb Ab nb cb (j + 1) (some ⟨g, 0, none⟩) cap cs' (ys ++ [a]) := by
  have s2 := hb2.size
  have l1 := hI.res.lt
  have hne : ∀ q, q < w.heap.size + 2 → some q ≠ Value.ownBlock (.slice Av j cv) := fun q hq e => by
    have := (hI.row.lt e.symm).1
    omega
  have y0 : Box w4 w.heap.size 44 #[.int .i64 k, .int .i64 h, .slice A n c] := (hold _ (by omega) (hne _ (by omega))).trans (hI.box.keep hb2 hI.box.lt)
  have y1 : Box w4 (w.heap.size + 1) 44 #[.int .i64 0, .int .i64 0, .slice none 0 0] := (hold _ (by omega) (hne _ (by omega))).trans (hI.res.keep hb2 hI.res.lt)
  refine ⟨?_, y1.other3Q (by omega) _ _ _, hrb, hrow.move (fun q _ hx => heap_other3Q _ _ _ _ _ _ (fun e => hx (.inl e))) (fun g hg e => ?_), ?_, ?_, ?_, ?_⟩
  · have := ((y0.setAt 0 (.int .i64 kb)).setAt 1 (.int .i64 gb)).setAt 2 (.slice Ab nb cb)
    simpa using this
  · have := (hrow.lt hg).1
    rcases e with e | e <;> omega
  · refine below_set3Q ((hI.below.trans (hb2.mono hI.below.size)).trans (hb4.mono (by omega))) (Nat.le_refl _) _ _ _
  · rw [hI.eqA, spA_pi, List.append_assoc]; rfl
  · rw [hI.eqR, spR_pi]
  · have := hI.small
    rw [nd, ndL, ndL] at this
    omega
theorem SpIq.keep {w w1 w2 : World} {t0 t : T} {k h : Int} {A : Option Addr} {n c j : Nat} {Av : Option Addr} {cv : Nat} {cs : List Value} {ys : List T} (hI : SpIq w w1 t0 t k h A n c j Av cv cs ys) (hb : Below w1.heap.size w1 w2) : SpIq w w2 t0 t k h A n c j Av cv cs ys :=
  ⟨hI.box.keep hb hI.box.lt, hI.res.keep hb hI.res.lt, hI.rd, hI.row.move (fun b hl _ => hb.block b hl) (fun g hg e => by have := (hI.row.lt hg).1; rcases e with e | e <;> omega), hI.below.trans (hb.mono hI.below.size), hI.eqA, hI.eqR, hI.small⟩
/-- the end -/
theorem SpIq.done {w w1 w2 : World} {t0 t : T} {k h : Int} {A : Option Addr} {n c j : Nat} {Av : Option Addr} {cv : Nat} {cs : List Value} {ys : List T} (hI : SpIq w w1 t0 t k h A n c j Av cv cs ys) (hA : spA t = []) (hR : spRq t = t) (hb2 : Below w1.heap.size w1 w2) {k2 h2 : Int} {A2 : Option Addr} {n2 c2 : Nat} (hr : RdF (fun b => b ≠ w.heap.size + 1) w2 t (.agg #[.int .i64 k2, .int .i64 h2, .slice A2 n2 c2])) :
    SpEnd t0 w (.returned (.tuple #[.slice Av j cv, .agg #[.int .i64 k2, .int .i64 h2, .slice A2 n2 c2]])) (((w2.setCell ⟨w.heap.size + 1, 0, none⟩ (.int .i64 k2)).setCell ⟨w.heap.size + 1, 1, none⟩ (.int .i64 h2)).setCell ⟨w.heap.size + 1, 2, none⟩ (.slice A2 n2 c2)) := by
  have hJ := hI.keep hb2
  have e1 := hI.eqA
  have e2 := hI.eqR
  rw [hA, List.append_nil] at e1
  rw [hR] at e2
  obtain ⟨_, _, e3, h5, h6⟩ := hI.row.full
  cases e3
  have hrow := hJ.row.move (w' := ((w2.setCell ⟨w.heap.size + 1, 0, none⟩ (.int .i64 k2)).setCell ⟨w.heap.size + 1, 1, none⟩ (.int .i64 h2)).setCell ⟨w.heap.size + 1, 2, none⟩ (.slice A2 n2 c2)) (fun q _ hx => heap_other3Q _ _ _ _ _ _ (fun e => hx (.inr e))) (fun g hg e => by have := (hJ.row.lt hg).1; rcases e with e | e <;> omega)
  refine ⟨Av, j, cv, k2, h2, A2, n2, c2, rfl, by rw [e1]; exact hI.row.len, h5, h6, fun i u hu => ?_, ?_, below_set3Q hJ.below (by omega) _ _ _⟩
  · rw [e1] at hu
    exact hrow.rdat i u hu
  · rw [e2]
    exact RdF.rd _ _ (RdF.moveQ (ok' := fun _ => True) (fun b hb hl => ⟨trivial, heap_other3Q _ _ _ _ _ _ hb⟩) _ _ hr)

end Go.Proofs.YtloeainlpcnhnaaGreat
