/-
  awake: the chapter's example of layer 2 comes out as the document says.
-/
import Derived.Test.YtooihffijpndoaaSu
namespace Go.Proofs.Ytooihffijpndoaa
open Go.ChangeShapes Go.WideShapes Go.ChangeAt Go.RowKit
set_option linter.unusedVariables false

/-- Var 1, and Lam of it -/
def sv : T := .node 4 1 []
def sl : T := .node 3 0 [sv]
theorem sl_up0 : upX sl 2 0 = .node 3 0 [.node 4 3 []] := by kernel_rfl
theorem sl_up1 : upX sl 2 1 = .node 3 0 [.node 4 1 []] := by kernel_rfl
theorem sl_dn : dnX sl 1 0 = none := by kernel_rfl
theorem sl_nd : nd sl ≤ 1048576 := by decide

theorem rd_sv (w : World) : Rd w sv (.agg #[.int .i64 4, .int .i64 1, .slice none 0 0]) :=
  Rd_node.2 ⟨none, 0, 0, rfl, by decide, by decide, rfl, Nat.le_refl _, Nat.zero_le _, fun i t h => by simp at h⟩
theorem rd_sl {w : World} {b : Nat} {ty : TypeId} (h : Box w b ty #[.int .i64 4, .int .i64 1, .slice none 0 0]) : Rd w sl (.agg #[.int .i64 3, .int .i64 0, .slice (some ⟨b, 0, none⟩) 1 1]) := by
  refine Rd_node.2 ⟨some ⟨b, 0, none⟩, 1, 1, rfl, by decide, by decide, rfl, Nat.le_refl _, by unfold maxLen; omega, fun i t ht => ?_⟩
  cases i with
  | zero =>
    simp only [List.getElem?_cons_zero, Option.some.injEq] at ht
    subst ht
    obtain ⟨c0, c1, c2⟩ := h.three
    exact ⟨b, 0, _, _, _, rfl, c0, c1, c2, rd_sv w⟩
  | succ i => simp at ht

/-- a term of one Arg in memory -/
theorem Rd.single {w : World} {k h k2 h2 : Int} {ys : List T} {v : Value} (hv : Rd w (.node k h [.node k2 h2 ys]) v) :
    ∃ b o c, v = .agg #[.int .i64 k, .int .i64 h, .slice (some ⟨b, o, none⟩) 1 c] ∧ w.cell? ⟨b, o + 1, none⟩ = some (.int .i64 h2) ∧ b < w.heap.size := by
  obtain ⟨A, n, c, rfl, h1, h2', h3, h4, h5, h6⟩ := Rd_node.1 hv
  obtain ⟨b, o, v0, v1, v2, rfl, c0, c1, c2, hr⟩ := h6 0 _ rfl
  obtain ⟨A', n', c', e, _⟩ := Rd_node.1 hr
  have e' : v0 = .int .i64 k2 ∧ v1 = .int .i64 h2 ∧ v2 = .slice A' n' c' := by simpa using e
  obtain ⟨rfl, rfl, rfl⟩ := e'
  have : n = 1 := by simpa using h3.symm
  subst this
  have := cell_lt c1
  simp only [Nat.zero_mul, Nat.add_zero] at c1
  exact ⟨b, o, c, rfl, c1, this⟩

set_option maxRecDepth 100000 in
set_option maxHeartbeats 4000000 in
theorem awakeS (w : World) : Calls Try.prog 10 #[] w fun e w' => e = .returned (.bool true) ∧ Below w.heap.size w w' := by
  go_enter Try.func10, Try.ntmps10
  go_wp2_with fail
  obtain ⟨W, hW⟩ : ∃ W, ((w.alloc (.cells #[.int .i64 4, .int .i64 1, .slice none 0 0] 24)).alloc (.cells #[.int .i64 3, .int .i64 0, .slice (some ⟨w.heap.size, 0, none⟩) 1 1] 24)) = W := ⟨_, rfl⟩
  rw [hW]
  have hb : Below w.heap.size w W := by rw [← hW]; exact ((Below.refl _ _).alloc (Nat.le_refl _) _).alloc (by simp) _
  have x1 : Box W w.heap.size 24 #[.int .i64 4, .int .i64 1, .slice none 0 0] := by rw [← hW]; exact (Box.new _ _ _).alloc _
  have x2 : Box W (w.heap.size + 1) 24 #[.int .i64 3, .int .i64 0, .slice (some ⟨w.heap.size, 0, none⟩) 1 1] := by rw [← hW]; exact (Box.new (w.alloc _) _ _).at (by simp)
  clear hW
  refine (upC sl 2 0 _ _ (rd_sl x1) sl_nd).mono ?_
  rw [sl_up0]
  rintro e w1 ⟨v1, rfl, how, hb1⟩
  replace x1 := x1.keep hb1 x1.lt
  replace x2 := x2.keep hb1 x2.lt
  replace hb := hb.trans (hb1.mono hb.size)
  clear hb1
  have hr1 := RdF.rd _ _ how.rdF
  clear how
  obtain ⟨ba, oa, ca, rfl, q1, lq1⟩ := hr1.single
  clear hr1
  have hbA : Below w1.heap.size w1 (w1.alloc (.cells #[.int .i64 3, .int .i64 0, .slice (some ⟨ba, oa, none⟩) 1 ca] 24)) := (Below.refl _ _).alloc (Nat.le_refl _) _
  obtain ⟨c0, c1, c2⟩ := x2.three
  have l2 := x2.lt
  go_wp2_with fail
  have xa := Box.new w1 24 #[.int .i64 3, .int .i64 0, .slice (some ⟨ba, oa, none⟩) 1 ca]
  generalize w1.alloc (.cells #[.int .i64 3, .int .i64 0, .slice (some ⟨ba, oa, none⟩) 1 ca] 24) = W1 at *
  replace x1 := x1.keep hbA x1.lt
  replace x2 := x2.keep hbA x2.lt
  replace q1 := (hbA.cell lq1).trans q1
  replace lq1 := cell_lt q1
  replace hb := hb.trans (hbA.mono hb.size)
  clear hbA c0 c1 c2
  refine (upC sl 2 1 _ _ (rd_sl x1) sl_nd).mono ?_
  rw [sl_up1]
  rintro e w2 ⟨v2, rfl, how, hb1⟩
  replace x1 := x1.keep hb1 x1.lt
  replace x2 := x2.keep hb1 x2.lt
  replace xa := xa.keep hb1 xa.lt
  replace q1 := (hb1.cell lq1).trans q1
  replace lq1 := cell_lt q1
  replace hb := hb.trans (hb1.mono hb.size)
  clear hb1
  have hr1 := RdF.rd _ _ how.rdF
  clear how
  obtain ⟨bb, ob, cb, rfl, q2, lq2⟩ := hr1.single
  clear hr1
  have hbA : Below w2.heap.size w2 (w2.alloc (.cells #[.int .i64 3, .int .i64 0, .slice (some ⟨bb, ob, none⟩) 1 cb] 24)) := (Below.refl _ _).alloc (Nat.le_refl _) _
  obtain ⟨c0, c1, c2⟩ := x2.three
  have l2 := x2.lt
  go_wp2_with fail
  have xb := Box.new w2 24 #[.int .i64 3, .int .i64 0, .slice (some ⟨bb, ob, none⟩) 1 cb]
  generalize w2.alloc (.cells #[.int .i64 3, .int .i64 0, .slice (some ⟨bb, ob, none⟩) 1 cb] 24) = W2 at *
  replace x1 := x1.keep hbA x1.lt
  replace xa := xa.keep hbA xa.lt
  replace q1 := (hbA.cell lq1).trans q1
  replace lq1 := cell_lt q1
  replace q2 := (hbA.cell lq2).trans q2
  replace lq2 := cell_lt q2
  replace hb := hb.trans (hbA.mono hb.size)
  clear hbA c0 c1 c2 x2 l2
  refine (downC sl 1 0 _ _ (rd_sl x1) sl_nd).mono ?_
  rw [sl_dn]
  rintro e w3 ⟨hb1, ⟨t', v', ht', rfl, how⟩ | ⟨ht', rfl⟩⟩
  · cases ht'
  replace xa := xa.keep hb1 xa.lt
  replace xb := xb.keep hb1 xb.lt
  replace q1 := (hb1.cell lq1).trans q1
  replace lq1 := cell_lt q1
  replace q2 := (hb1.cell lq2).trans q2
  replace lq2 := cell_lt q2
  replace hb := hb.trans (hb1.mono hb.size)
  clear hb1 x1
  obtain ⟨a0, a1, a2⟩ := xa.three
  obtain ⟨b0, b1, b2⟩ := xb.three
  have la := xa.lt
  have lb := xb.lt
  dsimp only at lq1 lq2
  go_wp2_with fail
  go_ret
  exact ⟨rfl, hb.alloc hb.size _⟩
end Go.Proofs.Ytooihffijpndoaa
