/-
  awake: the chapter's example comes out as the document says.
-/
import Derived.Test.YtlcoadbeiaiioaaTf
import Derived.Test.YtlcoadbeiaiioaaTg
namespace Go.Proofs.Ytlcoadbeiaiioaa
open Go.ChangeShapes Go.WideShapes Go.ChangeAt Go.RowKit Go.Shelf
set_option linter.unusedVariables false

/-- Var 0, and Lam of it -/
def tv : T := .node 4 0 []
def tl : T := .node 3 0 [tv]
theorem tl_size : cntW (flat tl 1 0).length = 2 := by kernel_rfl
theorem tl_depth : maxD (flat tl 1 0) = 2 := by kernel_rfl
theorem tl_may : mayK (flat tl 1 0) = true := by kernel_rfl
theorem tl_scoped : (flat tl 1 0).all (scT 0 0) = true := by kernel_rfl
theorem tv_scoped : (flat tv 1 0).all (scT 0 0) = false := by kernel_rfl

theorem zero_wf : (Lit.int .i64 0).wf = true := by decide
theorem rd_tv (w : World) : Rd w tv (.agg #[.int .i64 4, .int .i64 0, .slice none 0 0]) :=
  Rd_node.2 ⟨none, 0, 0, rfl, by decide, by decide, rfl, Nat.le_refl _, Nat.zero_le _, fun i t h => by simp at h⟩
theorem rd_tl {w : World} {b : Nat} {ty : TypeId} (h : Box w b ty #[.int .i64 4, .int .i64 0, .slice none 0 0]) : Rd w tl (.agg #[.int .i64 3, .int .i64 0, .slice (some ⟨b, 0, none⟩) 1 1]) := by
  refine Rd_node.2 ⟨some ⟨b, 0, none⟩, 1, 1, rfl, by decide, by decide, rfl, Nat.le_refl _, by unfold maxLen; omega, fun i t ht => ?_⟩
  cases i with
  | zero =>
    simp only [List.getElem?_cons_zero, Option.some.injEq] at ht
    subst ht
    obtain ⟨c0, c1, c2⟩ := h.three
    exact ⟨b, 0, _, _, _, rfl, c0, c1, c2, rd_tv w⟩
  | succ i => simp at ht

set_option maxRecDepth 100000 in
set_option maxHeartbeats 2000000 in
theorem awakeC (w : World) : Calls Try.prog 15 #[] w fun e w' => e = .returned (.bool true) ∧ Below w.heap.size w w' := by
  go_enter Try.func15, Try.ntmps15
  go_wp2_with fail
  obtain ⟨W, hW⟩ : ∃ W, ((w.alloc (.cells #[.int .i64 4, .int .i64 0, .slice none 0 0] 24)).alloc (.cells #[.int .i64 3, .int .i64 0, .slice (some ⟨w.heap.size, 0, none⟩) 1 1] 24)) = W := ⟨_, rfl⟩
  rw [hW]
  have hb : Below w.heap.size w W := by rw [← hW]; exact ((Below.refl _ _).alloc (Nat.le_refl _) _).alloc (by simp) _
  have x1 : Box W w.heap.size 24 #[.int .i64 4, .int .i64 0, .slice none 0 0] := by rw [← hW]; exact (Box.new _ _ _).alloc _
  have x2 : Box W (w.heap.size + 1) 24 #[.int .i64 3, .int .i64 0, .slice (some ⟨w.heap.size, 0, none⟩) 1 1] := by rw [← hW]; exact (Box.new (w.alloc _) _ _).at (by simp)
  clear hW
  refine (termSize tl _ _ (rd_tl x1)).mono ?_
  rw [tl_size]
  rintro e w1 ⟨rfl, hb1⟩
  have x1 := x1.keep hb1 x1.lt
  have x2 := x2.keep hb1 x2.lt
  have hb := hb.trans (hb1.mono hb.size)
  clear hb1
  obtain ⟨c0, c1, c2⟩ := x2.three
  go_wp2_with fail
  refine (termDepth tl _ _ (rd_tl x1)).mono ?_
  rw [tl_depth]
  rintro e w2 ⟨rfl, hb1⟩
  have x1 := x1.keep hb1 x1.lt
  have x2 := x2.keep hb1 x2.lt
  have hb := hb.trans (hb1.mono hb.size)
  clear hb1 c0 c1 c2
  obtain ⟨c0, c1, c2⟩ := x2.three
  go_wp2_with fail
  refine (termMay tl _ _ (rd_tl x1)).mono ?_
  rw [tl_may]
  rintro e w3 ⟨rfl, hb1⟩
  have x1 := x1.keep hb1 x1.lt
  have x2 := x2.keep hb1 x2.lt
  have hb := hb.trans (hb1.mono hb.size)
  clear hb1 c0 c1 c2
  obtain ⟨c0, c1, c2⟩ := x2.three
  go_wp2_with fail
  refine (termScoped tl 0 0 _ _ (rd_tl x1)).mono ?_
  rw [tl_scoped]
  rintro e w4 ⟨rfl, hb1⟩
  have x1 := x1.keep hb1 x1.lt
  have x2 := x2.keep hb1 x2.lt
  have hb := hb.trans (hb1.mono hb.size)
  clear hb1 c0 c1 c2
  obtain ⟨c0, c1, c2⟩ := x2.three
  obtain ⟨d0, d1, d2⟩ := x1.three
  go_wp2_with fail
  refine (termScoped tv 0 0 _ _ (rd_tv _)).mono ?_
  rw [tv_scoped]
  rintro e w5 ⟨rfl, hb1⟩
  have hb := hb.trans (hb1.mono hb.size)
  clear hb1
  go_wp2_with fail
  go_ret
  exact ⟨rfl, hb⟩
end Go.Proofs.Ytlcoadbeiaiioaa
