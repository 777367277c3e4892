/-
  The chapter's example of layer 6. No statement is proved here.
-/
import Derived.Test.YtdllbljjlaipoaaIf
namespace Go.Proofs.Ytdllbljjlaipoaa
open Go.ChangeShapes Go.WideShapes Go.ChangeAt Go.RowKit
set_option linter.unusedVariables false

theorem ai_one : ivR (.node 4 2 []) [2, 0] 3 = .ok (.node 4 1 []) := by kernel_rfl
theorem ai_two : ivR (.node 4 3 []) [2, 0] 3 = .ok (.node 4 2 []) := by kernel_rfl
theorem ai_three : ivR (.node 4 1 []) [2, 0] 3 = .error 7 := by kernel_rfl
theorem leaf_of {ok : Nat → Prop} {w : World} {k h k' h' : Int} {A : Option Addr} {n c : Nat} (hr : RdF ok w (.node k' h' []) (.agg #[.int .i64 k, .int .i64 h, .slice A n c])) : h = h' := by
  obtain ⟨A', n', c', e, _⟩ := RdF_node.1 hr
  simp at e
  exact e.2.1
theorem leafI {w : World} {h : Int} (hh : (Lit.int .i64 h).wf = true) : Rd w (.node 4 h []) (.agg #[.int .i64 4, .int .i64 h, .slice none 0 0]) :=
  Rd_node.2 ⟨none, 0, 0, rfl, by decide, hh, rfl, Nat.le_refl _, Nat.zero_le _, fun i t h => by simp at h⟩
theorem nums_two {w : World} {b : Nat} {ty : TypeId} {x y : Int} (hb : Box w b ty #[.int .i64 x, .int .i64 y]) : ∀ i z, ([x, y] : List Int)[i]? = some z → ∃ b' o, some (⟨b, 0, none⟩ : Addr) = some ⟨b', o, none⟩ ∧ w.cell? ⟨b', o + i, none⟩ = some (.int .i64 z) := fun i z hz => by
  obtain ⟨c0, c1⟩ := hb.two
  match i, hz with
  | 0, hz => cases hz; exact ⟨b, 0, rfl, c0⟩
  | 1, hz => cases hz; exact ⟨b, 0, rfl, by simpa using c1⟩
set_option maxRecDepth 100000 in
set_option maxHeartbeats 4000000 in
theorem awakeI (w : World) : Calls Try.prog 9 #[] w fun e w' => e = .returned (.bool true) ∧ Below w.heap.size w w' := by
  obtain ⟨W, hW⟩ : ∃ W, w.alloc (.cells #[.int .i64 2, .int .i64 0] 3) = W := ⟨_, rfl⟩
  have hb : Below w.heap.size w W := by rw [← hW]; exact (Below.refl _ _).alloc (Nat.le_refl _) _
  have x0 : Box W w.heap.size 3 #[.int .i64 2, .int .i64 0] := by rw [← hW]; exact Box.new _ _ _
  have HWW := Lib.hid hW; clear hW
  have HI : Hid (∀ (h : Int) (W' : World), (Lit.int .i64 h).wf = true → Below W.heap.size W W' → Calls Try.prog 11 #[.agg #[.int .i64 4, .int .i64 h, .slice none 0 0], .slice (some ⟨w.heap.size, 0, none⟩) 2 2, .int .i64 3] W' (IEnd (ivR (.node 4 h []) [2, 0] 3) W')) := Lib.hid fun h W' hh hb' =>
    InvertC (.node 4 h []) [2, 0] _ 2 2 3 _ W' (leafI hh) (by simp [nd, ndL]) rfl (Nat.le_refl _) (by unfold maxLen; omega) (nums_two (x0.keep hb' x0.lt))
  clear x0
  have h1 := HI.out 2 W (by decide) (Below.refl _ _)
  rw [ai_one] at h1
  go_enter Try.func9, Try.ntmps9
  go_wp2_with fail
  rw [HWW.out]
  clear HWW
  refine h1.mono ?_
  rintro e w1 ⟨k1, a1, A1, n1, c1, rfl, hr1, hb1⟩
  obtain rfl := leaf_of hr1
  clear hr1 h1
  have y1 := Box.new w1 24 #[.int .i64 k1, .int .i64 1, .slice A1 n1 c1]
  have hb2 : Below W.heap.size W (w1.alloc (.cells #[.int .i64 k1, .int .i64 1, .slice A1 n1 c1] 24)) := hb1.alloc hb1.size _
  have h2 := HI.out 3 _ (by decide) hb2
  rw [ai_two] at h2
  clear hb1
  go_wp2_with fail
  refine h2.mono ?_
  rintro e w2 ⟨k2, a2, A2, n2, c2, rfl, hr2, hb3⟩
  obtain rfl := leaf_of hr2
  clear hr2 h2
  have z1 := y1.keep hb3 y1.lt
  replace hb2 := hb2.trans (hb3.mono hb2.size)
  clear hb3 y1
  have y2 := Box.new w2 24 #[.int .i64 k2, .int .i64 2, .slice A2 n2 c2]
  have z1' := z1.alloc (.cells #[.int .i64 k2, .int .i64 2, .slice A2 n2 c2] 24)
  have hb4 : Below W.heap.size W (w2.alloc (.cells #[.int .i64 k2, .int .i64 2, .slice A2 n2 c2] 24)) := hb2.alloc hb2.size _
  have h3 := HI.out 1 _ (by decide) hb4
  rw [ai_three] at h3
  clear hb2
  go_wp2_with fail
  refine h3.mono ?_
  rintro e w3 ⟨k3, a3, A3, n3, c3, rfl, hr3, hb5⟩
  have q1 := z1'.keep hb5 z1'.lt
  have q2 := y2.keep hb5 y2.lt
  replace hb4 := hb4.trans (hb5.mono hb4.size)
  clear hr3 h3 hb5 z1 z1' y2
  have hbw := hb.trans (hb4.mono hb.size)
  obtain ⟨p0, p1, p2⟩ := q1.three
  obtain ⟨r0, r1, r2⟩ := q2.three
  have l1 := q1.lt
  have l2 := q2.lt
  simp only [ivE]
  go_wp2_with fail
  go_ret
  exact ⟨rfl, hbw.alloc hbw.size _⟩
end Go.Proofs.Ytdllbljjlaipoaa
