/-
  The chapter's example of layer 5 comes out as the document says. No statement is proved here.
-/
import Derived.Test.YtooihffijpndoaaOg
namespace Go.Proofs.Ytooihffijpndoaa
open Go.ChangeShapes Go.WideShapes Go.ChangeAt Go.RowKit
set_option linter.unusedVariables false

/-- Lam of Var 1 (Var 0) -/
def exT : T := .node 3 0 [.node 4 1 [.node 4 0 []]]
/-- Var 2, Var 0 -/
def exL : List T := [.node 4 2 [], .node 4 0 []]
theorem ex_vars : rs ((nds exT 0).flatMap fv1) = [0] := by kernel_rfl
theorem ex_pat : ptn 3 [] exL = some [2, 0] := by kernel_rfl
theorem ex_pats : (nds exT 0).all (pa1 0) = true := by kernel_rfl
theorem oneAt {w : World} {b : Nat} {ty : TypeId} {t : T} {k2 h2 : Int} {A : Option Addr} {n c : Nat} (hb : Box w b ty #[.int .i64 k2, .int .i64 h2, .slice A n c]) (hr : Rd w t (.agg #[.int .i64 k2, .int .i64 h2, .slice A n c])) :
    ∀ i u, [t][i]? = some u → RdAt w (some ⟨b, 0, none⟩) i u := fun i u hu => by
  cases i with
  | zero =>
    simp only [List.getElem?_cons_zero, Option.some.injEq] at hu
    subst hu
    obtain ⟨c0, c1, c2⟩ := hb.three
    exact ⟨b, 0, _, _, _, rfl, c0, c1, c2, hr⟩
  | succ i => simp at hu
theorem leafRd {w : World} {k h : Int} (hk : (Lit.int .i64 k).wf = true) (hh : (Lit.int .i64 h).wf = true) : Rd w (.node k h []) (.agg #[.int .i64 k, .int .i64 h, .slice none 0 0]) :=
  Rd_node.2 ⟨none, 0, 0, rfl, hk, hh, rfl, Nat.le_refl _, Nat.zero_le _, fun i t ht => by simp at ht⟩
theorem nodeRd1 {w : World} {b : Nat} {ty : TypeId} {t : T} {k h k2 h2 : Int} {A : Option Addr} {n c : Nat} (hb : Box w b ty #[.int .i64 k2, .int .i64 h2, .slice A n c]) (hr : Rd w t (.agg #[.int .i64 k2, .int .i64 h2, .slice A n c])) (hk : (Lit.int .i64 k).wf = true) (hh : (Lit.int .i64 h).wf = true) :
    Rd w (.node k h [t]) (.agg #[.int .i64 k, .int .i64 h, .slice (some ⟨b, 0, none⟩) 1 1]) :=
  Rd_node.2 ⟨some ⟨b, 0, none⟩, 1, 1, rfl, hk, hh, rfl, Nat.le_refl _, by unfold maxLen; omega, oneAt hb hr⟩
theorem twoAt {w : World} {b : Nat} {ty : TypeId} {k1 h1 k2 h2 : Int} (hb : Box w b ty #[.int .i64 k1, .int .i64 h1, .slice none 0 0, .int .i64 k2, .int .i64 h2, .slice none 0 0])
    (a1 : (Lit.int .i64 k1).wf = true) (a2 : (Lit.int .i64 h1).wf = true) (a3 : (Lit.int .i64 k2).wf = true) (a4 : (Lit.int .i64 h2).wf = true) :
    ∀ i u, [T.node k1 h1 [], T.node k2 h2 []][i]? = some u → RdAt w (some ⟨b, 0, none⟩) i u := fun i u hu => by
  match i, hu with
  | 0, hu =>
    simp only [List.getElem?_cons_zero, Option.some.injEq] at hu
    subst hu
    exact ⟨b, 0, _, _, _, rfl, hb.cell 0, hb.cell 1, hb.cell 2, leafRd a1 a2⟩
  | 1, hu =>
    simp only [List.getElem?_cons_succ, List.getElem?_cons_zero, Option.some.injEq] at hu
    subst hu
    exact ⟨b, 0, _, _, _, rfl, hb.cell 3, hb.cell 4, hb.cell 5, leafRd a3 a4⟩
  | i + 2, hu => simp at hu

set_option maxRecDepth 100000 in
set_option maxHeartbeats 4000000 in
theorem awakeO (w : World) : Calls Try.prog 21 #[] w fun e w' => e = .returned (.bool true) ∧ Below w.heap.size w w' := by
  go_enter Try.func21, Try.ntmps21
  go_wp2_with fail
  obtain ⟨W, hW⟩ : ∃ W, (((w.alloc (.cells #[.int .i64 4, .int .i64 0, .slice none 0 0] 24)).alloc (.cells #[.int .i64 4, .int .i64 1, .slice (some ⟨w.heap.size, 0, none⟩) 1 1] 24)).alloc (.cells #[.int .i64 3, .int .i64 0, .slice (some ⟨w.heap.size + 1, 0, none⟩) 1 1] 24)) = W := ⟨_, rfl⟩
  rw [hW]
  have hb0 : Below w.heap.size w W := by rw [← hW]; exact (((Below.refl _ w).alloc (Nat.le_refl _) _).alloc (by simp) _).alloc (by simp; omega) _
  have x0 : Box W w.heap.size 24 #[.int .i64 4, .int .i64 0, .slice none 0 0] := by rw [← hW]; exact ((Box.new _ _ _).alloc _).alloc _
  have x1 : Box W (w.heap.size + 1) 24 #[.int .i64 4, .int .i64 1, .slice (some ⟨w.heap.size, 0, none⟩) 1 1] := by rw [← hW]; exact ((Box.new (w.alloc _) _ _).at (by simp)).alloc _
  have x2 : Box W (w.heap.size + 1 + 1) 24 #[.int .i64 3, .int .i64 0, .slice (some ⟨w.heap.size + 1, 0, none⟩) 1 1] := by rw [← hW]; exact (Box.new ((w.alloc _).alloc _) _ _).at (by simp)
  clear hW
  have hr : Rd W exT (.agg #[.int .i64 3, .int .i64 0, .slice (some ⟨w.heap.size + 1, 0, none⟩) 1 1]) :=
    nodeRd1 x1 (nodeRd1 x0 (leafRd (by decide) (by decide)) (by decide) (by decide)) (by decide) (by decide)
  have HR := Lib.hid hr; clear hr
  have HV := Lib.hid (oVarsC exT _ W HR.out (by decide))
  refine HV.out.mono ?_
  rintro e w1 ⟨u, rfl, hn1, hb1⟩
  rw [ex_vars] at hn1
  have hl2 := x2.lt
  have y2 := x2.keep hb1 hl2
  have hr1 := Rd.keep hb1 _ _ HR.out
  have HR1 := Lib.hid hr1; clear hr1
  have hb01 := hb0.trans (hb1.mono hb0.size)
  clear HV HR x0 x1 x2 hb1 hb0
  go_wp2_with fail
  obtain ⟨W2, hW2⟩ : ∃ W2, w1.alloc (.cells #[.int .i64 4, .int .i64 2, .slice none 0 0, .int .i64 4, .int .i64 0, .slice none 0 0] 24) = W2 := ⟨_, rfl⟩
  rw [hW2]
  have hba : Below w1.heap.size w1 W2 := by rw [← hW2]; exact (Below.refl _ _).alloc (Nat.le_refl _) _
  have z0 : Box W2 w1.heap.size 24 #[.int .i64 4, .int .i64 2, .slice none 0 0, .int .i64 4, .int .i64 0, .slice none 0 0] := by rw [← hW2]; exact Box.new _ _ _
  clear hW2
  have HP := Lib.hid (oPatternC exL (some ⟨w1.heap.size, 0, none⟩) 2 2 3 W2 rfl (Nat.le_refl _) (by unfold maxLen; omega) (by omega) (twoAt z0 (by decide) (by decide) (by decide) (by decide)))
  refine HP.out.mono ?_
  rw [ex_pat]
  rintro e w2 (⟨zs, p, hz, rfl, hn2, hb2⟩ | ⟨h0, _⟩)
  · obtain rfl : [2, 0] = zs := by simpa using hz
    have hb12 := hba.trans (hb2.mono hba.size)
    have hn1' := hn1.keep hb12
    have y3 := y2.keep hb12 y2.lt
    have HR2 := Lib.hid (Rd.keep hb12 _ _ HR1.out)
    have hb02 := hb01.trans (hb12.mono hb01.size)
    clear HP HR1 z0 y2 hb12 hb01 hba hb2 hz hn1
    obtain ⟨A1, n1, c1, rfl, e1, _, _⟩ := hn1'.full
    obtain ⟨A2, n2, c2, rfl, e2, _, _⟩ := hn2.full
    obtain rfl : n1 = 1 := e1.symm
    obtain rfl : n2 = 2 := e2.symm
    obtain ⟨b1, o1, z1, rfl, h1, d1⟩ := hn1'.cell (j := 0) (by decide)
    obtain ⟨b2, o2, z2, rfl, h2, d2⟩ := hn2.cell (j := 0) (by decide)
    obtain rfl : 0 = z1 := by simpa using h1
    obtain rfl : 2 = z2 := by simpa using h2
    simp only [Nat.add_zero] at d1 d2
    obtain ⟨q0, q1, q2⟩ := y3.three
    have HPS := Lib.hid (oPatternsC exT 0 _ w2 HR2.out (by decide))
    rw [ex_pats] at HPS
    clear h1 h2 e1 e2 hn1' hn2
    go_wp2_with (go_at_call 38; refine HPS.out.mono ?_; rintro e w3 ⟨rfl, hb3⟩)
    go_ret
    exact ⟨rfl, hb02.trans (hb3.mono hb02.size)⟩
  · exact absurd h0 (by simp)
end Go.Proofs.Ytooihffijpndoaa
