/-
  The chapter's example (awake of the statements of layer 9). No statement is proved here.
-/
import Derived.Test.YtclhllkgamnpoaaQe
namespace Go.Proofs.Ytclhllkgamnpoaa
open Go.ChangeShapes Go.WideShapes Go.ChangeAt Go.RowKit
set_option linter.unusedVariables false

theorem rd_leafQ {w : World} {k h : Int} (hk : (Lit.int .i64 k).wf = true) (hh : (Lit.int .i64 h).wf = true) : Rd w (.node k h []) (.agg #[.int .i64 k, .int .i64 h, .slice none 0 0]) :=
  Rd_node.2 ⟨none, 0, 0, rfl, hk, hh, rfl, Nat.le_refl _, Nat.zero_le _, fun i t ht => by simp at ht⟩
theorem rd_twoQ {w : World} {b c : Nat} {ty : TypeId} {u0 u1 u2 v0 v1 v2 : Value} {x y : T} {h : Int} (hB : Box w b ty #[u0, u1, u2, v0, v1, v2]) (hx : Rd w x (.agg #[u0, u1, u2])) (hy : Rd w y (.agg #[v0, v1, v2])) (hh : (Lit.int .i64 h).wf = true) (hc : 2 ≤ c) (hm : c ≤ maxLen) : Rd w (.node 1 h [x, y]) (.agg #[.int .i64 1, .int .i64 h, .slice (some ⟨b, 0, none⟩) 2 c]) := by
  refine Rd_node.2 ⟨_, 2, c, rfl, by decide, hh, rfl, hc, hm, fun i t ht => ?_⟩
  match i, ht with
  | 0, ht => cases ht; exact ⟨b, 0, u0, u1, u2, rfl, hB.cell 0, hB.cell 1, hB.cell 2, hx⟩
  | 1, ht => cases ht; exact ⟨b, 0, v0, v1, v2, rfl, hB.cell 3, hB.cell 4, hB.cell 5, hy⟩
  | i + 2, ht => simp at ht
/-- the example's term -/
def exB : T := .node 1 0 [.node 2 1 [], .node 2 3 []]
def exA : T := .node 1 0 [.node 2 0 [], exB]
theorem exA_sp : spA exA = [.node 2 0 [], .node 2 1 []] := by rw [exA, spA_pi, exB, spA_pi, spA_no rfl]
theorem exA_sr : spR exA = .node 2 3 [] := by rw [exA, spR_pi, exB, spR_pi, spR_no rfl]
theorem exA_fa : faI exA = 3 := by rw [faI, exA_sr]; rfl
theorem exA_ki : kiB exA = false := by rw [kiB, exA_sr]; rfl
theorem ex0_ki : kiB (.node 0 0 []) = true := by rw [kiB, spR_no rfl]; rfl
theorem exA_nd : nd exA ≤ 1048576 := by simp [exA, exB, nd, ndL]
theorem rd_lit {w : World} {k h k' h' : Int} {A : Option Addr} {n c : Nat} {xs : List T} (hr : Rd w (.node k h xs) (.agg #[.int .i64 k', .int .i64 h', .slice A n c])) : k' = k ∧ h' = h ∧ n = xs.length := by
  obtain ⟨A1, n1, c1, e, _, _, hl, _⟩ := Rd_node.1 hr
  have e' : k' = k ∧ h' = h ∧ A = A1 ∧ n = n1 ∧ c = c1 := by simpa using e
  exact ⟨e'.1, e'.2.1, by rw [e'.2.2.2.1, hl]⟩

set_option maxRecDepth 100000 in
set_option maxHeartbeats 2000000 in
theorem awakeQ (w : World) : Calls Try.prog 8 #[] w fun e w' => e = .returned (.bool true) ∧ Below w.heap.size w w' := by
  go_enter Try.func8, Try.ntmps8
  go_wp2_with fail
  obtain ⟨W, hW⟩ : ∃ W, ((((w.alloc (.cells #[.int .i64 2, .int .i64 3, .slice none 0 0] 24)).alloc (.cells #[.int .i64 2, .int .i64 1, .slice none 0 0, .int .i64 2, .int .i64 3, .slice none 0 0] 24)).alloc (.cells #[.int .i64 2, .int .i64 0, .slice none 0 0, .int .i64 1, .int .i64 0, .slice (some ⟨w.heap.size + 1, 0, none⟩) 2 2] 24)).alloc (.cells #[.int .i64 1, .int .i64 0, .slice (some ⟨w.heap.size + 1 + 1, 0, none⟩) 2 2] 24)) = W := ⟨_, rfl⟩
  rw [hW]
  have hb : Below w.heap.size w W := by rw [← hW]; exact ((((Below.refl _ _).alloc (Nat.le_refl _) _).alloc (by simp) _).alloc (by simp; omega) _).alloc (by simp; omega) _
  have x1 : Box W (w.heap.size + 1) 24 #[.int .i64 2, .int .i64 1, .slice none 0 0, .int .i64 2, .int .i64 3, .slice none 0 0] := by rw [← hW]; exact (((Box.new (w.alloc _) _ _).at (by simp)).alloc _).alloc _
  have x2 : Box W (w.heap.size + 1 + 1) 24 #[.int .i64 2, .int .i64 0, .slice none 0 0, .int .i64 1, .int .i64 0, .slice (some ⟨w.heap.size + 1, 0, none⟩) 2 2] := by rw [← hW]; exact ((Box.new ((w.alloc _).alloc _) _ _).at (b' := w.heap.size + 1 + 1) (by simp)).alloc _
  have x3 : Box W (w.heap.size + 1 + 1 + 1) 24 #[.int .i64 1, .int .i64 0, .slice (some ⟨w.heap.size + 1 + 1, 0, none⟩) 2 2] := by rw [← hW]; exact (Box.new (((w.alloc _).alloc _).alloc _) _ _).at (b' := w.heap.size + 1 + 1 + 1) (by simp)
  have rB : Rd W exB (.agg #[.int .i64 1, .int .i64 0, .slice (some ⟨w.heap.size + 1, 0, none⟩) 2 2]) := rd_twoQ x1 (rd_leafQ (by decide) (by decide)) (rd_leafQ (by decide) (by decide)) (by decide) (Nat.le_refl _) (by unfold maxLen; omega)
  have rA : Rd W exA (.agg #[.int .i64 1, .int .i64 0, .slice (some ⟨w.heap.size + 1 + 1, 0, none⟩) 2 2]) := rd_twoQ x2 (rd_leafQ (by decide) (by decide)) rB (by decide) (Nat.le_refl _) (by unfold maxLen; omega)
  have HB := Lib.hid hb
  have HR := Lib.hid rA
  have HX := Lib.hid x3
  clear hW hb x1 x2 x3 rB rA
  refine (splitC exA _ _ HR.out exA_nd).mono ?_
  rintro e w1 ⟨Av, n, cv, k2, h2, A2, n2, c2, rfl, hn, hcv, hcm, hl, hr2, hb1⟩
  rw [exA_sp] at hn hl
  rw [exA_sr] at hr2
  have hn2 : n = 2 := by simpa using hn.symm
  subst hn2
  obtain ⟨rfl, rfl, rfl⟩ := rd_lit hr2
  obtain ⟨b, o, k1, h1, A1, n1, c1, rfl, d0, d1, d2, hr1⟩ := (hl 1 _ rfl).full
  obtain ⟨rfl, rfl, rfl⟩ := rd_lit hr1
  have d1' : w1.cell? ⟨b, o + 4, none⟩ = some (.int .i64 1) := by simpa using d1
  have lb := cell_lt d1'
  have y3 := HX.out.keep hb1 HX.out.lt
  obtain ⟨p0, p1, p2⟩ := y3.three
  have l3 := y3.lt
  have hbw := HB.out.trans (hb1.mono HB.out.size)
  have hbA : Below w1.heap.size w1 (w1.alloc (.cells #[.int .i64 2, .int .i64 3, .slice A2 0 c2] 24)) := (Below.refl _ _).alloc (Nat.le_refl _) _
  have z3 := y3.keep hbA l3
  obtain ⟨q0, q1, q2⟩ := z3.three
  have HRD := Lib.hid (Rd.keep hbA _ _ (Rd.keep hb1 _ _ HR.out))
  have HBW := Lib.hid (hbw.trans (hbA.mono hbw.size))
  have HZ := Lib.hid z3
  have HFA := Lib.hid (familyC exA _ _ HRD.out)
  rw [exA_fa] at HFA
  clear hn hl hr2 d0 d1 d2 hr1 y3 hbw hbA z3 hb1
  go_wp2_with fail
  refine HFA.out.mono ?_
  clear HFA
  rintro e w2 ⟨rfl, hb2⟩
  have z4 := HZ.out.keep hb2 HZ.out.lt
  have HRD2 := Lib.hid (Rd.keep hb2 _ _ HRD.out)
  have HBW2 := Lib.hid (HBW.out.trans (hb2.mono HBW.out.size))
  have HKI := Lib.hid (kindC exA _ _ HRD2.out)
  rw [exA_ki] at HKI
  clear p0 p1 p2 q0 q1 q2 d1'
  obtain ⟨p0, p1, p2⟩ := z4.three
  clear z4 hb2
  go_wp2_with fail
  refine HKI.out.mono ?_
  clear HKI
  rintro e w3 ⟨rfl, hb3⟩
  have HK0 := Lib.hid (kindC (.node 0 0 []) (.agg #[.int .i64 0, .int .i64 0, .slice none 0 0]) w3 (rd_leafQ (by decide) (by decide)))
  rw [ex0_ki] at HK0
  have HBW3 := Lib.hid (HBW2.out.trans (hb3.mono HBW2.out.size))
  clear p0 p1 p2 hb3
  go_wp2_with fail
  refine HK0.out.mono ?_
  clear HK0
  rintro e w4 ⟨rfl, hb4⟩
  have HBW4 := Lib.hid (HBW3.out.trans (hb4.mono HBW3.out.size))
  clear hb4
  go_wp2_with fail
  go_ret
  exact ⟨rfl, HBW4.out⟩
end Go.Proofs.Ytclhllkgamnpoaa
