/-
  Contract of package sign's Split. No statement is proved here.
-/
import Derived.Test.YtclhllkgamnpoaaQa
namespace Go.Proofs.Ytclhllkgamnpoaa
open Go.ChangeShapes Go.WideShapes Go.ChangeAt Go.RowKit
set_option linter.unusedVariables false

mutual
theorem sp_nd : ∀ t : T, (spA t).length + nd (spR t) ≤ nd t ∧ ∀ a ∈ spA t, nd a ≤ nd t
  | .node k h xs => by
    by_cases hk : asB k xs.length = true
    · obtain ⟨rfl, a, b, rfl⟩ := pi_of hk
      have ih := sp_nd b
      rw [spA_pi, spR_pi, nd, ndL, ndL, ndL]
      refine ⟨by rw [List.length_cons]; omega, fun x hx => ?_⟩
      rcases List.mem_cons.1 hx with rfl | hx
      · omega
      · have := ih.2 x hx; omega
    · have hk : asB k xs.length = false := by simpa using hk
      rw [spA_no hk, spR_no hk]
      exact ⟨by simp, fun x hx => by cases hx⟩
end
/-- an answer: what it asks for, and what it comes to -/
def SpEnd (t : T) (w : World) (e : Ending) (w' : World) : Prop :=
  ∃ Av n cv k h A m c, e = .returned (.tuple #[.slice Av n cv, .agg #[.int .i64 k, .int .i64 h, .slice A m c]]) ∧ (spA t).length = n ∧ n ≤ cv ∧ cv ≤ maxLen ∧ (∀ i u, (spA t)[i]? = some u → RdAt w' Av i u) ∧ Rd w' (spR t) (.agg #[.int .i64 k, .int .i64 h, .slice A m c]) ∧ Below w.heap.size w w'
/-- the two blocks of a call's own -/
def XQ (B b : Nat) : Prop := b = B ∨ b = B + 1
/-- what holds at the head of Split's loop -/
structure SpI (w wr : World) (t0 t : T) (k h : Int) (A : Option Addr) (n c : Nat) (j : Nat) (Av : Option Addr) (cv : Nat) (cs : List Value) (ys : List T) : Prop where
  box : Box wr w.heap.size 24 #[.int .i64 k, .int .i64 h, .slice A n c]
  res : Box wr (w.heap.size + 1) 24 #[.int .i64 0, .int .i64 0, .slice none 0 0]
  rd : Rd w t (.agg #[.int .i64 k, .int .i64 h, .slice A n c])
  row : GRowQ (XQ w.heap.size) wr (w.heap.size + 2) (.slice Av j cv) j cs ys
  below : Below w.heap.size w wr
  eqA : spA t0 = ys ++ spA t
  eqR : spR t0 = spR t
  small : nd t + j ≤ nd t0
/-- one Pi more is split -/
theorem SpI.step {w w1 w2 w4 : World} {t0 a b : T} {h0 : Int} {k h : Int} {A : Option Addr} {n c j : Nat} {Av : Option Addr} {cv : Nat} {cs : List Value} {ys : List T} (hI : SpI w w1 t0 (.node 1 h0 [a, b]) k h A n c j Av cv cs ys) {kb gb : Int} {Ab : Option Addr} {nb cb : Nat} {cs' : List Value} {g cap : Nat}
    (hrb : Rd w b (.agg #[.int .i64 kb, .int .i64 gb, .slice Ab nb cb])) (hb2 : Below w1.heap.size w1 w2) (hrow : GRowQ (XQ w.heap.size) w4 (w.heap.size + 2) (.slice (some ⟨g, 0, none⟩) (j + 1) cap) (j + 1) cs' (ys ++ [a])) (hold : ∀ q, q < w2.heap.size → some q ≠ Value.ownBlock (.slice Av j cv) → w4.heap[q]? = w2.heap[q]?) (hb4 : Below (w.heap.size + 2) w2 w4) :
    SpI w (((w4.setCell ⟨w.heap.size, 0, none⟩ (.int .i64 kb)).setCell ⟨w.heap.size, 1, none⟩ (.int .i64 gb)).setCell ⟨w.heap.size, 2, none⟩ (.slice Ab nb cb)) t0 b kb gb Ab nb cb (j + 1) (some ⟨g, 0, none⟩) cap cs' (ys ++ [a]) := by
  have s2 := hb2.size
  have l1 := hI.res.lt
  have hne : ∀ q, q < w.heap.size + 2 → some q ≠ Value.ownBlock (.slice Av j cv) := fun q hq e => by
    have := (hI.row.lt e.symm).1
    omega
  have y0 : Box w4 w.heap.size 24 #[.int .i64 k, .int .i64 h, .slice A n c] := (hold _ (by omega) (hne _ (by omega))).trans (hI.box.keep hb2 hI.box.lt)
  have y1 : Box w4 (w.heap.size + 1) 24 #[.int .i64 0, .int .i64 0, .slice none 0 0] := (hold _ (by omega) (hne _ (by omega))).trans (hI.res.keep hb2 hI.res.lt)
  refine ⟨?_, y1.other3Q (by omega) _ _ _, hrb, hrow.move (fun q _ hx => heap_other3Q _ _ _ _ _ _ (fun e => hx (.inl e))) (fun g hg e => ?_), ?_, ?_, ?_, ?_⟩
  · have := ((y0.setAt 0 (.int .i64 kb)).setAt 1 (.int .i64 gb)).setAt 2 (.slice Ab nb cb)
    simpa using this
  · have := (hrow.lt hg).1
    rcases e with e | e <;> omega
  · refine below_set3Q ((hI.below.trans (hb2.mono hI.below.size)).trans (hb4.mono (by omega))) (Nat.le_refl _) _ _ _
  · rw [hI.eqA, spA_pi, List.append_assoc]; rfl
  · rw [hI.eqR, spR_pi]
  · have := hI.small
    rw [nd, ndL, ndL] at this
    omega
theorem SpI.keep {w w1 w2 : World} {t0 t : T} {k h : Int} {A : Option Addr} {n c j : Nat} {Av : Option Addr} {cv : Nat} {cs : List Value} {ys : List T} (hI : SpI w w1 t0 t k h A n c j Av cv cs ys) (hb : Below w1.heap.size w1 w2) : SpI w w2 t0 t k h A n c j Av cv cs ys :=
  ⟨hI.box.keep hb hI.box.lt, hI.res.keep hb hI.res.lt, hI.rd, hI.row.move (fun b hl _ => hb.block b hl) (fun g hg e => by have := (hI.row.lt hg).1; rcases e with e | e <;> omega), hI.below.trans (hb.mono hI.below.size), hI.eqA, hI.eqR, hI.small⟩
/-- the end -/
theorem SpI.done {w w1 w2 : World} {t0 t : T} {k h : Int} {A : Option Addr} {n c j : Nat} {Av : Option Addr} {cv : Nat} {cs : List Value} {ys : List T} (hI : SpI w w1 t0 t k h A n c j Av cv cs ys) (hA : spA t = []) (hR : spR t = t) (hb2 : Below w1.heap.size w1 w2) {k2 h2 : Int} {A2 : Option Addr} {n2 c2 : Nat} (hr : RdF (fun b => b ≠ w.heap.size + 1) w2 t (.agg #[.int .i64 k2, .int .i64 h2, .slice A2 n2 c2])) :
    SpEnd t0 w (.returned (.tuple #[.slice Av j cv, .agg #[.int .i64 k2, .int .i64 h2, .slice A2 n2 c2]])) (((w2.setCell ⟨w.heap.size + 1, 0, none⟩ (.int .i64 k2)).setCell ⟨w.heap.size + 1, 1, none⟩ (.int .i64 h2)).setCell ⟨w.heap.size + 1, 2, none⟩ (.slice A2 n2 c2)) := by
  have hJ := hI.keep hb2
  have e1 := hI.eqA
  have e2 := hI.eqR
  rw [hA, List.append_nil] at e1
  rw [hR] at e2
  obtain ⟨_, _, e3, h5, h6⟩ := hI.row.full
  cases e3
  have hrow := hJ.row.move (w' := ((w2.setCell ⟨w.heap.size + 1, 0, none⟩ (.int .i64 k2)).setCell ⟨w.heap.size + 1, 1, none⟩ (.int .i64 h2)).setCell ⟨w.heap.size + 1, 2, none⟩ (.slice A2 n2 c2)) (fun q _ hx => heap_other3Q _ _ _ _ _ _ (fun e => hx (.inr e))) (fun g hg e => by have := (hJ.row.lt hg).1; rcases e with e | e <;> omega)
  refine ⟨Av, j, cv, k2, h2, A2, n2, c2, rfl, by rw [e1]; exact hI.row.len, h5, h6, fun i u hu => ?_, ?_, below_set3Q hJ.below (by omega) _ _ _⟩
  · rw [e1] at hu
    exact hrow.rdat i u hu
  · rw [e2]
    exact RdF.rd _ _ (RdF.moveQ (ok' := fun _ => True) (fun b hb hl => ⟨trivial, heap_other3Q _ _ _ _ _ _ hb⟩) _ _ hr)

set_option maxRecDepth 100000 in
set_option maxHeartbeats 4000000 in
theorem splitC (t : T) (v : Value) (w : World) (hv : Rd w t v) (hs : nd t ≤ 1048576) : Calls Try.prog 11 #[v] w (SpEnd t w) := by
  obtain ⟨k, h, A, n, c, rfl⟩ := hv.full
  obtain ⟨W, hW⟩ : ∃ W, (w.alloc (.cells #[.int .i64 k, .int .i64 h, .slice A n c] 24)).alloc (.cells #[.int .i64 0, .int .i64 0, .slice none 0 0] 24) = W := ⟨_, rfl⟩
  have hb : Below w.heap.size w W := by rw [← hW]; exact ((Below.refl _ _).alloc (Nat.le_refl _) _).alloc (by simp) _
  have x0 : Box W w.heap.size 24 #[.int .i64 k, .int .i64 h, .slice A n c] := by rw [← hW]; exact (Box.new _ _ _).alloc _
  have x1 : Box W (w.heap.size + 1) 24 #[.int .i64 0, .int .i64 0, .slice none 0 0] := by rw [← hW]; exact (Box.new (w.alloc _) _ _).at (by simp)
  have HI : Hid (SpI w W t t k h A n c 0 none 0 [] []) := Lib.hid ⟨x0, x1, hv, GRowQ.nil _ _ _, hb, by rw [List.nil_append], rfl, by omega⟩
  have HW := Lib.hid hW; clear hW hb x0 x1 hv
  go_enter Try.func11, Try.ntmps11
  go_wp2_with fail
  rw [HW.out]
  clear HW
  go_loopg [4] (nd t) (fun g v4 wr => ∃ (t' : T) (k h : Int) (A : Option Addr) (n c j : Nat) (Av : Option Addr) (cv : Nat) (cs : List Value) (ys : List T), g = nd t' ∧ v4 = .slice Av j cv ∧ Hid (SpI w wr t t' k h A n c j Av cv cs ys))
  case atStart => exact ⟨t, k, h, A, n, c, 0, none, 0, [], [], rfl, rfl, HI⟩
  case round =>
    clear HI
    obtain ⟨t', k', h', A', n', c', j, Av, cv, csr, ys, hg, rfl, HI⟩ := hrel
    have HG := Lib.hid hg; clear hg
    obtain ⟨p0, p1, p2⟩ := HI.out.box.three
    obtain ⟨kt, gt, xs⟩ := t'
    obtain ⟨Aq, nq, cq, eq, _, _, hl, hnc, hcm, _⟩ := Rd_node.1 HI.out.rd
    have eq' : k' = kt ∧ h' = gt ∧ A' = Aq ∧ n' = nq ∧ c' = cq := by simpa using eq
    obtain ⟨rfl, rfl, rfl, rfl, rfl⟩ := eq'
    have HL := Lib.hid hl
    obtain ⟨R, hR⟩ : ∃ R, asB k' n' = R := ⟨_, rfl⟩
    have HAS := Lib.hid (asksC k' h' A' n' c' (by omega) wr)
    rw [hR] at HAS
    have HR := Lib.hid hR
    clear eq hl hnc hcm hR
    go_wp2_with fail
    refine HAS.out.mono ?_
    clear HAS
    rintro e w1 ⟨rfl, hb1⟩
    have HJ := Lib.hid (HI.out.keep hb1)
    have s0 := HI.out.below.size
    have s1 := hb1.size
    clear p0 p1 p2 hb1
    cases R
    · have hlo := HI.out.small
      obtain ⟨p0, p1, p2⟩ := HJ.out.box.three
      have l1 := HJ.out.res.lt
      have HOW := Lib.hid (termOwn (.node k' h' xs) _ w1 (Rd.keep HJ.out.below _ _ HI.out.rd) (by have := wd_nd (.node k' h' xs); omega))
      go_wp2_with fail
      refine HOW.out.mono ?_
      clear HOW
      rintro e w2 ⟨v2, rfl, how, hb2⟩
      obtain ⟨k2, h2, A2, n2, c2, rfl⟩ := how.full
      have y1 := HJ.out.res.keep hb2 HJ.out.res.lt
      obtain ⟨r0, r1, r2⟩ := y1.three
      have f0 := y1.frozen 0
      have f1 := y1.frozen 1
      have f2 := y1.frozen 2
      have HE := Lib.hid (HJ.out.done (spA_no (by rw [HL.out]; exact HR.out)) (spR_no (by rw [HL.out]; exact HR.out)) hb2 (RdF.moveQ (fun b hb _ => ⟨by have hb : w1.heap.size ≤ b := hb; omega, rfl⟩) _ _ how.rdF))
      clear y1 how hb2 p0 p1 p2
      go_wp2_with fail
      refine bodyPost_ret (v := .tuple #[.slice Av j cv, .agg #[.int .i64 k2, .int .i64 h2, .slice A2 n2 c2]]) (by simp [results, Try.results11, go_sem, r0, r1, r2]) rfl ?_
      exact HE.out
    · obtain ⟨rfl, a, b, rfl⟩ := pi_of (show asB k' xs.length = true by rw [HL.out]; exact HR.out)
      obtain ⟨bb, o, cc, ev, hc2, hcm, ⟨ka, ga, Aa, na, ca, c0, c1, c2, hra⟩, kb, gb, Ab, nb, cb, d0, d1, d2, hrb⟩ := rd_pi HJ.out.rd
      have ev' : A' = some ⟨bb, o, none⟩ ∧ n' = 2 ∧ c' = cc := by simpa using ev
      obtain ⟨rfl, rfl, rfl⟩ := ev'
      have HRB := Lib.hid hrb
      have HRA := Lib.hid hra
      obtain ⟨p0, p1, p2⟩ := HJ.out.box.three
      have hbw := HJ.out.below
      have g0 := (hbw.cell (cell_lt c0)).trans c0
      have g1 := (hbw.cell (cell_lt c1)).trans c1
      have g2 := (hbw.cell (cell_lt c2)).trans c2
      have HD := Lib.hid (And.intro d0 (And.intro d1 d2))
      have sm := HJ.out.small
      rw [nd, ndL, ndL] at sm
      have l1 := HJ.out.res.lt
      clear ev hc2 hcm hrb hra c0 c1 c2 d0 d1 d2 hbw
      have HOW := Lib.hid (termOwn a _ w1 (Rd.keep HJ.out.below _ _ HRA.out) (by have := wd_nd a; omega))
      go_wp2_with fail
      refine HOW.out.mono ?_
      clear HOW
      rintro e w2 ⟨v2, rfl, how, hb2⟩
      obtain ⟨k2, h2, A2, n2, c2, rfl⟩ := how.full
      have hr3 : RdF (fun b => ¬ XQ w.heap.size b ∧ some b ≠ Value.ownBlock (.slice Av j cv)) w2 a (.agg #[.int .i64 k2, .int .i64 h2, .slice A2 n2 c2]) :=
        RdF.moveQ (fun b hb _ => ⟨⟨fun e => by have hb : w1.heap.size ≤ b := hb; rcases e with e | e <;> omega, fun e => by have hb : w1.heap.size ≤ b := hb; have := (HJ.out.row.lt e.symm).2; omega⟩, rfl⟩) _ _ how.rdF
      obtain ⟨g, cap, w4, hrun, hrow4, hold, hb4⟩ := (HJ.out.keep hb2).row.push hr3 (by have := hb2.size; omega) (by omega)
      clear how hr3
      have hbz : Below w.heap.size w w4 := (HJ.out.below.trans (hb2.mono HJ.out.below.size)).trans (hb4.mono (by omega))
      have HS := Lib.hid (SpI.step HJ.out HRB.out hb2 hrow4 hold hb4)
      have hne : ∀ q, q < w.heap.size + 2 → some q ≠ Value.ownBlock (.slice Av j cv) := fun q hq e => by
        have := (HJ.out.row.lt e.symm).1
        omega
      have s2 := hb2.size
      have y0 : Box w4 w.heap.size 24 #[.int .i64 1, .int .i64 h', .slice (some ⟨bb, o, none⟩) 2 c'] := (hold _ (by omega) (hne _ (by omega))).trans (HJ.out.box.keep hb2 HJ.out.box.lt)
      obtain ⟨q0, q1, q2⟩ := y0.three
      have f0 := y0.frozen 0
      have f1 := y0.frozen 1
      have f2 := y0.frozen 2
      have l0 := y0.lt
      have d0 := (hbz.cell (cell_lt HD.out.1)).trans HD.out.1
      have d1 := (hbz.cell (cell_lt HD.out.2.1)).trans HD.out.2.1
      have d2 := (hbz.cell (cell_lt HD.out.2.2)).trans HD.out.2.2
      clear y0 hbz hrow4 hold hb4 hne g0 g1 g2 p0 p1 p2
      clear hb2
      go_wp2_with (at_builtin; refine Lib.wpList_append_run _ rfl _ _ _ _ rfl _ _ rfl rfl _ _ hrun ?_)
      go_roundg (nd b)
      case measure => rw [HG.out, nd, ndL, ndL]; omega
      case rel => exact ⟨b, kb, gb, Ab, nb, cb, j + 1, some ⟨g, 0, none⟩, cap, _, _, rfl, rfl, HS⟩
end Go.Proofs.Ytclhllkgamnpoaa
