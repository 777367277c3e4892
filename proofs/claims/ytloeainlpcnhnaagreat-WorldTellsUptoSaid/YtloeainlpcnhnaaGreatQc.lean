/-
  Contracts of the document's Split, Kind and Family. No statement is proved here.
-/
import Derived.Test.YtloeainlpcnhnaaGreatQb
namespace Go.Proofs.YtloeainlpcnhnaaGreat
open Go.ChangeShapes Go.WideShapes Go.ChangeAt Go.RowKit
set_option linter.unusedVariables false

set_option maxRecDepth 100000 in
set_option maxHeartbeats 4000000 in
theorem rsplitC (t : T) (v : Value) (w : World) (hv : Rd w t v) (hs : nd t ≤ 1048576) : Calls Tryz.prog 59 #[v] w (SpEnd t w) := by
  obtain ⟨k, h, A, n, c, rfl⟩ := hv.full
  obtain ⟨W, hW⟩ : ∃ W, (w.alloc (.cells #[.int .i64 k, .int .i64 h, .slice A n c] 44)).alloc (.cells #[.int .i64 0, .int .i64 0, .slice none 0 0] 44) = W := ⟨_, rfl⟩
  have hb : Below w.heap.size w W := by rw [← hW]; exact ((Below.refl _ _).alloc (Nat.le_refl _) _).alloc (by simp) _
  have x0 : Box W w.heap.size 44 #[.int .i64 k, .int .i64 h, .slice A n c] := by rw [← hW]; exact (Box.new _ _ _).alloc _
  have x1 : Box W (w.heap.size + 1) 44 #[.int .i64 0, .int .i64 0, .slice none 0 0] := by rw [← hW]; exact (Box.new (w.alloc _) _ _).at (by simp)
  have HI : Hid (SpIq w W t t k h A n c 0 none 0 [] []) := Lib.hid ⟨x0, x1, hv, GRowQ.nil _ _ _, hb, by rw [List.nil_append], rfl, by omega⟩
  have HW := Lib.hid hW; clear hW hb x0 x1 hv
  go_enter Tryz.func59, Tryz.ntmps59
  go_wp2_with fail
  rw [HW.out]
  clear HW
  go_loopg [4] (nd t) (fun g v4 wr => ∃ (t' : T) (k h : Int) (A : Option Addr) (n c j : Nat) (Av : Option Addr) (cv : Nat) (cs : List Value) (ys : List T), g = nd t' ∧ v4 = .slice Av j cv ∧ Hid (SpIq w wr t t' k h A n c j Av cv cs ys))
  case atStart => exact ⟨t, k, h, A, n, c, 0, none, 0, [], [], rfl, rfl, HI⟩
  case round =>
    clear HI
    obtain ⟨t', k', h', A', n', c', j, Av, cv, csr, ys, hg, rfl, HI⟩ := hrel
    have HG := Lib.hid hg; clear hg
    obtain ⟨p0, p1, p2⟩ := HI.out.box.three
    obtain ⟨kt, gt, xs⟩ := t'
    obtain ⟨Aq, nq, cq, eq, _, _, hl, hnc, hcm, _⟩ := Rd_node.1 HI.out.rd
    have eq' : k' = kt ∧ h' = gt ∧ A' = Aq ∧ n' = nq ∧ c' = cq := by simpa using eq
    obtain ⟨rfl, rfl, rfl, rfl, rfl⟩ := eq'
    have HL := Lib.hid hl
    have hrow := HI.out.row
    by_cases hK : asB k' n' = true
    case' neg =>
      have hK : asB k' n' = false := by simpa using hK
      have HK := Lib.hid hK
      have hKK : (k' == 1) = false ∨ (k' == 1) = true ∧ ((n' : Int) == 2) = false := by
        rw [asB, Bool.and_eq_false_iff, decide_eq_false_iff_not, decide_eq_false_iff_not] at hK
        by_cases h1 : k' = 1
        · exact .inr ⟨by simpa using h1, by rcases hK with h | h; exact absurd h1 h; simp; omega⟩
        · exact .inl (by simpa using h1)
      obtain ⟨r0, r1, r2⟩ := HI.out.res.three
      have f0 := HI.out.res.frozen 0
      have f1 := HI.out.res.frozen 1
      have f2 := HI.out.res.frozen 2
      have l1 := HI.out.res.lt
      have HE := Lib.hid (HI.out.done (spA_no (by rw [HL.out]; exact HK.out)) (spR_no (by rw [HL.out]; exact HK.out)) (Below.refl _ _) (RdF.moveQ (fun b hb hl => ⟨by have hb : b < w.heap.size := hb; omega, HI.out.below.block b hb⟩) _ _ (rdF_anyQ _ _ HI.out.rd)))
      clear hK eq hl hnc hcm hrow
      rcases hKK with e0 | ⟨e0, e1⟩
    case' pos =>
      obtain ⟨rfl, a, b, rfl⟩ := pi_of (show asB k' xs.length = true by rw [hl]; exact hK)
      have HJ := HI
      clear hK eq hl hnc hcm p0 p1 p2 hrow
    · obtain ⟨bb, o, cc, ev, hc2, hcm, ⟨ka, ga, Aa, na, ca, c0, c1, c2, hra⟩, kb, gb, Ab, nb, cb, d0, d1, d2, hrb⟩ := rd_pi HJ.out.rd
      have ev' : A' = some ⟨bb, o, none⟩ ∧ n' = 2 ∧ c' = cc := by simpa using ev
      obtain ⟨rfl, rfl, rfl⟩ := ev'
      have HRB := Lib.hid hrb
      have HRA := Lib.hid hra
      obtain ⟨p0, p1, p2⟩ := HJ.out.box.three
      have hbw := HJ.out.below
      have g0 := (hbw.cell (cell_lt c0)).trans c0
      have g1 := (hbw.cell (cell_lt c1)).trans c1
      have g2 := (hbw.cell (cell_lt c2)).trans c2
      have HD := Lib.hid (And.intro d0 (And.intro d1 d2))
      have sm := HJ.out.small
      rw [nd, ndL, ndL] at sm
      have l1 := HJ.out.res.lt
      clear ev hc2 hcm hrb hra c0 c1 c2 d0 d1 d2 hbw
      have hr3 : RdF (fun b => ¬ XQ w.heap.size b ∧ some b ≠ Value.ownBlock (.slice Av j cv)) wr a (.agg #[.int .i64 ka, .int .i64 ga, .slice Aa na ca]) :=
        RdF.moveQ (fun b hb _ => ⟨⟨fun e => by have hb : b < w.heap.size := hb; rcases e with e | e <;> omega, fun e => by have hb : b < w.heap.size := hb; have := (HJ.out.row.lt e.symm).1; omega⟩, HJ.out.below.block b hb⟩) _ _ (rdF_anyQ _ _ HRA.out)
      obtain ⟨g, cap, w4, hrun, hrow4, hold, hb4⟩ := HJ.out.row.push hr3 (by omega) (by omega)
      have hb2 := Below.refl wr.heap.size wr
      clear hr3
      have hbz : Below w.heap.size w w4 := (HJ.out.below.trans (hb2.mono HJ.out.below.size)).trans (hb4.mono (by omega))
      have HS := Lib.hid (SpIq.step HJ.out HRB.out hb2 hrow4 hold hb4)
      have hne : ∀ q, q < w.heap.size + 2 → some q ≠ Value.ownBlock (.slice Av j cv) := fun q hq e => by
        have := (HJ.out.row.lt e.symm).1
        omega
      have s2 := hb2.size
      have y0 : Box w4 w.heap.size 44 #[.int .i64 1, .int .i64 h', .slice (some ⟨bb, o, none⟩) 2 c'] := (hold _ (by omega) (hne _ (by omega))).trans (HJ.out.box.keep hb2 HJ.out.box.lt)
      obtain ⟨q0, q1, q2⟩ := y0.three
      have f0 := y0.frozen 0
      have f1 := y0.frozen 1
      have f2 := y0.frozen 2
      have l0 := y0.lt
      have d0 := (hbz.cell (cell_lt HD.out.1)).trans HD.out.1
      have d1 := (hbz.cell (cell_lt HD.out.2.1)).trans HD.out.2.1
      have d2 := (hbz.cell (cell_lt HD.out.2.2)).trans HD.out.2.2
      clear y0 hbz hrow4 hold hb4 hne
      clear hb2
      go_wp2_with (at_builtin; refine Lib.wpList_append_run _ rfl _ _ _ _ rfl _ _ rfl rfl _ _ hrun ?_)
      go_roundg (nd b)
      case measure => rw [HG.out, nd, ndL, ndL]; omega
      case rel => exact ⟨b, kb, gb, Ab, nb, cb, j + 1, some ⟨g, 0, none⟩, cap, _, _, rfl, rfl, HS⟩
    all_goals
      have hb0 := HI.out.below
      have HB0 := Lib.hid hb0
      have y1 := HI.out.res
      have HY := Lib.hid y1
      go_wp2_with fail
      have q0 := Past.cell p0
      have q1 := Past.cell p1
      have q2 := Past.cell p2
      refine wp_region_class_tail (C := fun w' => ∃ z : Past wr, w' = z.wd) 3 (by kernel_rfl) (by kernel_rfl) ⟨⟨wr.drew, (Below.refl _ _).drew⟩, rfl⟩ ?_
      simp only [List.take_succ_cons, List.take_zero, List.drop_succ_cons, List.drop_zero]
      repeat (go_big_quiet_step (fail))
      refine wpQuiet_nil ?_
      rintro _ ⟨z, rfl⟩
      obtain ⟨w2, hb2⟩ := z
      dsimp only
      have s2 := hb2.size
      have z1 := HY.out.keep hb2 HY.out.lt
      obtain ⟨r0, r1, r2⟩ := z1.three
      have f0 := z1.frozen 0
      have f1 := z1.frozen 1
      have f2 := z1.frozen 2
      have l1 := z1.lt
      have HE := Lib.hid (HI.out.done (spA_no (by rw [HL.out]; exact HK.out)) (spR_no (by rw [HL.out]; exact HK.out)) hb2 (RdF.moveQ (fun b hb hl => ⟨by have hb : b < w.heap.size := hb; omega, (HB0.out.trans (hb2.mono HB0.out.size)).block b hb⟩) _ _ (rdF_anyQ _ _ HI.out.rd)))
      clear y1 z1 hb0 hb2 q0 q1 q2 p0 p1 p2
      go_wp2_with fail
      refine bodyPost_ret (v := .tuple #[.slice Av j cv, .agg #[.int .i64 k', .int .i64 h', .slice A' n' c']]) (by simp [results, Tryz.results59, go_sem, r0, r1, r2]) rfl ?_
      exact HE.out

set_option maxHeartbeats 1000000 in
theorem rkindC (t : T) (v : Value) (w : World) (hv : Rd w t v) (hs : nd t ≤ 1048576) :
    Calls Tryz.prog 35 #[v] w fun e w' => e = .returned (.bool (kiB t)) ∧ Below w.heap.size w w' := by
  obtain ⟨k, h, A, n, c, rfl⟩ := hv.full
  have hb : Below w.heap.size w (w.alloc (.cells #[.int .i64 k, .int .i64 h, .slice A n c] 44)) := (Below.refl _ _).alloc (Nat.le_refl _) _
  have HC := Lib.hid (rsplitC t _ _ (Rd.keep hb _ _ hv) hs)
  have HB := Lib.hid hb; clear hb
  have HV := Lib.hid hv; clear hv
  go_enter Tryz.func35, Tryz.ntmps35
  go_wp2_with fail
  refine HC.out.mono ?_
  rintro e w1 ⟨Av, nv, cv, k1, h1, A1, n1, c1, rfl, _, _, _, _, hr, hb1⟩
  have hK : kiB t = (k1 == 0) := by
    rcases hq : spRq t with ⟨kt, gt, xs⟩
    rw [hq] at hr
    obtain ⟨Aq, nq, cq, eq, _⟩ := Rd_node.1 hr
    have eq' : k1 = kt ∧ h1 = gt ∧ A1 = Aq ∧ n1 = nq ∧ c1 = cq := by simpa using eq
    rw [kiB, hq, kdQ, eq'.1, Bool.eq_iff_iff]
    simp
  have HK := Lib.hid hK; clear hK hr
  have hbw := HB.out.trans (hb1.mono HB.out.size)
  have HBW := Lib.hid (hbw.alloc hbw.size (.cells #[.int .i64 k1, .int .i64 h1, .slice A1 n1 c1] 44)); clear hbw hb1
  go_wp2_with fail
  go_ret
  exact ⟨ret_bool HK.out.symm, HBW.out⟩

end Go.Proofs.YtloeainlpcnhnaaGreat
