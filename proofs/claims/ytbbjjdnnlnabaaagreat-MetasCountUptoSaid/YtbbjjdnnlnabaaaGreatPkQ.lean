/- Texts of one proof, put together. No statement is proved here. -/
import Derived.Test.YtbbjjdnnlnabaaaGreatPkC
import Derived.OwnWalkIn
namespace Go.Proofs.YtbbjjdnnlnabaaaGreat
open Go.ChangeShapes Go.WideShapes Go.ChangeAt Go.RowKit
set_option linter.unusedVariables false
set_option linter.unusedSimpArgs false
def SpEnd (t : T) (w : World) (e : Ending) (w' : World) : Prop :=
  ∃ Av n cv k h A m c, e = .returned (.tuple #[.slice Av n cv, .agg #[.int .i64 k, .int .i64 h, .slice A m c]]) ∧ (spA t).length = n ∧ n ≤ cv ∧ cv ≤ maxLen ∧ (∀ i u, (spA t)[i]? = some u → RdAt w' Av i u) ∧ Rd w' (spRq t) (.agg #[.int .i64 k, .int .i64 h, .slice A m c]) ∧ Below w.heap.size w w'
def XQ (B b : Nat) : Prop := b = B ∨ b = B + 1
structure SpIq (w wr : World) (t0 t : T) (k h : Int) (A : Option Addr) (n c : Nat) (j : Nat) (Av : Option Addr) (cv : Nat) (cs : List Value) (ys : List T) : Prop where
  box : Box wr w.heap.size 39 #[.int .i64 k, .int .i64 h, .slice A n c]
  res : Box wr (w.heap.size + 1) 39 #[.int .i64 0, .int .i64 0, .slice none 0 0]
  rd : Rd w t (.agg #[.int .i64 k, .int .i64 h, .slice A n c])
  row : GRowQ (XQ w.heap.size) wr (w.heap.size + 2) (.slice Av j cv) j cs ys
  below : Below w.heap.size w wr
  eqA : spA t0 = ys ++ spA t
  eqR : spRq t0 = spRq t
  small : nd t + j ≤ nd t0
theorem SpIq.step {w w1 w2 w4 : World} {t0 a b : T} {h0 : Int} {k h : Int} {A : Option Addr} {n c j : Nat} {Av : Option Addr} {cv : Nat} {cs : List Value} {ys : List T} (hI : SpIq w w1 t0 (.node 1 h0 [a, b]) k h A n c j Av cv cs ys) {kb gb : Int} {Ab : Option Addr} {nb cb : Nat} {cs' : List Value} {g cap : Nat}
    (hrb : Rd w b (.agg #[.int .i64 kb, .int .i64 gb, .slice Ab nb cb])) (hb2 : Below w1.heap.size w1 w2) (hrow : GRowQ (XQ w.heap.size) w4 (w.heap.size + 2) (.slice (some ⟨g, 0, none⟩) (j + 1) cap) (j + 1) cs' (ys ++ [a])) (hold : ∀ q, q < w2.heap.size → some q ≠ Value.ownBlock (.slice Av j cv) → w4.heap[q]? = w2.heap[q]?) (hb4 : Below (w.heap.size + 2) w2 w4) :
    SpIq w (((w4.setCell ⟨w.heap.size, 0, none⟩ (.int .i64 kb)).setCell ⟨w.heap.size, 1, none⟩ (.int .i64 gb)).setCell ⟨w.heap.size, 2, none⟩ (.slice Ab nb cb)) t0 b kb gb Ab nb cb (j + 1) (some ⟨g, 0, none⟩) cap cs' (ys ++ [a]) := by
  have s2 := hb2.size
  have l1 := hI.res.lt
  have hne : ∀ q, q < w.heap.size + 2 → some q ≠ Value.ownBlock (.slice Av j cv) := fun q hq e => by
    have := (hI.row.lt e.symm).1
    omega
  have y0 : Box w4 w.heap.size 39 #[.int .i64 k, .int .i64 h, .slice A n c] := (hold _ (by omega) (hne _ (by omega))).trans (hI.box.keep hb2 hI.box.lt)
  have y1 : Box w4 (w.heap.size + 1) 39 #[.int .i64 0, .int .i64 0, .slice none 0 0] := (hold _ (by omega) (hne _ (by omega))).trans (hI.res.keep hb2 hI.res.lt)
  refine ⟨?_, y1.other3Q (by omega) _ _ _, hrb, hrow.move (fun q _ hx => heap_other3Q _ _ _ _ _ _ (fun e => hx (.inl e))) (fun g hg e => ?_), ?_, ?_, ?_, ?_⟩
  · have := ((y0.setAt 0 (.int .i64 kb)).setAt 1 (.int .i64 gb)).setAt 2 (.slice Ab nb cb)
    simpa using this
  · have := (hrow.lt hg).1
    rcases e with e | e <;> omega
  · refine below_set3Q ((hI.below.trans (hb2.mono hI.below.size)).trans (hb4.mono (by omega))) (Nat.le_refl _) _ _ _
  · rw [hI.eqA, spA_pi, List.append_assoc]; rfl
  · rw [hI.eqR, spR_pi]
  · have := hI.small
    rw [nd, ndL, ndL] at this
    omega
theorem SpIq.keep {w w1 w2 : World} {t0 t : T} {k h : Int} {A : Option Addr} {n c j : Nat} {Av : Option Addr} {cv : Nat} {cs : List Value} {ys : List T} (hI : SpIq w w1 t0 t k h A n c j Av cv cs ys) (hb : Below w1.heap.size w1 w2) : SpIq w w2 t0 t k h A n c j Av cv cs ys :=
  ⟨hI.box.keep hb hI.box.lt, hI.res.keep hb hI.res.lt, hI.rd, hI.row.move (fun b hl _ => hb.block b hl) (fun g hg e => by have := (hI.row.lt hg).1; rcases e with e | e <;> omega), hI.below.trans (hb.mono hI.below.size), hI.eqA, hI.eqR, hI.small⟩
theorem SpIq.done {w w1 w2 : World} {t0 t : T} {k h : Int} {A : Option Addr} {n c j : Nat} {Av : Option Addr} {cv : Nat} {cs : List Value} {ys : List T} (hI : SpIq w w1 t0 t k h A n c j Av cv cs ys) (hA : spA t = []) (hR : spRq t = t) (hb2 : Below w1.heap.size w1 w2) {k2 h2 : Int} {A2 : Option Addr} {n2 c2 : Nat} (hr : RdF (fun b => b ≠ w.heap.size + 1) w2 t (.agg #[.int .i64 k2, .int .i64 h2, .slice A2 n2 c2])) :
    SpEnd t0 w (.returned (.tuple #[.slice Av j cv, .agg #[.int .i64 k2, .int .i64 h2, .slice A2 n2 c2]])) (((w2.setCell ⟨w.heap.size + 1, 0, none⟩ (.int .i64 k2)).setCell ⟨w.heap.size + 1, 1, none⟩ (.int .i64 h2)).setCell ⟨w.heap.size + 1, 2, none⟩ (.slice A2 n2 c2)) := by
  have hJ := hI.keep hb2
  have e1 := hI.eqA
  have e2 := hI.eqR
  rw [hA, List.append_nil] at e1
  rw [hR] at e2
  obtain ⟨_, _, e3, h5, h6⟩ := hI.row.full
  cases e3
  have hrow := hJ.row.move (w' := ((w2.setCell ⟨w.heap.size + 1, 0, none⟩ (.int .i64 k2)).setCell ⟨w.heap.size + 1, 1, none⟩ (.int .i64 h2)).setCell ⟨w.heap.size + 1, 2, none⟩ (.slice A2 n2 c2)) (fun q _ hx => heap_other3Q _ _ _ _ _ _ (fun e => hx (.inr e))) (fun g hg e => by have := (hJ.row.lt hg).1; rcases e with e | e <;> omega)
  refine ⟨Av, j, cv, k2, h2, A2, n2, c2, rfl, by rw [e1]; exact hI.row.len, h5, h6, fun i u hu => ?_, ?_, below_set3Q hJ.below (by omega) _ _ _⟩
  · rw [e1] at hu
    exact hrow.rdat i u hu
  · rw [e2]
    exact RdF.rd _ _ (RdF.moveQ (ok' := fun _ => True) (fun b hb hl => ⟨trivial, heap_other3Q _ _ _ _ _ _ hb⟩) _ _ hr)
set_option maxRecDepth 100000
set_option maxHeartbeats 4000000
theorem rsplitC (t : T) (v : Value) (w : World) (hv : Rd w t v) (hs : nd t ≤ 1048576) : Calls Tryz.prog 85 #[v] w (SpEnd t w) := by
  obtain ⟨k, h, A, n, c, rfl⟩ := hv.full
  obtain ⟨W, hW⟩ : ∃ W, (w.alloc (.cells #[.int .i64 k, .int .i64 h, .slice A n c] 39)).alloc (.cells #[.int .i64 0, .int .i64 0, .slice none 0 0] 39) = W := ⟨_, rfl⟩
  have hb : Below w.heap.size w W := by rw [← hW]; exact ((Below.refl _ _).alloc (Nat.le_refl _) _).alloc (by simp) _
  have x0 : Box W w.heap.size 39 #[.int .i64 k, .int .i64 h, .slice A n c] := by rw [← hW]; exact (Box.new _ _ _).alloc _
  have x1 : Box W (w.heap.size + 1) 39 #[.int .i64 0, .int .i64 0, .slice none 0 0] := by rw [← hW]; exact (Box.new (w.alloc _) _ _).at (by simp)
  have HI : Hid (SpIq w W t t k h A n c 0 none 0 [] []) := Lib.hid ⟨x0, x1, hv, GRowQ.nil _ _ _, hb, by rw [List.nil_append], rfl, by omega⟩
  have HW := Lib.hid hW; clear hW hb x0 x1 hv
  go_enter Tryz.func85, Tryz.ntmps85
  go_wp2_with fail
  rw [HW.out]
  clear HW
  go_loopg [4] (nd t) (fun g v4 wr => ∃ (t' : T) (k h : Int) (A : Option Addr) (n c j : Nat) (Av : Option Addr) (cv : Nat) (cs : List Value) (ys : List T), g = nd t' ∧ v4 = .slice Av j cv ∧ Hid (SpIq w wr t t' k h A n c j Av cv cs ys))
  case atStart => exact ⟨t, k, h, A, n, c, 0, none, 0, [], [], rfl, rfl, HI⟩
  case round =>
    clear HI
    obtain ⟨t', k', h', A', n', c', j, Av, cv, csr, ys, hg, rfl, HI⟩ := hrel
    have HG := Lib.hid hg; clear hg
    obtain ⟨p0, p1, p2⟩ := HI.out.box.three
    obtain ⟨kt, gt, xs⟩ := t'
    obtain ⟨Aq, nq, cq, eq, _, _, hl, hnc, hcm, _⟩ := Rd_node.1 HI.out.rd
    have eq' : k' = kt ∧ h' = gt ∧ A' = Aq ∧ n' = nq ∧ c' = cq := by simpa using eq
    obtain ⟨rfl, rfl, rfl, rfl, rfl⟩ := eq'
    have HL := Lib.hid hl
    have hrow := HI.out.row
    by_cases hK : asB k' n' = true
    case' neg =>
      have hK : asB k' n' = false := by simpa using hK
      have HK := Lib.hid hK
      have hKK : (k' == 1) = false ∨ (k' == 1) = true ∧ ((n' : Int) == 2) = false := by
        rw [asB, Bool.and_eq_false_iff, decide_eq_false_iff_not, decide_eq_false_iff_not] at hK
        by_cases h1 : k' = 1
        · exact .inr ⟨by simpa using h1, by rcases hK with h | h; exact absurd h1 h; simp; omega⟩
        · exact .inl (by simpa using h1)
      obtain ⟨r0, r1, r2⟩ := HI.out.res.three
      have f0 := HI.out.res.frozen 0
      have f1 := HI.out.res.frozen 1
      have f2 := HI.out.res.frozen 2
      have l1 := HI.out.res.lt
      have HE := Lib.hid (HI.out.done (spA_no (by rw [HL.out]; exact HK.out)) (spR_no (by rw [HL.out]; exact HK.out)) (Below.refl _ _) (RdF.moveQ (fun b hb hl => ⟨by have hb : b < w.heap.size := hb; omega, HI.out.below.block b hb⟩) _ _ (rdF_anyQ _ _ HI.out.rd)))
      clear hK eq hl hnc hcm hrow
      rcases hKK with e0 | ⟨e0, e1⟩
    case' pos =>
      obtain ⟨rfl, a, b, rfl⟩ := pi_of (show asB k' xs.length = true by rw [hl]; exact hK)
      have HJ := HI
      clear hK eq hl hnc hcm p0 p1 p2 hrow
    · obtain ⟨bb, o, cc, ev, hc2, hcm, ⟨ka, ga, Aa, na, ca, c0, c1, c2, hra⟩, kb, gb, Ab, nb, cb, d0, d1, d2, hrb⟩ := rd_pi HJ.out.rd
      have ev' : A' = some ⟨bb, o, none⟩ ∧ n' = 2 ∧ c' = cc := by simpa using ev
      obtain ⟨rfl, rfl, rfl⟩ := ev'
      have HRB := Lib.hid hrb
      have HRA := Lib.hid hra
      obtain ⟨p0, p1, p2⟩ := HJ.out.box.three
      have hbw := HJ.out.below
      have g0 := (hbw.cell (cell_lt c0)).trans c0
      have g1 := (hbw.cell (cell_lt c1)).trans c1
      have g2 := (hbw.cell (cell_lt c2)).trans c2
      have HD := Lib.hid (And.intro d0 (And.intro d1 d2))
      have sm := HJ.out.small
      rw [nd, ndL, ndL] at sm
      have l1 := HJ.out.res.lt
      clear ev hc2 hcm hrb hra c0 c1 c2 d0 d1 d2 hbw
      have hr3 : RdF (fun b => ¬ XQ w.heap.size b ∧ some b ≠ Value.ownBlock (.slice Av j cv)) wr a (.agg #[.int .i64 ka, .int .i64 ga, .slice Aa na ca]) :=
        RdF.moveQ (fun b hb _ => ⟨⟨fun e => by have hb : b < w.heap.size := hb; rcases e with e | e <;> omega, fun e => by have hb : b < w.heap.size := hb; have := (HJ.out.row.lt e.symm).1; omega⟩, HJ.out.below.block b hb⟩) _ _ (rdF_anyQ _ _ HRA.out)
      obtain ⟨g, cap, w4, hrun, hrow4, hold, hb4⟩ := HJ.out.row.push hr3 (by omega) (by omega)
      have hb2 := Below.refl wr.heap.size wr
      clear hr3
      have hbz : Below w.heap.size w w4 := (HJ.out.below.trans (hb2.mono HJ.out.below.size)).trans (hb4.mono (by omega))
      have HS := Lib.hid (SpIq.step HJ.out HRB.out hb2 hrow4 hold hb4)
      have hne : ∀ q, q < w.heap.size + 2 → some q ≠ Value.ownBlock (.slice Av j cv) := fun q hq e => by
        have := (HJ.out.row.lt e.symm).1
        omega
      have s2 := hb2.size
      have y0 : Box w4 w.heap.size 39 #[.int .i64 1, .int .i64 h', .slice (some ⟨bb, o, none⟩) 2 c'] := (hold _ (by omega) (hne _ (by omega))).trans (HJ.out.box.keep hb2 HJ.out.box.lt)
      obtain ⟨q0, q1, q2⟩ := y0.three
      have f0 := y0.frozen 0
      have f1 := y0.frozen 1
      have f2 := y0.frozen 2
      have l0 := y0.lt
      have d0 := (hbz.cell (cell_lt HD.out.1)).trans HD.out.1
      have d1 := (hbz.cell (cell_lt HD.out.2.1)).trans HD.out.2.1
      have d2 := (hbz.cell (cell_lt HD.out.2.2)).trans HD.out.2.2
      clear y0 hbz hrow4 hold hb4 hne
      clear hb2
      go_wp2_with (at_builtin; refine Lib.wpList_append_run _ rfl _ _ _ _ rfl _ _ rfl rfl _ _ hrun ?_)
      go_roundg (nd b)
      case measure => rw [HG.out, nd, ndL, ndL]; omega
      case rel => exact ⟨b, kb, gb, Ab, nb, cb, j + 1, some ⟨g, 0, none⟩, cap, _, _, rfl, rfl, HS⟩
    all_goals
      have hb0 := HI.out.below
      have HB0 := Lib.hid hb0
      have y1 := HI.out.res
      have HY := Lib.hid y1
      go_wp2_with fail
      have q0 := Past.cell p0
      have q1 := Past.cell p1
      have q2 := Past.cell p2
      refine wp_region_class_tail (C := fun w' => ∃ z : Past wr, w' = z.wd) 3 (by kernel_rfl) (by kernel_rfl) ⟨⟨wr.drew, (Below.refl _ _).drew⟩, rfl⟩ ?_
      simp only [List.take_succ_cons, List.take_zero, List.drop_succ_cons, List.drop_zero]
      repeat (go_big_quiet_step (fail))
      refine wpQuiet_nil ?_
      rintro _ ⟨z, rfl⟩
      obtain ⟨w2, hb2⟩ := z
      dsimp only
      have s2 := hb2.size
      have z1 := HY.out.keep hb2 HY.out.lt
      obtain ⟨r0, r1, r2⟩ := z1.three
      have f0 := z1.frozen 0
      have f1 := z1.frozen 1
      have f2 := z1.frozen 2
      have l1 := z1.lt
      have HE := Lib.hid (HI.out.done (spA_no (by rw [HL.out]; exact HK.out)) (spR_no (by rw [HL.out]; exact HK.out)) hb2 (RdF.moveQ (fun b hb hl => ⟨by have hb : b < w.heap.size := hb; omega, (HB0.out.trans (hb2.mono HB0.out.size)).block b hb⟩) _ _ (rdF_anyQ _ _ HI.out.rd)))
      clear y1 z1 hb0 hb2 q0 q1 q2 p0 p1 p2
      go_wp2_with fail
      refine bodyPost_ret (v := .tuple #[.slice Av j cv, .agg #[.int .i64 k', .int .i64 h', .slice A' n' c']]) (by simp [results, Tryz.results85, go_sem, r0, r1, r2]) rfl ?_
      exact HE.out
theorem rkindC (t : T) (v : Value) (w : World) (hv : Rd w t v) (hs : nd t ≤ 1048576) :
    Calls Tryz.prog 65 #[v] w fun e w' => e = .returned (.bool (kiB t)) ∧ Below w.heap.size w w' := by
  obtain ⟨k, h, A, n, c, rfl⟩ := hv.full
  have hb : Below w.heap.size w (w.alloc (.cells #[.int .i64 k, .int .i64 h, .slice A n c] 39)) := (Below.refl _ _).alloc (Nat.le_refl _) _
  have HC := Lib.hid (rsplitC t _ _ (Rd.keep hb _ _ hv) hs)
  have HB := Lib.hid hb; clear hb
  have HV := Lib.hid hv; clear hv
  go_enter Tryz.func65, Tryz.ntmps65
  go_wp2_with fail
  refine HC.out.mono ?_
  rintro e w1 ⟨Av, nv, cv, k1, h1, A1, n1, c1, rfl, _, _, _, _, hr, hb1⟩
  have hK : kiB t = (k1 == 0) := by
    rcases hq : spRq t with ⟨kt, gt, xs⟩
    rw [hq] at hr
    obtain ⟨Aq, nq, cq, eq, _⟩ := Rd_node.1 hr
    have eq' : k1 = kt ∧ h1 = gt ∧ A1 = Aq ∧ n1 = nq ∧ c1 = cq := by simpa using eq
    rw [kiB, hq, kdQ, eq'.1, Bool.eq_iff_iff]
    simp
  have HK := Lib.hid hK; clear hK hr
  have hbw := HB.out.trans (hb1.mono HB.out.size)
  have HBW := Lib.hid (hbw.alloc hbw.size (.cells #[.int .i64 k1, .int .i64 h1, .slice A1 n1 c1] 39)); clear hbw hb1
  go_wp2_with fail
  go_ret
  exact ⟨ret_bool HK.out.symm, HBW.out⟩
def DAt (w : World) (A : Option Addr) (i : Nat) (x : T) : Prop :=
  ∃ b o s k h A' n c, A = some ⟨b, o, none⟩ ∧ w.cell? ⟨b, o + i * 4, none⟩ = some (.string s) ∧ w.cell? ⟨b, o + i * 4 + 1, none⟩ = some (.int .i64 k) ∧ w.cell? ⟨b, o + i * 4 + 2, none⟩ = some (.int .i64 h) ∧
    w.cell? ⟨b, o + i * 4 + 3, none⟩ = some (.slice A' n c) ∧ Rd w x (.agg #[.int .i64 k, .int .i64 h, .slice A' n c])
structure DL (w : World) (ds : List T) (A : Option Addr) (n c : Nat) : Prop where
  len : ds.length = n
  le : n ≤ c
  cap : c ≤ maxLen
  at_ : ∀ i x, ds[i]? = some x → DAt w A i x
theorem DAt.keep {w w' : World} {A : Option Addr} {i : Nat} {x : T} (h : DAt w A i x) (hb : Below w.heap.size w w') : DAt w' A i x := by
  obtain ⟨b, o, s, k, g, A', n, c, rfl, c0, c1, c2, c3, hr⟩ := h
  exact ⟨b, o, s, k, g, A', n, c, rfl, (hb.cell (cell_lt c0)).trans c0, (hb.cell (cell_lt c1)).trans c1, (hb.cell (cell_lt c2)).trans c2, (hb.cell (cell_lt c3)).trans c3, Rd.keep hb _ _ hr⟩
theorem DL.keep {w w' : World} {ds : List T} {A : Option Addr} {n c : Nat} (h : DL w ds A n c) (hb : Below w.heap.size w w') : DL w' ds A n c :=
  ⟨h.len, h.le, h.cap, fun i x hx => (h.at_ i x hx).keep hb⟩
def fwQ (ds : List T) (n : Nat) : Bool := decide (n ≤ 30) && ds.all fun x => ltB x 1000 80
theorem fewC (ds : List T) (A : Option Addr) (n c : Nat) (w : World) (hx : DL w ds A n c) :
    Calls Tryz.prog 19 #[.slice A n c] w fun e w' => e = .returned (.bool (fwQ ds n)) ∧ Below w.heap.size w w' := by
  have hm := hx.cap
  have hc := hx.le
  unfold maxLen at hm
  have HX := Lib.hid hx; clear hx
  by_cases hgt : 30 < n
  · have d1 : decide ((30 : Int) < (n : Int)) = true := by simp; omega
    have hs : fwQ ds n = false := by rw [fwQ, decide_eq_false (by omega)]; rfl
    rw [hs]
    clear hs hgt
    go_enter Tryz.func19, Tryz.ntmps19
    go_wp2_with fail
    go_ret
    exact ⟨rfl, Below.refl _ _⟩
  · have d1 : decide ((30 : Int) < (n : Int)) = false := by simp; omega
    have hs : fwQ ds n = ds.all fun x => ltB x 1000 80 := by rw [fwQ, decide_eq_true (by omega)]; rfl
    rw [hs]
    clear hs
    go_enter Tryz.func19, Tryz.ntmps19
    go_wp2_with fail
    go_loopw [3] (fun i wr => ∃ (j : Nat), j ≤ n ∧ i = .int .i64 j ∧ Hid (((ds.drop j).all fun x => ltB x 1000 80) = ds.all fun x => ltB x 1000 80) ∧ Below w.heap.size w wr) (fun i _ => n - (Go.RowKit.intOf i).toNat)
    case atStart => exact ⟨0, Nat.zero_le _, rfl, Lib.hid (by simp), Below.refl _ _⟩
    case round =>
      obtain ⟨j, hj, rfl, HS, hb⟩ := hrel
      by_cases hlt : j < n
      · obtain ⟨x, hx⟩ := at_of HX.out.len hlt
        obtain ⟨b1, o1, s1, k1, h1, A1, n1, c1, rfl, c0, c1', c2, c3, hr1⟩ := (HX.out.at_ j x hx).keep hb
        have HS' := HS.out
        rw [drop_at hx, List.all_cons] at HS'
        have HS1 := Lib.hid HS'; clear HS' hx HS
        have hi0 : (0 : Int) ≤ j := by omega
        have hi1 : (j : Int) < n := by omega
        have HC := Lib.hid (refLight x 1000 80 _ wr hr1)
        clear hr1
        generalize ltB x 1000 80 = r at *
        go_wp2_with fail
        refine HC.out.mono ?_
        rintro e w1 ⟨rfl, hb1⟩
        replace hb := hb.trans (hb1.mono hb.size)
        clear hb1 c0 c1' c2 c3 HC
        cases r
        · go_wp2_with fail
          go_ret
          exact ⟨ret_bool (by rw [← HS1.out]; rfl), hb⟩
        · go_wp2_with fail
          go_roundw
          case rel => exact ⟨j + 1, by omega, by go_num, Lib.hid (by simpa using HS1.out), hb⟩
          case measure => simp [Go.RowKit.intOf]; omega
      · have e := HS.out
        rw [drop_all HX.out.len (by omega)] at e
        have HE := Lib.hid e; clear e HS
        go_wp2_with fail
        go_ret
        exact ⟨ret_bool (by rw [← HE.out]; rfl), hb⟩
end Go.Proofs.YtbbjjdnnlnabaaaGreat
