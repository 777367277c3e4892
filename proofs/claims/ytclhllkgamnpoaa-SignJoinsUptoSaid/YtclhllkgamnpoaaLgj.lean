/-
  The walk of the law SignJoins.
-/
import Derived.Test.YtclhllkgamnpoaaQf
import Derived.Test.YtclhllkgamnpoaaQk
import Derived.Test.YtclhllkgamnpoaaCs
namespace Go.Proofs.Ytclhllkgamnpoaa
open Go.ChangeShapes Go.WideShapes Go.ChangeAt Go.RowKit
set_option linter.unusedVariables false

/-- the Pis, one in the other -/
def pisQ (l : List T) (r : T) : T := l.foldr (fun a b => .node 1 0 [a, b]) r
mutual
theorem pis_sp : ∀ t : T, nodB t = true → pisQ (spA t) (spR t) = t
  | .node k h xs, e => by
    by_cases hk : asB k xs.length = true
    · obtain ⟨rfl, a, b, rfl⟩ := pi_of hk
      rw [nodB, Bool.and_eq_true] at e
      have h0 : h = 0 := by have := e.1; simpa [okN] using this
      have hb : nodB b = true := by
        have := e.2
        rw [nodL, nodL, Bool.and_eq_true, Bool.and_eq_true] at this
        exact this.2.1
      have ih := pis_sp b hb
      rw [spA_pi, spR_pi, h0]
      show T.node 1 0 [a, pisQ (spA b) (spR b)] = _
      rw [ih]
    · have hk : asB k xs.length = false := by simpa using hk
      rw [spA_no hk, spR_no hk]
      rfl
end
theorem rd_pair {w : World} {b c : Nat} {ty : TypeId} {u0 u1 u2 v0 v1 v2 : Value} {x y : T} {h : Int} {ok : Nat → Prop} (hB : Box w b ty #[u0, u1, u2, v0, v1, v2]) (hok : ok b) (hx : RdF ok w x (.agg #[u0, u1, u2])) (hy : RdF ok w y (.agg #[v0, v1, v2])) (hh : (Lit.int .i64 h).wf = true) (hc : 2 ≤ c) (hm : c ≤ maxLen) : RdF ok w (.node 1 h [x, y]) (.agg #[.int .i64 1, .int .i64 h, .slice (some ⟨b, 0, none⟩) 2 c]) := by
  refine RdF_node.2 ⟨_, 2, c, rfl, by decide, hh, rfl, hc, hm, fun i t ht => ?_⟩
  match i, ht with
  | 0, ht => cases ht; exact ⟨b, 0, u0, u1, u2, rfl, hok, hB.cell 0, hB.cell 1, hB.cell 2, hx⟩
  | 1, ht => cases ht; exact ⟨b, 0, v0, v1, v2, rfl, hok, hB.cell 3, hB.cell 4, hB.cell 5, hy⟩
  | i + 2, ht => simp at ht
/-- what holds at the head of the loop -/
structure GjI (B : Nat) (w wr : World) (u : T) (k h : Int) (A : Option Addr) (n c : Nat) : Prop where
  box : Box wr B 24 #[.int .i64 k, .int .i64 h, .slice A n c]
  rd : RdF (fun b => b ≠ B) wr u (.agg #[.int .i64 k, .int .i64 h, .slice A n c])
  below : Below w.heap.size w wr

set_option maxRecDepth 100000 in
set_option maxHeartbeats 8000000 in
theorem signJoinsC (t a : T) (v u : Value) (w : World) (hv : Rd w t v) (hu : Rd w a u) (hs : nd t ≤ 1048576) (hsa : nd a ≤ 1048576) :
    Calls Try.prog 4 #[v, u] w fun e w' => e = .returned (.bool true) ∧ Below w.heap.size w w' := by
  obtain ⟨k, h, A, n, c, rfl⟩ := hv.full
  obtain ⟨ka, ha, Aa, na, ca, rfl⟩ := hu.full
  obtain ⟨W, hW⟩ : ∃ W, (w.alloc (.cells #[.int .i64 k, .int .i64 h, .slice A n c] 24)).alloc (.cells #[.int .i64 ka, .int .i64 ha, .slice Aa na ca] 24) = W := ⟨_, rfl⟩
  have hb : Below w.heap.size w W := by rw [← hW]; exact ((Below.refl _ _).alloc (Nat.le_refl _) _).alloc (by simp) _
  have HX0 : Hid (Box W w.heap.size 24 #[.int .i64 k, .int .i64 h, .slice A n c]) := Lib.hid (by rw [← hW]; exact (Box.new _ _ _).alloc _)
  have HY0 : Hid (Box W (w.heap.size + 1) 24 #[.int .i64 ka, .int .i64 ha, .slice Aa na ca]) := Lib.hid (by rw [← hW]; exact (Box.new (w.alloc _) _ _).at (by simp))
  have HV := Lib.hid hv; clear hv
  have HU := Lib.hid hu; clear hu
  have HB := Lib.hid hb; clear hb
  have HW := Lib.hid hW; clear hW
  go_enter Try.func4, Try.ntmps4
  go_wp2_with fail
  rw [HW.out]
  clear HW
  refine (awakeQ _).mono ?_
  rintro e w1 ⟨rfl, hb1⟩
  have HB1 := Lib.hid (HB.out.trans (hb1.mono HB.out.size))
  have HX1 := Lib.hid (HX0.out.keep hb1 HX0.out.lt)
  have HY1 := Lib.hid (HY0.out.keep hb1 HY0.out.lt)
  obtain ⟨R, hR⟩ : ∃ R, ltB t 1000 80 = R := ⟨_, rfl⟩
  have HLT := Lib.hid (refLight t 1000 80 _ w1 (Rd.keep HB1.out _ _ HV.out))
  rw [hR] at HLT
  obtain ⟨p0, p1, p2⟩ := HX1.out.three
  clear hb1 HB HX0 HY0 hR
  go_wp2_with fail
  refine HLT.out.mono ?_
  clear HLT
  rintro e w2 ⟨rfl, hb2⟩
  have HB2 := Lib.hid (HB1.out.trans (hb2.mono HB1.out.size))
  have HX2 := Lib.hid (HX1.out.keep hb2 HX1.out.lt)
  have HY2 := Lib.hid (HY1.out.keep hb2 HY1.out.lt)
  obtain ⟨R2, hR2⟩ : ∃ R, ltB a 1000 80 = R := ⟨_, rfl⟩
  have HLT := Lib.hid (refLight a 1000 80 _ w2 (Rd.keep HB2.out _ _ HU.out))
  rw [hR2] at HLT
  clear hb2 HB1 HX1 HY1 p0 p1 p2 hR2
  obtain ⟨p0, p1, p2⟩ := HY2.out.three
  go_wp2_with fail
  refine HLT.out.mono ?_
  clear HLT
  rintro e w3 ⟨rfl, hb3⟩
  have HB3 := Lib.hid (HB2.out.trans (hb3.mono HB2.out.size))
  have HX3 := Lib.hid (HX2.out.keep hb3 HX2.out.lt)
  have HY3 := Lib.hid (HY2.out.keep hb3 HY2.out.lt)
  clear hb3 HB2 HX2 HY2 p0 p1 p2
  cases R
  · go_wp2_with fail
    go_ret
    exact ⟨rfl, HB3.out⟩
  cases R2
  · go_wp2_with fail
    go_ret
    exact ⟨rfl, HB3.out⟩
  obtain ⟨p0, p1, p2⟩ := HX3.out.three
  have HSP := Lib.hid (splitC2 t _ w3 (Rd.keep HB3.out _ _ HV.out) (by omega))
  go_wp2_with fail
  refine HSP.out.mono ?_
  clear HSP
  rintro e w4 ⟨Av, L, cv, k2, h2, A2, n2, c2, rfl, hn, hcv, hcmv, hl, hr2, hb4⟩
  have HN := Lib.hid hn
  obtain ⟨Wa, hWa⟩ : ∃ Wa, w4.alloc (.cells #[.int .i64 k2, .int .i64 h2, .slice A2 n2 c2] 24) = Wa := ⟨_, rfl⟩
  have hbA : Below w4.heap.size w4 Wa := by rw [← hWa]; exact (Below.refl _ _).alloc (Nat.le_refl _) _
  have s3 := hb4.size
  have HZR := Lib.hid (show Box Wa w4.heap.size 24 #[.int .i64 k2, .int .i64 h2, .slice A2 n2 c2] by rw [← hWa]; exact Box.new _ _ _)
  have HX4 := Lib.hid ((HX3.out.keep hb4 HX3.out.lt).keep hbA (Nat.lt_of_lt_of_le HX3.out.lt hb4.size))
  have HY4 := Lib.hid ((HY3.out.keep hb4 HY3.out.lt).keep hbA (Nat.lt_of_lt_of_le HY3.out.lt hb4.size))
  have HBA := Lib.hid (HB3.out.trans ((hb4.trans (hbA.mono hb4.size)).mono HB3.out.size))
  have HLA : Hid (∀ i u, (spA t)[i]? = some u → RdAt Wa Av i u) := Lib.hid fun i u hu => RdAt.keep hbA (hl i u hu)
  have HRA := Lib.hid (Rd.keep hbA _ _ hr2)
  obtain ⟨Wb, hWb⟩ : ∃ Wb, Wa.alloc (.cells #[.int .i64 k2, .int .i64 h2, .slice A2 n2 c2] 24) = Wb := ⟨_, rfl⟩
  have hbB : Below Wa.heap.size Wa Wb := by rw [← hWb]; exact (Below.refl _ _).alloc (Nat.le_refl _) _
  have hsz : Wa.heap.size = w4.heap.size + 1 := by rw [← hWa]; simp
  have HI : Hid (GjI (w4.heap.size + 1) Wa Wb (pisQ ((spA t).drop L) (spR t)) k2 h2 A2 n2 c2) := Lib.hid ⟨by rw [← hWb, ← hsz]; exact Box.new _ _ _, by
    rw [drop_all hn (Nat.le_refl _)]
    exact RdF.moveQ (fun b hb _ => ⟨by have hb : b < Wa.heap.size := hb; omega, hbB.block b hb⟩) _ _ (rdF_anyQ _ _ HRA.out), hbB⟩
  have hL : L ≤ 1048576 := by have := (sp_nd t).1; omega
  have hw0 : IntKind.i64.wrap ((L : Int) - 1) = (L : Int) - 1 := by rw [wrapEq, wrap_small (by omega) (by omega)]
  have HWb := Lib.hid hWb
  unfold maxLen at hcmv
  clear hl hr2 hb4 hbA hbB p0 p1 p2 hn hWb
  subst hWa
  go_wp2_with fail
  rw [HWb.out]
  clear HWb
  obtain ⟨B4, hB4⟩ : ∃ B, w4.heap.size = B := ⟨_, rfl⟩
  generalize w4.alloc (.cells #[.int .i64 k2, .int .i64 h2, .slice A2 n2 c2] 24) = Wa at *
  rw [hB4] at *
  go_loopw [11] (fun i wr => ∃ (j : Nat) (iv : Int) (k h : Int) (A : Option Addr) (n c : Nat), j ≤ L ∧ iv + 1 = j ∧ i = .int .i64 iv ∧ Hid (GjI (B4 + 1) Wa wr (pisQ ((spA t).drop j) (spR t)) k h A n c)) (fun i _ => (Go.RowKit.intOf i + 1).toNat)
  case atStart => exact ⟨L, (L : Int) - 1, k2, h2, A2, n2, c2, Nat.le_refl _, by omega, rfl, HI⟩
  case round =>
    clear HI
    obtain ⟨j, iv, kw, hw, Aw, nw, cw, hj, hiv, rfl, HI⟩ := hrel
    by_cases hj0 : 0 < j
    · obtain ⟨q, rfl⟩ : ∃ q : Nat, iv = q := ⟨iv.toNat, by omega⟩
      obtain rfl : j = q + 1 := by omega
      obtain ⟨y, hy⟩ := at_of HN.out (show q < L by omega)
      obtain ⟨b, o, ky, hky, Ay, ny, cy, rfl, d0, d1, d2, hry⟩ := (RdAt.keep HI.out.below (HLA.out q y hy)).full
      obtain ⟨b', o', ky', hky', Ay', ny', cy', e', g0, g1, g2, hry'⟩ := (HLA.out q y hy).full
      cases e'
      have ek : ky' = ky ∧ hky' = hky ∧ Ay' = Ay ∧ ny' = ny ∧ cy' = cy := by
        have e1 := ((HI.out.below.cell (cell_lt g0)).trans g0).symm.trans d0
        have e2 := ((HI.out.below.cell (cell_lt g1)).trans g1).symm.trans d1
        have e3 := ((HI.out.below.cell (cell_lt g2)).trans g2).symm.trans d2
        cases e1; cases e2; cases e3
        exact ⟨rfl, rfl, rfl, rfl, rfl⟩
      obtain ⟨rfl, rfl, rfl, rfl, rfl⟩ := ek
      have HRY := Lib.hid (RdF.moveQ (ok' := fun b => b ≠ B4 + 1 ∧ b < wr.heap.size) (fun b hb _ => ⟨⟨by have hb : b < Wa.heap.size := hb; omega, by have hb : b < Wa.heap.size := hb; have := HI.out.below.size; omega⟩, HI.out.below.block b hb⟩) _ _ (rdF_anyQ _ _ hry'))
      have HY := Lib.hid hy
      have hi0 : (0 : Int) ≤ q := by omega
      have hi1 : (q : Int) < L := by omega
      have dge : decide ((q : Int) ≥ 0) = true := by simp
      have hw2 : IntKind.i64.wrap ((q : Int) - 1) = (q : Int) - 1 := by rw [wrapEq, wrap_small (by omega) (by omega)]
      obtain ⟨p0, p1, p2⟩ := HI.out.box.three
      have r0 := Past.cell p0
      have r1 := Past.cell p1
      have r2 := Past.cell p2
      have t0 := Past.cell d0
      have t1 := Past.cell d1
      have t2 := Past.cell d2
      clear hry hry' hy g0 g1 g2
      go_wp2_with fail
      refine wp_region_class_tail (C := fun w' => ∃ z : Past wr, w' = z.wd) 5 (by kernel_rfl) (by kernel_rfl) ⟨⟨wr.drew, (Below.refl _ _).drew⟩, rfl⟩ ?_
      simp only [List.take_succ_cons, List.take_zero, List.drop_succ_cons, List.drop_zero]
      repeat (go_big_quiet_step (fail))
      refine wpQuiet_nil ?_
      rintro _ ⟨z, rfl⟩
      obtain ⟨w9, hb9⟩ := z
      dsimp only
      have s9 := hb9.size
      have y0 := HI.out.box.keep hb9 HI.out.box.lt
      obtain ⟨q0, q1, q2⟩ := y0.three
      have f0 := y0.frozen 0
      have f1 := y0.frozen 1
      have f2 := y0.frozen 2
      have l0 := y0.lt
      have HY0 := Lib.hid y0
      have HB9 := Lib.hid hb9
      clear r0 r1 r2 t0 t1 t2 p0 p1 p2 d0 d1 d2 y0 hb9
      go_wp2_with fail
      go_roundw
      case rel =>
        refine ⟨q, (q : Int) - 1, 1, 0, some ⟨w9.heap.size, 0, none⟩, 2, 2, by omega, by omega, by first | rfl | rw [hw2], Lib.hid ⟨?_, ?_, ?_⟩⟩
        · have := ((HY0.out.setAt 0 (.int .i64 1)).setAt 1 (.int .i64 0)).setAt 2 (.slice (some ⟨w9.heap.size, 0, none⟩) 2 2)
          exact (by simpa using this : Box _ (B4 + 1) 24 #[.int .i64 1, .int .i64 0, .slice (some ⟨w9.heap.size, 0, none⟩) 2 2]).alloc _
        · rw [drop_at HY.out]
          obtain ⟨W8, hW8⟩ : ∃ W8, ((w9.setCell ⟨B4 + 1, 0, none⟩ (.int .i64 1)).setCell ⟨B4 + 1, 1, none⟩ (.int .i64 0)).setCell ⟨B4 + 1, 2, none⟩ (.slice (some ⟨w9.heap.size, 0, none⟩) 2 2) = W8 := ⟨_, rfl⟩
          have hs8 : W8.heap.size = w9.heap.size := by rw [← hW8]; simp [World.setCell]
          have hmv : ∀ b, b < wr.heap.size → b ≠ B4 + 1 → (W8.alloc (.cells #[.int .i64 ky', .int .i64 hky', .slice Ay' ny' cy', .int .i64 kw, .int .i64 hw, .slice Aw nw cw] 24)).heap[b]? = wr.heap[b]? := fun b hl hx => by
            rw [Below.heap_alloc _ _ _ (by omega), ← hW8, heap_other3Q _ _ _ _ _ _ hx, HB9.out.block b hl]
          rw [hW8]
          exact rd_pair (y := pisQ ((spA t).drop (q + 1)) (spR t)) ((Box.new W8 _ _).at (b' := w9.heap.size) hs8) (by omega) (RdF.moveQ (fun b hb hl => ⟨hb.1, hmv b hb.2 hb.1⟩) _ _ HRY.out) (RdF.moveQ (fun b hb hl => ⟨hb, hmv b hl hb⟩) _ _ HI.out.rd) (by decide) (Nat.le_refl _) (by unfold maxLen; omega)
        · exact (below_set3Q (HI.out.below.trans (HB9.out.mono HI.out.below.size)) (by omega) _ _ _).alloc (by have := HI.out.below.size; simp [World.setCell]; try omega) _
      case measure => (simp [Go.RowKit.intOf]; try omega)
    · obtain rfl : j = 0 := by omega
      obtain rfl : iv = -1 := by omega
      have HX5 := Lib.hid (HX4.out.keep HI.out.below HX4.out.lt)
      have HY5 := Lib.hid (HY4.out.keep HI.out.below HY4.out.lt)
      have HZ5 := Lib.hid (HZR.out.keep HI.out.below HZR.out.lt)
      have HB5 := Lib.hid (HBA.out.trans (HI.out.below.mono HBA.out.size))
      have hrw := HI.out.rd
      rw [List.drop_zero] at hrw
      have HRW := Lib.hid (RdF.rd _ _ hrw)
      have HRS := Lib.hid (Rd.keep HI.out.below _ _ HRA.out)
      have HWB := Lib.hid HI.out.box
      obtain ⟨Wd, hWd⟩ : ∃ Wd, (wr.alloc (.cells #[.int .i64 ka, .int .i64 ha, .slice Aa na ca, .int .i64 k, .int .i64 h, .slice A n c] 24)).alloc (.cells #[.int .i64 1, .int .i64 0, .slice (some ⟨wr.heap.size, 0, none⟩) 2 2] 24) = Wd := ⟨_, rfl⟩
      have hbD : Below wr.heap.size wr Wd := by rw [← hWd]; exact ((Below.refl _ _).alloc (Nat.le_refl _) _).alloc (by simp) _
      have x6 : Box Wd wr.heap.size 24 #[.int .i64 ka, .int .i64 ha, .slice Aa na ca, .int .i64 k, .int .i64 h, .slice A n c] := by rw [← hWd]; exact (Box.new _ _ _).alloc _
      have HM6 : Hid (Box Wd (wr.heap.size + 1) 24 #[.int .i64 1, .int .i64 0, .slice (some ⟨wr.heap.size, 0, none⟩) 2 2]) := Lib.hid (by rw [← hWd]; exact (Box.new (wr.alloc _) _ _).at (by simp))
      have HB6 := Lib.hid (HB5.out.trans (hbD.mono HB5.out.size))
      have HMO : Hid (Rd Wd (.node 1 0 [a, t]) (.agg #[.int .i64 1, .int .i64 0, .slice (some ⟨wr.heap.size, 0, none⟩) 2 2])) := Lib.hid (rd_twoQ x6 (Rd.keep HB6.out _ _ HU.out) (Rd.keep HB6.out _ _ HV.out) (by decide) (Nat.le_refl _) (by unfold maxLen; omega))
      have HX6 := Lib.hid (HX5.out.keep hbD HX5.out.lt)
      have HY6 := Lib.hid (HY5.out.keep hbD HY5.out.lt)
      have HZ6 := Lib.hid (HZ5.out.keep hbD HZ5.out.lt)
      have HW6 := Lib.hid (HWB.out.keep hbD HWB.out.lt)
      have HRW6 := Lib.hid (Rd.keep hbD _ _ HRW.out)
      have HRS6 := Lib.hid (Rd.keep hbD _ _ HRS.out)
      have HSP := Lib.hid (splitC2 (.node 1 0 [a, t]) _ Wd HMO.out (by simp only [nd, ndL]; omega))
      obtain ⟨p0, p1, p2⟩ := HX5.out.three
      obtain ⟨q0, q1, q2⟩ := HY5.out.three
      clear hrw hbD x6 HX5 HY5 HZ5 HB5 HRW HRS HWB HX4 HY4 HZR HBA HRA HI
      subst hWd
      go_wp2_with fail
      refine HSP.out.mono ?_
      clear HSP
      generalize (wr.alloc (.cells #[.int .i64 ka, .int .i64 ha, .slice Aa na ca, .int .i64 k, .int .i64 h, .slice A n c] 24)).alloc (.cells #[.int .i64 1, .int .i64 0, .slice (some ⟨wr.heap.size, 0, none⟩) 2 2] 24) = Wd at *
      rintro e w10 ⟨Mv, L2, dv, ks, hs2, As, ns, cs2, rfl, hn2, hdv, hdmv, hl2, hr3, hb10⟩
      rw [spA_pi] at hn2 hl2
      rw [spR_pi] at hr3
      rw [List.length_cons, HN.out] at hn2
      subst hn2
      obtain ⟨bm, om, km, hm, Am, nm, cm, rfl, m0, m1, m2, hrm⟩ := (hl2 0 a rfl).full
      obtain ⟨We, hWe⟩ : ∃ We, w10.alloc (.cells #[.int .i64 ks, .int .i64 hs2, .slice As ns cs2] 24) = We := ⟨_, rfl⟩
      have hbE : Below w10.heap.size w10 We := by rw [← hWe]; exact (Below.refl _ _).alloc (Nat.le_refl _) _
      have hS7 : Box We w10.heap.size 24 #[.int .i64 ks, .int .i64 hs2, .slice As ns cs2] := by rw [← hWe]; exact Box.new _ _ _
      have hb7 := hb10.trans (hbE.mono hb10.size)
      have HX7 := Lib.hid (HX6.out.keep hb7 HX6.out.lt)
      have HY7 := Lib.hid (HY6.out.keep hb7 HY6.out.lt)
      have HZ7 := Lib.hid (HZ6.out.keep hb7 HZ6.out.lt)
      have HW7 := Lib.hid (HW6.out.keep hb7 HW6.out.lt)
      have HM7 := Lib.hid (HM6.out.keep hb7 HM6.out.lt)
      have HB7 := Lib.hid (HB6.out.trans (hb7.mono HB6.out.size))
      have HRW7 := Lib.hid (Rd.keep hb7 _ _ HRW6.out)
      have HRS7 := Lib.hid (Rd.keep hb7 _ _ HRS6.out)
      have HMO7 := Lib.hid (Rd.keep hb7 _ _ HMO.out)
      have HSS7 := Lib.hid (Rd.keep hbE _ _ hr3)
      have HRM7 := Lib.hid (Rd.keep hbE _ _ hrm)
      have HV7 := Lib.hid (Rd.keep HB7.out _ _ HV.out)
      have HU7 := Lib.hid (Rd.keep HB7.out _ _ HU.out)
      have HM0 := Lib.hid (And.intro ((hbE.cell (cell_lt m0)).trans m0) (And.intro ((hbE.cell (cell_lt m1)).trans m1) ((hbE.cell (cell_lt m2)).trans m2)))
      have HS7 := Lib.hid hS7
      have hw3 : IntKind.i64.wrap ((L : Int) + 1) = (L : Int) + 1 := by rw [wrapEq, wrap_small (by omega) (by omega)]
      obtain ⟨M, hM⟩ : ∃ M, mayB t = M := ⟨_, rfl⟩
      have HS1 : Hid (M = true → ∀ z : Past We, Calls Try.prog 22 #[.agg #[.int .i64 kw, .int .i64 hw, .slice Aw nw cw], .agg #[.int .i64 k, .int .i64 h, .slice A n c]] z.wd fun e w' => e = .returned (.bool true) ∧ Below z.wd.heap.size z.wd w') := Lib.hid fun hm z => by
        have hnb : nodB t = true := by
          rw [hm, mayB, Bool.and_eq_true, Bool.and_eq_true] at hM
          exact hM.1.1
        have h1 := HRW7.out
        rw [pis_sp t hnb] at h1
        have := termSame t t _ _ z.wd (Rd.keep z.h _ _ h1) (Rd.keep z.h _ _ HV7.out)
        rwa [sam_refl] at this
      have HS2 : Hid (∀ z : Past We, Calls Try.prog 22 #[.agg #[.int .i64 km, .int .i64 hm, .slice Am nm cm], .agg #[.int .i64 ka, .int .i64 ha, .slice Aa na ca]] z.wd fun e w' => e = .returned (.bool true) ∧ Below z.wd.heap.size z.wd w') := Lib.hid fun z => by
        have := termSame a a _ _ z.wd (Rd.keep z.h _ _ HRM7.out) (Rd.keep z.h _ _ HU7.out)
        rwa [sam_refl] at this
      have HS3 : Hid (∀ z : Past We, Calls Try.prog 22 #[.agg #[.int .i64 ks, .int .i64 hs2, .slice As ns cs2], .agg #[.int .i64 k2, .int .i64 h2, .slice A2 n2 c2]] z.wd fun e w' => e = .returned (.bool true) ∧ Below z.wd.heap.size z.wd w') := Lib.hid fun z => by
        have := termSame (spR t) (spR t) _ _ z.wd (Rd.keep z.h _ _ HSS7.out) (Rd.keep z.h _ _ HRS7.out)
        rwa [sam_refl] at this
      have HFM : Hid (∀ z : Past We, Calls Try.prog 19 #[.agg #[.int .i64 1, .int .i64 0, .slice (some ⟨wr.heap.size, 0, none⟩) 2 2]] z.wd fun e w' => e = .returned (.int .i64 (faI t)) ∧ Below z.wd.heap.size z.wd w') := Lib.hid fun z => by
        have := familyC _ _ z.wd (Rd.keep z.h _ _ HMO7.out)
        rwa [show faI (.node 1 0 [a, t]) = faI t by unfold faI; rw [spR_pi]] at this
      have HKM : Hid (∀ z : Past We, Calls Try.prog 18 #[.agg #[.int .i64 1, .int .i64 0, .slice (some ⟨wr.heap.size, 0, none⟩) 2 2]] z.wd fun e w' => e = .returned (.bool (kiB t)) ∧ Below z.wd.heap.size z.wd w') := Lib.hid fun z => by
        have := kindC _ _ z.wd (Rd.keep z.h _ _ HMO7.out)
        rwa [show kiB (.node 1 0 [a, t]) = kiB t by unfold kiB; rw [spR_pi]] at this
      have HFT : Hid (∀ z : Past We, Calls Try.prog 19 #[.agg #[.int .i64 k, .int .i64 h, .slice A n c]] z.wd fun e w' => e = .returned (.int .i64 (faI t)) ∧ Below z.wd.heap.size z.wd w') := Lib.hid fun z => familyC _ _ z.wd (Rd.keep z.h _ _ HV7.out)
      have HKT : Hid (∀ z : Past We, Calls Try.prog 18 #[.agg #[.int .i64 k, .int .i64 h, .slice A n c]] z.wd fun e w' => e = .returned (.bool (kiB t)) ∧ Below z.wd.heap.size z.wd w') := Lib.hid fun z => kindC _ _ z.wd (Rd.keep z.h _ _ HV7.out)
      have HMA : Hid (∀ z : Past We, Calls Try.prog 21 #[.agg #[.int .i64 k, .int .i64 h, .slice A n c]] z.wd fun e w' => e = .returned (.bool M) ∧ Below z.wd.heap.size z.wd w') := Lib.hid fun z => by
        have := mayC t _ z.wd (Rd.keep z.h _ _ HV7.out) hs
        rwa [hM] at this
      generalize faI t = FT at *
      generalize kiB t = KT at *
      unfold maxLen at hdmv
      clear hl2 hr3 hb10 hbE hS7 hb7 m0 m1 m2 hrm p0 p1 p2 q0 q1 q2 hM HX6 HY6 HZ6 HW6 HM6 HB6 HRW6 HRS6 HMO
      have m0' : We.cell? ⟨bm, om, none⟩ = some (.int .i64 km) := by simpa using HM0.out.1
      have m1' : We.cell? ⟨bm, om + 1, none⟩ = some (.int .i64 hm) := by simpa using HM0.out.2.1
      have m2' : We.cell? ⟨bm, om + 2, none⟩ = some (.slice Am nm cm) := by simpa using HM0.out.2.2
      have a0 := Past.cell m0'
      have a1 := Past.cell m1'
      have a2 := Past.cell m2'
      have b0 := Past.cell HX7.out.three.1
      have b1 := Past.cell HX7.out.three.2.1
      have b2 := Past.cell HX7.out.three.2.2
      have c0 := Past.cell HY7.out.three.1
      have c1 := Past.cell HY7.out.three.2.1
      have c2' := Past.cell HY7.out.three.2.2
      have d0 := Past.cell HZ7.out.three.1
      have d1 := Past.cell HZ7.out.three.2.1
      have d2 := Past.cell HZ7.out.three.2.2
      have e0 := Past.cell HW7.out.three.1
      have e1 := Past.cell HW7.out.three.2.1
      have e2 := Past.cell HW7.out.three.2.2
      have f0 := Past.cell HM7.out.three.1
      have f1 := Past.cell HM7.out.three.2.1
      have f2 := Past.cell HM7.out.three.2.2
      have g0 := Past.cell HS7.out.three.1
      have g1 := Past.cell HS7.out.three.2.1
      have g2 := Past.cell HS7.out.three.2.2
      clear m0' m1' m2'
      subst hWe
      cases M
      case' false =>
        go_wp2_with fail
        refine wp_region_past (by kernel_rfl) (by kernel_rfl) ?_
        repeat (go_big_quiet_step (fail))
        go_big_quiet_step ((go_at_call 21; exact calls_past (HMA.out _)))
        repeat (go_big_quiet_step (fail))
      case' true =>
        go_wp2_with fail
        refine wp_region_past (by kernel_rfl) (by kernel_rfl) ?_
        repeat (go_big_quiet_step (fail))
        go_big_quiet_step ((go_at_call 21; exact calls_past (HMA.out _)))
        repeat (go_big_quiet_step (fail))
        go_big_quiet_step ((go_at_call 22; exact calls_past (HS1.out (by trivial) _)))
        repeat (go_big_quiet_step (fail))
      all_goals
        go_big_quiet_step ((go_at_call 22; exact calls_past (HS2.out _)))
        repeat (go_big_quiet_step (fail))
        go_big_quiet_step ((go_at_call 22; exact calls_past (HS3.out _)))
        repeat (go_big_quiet_step (fail))
        go_big_quiet_step ((go_at_call 19; exact calls_past (HFM.out _)))
        repeat (go_big_quiet_step (fail))
        go_big_quiet_step ((go_at_call 19; exact calls_past (HFT.out _)))
        repeat (go_big_quiet_step (fail))
        go_big_quiet_step ((go_at_call 18; exact calls_past (HKM.out _)))
        repeat (go_big_quiet_step (fail))
        go_big_quiet_step ((go_at_call 18; exact calls_past (HKT.out _)))
        repeat (go_big_quiet_step (fail))
        refine wpQuiet_nil ?_
        rintro _ ⟨z9, rfl⟩
        obtain ⟨w19, hb19⟩ := z9
        dsimp only
        have HB19 := Lib.hid (HB7.out.trans (hb19.mono HB7.out.size))
        clear a0 a1 a2 b0 b1 b2 c0 c1 c2' d0 d1 d2 e0 e1 e2 f0 f1 f2 g0 g1 g2 hb19
        go_wp2_with fail
        go_ret
        exact ⟨rfl, HB19.out⟩
end Go.Proofs.Ytclhllkgamnpoaa
