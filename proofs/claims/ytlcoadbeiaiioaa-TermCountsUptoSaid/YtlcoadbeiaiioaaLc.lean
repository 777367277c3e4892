/-
  The walk of the law TermCounts.
-/
import Derived.Test.YtlcoadbeiaiioaaLa
namespace Go.Proofs.Ytlcoadbeiaiioaa
open Go.ChangeShapes Go.WideShapes Go.ChangeAt Go.RowKit Go.Shelf
set_option linter.unusedVariables false

set_option maxRecDepth 100000 in
set_option maxHeartbeats 4000000 in
theorem termCountsC (t : T) (v : Value) (w : World) (hv : Rd w t v) (hs : nd t ≤ 1048576) :
    Calls Try.prog 7 #[v] w fun e w' => e = .returned (.bool true) ∧ Below w.heap.size w w' := by
  obtain ⟨k, h, xs⟩ := t
  have hv' := hv
  obtain ⟨A, n, c, rfl, hk, hh, hn, hc, hm, hx⟩ := Rd_node.1 hv
  clear hv
  have HV := Lib.hid hv'; clear hv'
  have hbs : ∀ t ∈ xs, nd t ≤ 1048576 := fun t ht => by have := nd_mem ht; rw [nd] at hs; omega
  have HB := Lib.hid hbs; clear hbs
  have HN := Lib.hid hn; clear hn
  have HX := Lib.hid hx; clear hx
  have hdep : dpW (.node k h xs) ≤ szW (.node k h xs) := by
    rw [dpW_eq _ hs, szW_small hs]
    have := dp_le (.node k h xs)
    omega
  have hde : decide (dpW (.node k h xs) ≤ szW (.node k h xs)) = true := by simpa using hdep
  have edp : dpW (.node k h xs) = wrap64 (dpWL xs 0 + 1) := rfl
  have esz : szW (.node k h xs) = szWL xs 1 := rfl
  have EDP := Lib.hid edp; clear edp
  have ESZ := Lib.hid esz; clear esz
  have HDE := Lib.hid hde; clear hde hdep
  unfold maxLen at hm
  have hb : Below w.heap.size w (w.alloc (.cells #[.int .i64 k, .int .i64 h, .slice A n c] 24)) := (Below.refl _ _).alloc (Nat.le_refl _) _
  have bx := Box.new w 24 #[.int .i64 k, .int .i64 h, .slice A n c]
  go_enter Try.func7, Try.ntmps7
  go_wp2_with fail
  refine (awakeC _).mono ?_
  rintro e w1 ⟨rfl, hb1⟩
  have bx := bx.keep hb1 bx.lt
  have hb := hb.trans (hb1.mono hb.size)
  clear hb1
  obtain ⟨c0, c1, c2⟩ := bx.three
  go_wp2_with fail
  refine (refLight _ 3000 200 _ _ (Rd.keep hb _ _ HV.out)).mono ?_
  rintro e w2 ⟨rfl, hb1⟩
  have bx := bx.keep hb1 bx.lt
  have hb := hb.trans (hb1.mono hb.size)
  clear hb1 c0 c1 c2
  obtain ⟨c0, c1, c2⟩ := bx.three
  generalize ltB (.node k h xs) 3000 200 = R at *
  cases R
  · go_wp2_with fail
    go_ret
    exact ⟨rfl, hb⟩
  · go_wp2_with fail
    go_loopw [5, 6, 7] (fun s d i wr => ∃ (j : Nat) (m g : Int), j ≤ n ∧ i = .int .i64 j ∧ s = .int .i64 m ∧ d = .int .i64 g ∧ Hid (szWL (xs.drop j) m = szWL xs 1) ∧ Hid (dpWL (xs.drop j) g = dpWL xs 0) ∧
      Box wr w.heap.size 24 #[.int .i64 k, .int .i64 h, .slice A n c] ∧ Below w.heap.size w wr) (fun _ _ i _ => n - (intOf i).toNat)
    case atStart => exact ⟨0, 1, 0, Nat.zero_le _, rfl, rfl, rfl, Lib.hid rfl, Lib.hid rfl, bx, hb⟩
    case round =>
      obtain ⟨j, m, g, hj, rfl, rfl, rfl, HS, HD, hbox, hbr⟩ := hrel
      clear hb
      clear c0 c1 c2
      obtain ⟨b0, b1, b2⟩ := hbox.three
      by_cases hlt : j < n
      · obtain ⟨t, ht⟩ := at_of HN.out hlt
        obtain ⟨b, o, v0, v1, v2, rfl, c0, c1, c2, hr⟩ := RdAt.keep hbr (HX.out j t ht)
        have hst : nd t ≤ 1048576 := HB.out t (List.mem_of_getElem? ht)
        have HT := Lib.hid ht; clear ht
        go_wp2_with fail
        refine (sizeC t _ _ hr).mono ?_
        rintro e w3 ⟨rfl, hb1⟩
        have hr := Rd.keep hb1 _ _ hr
        have c0 := (hb1.cell (cell_lt c0)).trans c0
        have c1 := (hb1.cell (cell_lt c1)).trans c1
        have c2 := (hb1.cell (cell_lt c2)).trans c2
        have hbox := hbox.keep hb1 hbox.lt
        have hbr := hbr.trans (hb1.mono hbr.size)
        clear hb1 b0 b1 b2
        obtain ⟨b0, b1, b2⟩ := hbox.three
        go_wp2_with fail
        refine (depthC t _ _ hr hst).mono ?_
        rintro e w4 ⟨rfl, hb1⟩
        have hr := Rd.keep hb1 _ _ hr
        have c0 := (hb1.cell (cell_lt c0)).trans c0
        have c1 := (hb1.cell (cell_lt c1)).trans c1
        have c2 := (hb1.cell (cell_lt c2)).trans c2
        have hbox := hbox.keep hb1 hbox.lt
        have hbr := hbr.trans (hb1.mono hbr.size)
        clear hb1 b0 b1 b2
        obtain ⟨b0, b1, b2⟩ := hbox.three
        by_cases hd : g < dpW t
        · have hd' : decide (g < dpW t) = true := by simpa using hd
          go_wp2_with fail
          refine (depthC t _ _ hr hst).mono ?_
          rintro e w5 ⟨rfl, hb1⟩
          have hbox := hbox.keep hb1 hbox.lt
          have hbr := hbr.trans (hb1.mono hbr.size)
          clear hb1
          go_wp2_with fail
          go_roundw
          case rel => exact ⟨j + 1, wrap64 (m + szW t), dpW t, by omega, by go_num, rfl, rfl, Lib.hid (by have := HS.out; rw [drop_at HT.out, szWL] at this; exact this), Lib.hid (by have := HD.out; rw [drop_at HT.out, dpWL, if_pos hd] at this; exact this), hbox, hbr⟩
          case measure => simp [intOf]; omega
        · have hd' : decide (g < dpW t) = false := by simpa using hd
          go_wp2_with fail
          go_roundw
          case rel => exact ⟨j + 1, wrap64 (m + szW t), g, by omega, by go_num, rfl, rfl, Lib.hid (by have := HS.out; rw [drop_at HT.out, szWL] at this; exact this), Lib.hid (by have := HD.out; rw [drop_at HT.out, dpWL, if_neg (by simpa using hd)] at this; exact this), hbox, hbr⟩
          case measure => simp [intOf]; omega
      · have HS' := HS.out
        have HD' := HD.out
        rw [drop_all HN.out (by omega), szWL] at HS'
        rw [drop_all HN.out (by omega), dpWL] at HD'
        rw [← ESZ.out] at HS'
        subst HS' HD'
        go_wp2_with fail
        have p0 := Past.cell b0
        have p1 := Past.cell b1
        have p2 := Past.cell b2
        have HR := Lib.hid (Rd.keep hbr _ _ HV.out)
        have HDE' := HDE.out
        have es := wrapEq (dpWL xs 0 + 1)
        rw [← EDP.out] at es
        refine wp_region_past (by kernel_rfl) (by kernel_rfl) ?_
        repeat (go_big_quiet_step ((first
          | (go_at_call 19; exact calls_past (sizeC (.node k h xs) _ _ (Rd.keep (Past.h _) _ _ HR.out)))
          | (go_at_call 21; exact calls_past (depthC (.node k h xs) _ _ (Rd.keep (Past.h _) _ _ HR.out) hs)))))
        refine wpQuiet_nil ?_
        rintro _ ⟨z, rfl⟩
        obtain ⟨w5, hb5⟩ := z
        have hbr := hbr.trans (hb5.mono hbr.size)
        clear p0 p1 p2
        go_wp2_with fail
        go_ret
        exact ⟨rfl, hbr⟩
end Go.Proofs.Ytlcoadbeiaiioaa
