/-
  The walk of the law TermOwn.
-/
import Derived.Test.YtlcoadbeiaiioaaLm
namespace Go.Proofs.Ytlcoadbeiaiioaa
open Go.ChangeShapes Go.WideShapes Go.ChangeAt Go.RowKit
set_option linter.unusedVariables false

theorem low_head {k h : Int} {xs : List T} (e : lowB (.node k h xs) = true) : h ≤ 1099511627776 := by
  rw [lowB, Bool.and_eq_true, decide_eq_true_eq] at e
  exact e.1
theorem low_arg {k h : Int} {x : T} {xs : List T} (e : lowB (.node k h (x :: xs)) = true) : lowB x = true := by
  rw [lowB, Bool.and_eq_true, lowL, Bool.and_eq_true] at e
  exact e.2.1

/-- with another head for its first Arg -/
theorem rd_changed {w w' : World} {bo : Nat} {cs : Array Value} {k h k2 h2 : Int} {ys xs : List T} {n co : Nat} (hk : (Lit.int .i64 k).wf = true) (hh : (Lit.int .i64 h).wf = true) (hw2 : (Lit.int .i64 (h2 + 1)).wf = true)
    (hn : (T.node k2 h2 ys :: xs).length = n) (hnc : n ≤ co) (hmc : co ≤ maxLen) (hsz : cs.size = n * 3) (hkids : Kids w (fun g => bo < g) cs (.node k2 h2 ys :: xs))
    (hbox : Box w' bo 24 (cs.setIfInBounds 1 (.int .i64 (h2 + 1)))) (hm : ∀ b, bo < b → b < w.heap.size → w'.heap[b]? = w.heap[b]?) :
    Rd w' (.node k h (.node k2 (h2 + 1) ys :: xs)) (.agg #[.int .i64 k, .int .i64 h, .slice (some ⟨bo, 0, none⟩) n co]) := by
  refine Rd_node.2 ⟨_, n, co, rfl, hk, hh, by simpa using hn, hnc, hmc, fun i t ht => ?_⟩
  have hlen : 3 ≤ cs.size := by rw [hsz, ← hn]; simp; omega
  cases i with
  | zero =>
    simp only [List.getElem?_cons_zero, Option.some.injEq] at ht
    subst ht
    obtain ⟨k', h', A', n', c', e0, e1, e2, hr⟩ := hkids 0 _ rfl
    obtain ⟨A3, n3, c3, e3, wk, wh, hl, hc3, hm3, hx3⟩ := RdF_node.1 hr
    have e3' : k' = k2 ∧ h' = h2 ∧ A' = A3 ∧ n' = n3 ∧ c' = c3 := by simpa using e3
    obtain ⟨rfl, rfl, rfl, rfl, rfl⟩ := e3'
    refine ⟨bo, 0, .int .i64 k', .int .i64 (h' + 1), .slice A' n' c', rfl, ?_, ?_, ?_, ?_⟩
    · rw [hbox.cell, Array.getElem?_setIfInBounds]; simpa using e0
    · rw [hbox.cell, Array.getElem?_setIfInBounds]; simp only [Nat.zero_mul, Nat.zero_add, if_true]; rw [if_pos (by omega)]
    · rw [hbox.cell, Array.getElem?_setIfInBounds]; simpa using e2
    · refine Rd_node.2 ⟨_, _, _, rfl, wk, hw2, hl, hc3, hm3, fun i t ht => ?_⟩
      obtain ⟨b, o, v0, v1, v2, rfl, hb, c0, c1, c2, hr'⟩ := hx3 i t ht
      have e : ∀ j, w'.cell? ⟨b, j, none⟩ = w.cell? ⟨b, j, none⟩ := fun j => World.cell?_of_block (w := w) (hm b hb (cell_lt c0))
      exact ⟨b, o, v0, v1, v2, rfl, (e _).trans c0, (e _).trans c1, (e _).trans c2, RdF.rd _ _ (RdF.move (fun _ h => h) hm _ _ hr')⟩
  | succ i =>
    have ht' : (T.node k2 h2 ys :: xs)[i + 1]? = some t := by simpa using ht
    obtain ⟨k', h', A', n', c', e0, e1, e2, hr⟩ := hkids (i + 1) t ht'
    refine ⟨bo, 0, .int .i64 k', .int .i64 h', .slice A' n' c', rfl, ?_, ?_, ?_, RdF.rd _ _ (RdF.move (fun _ h => h) hm _ _ hr)⟩
    · rw [hbox.cell, Array.getElem?_setIfInBounds, Nat.zero_add, if_neg (by omega)]; exact e0
    · rw [hbox.cell, Array.getElem?_setIfInBounds, Nat.zero_add, if_neg (by omega)]; exact e1
    · rw [hbox.cell, Array.getElem?_setIfInBounds, Nat.zero_add, if_neg (by omega)]; exact e2

theorem sam_changed (k h k2 h2 : Int) (ys xs : List T) : samB (.node k h (.node k2 (h2 + 1) ys :: xs)) (.node k h (.node k2 h2 ys :: xs)) = false := by
  rw [samB, samL, samB]
  have : (h2 + 1 == h2) = false := by simp; omega
  rw [this]
  simp
theorem size_changed (k h k2 h2 h3 : Int) (ys xs : List T) : szW (.node k h (.node k2 h2 ys :: xs)) = szW (.node k h (.node k2 h3 ys :: xs)) := by
  rw [szW, szW, szWL, szWL, szW, szW]

set_option maxRecDepth 100000 in
set_option maxHeartbeats 8000000 in
theorem termOwnC (t : T) (v : Value) (w : World) (hv : Rd w t v) (hs : wd t ≤ 3518437208780) :
    Calls Try.prog 6 #[v] w fun e w' => e = .returned (.bool true) ∧ Below w.heap.size w w' := by
  obtain ⟨k, h, xs⟩ := t
  have hv0 := hv
  obtain ⟨A, n, c, rfl, hk, hh, hn, hc, hm, hx⟩ := Rd_node.1 hv
  clear hv
  have HV := Lib.hid hv0; clear hv0
  unfold maxLen at hm
  have hb : Below w.heap.size w (w.alloc (.cells #[.int .i64 k, .int .i64 h, .slice A n c] 24)) := (Below.refl _ _).alloc (Nat.le_refl _) _
  have bx := Box.new w 24 #[.int .i64 k, .int .i64 h, .slice A n c]
  have hlow : ltB (.node k h xs) 9000 200 = true → lowB (.node k h xs) = true := fun e => by
    rw [ltB, Bool.and_eq_true, Bool.and_eq_true] at e
    exact e.1.1
  have HL := Lib.hid hlow; clear hlow
  have HX := Lib.hid hx; clear hx
  go_enter Try.func6, Try.ntmps6
  go_wp2_with fail
  refine (awakeC _).mono ?_
  rintro e w1 ⟨rfl, hb1⟩
  replace bx := bx.keep hb1 bx.lt
  replace hb := hb.trans (hb1.mono hb.size)
  clear hb1
  obtain ⟨c0, c1, c2⟩ := bx.three
  go_wp2_with fail
  refine (refLight _ 9000 200 _ _ (Rd.keep hb _ _ HV.out)).mono ?_
  generalize ltB (.node k h xs) 9000 200 = R at *
  rintro e w2 ⟨rfl, hb1⟩
  replace bx := bx.keep hb1 bx.lt
  replace hb := hb.trans (hb1.mono hb.size)
  clear hb1 c0 c1 c2
  obtain ⟨c0, c1, c2⟩ := bx.three
  cases R
  · go_wp2_with fail
    go_ret
    exact ⟨rfl, hb⟩
  have hlow := HL.out rfl
  clear HL
  by_cases h0 : n = 0
  · have e0 : ((n : Int) == 0) = true := by rw [beq_iff_eq]; omega
    have H0 := Lib.hid h0; clear h0
    go_wp2_with fail
    go_ret
    exact ⟨rfl, hb⟩
  have e0 : ((n : Int) == 0) = false := by rw [beq_eq_false_iff_ne]; omega
  -- the first Arg
  cases xs with
  | nil => simp at hn; omega
  | cons x xs =>
    obtain ⟨ka, ha, ys⟩ := x
    have hha := low_head (low_arg hlow)
    clear hlow
    obtain ⟨b, o, k2, h2, A2, n2, c2', rfl, g0, g1, g2, hr⟩ := (RdAt.keep hb (HX.out 0 (.node ka ha ys) rfl)).full
    have hr' := hr
    obtain ⟨A3, n3, c3, e3, wka, wha, hys, _⟩ := Rd_node.1 hr
    have e3' : k2 = ka ∧ h2 = ha ∧ A2 = A3 ∧ n2 = n3 ∧ c2' = c3 := by simpa using e3
    obtain ⟨rfl, rfl, rfl, rfl, rfl⟩ := e3'
    clear e3 hr
    simp only [Nat.zero_mul, Nat.add_zero] at g0 g1 g2
    have HH0 := Lib.hid h0; clear h0
    have hn0 : (0 : Int) < n := by have := HH0.out; omega
    have hn1 : 0 < n := by have := HH0.out; omega
    go_wp2_with fail
    refine (termOwn _ _ _ (Rd.keep hb _ _ HV.out) hs).mono ?_
    rintro e w3 ⟨vo, rfl, how, hb1⟩
    obtain ⟨Ao, no, co, rfl, wk, wh, hno, hnc, hmc, hcase⟩ := how
    obtain rfl : n = no := by rw [← hn, ← hno]
    rcases hcase with hz | ⟨bo, cs, rfl, hbo, hbox, hsz, hkids⟩
    · exfalso; omega
    have hbn : b ≠ bo := by
      have := cell_lt g1
      dsimp only at this
      omega
    have hxo : w.heap.size < bo := Nat.lt_of_lt_of_le bx.lt hbo
    replace bx := bx.keep hb1 bx.lt
    replace g1 := (hb1.cell (cell_lt g1)).trans g1
    replace hb := hb.trans (hb1.mono hb.size)
    clear hb1 c0 c1 c2 g0 g2
    obtain ⟨W, hW⟩ : ∃ W, w3.alloc (.cells #[.int .i64 k, .int .i64 h, .slice (some ⟨bo, 0, none⟩) n co] 24) = W := ⟨_, rfl⟩
    have hbA : Below w3.heap.size w3 W := by rw [← hW]; exact (Below.refl _ _).alloc (Nat.le_refl _) _
    have xc : Box W w3.heap.size 24 #[.int .i64 k, .int .i64 h, .slice (some ⟨bo, 0, none⟩) n co] := by rw [← hW]; exact Box.new _ _ _
    have HWW := Lib.hid hW; clear hW
    have hb3 : bo < w3.heap.size := hbox.lt
    have hx3 : w.heap.size < w3.heap.size := bx.lt
    obtain ⟨c0, c1, c2⟩ := bx.three
    go_wp2_with fail
    rw [HWW.out]
    clear HWW c0 c1 c2
    replace bx := bx.keep hbA bx.lt
    replace hbox := hbox.keep hbA hbox.lt
    replace g1 := (hbA.cell (cell_lt g1)).trans g1
    replace hb := hb.trans (hbA.mono hb.size)
    obtain ⟨k3, h3, A4, n4, c4, q0, q1, q2, hr3⟩ := hkids 0 _ rfl
    obtain ⟨A5, n5, c5, e5, _⟩ := RdF_node.1 hr3
    have e5' : k3 = k2 ∧ h3 = h2 ∧ A4 = A5 ∧ n4 = n5 ∧ c4 = c5 := by simpa using e5
    obtain ⟨rfl, rfl, rfl, rfl, rfl⟩ := e5'
    clear e5 hr3 q0 q2
    have qh : W.cell? ⟨bo, 1, none⟩ = some (.int .i64 h3) := by rw [hbox.cell]; simpa using q1
    clear q1
    obtain ⟨x0, x1, x2⟩ := xc.three
    have px := Past.cell x2
    have pq := Past.cell qh
    have HB := Lib.hid hb; clear hb
    have hsum : IntKind.i64.wrap (h3 + 1) = h3 + 1 := by
      rw [wrapEq]
      have wf2 : -9223372036854775808 ≤ h3 ∧ h3 ≤ 9223372036854775807 := by simpa [Lit.wf, IntKind.min, IntKind.max, IntKind.signed, IntKind.bits] using wha
      exact wrap_small (by omega) (by omega)
    refine wp_region_class_tail (C := fun w' => ∃ z : Past W, w' = z.wd) 10 (by kernel_rfl) (by kernel_rfl) ⟨⟨W.drew, (Below.refl _ _).drew⟩, rfl⟩ ?_
    simp only [List.take_succ_cons, List.take_zero, List.drop_succ_cons, List.drop_zero]
    repeat (go_big_quiet_step (fail))
    refine wpQuiet_nil ?_
    rintro _ ⟨z, rfl⟩
    clear px pq x0 x1 x2 qh
    obtain ⟨w5, hb5⟩ := z
    replace bx := bx.keep hb5 bx.lt
    replace hbox := hbox.keep hb5 hbox.lt
    replace xc := xc.keep hb5 xc.lt
    replace g1 := (hb5.cell (cell_lt g1)).trans g1
    have HB5 := Lib.hid (HB.out.trans (hb5.mono HB.out.size))
    have hm5 : ∀ g, g < w3.heap.size → w5.heap[g]? = w3.heap[g]? := fun g hg => (hb5.block g (Nat.lt_of_lt_of_le hg hbA.size)).trans (hbA.block g hg)
    have HM5 := Lib.hid hm5; clear hm5
    dsimp only
    clear hb5 HB hbA
    obtain ⟨u1, hu1⟩ := hbox.there (i := 1) (by rw [hsz]; omega)
    have fz := hbox.frozen 1
    go_wp2_with fail
    obtain ⟨W6, hW6⟩ : ∃ W6, w5.setCell ⟨bo, 1, none⟩ (.int .i64 (h3 + 1)) = W6 := ⟨_, rfl⟩
    rw [hW6]
    have y1 : Box W6 w.heap.size 24 #[.int .i64 k, .int .i64 h, .slice (some ⟨b, o, none⟩) n c] := by rw [← hW6]; exact bx.other (by dsimp only; omega) _
    have y2 : Box W6 w3.heap.size 24 #[.int .i64 k, .int .i64 h, .slice (some ⟨bo, 0, none⟩) n co] := by rw [← hW6]; exact xc.other (by dsimp only; omega) _
    have y3 : Box W6 bo 24 (cs.setIfInBounds 1 (.int .i64 (h3 + 1))) := by rw [← hW6]; exact hbox.setAt _ _
    have y4 : W6.cell? ⟨b, o + 1, none⟩ = some (.int .i64 h3) := by
      rw [← hW6, World.cell?_setCell_other _ _ _ _ (by intro e; injection e; omega)]; exact g1
    have y5 : Below w.heap.size w W6 := by rw [← hW6]; exact HB5.out.setCell (by dsimp only; omega) _
    have y6 : ∀ g, bo < g → g < w3.heap.size → W6.heap[g]? = w3.heap[g]? := fun g hg hg' => by rw [← hW6, Below.heap_setCell _ _ _ _ (by dsimp only; omega)]; exact HM5.out g hg'
    clear hW6 hu1 fz bx xc hbox g1 HB5 HM5
    have wf3 : (Lit.int .i64 (h3 + 1)).wf = true := by
      have wf2 : -9223372036854775808 ≤ h3 ∧ h3 ≤ 9223372036854775807 := by simpa [Lit.wf, IntKind.min, IntKind.max, IntKind.signed, IntKind.bits] using wha
      simp [Lit.wf, IntKind.min, IntKind.max, IntKind.signed, IntKind.bits]; omega
    have HR := Lib.hid (rd_changed hk hh wf3 hno hnc hmc hsz hkids y3 y6)
    have HT := Lib.hid (Rd.keep y5 _ _ HV.out)
    clear y6 y3 hkids
    obtain ⟨a0, a1, a2⟩ := y1.three
    obtain ⟨b0, b1, b2⟩ := y2.three
    have p0 := Past.cell a0
    have p1 := Past.cell a1
    have p2 := Past.cell a2
    have p3 := Past.cell b0
    have p4 := Past.cell b1
    have p5 := Past.cell b2
    have p6 := Past.cell y4
    have HS : Hid (∀ z : Past W6, Calls Try.prog 27 #[.agg #[.int .i64 k, .int .i64 h, .slice (some ⟨bo, 0, none⟩) n co], .agg #[.int .i64 k, .int .i64 h, .slice (some ⟨b, o, none⟩) n c]] z.wd fun e w' => e = .returned (.bool false) ∧ Below z.wd.heap.size z.wd w') :=
      Lib.hid fun z => by rw [← sam_changed k h k3 h3 ys xs]; exact termSame _ _ _ _ _ (Rd.keep z.h _ _ HR.out) (Rd.keep z.h _ _ HT.out)
    have HZ : Hid (∀ z : Past W6, Calls Try.prog 19 #[.agg #[.int .i64 k, .int .i64 h, .slice (some ⟨bo, 0, none⟩) n co]] z.wd fun e w' => e = .returned (.int .i64 (szW (.node k h (.node k3 h3 ys :: xs)))) ∧ Below z.wd.heap.size z.wd w') :=
      Lib.hid fun z => by rw [size_changed k h k3 h3 (h3 + 1)]; exact sizeC _ _ _ (Rd.keep z.h _ _ HR.out)
    have HZ' : Hid (∀ z : Past W6, Calls Try.prog 19 #[.agg #[.int .i64 k, .int .i64 h, .slice (some ⟨b, o, none⟩) n c]] z.wd fun e w' => e = .returned (.int .i64 (szW (.node k h (.node k3 h3 ys :: xs)))) ∧ Below z.wd.heap.size z.wd w') :=
      Lib.hid fun z => sizeC _ _ _ (Rd.keep z.h _ _ HT.out)
    clear hsum
    refine wp_region_past (by kernel_rfl) (by kernel_rfl) ?_
    repeat (go_big_quiet_step ((first
      | (go_at_call 27; exact calls_past (HS.out _))
      | (go_at_call 19; first | (with_reducible exact calls_past (HZ.out _)) | (with_reducible exact calls_past (HZ'.out _))))))
    refine wpQuiet_nil ?_
    rintro _ ⟨z, rfl⟩
    obtain ⟨w7, hb7⟩ := z
    have hb8 : Below w.heap.size w w7 := y5.trans (hb7.mono y5.size)
    clear p0 p1 p2 p3 p4 p5 p6
    go_wp2_with fail
    go_ret
    exact ⟨rfl, hb8⟩
end Go.Proofs.Ytlcoadbeiaiioaa
