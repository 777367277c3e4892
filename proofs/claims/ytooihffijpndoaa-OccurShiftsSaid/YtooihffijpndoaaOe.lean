/-
  Contract of package occur's Pattern. No statement is proved here.
-/
import Derived.Test.YtooihffijpndoaaOd
namespace Go.Proofs.Ytooihffijpndoaa
open Go.ChangeShapes Go.WideShapes Go.ChangeAt Go.RowKit Go.Shelf Go.Maps
set_option linter.unusedVariables false

/-- what Pattern answers -/
def PtEnd (o : Option (List Int)) (w : World) (e : Ending) (w' : World) : Prop :=
  (∃ zs v, o = some zs ∧ e = .returned (.tuple #[v, .bool true]) ∧ Ns w' v zs ∧ Below w.heap.size w w') ∨ (o = none ∧ e = .returned (.tuple #[.slice none 0 0, .bool false]) ∧ Below w.heap.size w w')

theorem ptn_step {below : Int} {seen : List Int} {k h : Int} {ys ts : List T} (hp : pt1 seen below (.node k h ys) = true) : ptn below seen (.node k h ys :: ts) = ptn below (seen ++ [h]) ts := by
  rw [ptn, if_pos hp]; rfl
theorem ptn_stop {below : Int} {seen : List Int} {t : T} {ts : List T} (hp : pt1 seen below t = false) : ptn below seen (t :: ts) = none := by
  rw [ptn, hp]; rfl

theorem row_still {w w' : World} {base : Nat} {e : TypeId} {size : Nat} {v : Value} {n : Nat} {xs : List Value} (h : w.ownsRow base e size v n xs) (hb : Below w.heap.size w w') : w'.ownsRow base e size v n xs :=
  h.kept (grown_of_below hb) (by cases v.ownBlock <;> simp)

set_option maxRecDepth 100000 in
set_option maxHeartbeats 4000000 in
theorem oPatternC (xs : List T) (A : Option Addr) (n c : Nat) (below : Int) (w : World) (hn : xs.length = n) (hc : n ≤ c) (hm : c ≤ maxLen) (hb : n ≤ 3518437208780) (hx : ∀ i t, xs[i]? = some t → RdAt w A i t) :
    Calls Try.prog 23 #[.slice A n c, .int .i64 below] w (PtEnd (ptn below [] xs) w) := by
  obtain ⟨i0, hi, hz0, hz1, hz2⟩ := info_parts infoI
  have hmm := @run_makeMap Try.prog
  have HX := Lib.hid hx; clear hx
  have HN := Lib.hid hn; clear hn
  have HM := Lib.hid hm; clear hm
  have HNB := Lib.hid hb
  have hb8 : 8 * n ≤ 281474976710656 := by omega
  have hnm : n ≤ maxLen := by unfold maxLen; omega
  have HNM := Lib.hid hnm; clear hnm
  go_enter Try.func23, Try.ntmps23
  go_wp2_with (first
    | (at_make; refine wpList_make_own _ rfl _ _ 35 rfl (w.heap.size + 1) 3 i0 (.int .i64 0) 1 Try.underlying35 hi hz0 hz1 _ _ _ n rfl rfl rfl (by rw [hz2]; exact hb8) HNM.out (by simp) ?_; intro w1 hrow1 hg1)
    | go_in)
  clear hmm
  have sn1 : Sn w1 w.heap.size [] := (Sn.new w).kept hg1 (by simp)
  have hb1 : Below w.heap.size w w1 := ((Below.refl _ w).alloc (Nat.le_refl _) _).grown hg1 (by simp) (fun j hj => by cases hj)
  have hsz1 : w.heap.size + 1 ≤ w1.heap.size := by have := hg1.size; simpa using this
  clear hg1
  go_loopw [7, 16] (fun v i wr => ∃ (j : Nat) (seen : List Int), j ≤ n ∧ i = .int .i64 j ∧ Sn wr w.heap.size seen ∧ wr.ownsRow (w.heap.size + 1) 3 1 v seen.length (seen.map (Value.int .i64)) ∧ seen.length ≤ j ∧ Below w.heap.size w wr ∧ w.heap.size + 1 ≤ wr.heap.size ∧
      Hid (ptn below seen (xs.drop j) = ptn below [] xs)) (fun _ i _ => n - (intOf i).toNat)
  case atStart => exact ⟨0, [], Nat.zero_le _, rfl, sn1, by simpa using hrow1, Nat.le_refl _, hb1, hsz1, Lib.hid rfl⟩
  case round =>
    obtain ⟨j, seen, hj, rfl, hsn, hrow, hsl, hbw, hws, HP⟩ := hrel
    clear hrow1 sn1 hb1 hsz1
    by_cases hlt : j < n
    · obtain ⟨t, ht⟩ := at_of HN.out hlt
      obtain ⟨b', o, k2, h2, A2, n2, c2', rfl, c0, c1, c2, hr⟩ := (HX.out j t ht).full
      have c0 := (hbw.cell (cell_lt c0)).trans c0
      have c1 := (hbw.cell (cell_lt c1)).trans c1
      have c2 := (hbw.cell (cell_lt c2)).trans c2
      obtain ⟨k3, h3, ys⟩ := t
      obtain ⟨A3, n3, c3, e3, hk3, hh3, hl3, hc3, hm3, _⟩ := Rd_node.1 hr
      have e3' : k2 = k3 ∧ h2 = h3 ∧ A2 = A3 ∧ n2 = n3 ∧ c2' = c3 := by simpa using e3
      obtain ⟨rfl, rfl, rfl, rfl, rfl⟩ := e3'
      clear e3 hr hk3 hc3 hm3
      have HP' := HP.out
      rw [drop_at ht] at HP'
      have HL3 := Lib.hid hl3; clear hl3
      have HT := Lib.hid ht; clear ht
      by_cases p1 : pt1 seen below (.node k2 h2 ys) = true
      · rw [ptn_step p1] at HP'
        have HP := Lib.hid HP'; clear HP'
        have hq : k2 = 4 ∧ n2 = 0 ∧ 0 ≤ h2 ∧ h2 < below ∧ seen.contains h2 = false := by
          have hy := HL3.out
          simp only [pt1, Bool.and_eq_true, beq_iff_eq, decide_eq_true_eq, Bool.not_eq_true'] at p1
          exact ⟨p1.1.1.1.1, by omega, p1.1.1.2, p1.1.2, p1.2⟩
        obtain ⟨rfl, rfl, h0, h9, hcn⟩ := hq
        clear p1
        have d0 : decide (h2 < 0) = false := by simpa using h0
        have d9 : decide (below ≤ h2) = false := by simpa using h9
        have HH := Lib.hid h0; clear h0
        have HH9 := Lib.hid h9; clear h9
        have HHC := Lib.hid (hasC w.heap.size seen h2 _ (hsn.keep ((Below.refl _ _).alloc (Nat.le_refl _) (.cells #[.int .i64 4, .int .i64 h2, .slice A2 0 c2'] 24))) hh3)
        rw [hcn] at HHC
        clear hcn
        have bx := Box.new wr 24 #[.int .i64 4, .int .i64 h2, .slice A2 0 c2']
        have hba : Below wr.heap.size wr (wr.alloc (.cells #[.int .i64 4, .int .i64 h2, .slice A2 0 c2'] 24)) := (Below.refl _ _).alloc (Nat.le_refl _) _
        have hsm : seen.length < maxLen := by unfold maxLen; omega
        have HSM := Lib.hid hsm; clear hsm
        go_wp2_with (first
          | (go_at_call 42; refine HHC.out.mono ?_; rintro e w2 ⟨rfl, hb2⟩
             have bx2 := bx.keep hb2 bx.lt
             obtain ⟨q0, q1, q2⟩ := bx2.three
             have hb02 : Below wr.heap.size wr w2 := hba.trans (hb2.mono hba.size)
             have hsn2 := hsn.keep hb02
             have hl2 := bx2.lt
             clear hb2 HHC)
          | (go_at_call 40; refine (addC w.heap.size seen h2 w2 hsn2 hh3 HSM.out).mono ?_; rintro e w3 ⟨rfl, hsn3, hg3⟩
             have bx3 := hsn2.boxed hg3 bx2
             have hrow3 := (row_still hrow hb02).kept hg3 (Or.inr (row_ne_low (row_still hrow hb02) (Nat.lt_succ_self _)).symm)
             have hs3 : w.heap.size + 1 ≤ w3.heap.size := Nat.le_trans hws (Nat.le_trans hb02.size hg3.size)
             have hgl : (seen.length + 1) * 8 ≤ 140737488355328 := by omega
             have hgm : seen.length + 1 ≤ maxLen := by unfold maxLen; omega
             clear q0 q1 q2
             obtain ⟨q0, q1, q2⟩ := bx3.three)
          | (at_builtin; refine wpList_append_own _ rfl _ _ 35 rfl (w.heap.size + 1) 3 i0 (.int .i64 0) 1 8 Try.underlying35 hi hz0 hz1 hz2 rfl (by decide) _ _ _ rfl (hrow3.alloc _) ⟨w3.heap.size, 0, none⟩ 1 1 [.int .i64 h2] rfl rfl (cell_one_new _ _ _) (ints_oneCell .i64 [h2]) hgm hgl (by simp; omega) ?_; intro v' w4 hown' hg4 hnil4; go_frame))
        have hr4 := hrow3.alloc (.cells #[.int .i64 h2] 3)
        have hs4 := hg4.size
        simp only [World.size_alloc] at hs4
        have hB3 : Below w.heap.size w w3 := below_map (hbw.trans (hb02.mono hbw.size)) hg3 (Nat.le_refl _) (by have := hb02.size; omega)
        refine ⟨⟨j + 1, seen ++ [h2], by omega, by go_num, (hsn3.kept (World.grownBy_alloc _ _ none) (by simp)).kept hg4 (row_ne_low hr4 (Nat.lt_succ_self _)), by simpa using hown', by simp; omega, ?_, by omega, HP⟩, by simp [intOf]; omega⟩
        exact (hB3.alloc (by omega) _).grown hg4 (by simp; omega) (fun i hi => Nat.le_trans (Nat.le_succ _) (hr4.lt i hi).1)
      · have p1 : pt1 seen below (.node k2 h2 ys) = false := by simpa using p1
        rw [ptn_stop p1] at HP'
        have HP := Lib.hid HP'.symm; clear HP'
        by_cases k4 : k2 = 4
        · subst k4
          by_cases hz : n2 = 0
          · subst hz
            by_cases h0 : h2 < 0
            · have d0 : decide (h2 < 0) = true := by simpa using h0
              have HH := Lib.hid h0; clear h0
              go_wp2_with fail
              refine bodyPost_ret (v := .tuple #[.slice none 0 0, .bool false]) (by simp [results, Try.results23, go_sem]) rfl (.inr ⟨HP.out, rfl, hbw.alloc hbw.size _⟩)
            · have d0 : decide (h2 < 0) = false := by simpa using h0
              by_cases h9 : below ≤ h2
              · have d9 : decide (below ≤ h2) = true := by simpa using h9
                have HH := Lib.hid h0; clear h0
                have HH9 := Lib.hid h9; clear h9
                go_wp2_with fail
                refine bodyPost_ret (v := .tuple #[.slice none 0 0, .bool false]) (by simp [results, Try.results23, go_sem]) rfl (.inr ⟨HP.out, rfl, hbw.alloc hbw.size _⟩)
              · have d9 : decide (below ≤ h2) = false := by simpa using h9
                have hcn : seen.contains h2 = true := by
                  have h0' : (0 : Int) ≤ h2 := by omega
                  have h9' : h2 < below := by omega
                  have hy : ys.length = 0 := HL3.out
                  simp only [pt1, hy, decide_eq_true h0', decide_eq_true h9', Bool.and_eq_false_iff] at p1
                  simpa using p1
                have HH := Lib.hid h0; clear h0
                have HH9 := Lib.hid h9; clear h9
                have hbw' : Below w.heap.size w (wr.alloc (.cells #[.int .i64 4, .int .i64 h2, .slice A2 0 c2'] 24)) := hbw.alloc hbw.size _
                have HHC := Lib.hid (hasC w.heap.size seen h2 _ (hsn.keep ((Below.refl _ _).alloc (Nat.le_refl _) (.cells #[.int .i64 4, .int .i64 h2, .slice A2 0 c2'] 24))) hh3)
                rw [hcn] at HHC
                clear hcn p1
                go_wp2_with (go_at_call 42; refine HHC.out.mono ?_; rintro e w2 ⟨rfl, hb2⟩)
                refine bodyPost_ret (v := .tuple #[.slice none 0 0, .bool false]) (by simp [results, Try.results23, go_sem]) rfl (.inr ⟨HP.out, rfl, hbw'.trans (hb2.mono hbw'.size)⟩)
          · have d1 : decide ((0 : Int) < (n2 : Int)) = true := by simp; omega
            go_wp2_with fail
            refine bodyPost_ret (v := .tuple #[.slice none 0 0, .bool false]) (by simp [results, Try.results23, go_sem]) rfl (.inr ⟨HP.out, rfl, hbw.alloc hbw.size _⟩)
        · have e4 : (k2 == 4) = false := by simpa using k4
          have HH := Lib.hid k4; clear k4
          go_wp2_with fail
          refine bodyPost_ret (v := .tuple #[.slice none 0 0, .bool false]) (by simp [results, Try.results23, go_sem]) rfl (.inr ⟨HP.out, rfl, hbw.alloc hbw.size _⟩)
    · have HP' := HP.out
      rw [drop_all HN.out (by omega), ptn] at HP'
      have HP := Lib.hid HP'.symm; clear HP'
      go_wp2_with fail
      refine bodyPost_ret (v := .tuple #[u7, .bool true]) (by simp [results, Try.results23, go_sem]) rfl (.inl ⟨seen, _, HP.out, rfl, Ns.of_row hrow, hbw⟩)
end Go.Proofs.Ytooihffijpndoaa
