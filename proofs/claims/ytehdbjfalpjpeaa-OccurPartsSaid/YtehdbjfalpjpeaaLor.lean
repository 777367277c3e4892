/-
  The walk of the law OccurParts.
-/
import Derived.Test.YtehdbjfalpjpeaaOn
namespace Go.Proofs.Ytehdbjfalpjpeaa
open Go.ChangeShapes Go.WideShapes Go.ChangeAt Go.RowKit
set_option linter.unusedVariables false

set_option maxRecDepth 100000 in
set_option maxHeartbeats 8000000 in
theorem occurPartsC (t : T) (n : Int) (v : Value) (w : World) (hvt : Rd w t v) (hs : wd t ≤ 3518437208780) (hn : (Lit.int .i64 n).wf = true) :
    Calls Try.prog 8 #[v, .int .i64 n] w fun e w' => e = .returned (.bool true) ∧ Below w.heap.size w w' := by
  obtain ⟨kt, ht, At, nt, ct, rfl⟩ := hvt.full
  have HVt := Lib.hid hvt; clear hvt
  obtain ⟨W0, hW0⟩ : ∃ W0, (w.alloc (.cells #[.int .i64 kt, .int .i64 ht, .slice At nt ct] 24)) = W0 := ⟨_, rfl⟩
  have hb : Below w.heap.size w W0 := by rw [← hW0]; exact ((Below.refl _ _).alloc (Nat.le_refl _) _)
  have bxt : Box W0 (w.heap.size) 24 #[.int .i64 kt, .int .i64 ht, .slice At nt ct] := by rw [← hW0]; exact (Box.new w _ _)
  replace HVt := Lib.hid (Rd.keep hb _ _ HVt.out)
  have HW0 := Lib.hid hW0; clear hW0
  go_enter Try.func8, Try.ntmps8
  go_wp2_with fail
  rw [HW0.out]
  clear HW0
  refine (awakeO _).mono ?_
  rintro e w1 ⟨rfl, hb1⟩
  replace bxt := bxt.keep hb1 bxt.lt
  replace HVt := Lib.hid (Rd.keep hb1 _ _ HVt.out)
  replace hb := hb.trans (hb1.mono hb.size)
  clear hb1
  obtain ⟨bxt0, bxt1, bxt2⟩ := bxt.three
  have bxtl := bxt.lt
  go_wp2_with fail
  refine (refLight t 3000 200 _ _ HVt.out).mono ?_
  have HLt : Hid (ltB t 3000 200 = true → ltB t 3000 200 = true) := Lib.hid fun e => e
  generalize hqt : ltB t 3000 200 = Rt at *
  rintro e w2t ⟨rfl, hb1⟩
  have HQt := Lib.hid hqt; clear hqt HLt
  clear bxt0 bxt1 bxt2 bxtl
  replace bxt := bxt.keep hb1 bxt.lt
  replace HVt := Lib.hid (Rd.keep hb1 _ _ HVt.out)
  replace hb := hb.trans (hb1.mono hb.size)
  clear hb1
  obtain ⟨bxt0, bxt1, bxt2⟩ := bxt.three
  have bxtl := bxt.lt
  cases Rt
  · go_wp2_with fail
    go_ret
    exact ⟨rfl, hb⟩
  by_cases x1 : 1099511627776 < n
  · have dx1 : decide (1099511627776 < n) = true := by simpa using x1
    go_wp2_with fail
    go_ret
    exact ⟨rfl, hb⟩
  have dx1 : decide (1099511627776 < n) = false := by simpa using x1
  obtain ⟨k3, h3, xs⟩ := t
  obtain ⟨A3, n3, c3, e3, hk3, hh3, hl3, hc3, hm3, hx3⟩ := Rd_node.1 HVt.out
  have e3' : kt = k3 ∧ ht = h3 ∧ At = A3 ∧ nt = n3 ∧ ct = c3 := by simpa using e3
  obtain ⟨rfl, rfl, rfl, rfl, rfl⟩ := e3'
  have hpt := pat_top hn (.node kt ht xs)
  have hpb : patB (.node kt ht xs) n = ((!(kt == 6) || (ptn n [] xs).isSome) && patL kt nt xs 0 n) := by rw [patB, hl3]
  have HN3 := Lib.hid hl3; clear hl3
  have HX3 := Lib.hid hx3; clear hx3
  have HM3 := Lib.hid hm3
  unfold maxLen at hm3
  have hsx : ∀ t ∈ xs, wd t ≤ 3518437208780 := fun t ht => by rw [wd] at hs; have := wd_mem ht; omega
  have HSX := Lib.hid hsx; clear hsx
  have hnn : nt ≤ 3518437208780 := by have h1 := HN3.out; rw [wd] at hs; omega
  have HPW := Lib.hid fun W (h : Below w2t.heap.size w2t W) => oPatternsC (.node kt ht xs) n _ W (Rd.keep h _ _ HVt.out) hs
  have HPP := Lib.hid fun W (h : Below w2t.heap.size w2t W) => oPatternC xs At nt ct n W HN3.out hc3 HM3.out hnn (fun i u hu => RdAt.keep h (HX3.out i u hu))
  rw [hpt, hpb] at HPW
  clear hpt hpb hs e3
  have HW2 := Lib.hid (Below.refl w2t.heap.size w2t)
  go_wp2_with fail
  go_loopw [7, 8] (fun a i wr => ∃ (j : Nat) (R : Bool), j ≤ nt ∧ i = .int .i64 j ∧ a = .bool R ∧ Hid ((R && patL kt nt (xs.drop j) j n) = patL kt nt xs 0 n) ∧ Below w2t.heap.size w2t wr) (fun _ i _ => nt - (intOf i).toNat)
  case atStart => exact ⟨0, true, Nat.zero_le _, rfl, rfl, Lib.hid (by simp), Below.refl _ _⟩
  case round =>
    obtain ⟨j, R, hj, rfl, rfl, HS, hbr⟩ := hrel
    have hbW : Below w.heap.size w wr := hb.trans (hbr.mono hb.size)
    have y0 := bxt.keep hbr bxt.lt
    clear bxt0 bxt1 bxt2 bxtl
    obtain ⟨b0, b1, b2⟩ := y0.three
    by_cases hlt : j < nt
    · obtain ⟨x, ht⟩ := at_of HN3.out hlt
      obtain ⟨b, o, v0, v1, v2, rfl, c0, c1, c2, hr⟩ := RdAt.keep hbr (HX3.out j x ht)
      have HS' := HS.out
      rw [drop_at ht, patL] at HS'
      have HS := Lib.hid HS'; clear HS'
      have hwx := HSX.out x (List.mem_of_getElem? ht)
      have HIN := Lib.hid fun (z : Past wr) => (oPatternsC x (wrap64 (n + bd kt nt j)) _ z.wd (Rd.keep z.h _ _ hr) hwx)
      have hp2 := pat_top (wrap64_wf (n + bd kt nt j)) x
      rw [hp2] at HIN
      clear hp2
      have HT := Lib.hid ht; clear ht
      have hwr : IntKind.i64.wrap (n + bd kt nt j) = wrap64 (n + bd kt nt j) := wrapEq _
      have hi0 : (0 : Int) ≤ j := by omega
      have hi1 : (j : Int) < nt := by omega
      go_wp2_with fail
      have pb0 := Past.cell b0
      have pb1 := Past.cell b1
      have pb2 := Past.cell b2
      have p0 := Past.cell c0
      have p1 := Past.cell c1
      have p2 := Past.cell c2
      cases R
      · refine wp_region_past (by kernel_rfl) (by kernel_rfl) ?_
        repeat (go_big_quiet_step (fail))
        refine wpQuiet_nil ?_
        rintro _ ⟨z, rfl⟩
        clear pb0 pb1 pb2 p0 p1 p2 b0 b1 b2 c0 c1 c2
        obtain ⟨w5, hb1⟩ := z
        dsimp only
        go_wp2_with fail
        go_roundw
        case rel => exact ⟨j + 1, false, by omega, by go_num, rfl, Lib.hid (by have h1 := HS.out; simpa using h1), hbr.trans (hb1.mono hbr.size)⟩
        case measure => simp [intOf]; omega
      · refine wp_region_past (by kernel_rfl) (by kernel_rfl) ?_
        repeat (go_big_quiet_step ((first
          | (go_at_call 26; exact calls_past (refBinds _ _ _ _ _ hc3 HM3.out j (by unfold maxLen; omega) _))
          | (go_at_call 18; exact calls_past (HIN.out _)))))
        refine wpQuiet_nil ?_
        rintro _ ⟨z, rfl⟩
        clear pb0 pb1 pb2 p0 p1 p2 b0 b1 b2 c0 c1 c2 HIN
        obtain ⟨w5, hb1⟩ := z
        dsimp only
        generalize patB x (wrap64 (n + bd kt nt j)) = r at *
        go_wp2_with fail
        go_roundw
        case rel => exact ⟨j + 1, r, by omega, by go_num, rfl, Lib.hid (by have h1 := HS.out; simpa using h1), hbr.trans (hb1.mono hbr.size)⟩
        case measure => simp [intOf]; omega
    · have hS := HS.out
      rw [drop_all HN3.out (by omega), patL, Bool.and_true] at hS
      have HS := Lib.hid hS; clear hS
      rw [← HS.out] at HPW
      clear HS
      by_cases k6 : kt = 6
      · subst k6
        have e6 : (!((6 : Int) == 6) || (ptn n [] xs).isSome) = (ptn n [] xs).isSome := by simp
        rw [e6] at HPW
        clear e6
        have HPQ := Lib.hid ((HPP.out wr hbr).mono fun e w' hp => hp.tuple)
        clear HPP
        generalize (ptn n [] xs).isSome = O at *
        go_wp2_with (first
          | (go_at_call 19; refine HPQ.out.mono ?_; rintro e w6 ⟨v6, rfl, hb6⟩; have hbs := hbr.trans (hb6.mono hbr.size); have y1 := y0.keep hb6 y0.lt; clear b0 b1 b2; obtain ⟨b0, b1, b2⟩ := y1.three)
          | (go_at_call 18; refine (HPW.out w6 hbs).mono ?_; rintro e w7 ⟨rfl, hb7⟩))
        all_goals (go_ret; exact ⟨ret_bool (by first | (cases R <;> cases O <;> rfl) | (cases O <;> cases R <;> simp_all)), hb.trans ((hbs.trans (hb7.mono hbs.size)).mono hb.size)⟩)
      · have e1 : (kt == 6) = false := by simpa using k6
        have HK := Lib.hid k6; clear k6
        rw [e1] at HPW
        clear HPP
        go_wp2_with (go_at_call 18; refine (HPW.out wr hbr).mono ?_; rintro e w7 ⟨rfl, hb7⟩)
        all_goals (go_ret; exact ⟨ret_bool (by cases R <;> rfl), hb.trans ((hbr.trans (hb7.mono hbr.size)).mono hb.size)⟩)
end Go.Proofs.Ytehdbjfalpjpeaa
