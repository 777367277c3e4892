/-
  The walk of ShowLimits. No statement is proved here.
-/
import Derived.Test.YtmkahbbcagfbhaaDoorPkA
namespace Go.Proofs.YtmkahbbcagfbhaaDoor
open Go.ChangeShapes Go.WideShapes Go.ChangeAt Go.RowKit
set_option linter.unusedVariables false

set_option maxRecDepth 100000 in
set_option maxHeartbeats 4000000 in
theorem showLimitsC (t : T) (ds : List (ByteArray × T)) (v : Value) (SA : Option Addr) (sn sc : Nat) (w : World) (hv : Rd w t v) (hD : DS w ds SA sn sc) :
    Calls Tryd.prog 5 #[v, .slice SA sn sc] w fun e w' => e = .returned (.bool true) ∧ Below w.heap.size w w' := by
  obtain ⟨k, h, At, nt, ct, rfl⟩ := hv.full
  obtain ⟨W, hW⟩ : ∃ W, w.alloc (.cells #[.int .i64 k, .int .i64 h, .slice At nt ct] 24) = W := ⟨_, rfl⟩
  have hb : Below w.heap.size w W := by rw [← hW]; exact (Below.refl _ _).alloc (Nat.le_refl _) _
  have x0 : BoxX W w.heap.size 24 #[.int .i64 k, .int .i64 h, .slice At nt ct] := by rw [← hW]; exact BoxX.new _ _ _
  have hsn := hD.len
  have hsc := hD.le
  have hsm := hD.cap
  unfold maxLen at hsm
  have HV := Lib.hid hv
  have HD := Lib.hid hD
  have HB := Lib.hid hb
  have HX := Lib.hid x0
  have HA := Lib.hid (sAwakeC W)
  clear hv hD hb x0
  subst hW
  go_enter Tryd.func5, Tryd.ntmps5
  go_wp2_with fail
  refine HA.out.mono ?_
  rintro e w1 ⟨rfl, hb1⟩
  have HB1 := Lib.hid (HB.out.trans (hb1.mono HB.out.size))
  have HX1 := Lib.hid (HX.out.keep hb1 HX.out.lt)
  have HF := Lib.hid (fewN ds SA sn sc w1 (HD.out.keep HB1.out))
  clear HA hb1 HB HX
  go_wp2_with fail
  refine HF.out.mono ?_
  rintro e w2 ⟨r1, rfl, hr1, hb2⟩
  have HB2 := Lib.hid (HB1.out.trans (hb2.mono HB1.out.size))
  have x2 := HX1.out.keep hb2 HX1.out.lt
  have c0 := x2.cell 0
  have c1 := x2.cell 1
  have c2 := x2.cell 2
  simp only [List.getElem?_toArray, List.getElem?_cons_zero, List.getElem?_cons_succ] at c0 c1 c2
  have HR1 := Lib.hid hr1
  have HL := Lib.hid (refLight t 1000 80 _ w2 (Rd.keep HB2.out _ _ HV.out))
  have HX2 := Lib.hid x2
  clear HF hb2 HB1 HX1 x2 hr1
  generalize ltB t 1000 80 = r2 at *
  go_wp2_with fail
  refine HL.out.mono ?_
  rintro e w3 ⟨rfl, hb3⟩
  have HB3 := Lib.hid (HB2.out.trans (hb3.mono HB2.out.size))
  have HX3 := Lib.hid (HX2.out.keep hb3 HX2.out.lt)
  have HG := Lib.hid (sLightC ds SA sn sc w3 (HD.out.keep HB3.out))
  clear HL hb3 HB2 HX2 c0 c1 c2
  obtain ⟨r3, hr3⟩ : ∃ r, (ds.all fun d => decide (d.1.size ≤ 100)) = r := ⟨_, rfl⟩
  rw [hr3] at HG
  have HR3 := Lib.hid hr3
  clear hr3
  go_wp2_with fail
  refine HG.out.mono ?_
  rintro e w4 ⟨rfl, hb4⟩
  have HB4 := Lib.hid (HB3.out.trans (hb4.mono HB3.out.size))
  have HX4 := Lib.hid (HX3.out.keep hb4 HX3.out.lt)
  clear HG hb4 HB3 HX3
  cases r1 with
  | false =>
    go_wp2_with fail
    go_ret
    exact ⟨rfl, HB4.out⟩
  | true =>
  cases r2 with
  | false =>
    go_wp2_with fail
    go_ret
    exact ⟨rfl, HB4.out⟩
  | true =>
  cases r3 with
  | false =>
    go_wp2_with fail
    go_ret
    exact ⟨rfl, HB4.out⟩
  | true =>
  have h30 := HR1.out rfl
  have hlt := light_of HR3.out
  have HS := Lib.hid hlt
  clear HR1 HR3
  have c0 := HX4.out.cell 0
  have c1 := HX4.out.cell 1
  have c2 := HX4.out.cell 2
  simp only [List.getElem?_toArray, List.getElem?_cons_zero, List.getElem?_cons_succ] at c0 c1 c2
  have HT := Lib.hid (sTermC ds t _ SA sn sc w4 (Rd.keep HB4.out _ _ HV.out) (HD.out.keep HB4.out) hlt)
  clear hlt
  go_wp2_with fail
  refine HT.out.mono ?_
  rintro e w5 ⟨hb5, A5, n5, c5, e5, rfl, hres5⟩
  have HB5 := Lib.hid (HB4.out.trans (hb5.mono HB4.out.size))
  have HX5 := Lib.hid (HX4.out.keep hb5 HX4.out.lt)
  have HC := Lib.hid (sDeclsC ds SA sn sc w5 (HD.out.keep HB5.out) HS.out (by omega))
  have H5 := Lib.hid (show (showT ds t = .error e5 ∧ e5 ≠ 0) ∨ (e5 = 0 ∧ ∃ l, showT ds t = .ok l) by
    rcases hres5 with ⟨l, h1, h2, _⟩ | ⟨h1, h2, _⟩
    · exact .inr ⟨h2, l, h1⟩
    · exact .inl ⟨h1, h2⟩)
  clear HT hb5 hres5 c0 c1 c2 HB4 HX4
  go_wp2_with fail
  refine HC.out.mono ?_
  rintro e w6 ⟨hb6, A6, n6, c6, e6, rfl, hres6⟩
  have HB6 := Lib.hid (HB5.out.trans (hb6.mono HB5.out.size))
  have HX6 := Lib.hid (HX5.out.keep hb6 HX5.out.lt)
  have H6 := Lib.hid (show (e6 ≠ 0) ∨ (e6 = 0 ∧ ∃ l, showD ds = .ok l) by
    rcases hres6 with ⟨l, h1, h2, _⟩ | ⟨_, h2, _⟩
    · exact .inr ⟨h2, l, h1⟩
    · exact .inl h2)
  clear HC hb6 hres6 HB5 HX5
  go_wp2_with fail
  go_loopw [13] (fun i wr => ∃ (j : Nat), j ≤ sn ∧ i = .int .i64 j ∧ Hid (Below w6.heap.size w6 wr)) (fun i _ => sn - (Go.RowKit.intOf i).toNat)
  case atStart => exact ⟨0, Nat.zero_le _, rfl, Lib.hid (Below.refl _ _)⟩
  case round =>
    obtain ⟨j, hj, rfl, HBr⟩ := hrel
    by_cases hlt : j < sn
    · obtain ⟨d, hd⟩ := at_ofX hsn hlt
      have HDD := Lib.hid hd
      have hi0 : (0 : Int) ≤ (j : Int) := by omega
      have hi1 : (j : Int) < (sn : Int) := by omega
      clear hd
      go_wp2_with fail
      go_loopw [14] (fun i wq => ∃ (k : Nat), k ≤ j ∧ i = .int .i64 k ∧ Hid (Below w6.heap.size w6 wq)) (fun i _ => j - (Go.RowKit.intOf i).toNat)
      case atStart => exact ⟨0, Nat.zero_le _, rfl, HBr⟩
      case round =>
        obtain ⟨k2, hk2, rfl, HBq⟩ := hrel
        by_cases hlt2 : k2 < j
        · obtain ⟨d2, hd2⟩ := at_ofX hsn (show k2 < sn by omega)
          have hD1 := HD.out.keep (HB6.out.trans (HBq.out.mono HB6.out.size))
          obtain ⟨b1, o1, _, _, _, _, _, hA1, x0, _⟩ := hD1.at_ k2 d2 hd2
          cases hA1
          obtain ⟨b2, o2, _, _, _, _, _, hA2, y0, _⟩ := hD1.at_ j d HDD.out
          cases hA2
          have hk0 : (0 : Int) ≤ (k2 : Int) := by omega
          have hk1 : (k2 : Int) < (sn : Int) := by omega
          have hq0 := bytes_eqB d.1 d2.1
          clear hD1
          by_cases heq : d.1 = d2.1
          · have hq : (d.1.toList == d2.1.toList) = true := hq0.trans (decide_eq_true heq)
            have h6 : e6 ≠ 0 := by
              rcases H6.out with h6 | ⟨_, l, h6⟩
              · exact h6
              · exact absurd heq.symm (showD_once h6 hd2 HDD.out hlt2)
            have d6 : (e6 == 0) = false := by simpa using h6
            clear heq hd2 hq0 h6
            go_wp2_with fail
            go_quiet (fail)
            go_wp2_with fail
            go_roundw
            case rel => exact ⟨k2 + 1, by omega, by go_num, Lib.hid (HBq.out.drewX _)⟩
            case measure => simp [Go.RowKit.intOf]; omega
          · have hq : (d.1.toList == d2.1.toList) = false := hq0.trans (decide_eq_false heq)
            clear heq hd2 hq0
            go_wp2_with fail
            go_quiet (fail)
            go_wp2_with fail
            go_roundw
            case rel => exact ⟨k2 + 1, by omega, by go_num, Lib.hid (HBq.out.drewX _)⟩
            case measure => simp [Go.RowKit.intOf]; omega
        · have hD1 := HD.out.keep (HB6.out.trans (HBq.out.mono HB6.out.size))
          obtain ⟨b2, o2, _, _, _, _, _, hA2, y0, _⟩ := hD1.at_ j d HDD.out
          subst hA2
          have HP := Lib.hid (pNameC d.1 (HD.out.sz d (List.mem_of_getElem? HDD.out)) wr)
          obtain ⟨r, hr⟩ : ∃ r, nmB d.1 = r := ⟨_, rfl⟩
          rw [hr] at HP
          have HR := Lib.hid hr
          clear hr hD1
          go_wp2_with fail
          refine HP.out.mono ?_
          rintro e w8 ⟨rfl, hb8⟩
          have HB8 := Lib.hid (HBq.out.trans (hb8.mono HBq.out.size))
          clear HP hb8 y0
          cases r with
          | true =>
            go_wp2_with fail
            go_roundw
            case rel => exact ⟨j + 1, by omega, by go_num, HB8⟩
            case measure => simp [Go.RowKit.intOf]; omega
          | false =>
            have h6 : e6 ≠ 0 := by
              rcases H6.out with h6 | ⟨_, l, h6⟩
              · exact h6
              · have := (showL_ok ds [] l h6 d (List.mem_of_getElem? HDD.out)).1
                rw [HR.out] at this; cases this
            have d6 : (e6 == 0) = false := by simpa using h6
            clear h6
            go_wp2_with fail
            go_roundw
            case rel => exact ⟨j + 1, by omega, by go_num, HB8⟩
            case measure => simp [Go.RowKit.intOf]; omega
    · have hbr := HB6.out.trans (HBr.out.mono HB6.out.size)
      have x7 := HX6.out.keep HBr.out HX6.out.lt
      have c0 := x7.cell 0
      have c1 := x7.cell 1
      have c2 := x7.cell 2
      simp only [List.getElem?_toArray, List.getElem?_cons_zero, List.getElem?_cons_succ] at c0 c1 c2
      have HX7 := Lib.hid x7
      have HB7 := Lib.hid hbr
      have HM := Lib.hid (myC t _ wr (Rd.keep hbr _ _ HV.out))
      clear x7 hbr HBr HX6 HB6 H6
      have key : (e5 = 1 ∧ myB t = false) ∨ (e5 = 2 ∧ myB t = true) ∨ (e5 = 0 ∧ myB t = true ∧ scB t 0 0 = true) := by
        rcases H5.out with ⟨h1, _⟩ | ⟨h1, l, h2⟩
        · rcases showT_one h1 with h | h
          · exact .inl h
          · exact .inr (.inl h)
        · exact .inr (.inr ⟨h1, (showT_my h2).1, (showT_my h2).2.1⟩)
      obtain ⟨r4, hr4⟩ : ∃ r, scB t 0 0 = r := ⟨_, rfl⟩
      have HSC : Hid (∀ w', Below wr.heap.size wr w' → Calls Tryd.prog 20 #[.agg #[.int .i64 k, .int .i64 h, .slice At nt ct], .int .i64 0, .int .i64 0] w' fun e w'' => e = .returned (.bool r4) ∧ Below w'.heap.size w' w'') := Lib.hid fun w' h' => by
        have hs := termScoped t 0 0 _ w' (Rd.keep (HB7.out.trans (h'.mono HB7.out.size)) _ _ HV.out)
        rw [scoped_eq t 0 (wrap_small (by omega) (by omega)), hr4] at hs
        exact hs
      rw [hr4] at key
      clear hr4 H5
      rcases key with ⟨rfl, hm⟩ | ⟨rfl, hm⟩ | ⟨rfl, hm, rfl⟩
      all_goals (rw [hm] at HM; clear hm; go_wp2_with fail; refine HM.out.mono ?_; rintro e w8 ⟨rfl, hb8⟩; have x8 := HX7.out.keep hb8 HX7.out.lt; have p0 := x8.cell 0; have p1 := x8.cell 1; have p2 := x8.cell 2; simp only [List.getElem?_toArray, List.getElem?_cons_zero, List.getElem?_cons_succ] at p0 p1 p2; clear HM c0 c1 c2 x8 HX7; have HS8 := Lib.hid (HSC.out w8 hb8); have HB8 := Lib.hid (HB7.out.trans (hb8.mono HB7.out.size)); clear HSC hb8 HB7; go_wp2_with fail; refine HS8.out.mono ?_; rintro e w9 ⟨rfl, hb9⟩; have HB9 := Lib.hid (HB8.out.trans (hb9.mono HB8.out.size)); clear HS8 hb9 HB8 p0 p1 p2)
      · cases r4 <;> (go_wp2_with fail; go_ret; exact ⟨rfl, HB9.out⟩)
      · cases r4 <;> (go_wp2_with fail; go_ret; exact ⟨rfl, HB9.out⟩)
      · go_wp2_with fail
        go_ret
        exact ⟨rfl, HB9.out⟩
end Go.Proofs.YtmkahbbcagfbhaaDoor
