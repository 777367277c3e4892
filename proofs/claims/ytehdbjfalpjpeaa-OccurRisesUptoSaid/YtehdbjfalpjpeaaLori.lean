/-
  The walk of the law OccurRises.
-/
import Derived.Test.YtehdbjfalpjpeaaOt
namespace Go.Proofs.Ytehdbjfalpjpeaa
open Go.ChangeShapes Go.WideShapes Go.ChangeAt Go.RowKit
set_option linter.unusedVariables false

set_option maxRecDepth 100000 in
set_option maxHeartbeats 8000000 in
theorem occurRisesC (t : T) (v : Value) (w : World) (hvt : Rd w t v) (hs : nd t ≤ 1048576) :
    Calls Try.prog 7 #[v] w fun e w' => e = .returned (.bool true) ∧ Below w.heap.size w w' := by
  obtain ⟨kt, ht, At, nt, ct, rfl⟩ := hvt.full
  have HVt := Lib.hid hvt; clear hvt
  obtain ⟨W0, hW0⟩ : ∃ W0, (w.alloc (.cells #[.int .i64 kt, .int .i64 ht, .slice At nt ct] 24)) = W0 := ⟨_, rfl⟩
  have hb : Below w.heap.size w W0 := by rw [← hW0]; exact ((Below.refl _ _).alloc (Nat.le_refl _) _)
  have bxt : Box W0 (w.heap.size) 24 #[.int .i64 kt, .int .i64 ht, .slice At nt ct] := by rw [← hW0]; exact (Box.new w _ _)
  replace HVt := Lib.hid (Rd.keep hb _ _ HVt.out)
  have HW0 := Lib.hid hW0; clear hW0
  go_enter Try.func7, Try.ntmps7
  go_wp2_with fail
  rw [HW0.out]
  clear HW0
  refine (awakeO _).mono ?_
  rintro e w1 ⟨rfl, hb1⟩
  replace bxt := bxt.keep hb1 bxt.lt
  replace HVt := Lib.hid (Rd.keep hb1 _ _ HVt.out)
  replace hb := hb.trans (hb1.mono hb.size)
  clear hb1
  obtain ⟨bxt0, bxt1, bxt2⟩ := bxt.three
  have bxtl := bxt.lt
  go_wp2_with fail
  refine (refLight t 3000 200 _ _ HVt.out).mono ?_
  have HLt : Hid (ltB t 3000 200 = true → ltB t 3000 200 = true) := Lib.hid fun e => e
  generalize hqt : ltB t 3000 200 = Rt at *
  rintro e w2t ⟨rfl, hb1⟩
  have HQt := Lib.hid hqt; clear hqt HLt
  clear bxt0 bxt1 bxt2 bxtl
  replace bxt := bxt.keep hb1 bxt.lt
  replace HVt := Lib.hid (Rd.keep hb1 _ _ HVt.out)
  replace hb := hb.trans (hb1.mono hb.size)
  clear hb1
  obtain ⟨bxt0, bxt1, bxt2⟩ := bxt.three
  have bxtl := bxt.lt
  cases Rt
  · go_wp2_with fail
    go_ret
    exact ⟨rfl, hb⟩
  have hlow : lowB t = true := by have := HQt.out; rw [ltB, Bool.and_eq_true, Bool.and_eq_true] at this; exact this.1.1
  have HLO := Lib.hid hlow; clear hlow
  go_wp2_with fail
  refine (oVarsC t _ _ HVt.out hs).mono ?_
  rintro e w4 ⟨u1, rfl, hn1, hb1⟩
  clear bxt0 bxt1 bxt2 bxtl
  replace bxt := bxt.keep hb1 bxt.lt
  replace HVt := Lib.hid (Rd.keep hb1 _ _ HVt.out)
  replace hb := hb.trans (hb1.mono hb.size)
  clear hb1
  obtain ⟨bxt0, bxt1, bxt2⟩ := bxt.three
  have bxtl := bxt.lt
  go_wp2_with fail
  refine (oMetasC t _ _ HVt.out hs).mono ?_
  rintro e w5 ⟨u2, rfl, hn2, hb1⟩
  replace hn1 := hn1.keep hb1
  clear bxt0 bxt1 bxt2 bxtl
  replace bxt := bxt.keep hb1 bxt.lt
  replace HVt := Lib.hid (Rd.keep hb1 _ _ HVt.out)
  replace hb := hb.trans (hb1.mono hb.size)
  clear hb1
  obtain ⟨bxt0, bxt1, bxt2⟩ := bxt.three
  have bxtl := bxt.lt
  obtain ⟨k3, h3, xs⟩ := t
  obtain ⟨A3, n3, c3, e3, hk3, hh3, hl3, hc3, hm3, hx3⟩ := Rd_node.1 HVt.out
  have e3' : kt = k3 ∧ ht = h3 ∧ At = A3 ∧ nt = n3 ∧ ct = c3 := by simpa using e3
  obtain ⟨rfl, rfl, rfl, rfl, rfl⟩ := e3'
  have hlx := HLO.out
  rw [lowB, Bool.and_eq_true] at hlx
  have HLX := Lib.hid (lowL_mem hlx.2)
  have hsx : ∀ x ∈ xs, nd x ≤ 1048576 := fun x hx => by rw [nd] at hs; have := nd_mem hx; omega
  have HSX := Lib.hid hsx
  have HPM := Lib.hid fun (j : Nat) (a : T) (hj : xs[j]? = some a) => part_mt (k := kt) (h := ht) hj
  have HPF := Lib.hid fun (j : Nat) (a : T) (hj : xs[j]? = some a) => part_fv (k := kt) (h := ht) hj (HLX.out a (List.mem_of_getElem? hj)) (HSX.out a (List.mem_of_getElem? hj))
  rw [hl3] at HPF
  generalize hV : rs ((nds (.node kt ht xs) 0).flatMap fv1) = V at *
  generalize hM : rs ((nds (.node kt ht xs) 0).flatMap mt1) = M at *
  have HAV : Hid (Asc V) := Lib.hid (by rw [← hV]; exact rs_asc _)
  have HAM : Hid (Asc M) := Lib.hid (by rw [← hM]; exact rs_asc _)
  have HN3 := Lib.hid hl3; clear hl3
  have HX3 := Lib.hid hx3; clear hx3
  have HM3 := Lib.hid hm3
  unfold maxLen at hm3
  obtain ⟨A1, n1, c1, rfl, hl1, hc1, hm1⟩ := hn1.full
  obtain ⟨A2, n2, c2, rfl, hl2, hc2, hm2⟩ := hn2.full
  unfold maxLen at hm1 hm2
  have HN1 := Lib.hid hn1; clear hn1
  have HN2 := Lib.hid hn2; clear hn2
  have HBX := Lib.hid bxt
  clear hV hM hlx hsx hs e3 HLO HQt hl1 hl2
  have HB0 := Below.refl w5.heap.size w5
  clear bxt0 bxt1 bxt2 bxtl
  go_wp2_with fail
  go_loopw [7] (fun i wr => ∃ (j : Nat), 1 ≤ j ∧ i = .int .i64 j ∧ Below w5.heap.size w5 wr) (fun i _ => n1 - (intOf i).toNat)
  case atStart => exact ⟨1, Nat.le_refl _, by simp, HB0⟩
  case round =>
    clear HB0
    obtain ⟨j, hj1, rfl, hbr⟩ := hrel
    by_cases hlt : j < n1
    · obtain ⟨m, hjm⟩ : ∃ m, j = m + 1 := ⟨j - 1, by omega⟩
      obtain ⟨b1, o1, z1, rfl, hz1, d1⟩ := (HN1.out.keep hbr).cell (j := m) (by omega)
      obtain ⟨b2, o2, z2, he2, hz2, d2⟩ := (HN1.out.keep hbr).cell hlt
      obtain ⟨rfl, rfl⟩ : b1 = b2 ∧ o1 = o2 := by simpa using he2
      have hzz := asc_step HAV.out hz1 (by rw [← hjm]; exact hz2)
      have e1 : decide (z2 ≤ z1) = false := by simpa using hzz
      clear hz1 hz2 hzz he2
      have g2 : (j : Int) - 1 = (m : Int) := by omega
      have hi0 : (0 : Int) ≤ (j : Int) := by omega
      have hi1 : (j : Int) < n1 := by omega
      have hi2 : (0 : Int) ≤ (m : Int) := by omega
      have hi3 : (m : Int) < n1 := by omega
      have HJM := Lib.hid hjm; clear hjm
      go_wp2_with fail
      have p0 := Past.cell d1
      have p1 := Past.cell d2
      refine wp_region_past (by kernel_rfl) (by kernel_rfl) ?_
      repeat (go_big_quiet_step (fail))
      refine wpQuiet_nil ?_
      rintro _ ⟨q, rfl⟩
      clear p0 p1 d1 d2
      obtain ⟨w7, hb1⟩ := q
      dsimp only
      go_wp2_with fail
      go_roundw
      case rel => exact ⟨j + 1, by omega, by go_num, hbr.trans (hb1.mono hbr.size)⟩
      case measure => simp [intOf]; omega
    · have HB0 := hbr
      clear hbr
      go_wp2_with fail
      go_loopw [8] (fun i wr => ∃ (j : Nat), 1 ≤ j ∧ i = .int .i64 j ∧ Below w5.heap.size w5 wr) (fun i _ => n2 - (intOf i).toNat)
      case atStart => exact ⟨1, Nat.le_refl _, by simp, HB0⟩
      case round =>
        clear HB0
        obtain ⟨j, hj1, rfl, hbr⟩ := hrel
        by_cases hlt : j < n2
        · obtain ⟨m, hjm⟩ : ∃ m, j = m + 1 := ⟨j - 1, by omega⟩
          obtain ⟨b1, o1, z1, rfl, hz1, d1⟩ := (HN2.out.keep hbr).cell (j := m) (by omega)
          obtain ⟨b2, o2, z2, he2, hz2, d2⟩ := (HN2.out.keep hbr).cell hlt
          obtain ⟨rfl, rfl⟩ : b1 = b2 ∧ o1 = o2 := by simpa using he2
          have hzz := asc_step HAM.out hz1 (by rw [← hjm]; exact hz2)
          have e1 : decide (z2 ≤ z1) = false := by simpa using hzz
          clear hz1 hz2 hzz he2
          have g2 : (j : Int) - 1 = (m : Int) := by omega
          have hi0 : (0 : Int) ≤ (j : Int) := by omega
          have hi1 : (j : Int) < n2 := by omega
          have hi2 : (0 : Int) ≤ (m : Int) := by omega
          have hi3 : (m : Int) < n2 := by omega
          have HJM := Lib.hid hjm; clear hjm
          go_wp2_with fail
          have p0 := Past.cell d1
          have p1 := Past.cell d2
          refine wp_region_past (by kernel_rfl) (by kernel_rfl) ?_
          repeat (go_big_quiet_step (fail))
          refine wpQuiet_nil ?_
          rintro _ ⟨q, rfl⟩
          clear p0 p1 d1 d2
          obtain ⟨w7, hb1⟩ := q
          dsimp only
          go_wp2_with fail
          go_roundw
          case rel => exact ⟨j + 1, by omega, by go_num, hbr.trans (hb1.mono hbr.size)⟩
          case measure => simp [intOf]; omega
        · have HB0 := hbr
          clear hbr
          go_wp2_with fail
          go_loopw [9] (fun i wr => ∃ (j : Nat), j ≤ nt ∧ i = .int .i64 j ∧ Below w5.heap.size w5 wr) (fun i _ => nt - (intOf i).toNat)
          case atStart => exact ⟨0, Nat.zero_le _, rfl, HB0⟩
          case round =>
            clear HB0
            obtain ⟨j, hj, rfl, hbr⟩ := hrel
            have y0 := HBX.out.keep hbr HBX.out.lt
            obtain ⟨b0, b1, b2⟩ := y0.three
            by_cases hlt : j < nt
            · obtain ⟨x, ht⟩ := at_of HN3.out hlt
              obtain ⟨ba, oa, ka, ha, Aa, na, ca, rfl, c0, c1', c2', hr⟩ := (HX3.out j x ht).full
              have HC0 := Lib.hid c0
              have HC1 := Lib.hid c1'
              have HC2 := Lib.hid c2'
              replace c0 := (hbr.cell (cell_lt c0)).trans c0
              replace c1' := (hbr.cell (cell_lt c1')).trans c1'
              replace c2' := (hbr.cell (cell_lt c2')).trans c2'
              have HRX := Lib.hid hr; clear hr
              have HMA := Lib.hid (oMetasC x _ wr (Rd.keep hbr _ _ HRX.out) (HSX.out x (List.mem_of_getElem? ht)))
              have HT := Lib.hid ht; clear ht
              have hi0 : (0 : Int) ≤ j := by omega
              have hi1 : (j : Int) < nt := by omega
              go_wp2_with (go_at_call 15; refine HMA.out.mono ?_; rintro e w7 ⟨u10, rfl, hn10, hb7⟩; obtain ⟨A10, n10, c10, rfl, hl10, hc10, hm10⟩ := hn10.full; have hb57 := hbr.trans (hb7.mono hbr.size); clear c0 c1' c2')
              unfold maxLen at hm10
              have HN10 := Lib.hid hn10; clear hn10 hl10 HMA
              go_loopw [11] (fun i wr => ∃ (k : Nat), k ≤ n10 ∧ i = .int .i64 k ∧ Below w7.heap.size w7 wr) (fun i _ => n10 - (intOf i).toNat)
              case atStart => exact ⟨0, Nat.zero_le _, rfl, Below.refl _ _⟩
              case round =>
                clear b0 b1 b2
                obtain ⟨k, hk, rfl, hbk⟩ := hrel
                have hb5k := hb57.trans (hbk.mono hb57.size)
                by_cases hkt : k < n10
                · obtain ⟨b1, o1, z1, rfl, hz1, d1⟩ := (HN10.out.keep hbk).cell hkt
                  have hin := HPM.out j x HT.out z1 (List.mem_of_getElem? hz1)
                  have hct : M.contains z1 = true := by simpa using hin
                  have HIC := Lib.hid (inC M z1 (.slice A2 n2 c2) wr (HN2.out.keep hb5k))
                  rw [hct] at HIC
                  clear hct hin hz1
                  have hi0 : (0 : Int) ≤ k := by omega
                  have hi1 : (k : Int) < n10 := by omega
                  go_wp2_with (go_at_call 25; refine HIC.out.mono ?_; rintro e w11 ⟨rfl, hb11⟩)
                  go_roundw
                  case rel => exact ⟨k + 1, by omega, by go_num, hbk.trans (hb11.mono hbk.size)⟩
                  case measure => simp [intOf]; omega
                · have y2 := HBX.out.keep hb5k HBX.out.lt
                  obtain ⟨b0, b1, b2⟩ := y2.three
                  have c0 := (hb5k.cell (cell_lt HC0.out)).trans HC0.out
                  have c1' := (hb5k.cell (cell_lt HC1.out)).trans HC1.out
                  have c2' := (hb5k.cell (cell_lt HC2.out)).trans HC2.out
                  have HVA := Lib.hid (oVarsC x _ wr (Rd.keep hb5k _ _ HRX.out) (HSX.out x (List.mem_of_getElem? HT.out)))
                  have hi0 : (0 : Int) ≤ j := by omega
                  have hi1 : (j : Int) < nt := by omega
                  clear hbk
                  go_wp2_with (first
                    | (go_at_call 13; refine HVA.out.mono ?_; rintro e w9 ⟨u13, rfl, hn13, hb9⟩
                       obtain ⟨A13, n13, c13, rfl, hl13, hc13, hm13⟩ := hn13.full
                       have hb59 := hb5k.trans (hb9.mono hb5k.size)
                       have y3 := y2.keep hb9 y2.lt
                       clear b0 b1 b2 c0 c1' c2'
                       obtain ⟨b0, b1, b2⟩ := y3.three)
                    | (go_at_call 26; refine (refBinds kt ht _ nt ct hc3 HM3.out j (by unfold maxLen; omega) _).mono ?_; rintro e w10 ⟨rfl, hb10⟩
                       have hb510 := hb59.trans (hb10.mono hb59.size)
                       have HN13 := Lib.hid (hn13.keep hb10)
                       clear hn13 b0 b1 b2))
                  unfold maxLen at hm13
                  clear HVA hl13
                  go_loopw [15] (fun i wr => ∃ (k : Nat), k ≤ n13 ∧ i = .int .i64 k ∧ Below w10.heap.size w10 wr) (fun i _ => n13 - (intOf i).toNat)
                  case atStart => exact ⟨0, Nat.zero_le _, rfl, Below.refl _ _⟩
                  case round =>
                    obtain ⟨k, hk, rfl, hbk⟩ := hrel
                    have hb5k := hb510.trans (hbk.mono hb510.size)
                    by_cases hkt : k < n13
                    · obtain ⟨b1, o1, z1, rfl, hz1, d1⟩ := (HN13.out.keep hbk).cell hkt
                      obtain ⟨hzr, hzin⟩ := HPF.out j x HT.out z1 (List.mem_of_getElem? hz1)
                      have hwz : IntKind.i64.wrap (z1 - bd kt nt j) = z1 - bd kt nt j := by rw [wrapEq]; have := bd_01 kt nt j; exact wrap_small (by omega) (by omega)
                      have HIC := Lib.hid fun W (h : Below wr.heap.size wr W) => inC V (z1 - bd kt nt j) (.slice A1 n1 c1) W (HN1.out.keep (hb5k.trans (h.mono hb5k.size)))
                      have hR : bd kt nt j ≤ z1 → V.contains (z1 - bd kt nt j) = true := fun h => by simpa using hzin h
                      have HRR := Lib.hid hR; clear hR hzin hzr hz1
                      generalize V.contains (z1 - bd kt nt j) = R at *
                      generalize bd kt nt j = B at *
                      have hi0 : (0 : Int) ≤ k := by omega
                      have hi1 : (k : Int) < n13 := by omega
                      have d1L := d1
                      by_cases hzb : B ≤ z1
                      · obtain rfl : R = true := HRR.out hzb
                        have e1 : decide (B ≤ z1) = true := by simpa using hzb
                        clear hzb HRR
                        go_wp2_with (go_at_call 25; refine (HIC.out _ (Below.refl _ _)).mono ?_; rintro e w11 ⟨rfl, hb11⟩; have d1' := (hb11.cell (cell_lt d1L)).trans d1L; clear d1 d1L)
                        go_roundw
                        case rel => exact ⟨k + 1, by omega, by go_num, hbk.trans (hb11.mono hbk.size)⟩
                        case measure => simp [intOf]; omega
                      · have e1 : decide (B ≤ z1) = false := by simpa using hzb
                        have HZB := Lib.hid hzb; clear hzb HRR
                        go_wp2_with (go_at_call 25; refine (HIC.out _ (Below.refl _ _)).mono ?_; rintro e w11 ⟨rfl, hb11⟩; have d1' := (hb11.cell (cell_lt d1L)).trans d1L; clear d1 d1L)
                        go_roundw
                        case rel => exact ⟨k + 1, by omega, by go_num, hbk.trans (hb11.mono hbk.size)⟩
                        case measure => simp [intOf]; omega
                    · go_wp2_with fail
                      go_roundw
                      case rel => exact ⟨j + 1, by omega, by go_num, hb5k⟩
                      case measure => simp [intOf]; omega
            · go_wp2_with fail
              go_ret
              exact ⟨rfl, hb.trans (hbr.mono hb.size)⟩
end Go.Proofs.Ytehdbjfalpjpeaa
