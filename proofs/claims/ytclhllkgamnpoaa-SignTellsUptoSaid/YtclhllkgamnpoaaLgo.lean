/-
  The walk of the law SignOnce.
-/
import Derived.Test.YtclhllkgamnpoaaQf
import Derived.Test.YtclhllkgamnpoaaQh
namespace Go.Proofs.Ytclhllkgamnpoaa
open Go.ChangeShapes Go.WideShapes Go.ChangeAt Go.RowKit
set_option linter.unusedVariables false

theorem mem_cnL {f z : Int} : ∀ {ds : List T} {i : Nat}, z ∈ cnL f ds i ↔ ∃ (q : Nat) (x : T), ds[q]? = some x ∧ z = (i : Int) + q ∧ 0 ≤ f ∧ faI x = f
  | [], i => by simp [cnL]
  | t :: ts, i => by
    rw [cnL, List.mem_append, mem_cnL (ds := ts)]
    constructor
    · rintro (h | ⟨q, x, h1, h2, h3, h4⟩)
      · split at h
        · rename_i hc
          rw [List.mem_singleton] at h
          exact ⟨0, t, rfl, by omega, hc.1, hc.2⟩
        · cases h
      · exact ⟨q + 1, x, by simpa using h1, by omega, h3, h4⟩
    · rintro ⟨q, x, h1, h2, h3, h4⟩
      cases q with
      | zero =>
        simp at h1
        subst h1
        left
        rw [if_pos ⟨h3, h4⟩, List.mem_singleton]
        omega
      | succ q => exact .inr ⟨q, x, by simpa using h1, by omega, h3, h4⟩
theorem mem_cnAt {f : Int} {ds : List T} {j : Nat} {x : T} (hx : ds[j]? = some x) : (j : Int) ∈ cnL f ds 0 ↔ 0 ≤ f ∧ faI x = f := by
  rw [mem_cnL]
  constructor
  · rintro ⟨q, y, h1, h2, h3, h4⟩
    obtain rfl : q = j := by omega
    rw [hx] at h1
    cases h1
    exact ⟨h3, h4⟩
  · rintro ⟨h3, h4⟩
    exact ⟨j, x, hx, by omega, h3, h4⟩
theorem faI_kind {t : T} (h : 0 ≤ faI t) : kiB t = false := by
  unfold faI at h
  split at h
  · rename_i hk
    rw [kiB, hk]
    rfl
  · omega
theorem take_mem {z : Int} {l : List Int} {q : Nat} {y : Int} (hy : l[q]? = some y) : z ∈ l.take (q + 1) ↔ z ∈ l.take q ∨ y = z := by
  rw [List.take_add_one, hy, List.mem_append]
  simp [eq_comm]

set_option maxRecDepth 100000 in
set_option maxHeartbeats 8000000 in
theorem signOnceC (ds : List T) (f : Int) (A : Option Addr) (n c : Nat) (w : World) (hx : DL w ds A n c) :
    Calls Try.prog 5 #[.slice A n c, .int .i64 f] w fun e w' => e = .returned (.bool true) ∧ Below w.heap.size w w' := by
  have hcm := hx.cap
  have hle := hx.le
  unfold maxLen at hcm
  have HX := Lib.hid hx; clear hx
  go_enter Try.func5, Try.ntmps5
  go_wp2_with fail
  refine (awakeQ _).mono ?_
  rintro e w1 ⟨rfl, hb1⟩
  obtain ⟨R, hR⟩ : ∃ R, fwQ ds n = R := ⟨_, rfl⟩
  have HFW := Lib.hid (fewC ds A n c w1 (HX.out.keep hb1))
  rw [hR] at HFW
  have HB1 := Lib.hid hb1
  clear hb1
  go_wp2_with fail
  refine HFW.out.mono ?_
  clear HFW
  rintro e w2 ⟨rfl, hb2⟩
  have HB2 := Lib.hid (HB1.out.trans (hb2.mono HB1.out.size))
  clear HB1 hb2
  cases R
  · go_wp2_with fail
    go_ret
    exact ⟨rfl, HB2.out⟩
  have hn30 : n ≤ 30 := by
    rw [fwQ, Bool.and_eq_true, decide_eq_true_eq] at hR
    exact hR.1
  clear hR
  go_wp2_with fail
  go_loopw [7] (fun i wr => ∃ (j : Nat), j ≤ n ∧ i = .int .i64 j ∧ Hid (Below w.heap.size w wr)) (fun i _ => n - (Go.RowKit.intOf i).toNat)
  case atStart => exact ⟨0, Nat.zero_le _, rfl, HB2⟩
  case round =>
    clear HB2
    obtain ⟨j, hj, rfl, HB⟩ := hrel
    by_cases hlt : j < n
    · obtain ⟨x, hx⟩ := at_of HX.out.len hlt
      obtain ⟨b1, o1, s1, k1, h1, A1, n1, c1, rfl, c0, c1', c2, c3, hr1⟩ := (HX.out.at_ j x hx).keep HB.out
      have HAT := Lib.hid hx
      have HRX := Lib.hid hr1
      have hi0 : (0 : Int) ≤ j := by omega
      have hi1 : (j : Int) < n := by omega
      have HC := Lib.hid (familyC x _ wr hr1)
      obtain ⟨F, hF⟩ : ∃ F, faI x = F := ⟨_, rfl⟩
      rw [hF] at HC
      have HF := Lib.hid hF
      clear hr1 hx hF
      go_wp2_with fail
      refine HC.out.mono ?_
      clear HC
      rintro e w3 ⟨rfl, hb3⟩
      have HB3 := Lib.hid (HB.out.trans (hb3.mono HB.out.size))
      have HRX3 := Lib.hid (Rd.keep hb3 _ _ HRX.out)
      have HCO := Lib.hid (constsC ds F _ n c w3 (HX.out.keep HB3.out) (by omega))
      have d0 := (hb3.cell (cell_lt c0)).trans c0
      have d1 := (hb3.cell (cell_lt c1')).trans c1'
      have d2 := (hb3.cell (cell_lt c2)).trans c2
      have d3 := (hb3.cell (cell_lt c3)).trans c3
      clear c0 c1' c2 c3 hb3 HRX HB
      go_wp2_with fail
      refine HCO.out.mono ?_
      clear HCO
      rintro e w4 ⟨Ac, m, cc, rfl, hml, hmc, hcc, hnu, hb4⟩
      have HB4 := Lib.hid (HB3.out.trans (hb4.mono HB3.out.size))
      have HRX4 := Lib.hid (Rd.keep hb4 _ _ HRX3.out)
      have HNU := Lib.hid hnu
      have HML := Lib.hid hml
      have hm30 : m ≤ n := by have := cnL_len F ds 0; have := HX.out.len; omega
      have e1 := (hb4.cell (cell_lt d1)).trans d1
      have e2 := (hb4.cell (cell_lt d2)).trans d2
      have e3 := (hb4.cell (cell_lt d3)).trans d3
      unfold maxLen at hcc
      clear d0 d1 d2 d3 hb4 HRX3 hnu hml HB3
      go_wp2_with fail
      go_loop [9, 11] (fun b i => ∃ (q : Nat) (B : Bool), q ≤ m ∧ i = .int .i64 q ∧ b = .bool B ∧ Hid (B = decide ((j : Int) ∈ (cnL F ds 0).take q))) (fun _ i => m - (Go.RowKit.intOf i).toNat)
      case atStart => exact ⟨0, false, Nat.zero_le _, rfl, rfl, Lib.hid (by simp)⟩
      case round =>
        obtain ⟨q, B, hq, rfl, rfl, HBq⟩ := hrel
        by_cases hql : q < m
        · obtain ⟨z, hz⟩ := at_of HML.out hql
          obtain ⟨bz, oz, rfl, cz⟩ := HNU.out q z hz
          have HTM := Lib.hid (take_mem (z := (j : Int)) hz)
          have hq0 : (0 : Int) ≤ q := by omega
          have hq1 : (q : Int) < m := by omega
          clear hz
          cases B
          · by_cases hzj : z = (j : Int)
            · have e0 : (z == (j : Int)) = true := by simpa using hzj
              have HZ := Lib.hid hzj; clear hzj
              go_wp2_with fail
              go_round
              case rel => exact ⟨q + 1, true, by omega, by go_num, rfl, Lib.hid (decide_eq_true (HTM.out.2 (.inr HZ.out))).symm⟩
              case measure => simp [Go.RowKit.intOf]; omega
            · have e0 : (z == (j : Int)) = false := by simpa using hzj
              have HZ := Lib.hid hzj; clear hzj
              go_wp2_with fail
              go_round
              case rel =>
                refine ⟨q + 1, false, by omega, by go_num, rfl, Lib.hid (decide_eq_false fun h => ?_).symm⟩
                rcases HTM.out.1 h with h | h
                · have := HBq.out
                  rw [decide_eq_true h] at this
                  cases this
                · exact HZ.out h
              case measure => simp [Go.RowKit.intOf]; omega
          · go_wp2_with fail
            go_round
            case rel => exact ⟨q + 1, true, by omega, by go_num, rfl, Lib.hid (decide_eq_true (HTM.out.2 (.inl (of_decide_eq_true HBq.out.symm)))).symm⟩
            case measure => simp [Go.RowKit.intOf]; omega
        · have hBF := HBq.out
          rw [List.take_of_length_le (by rw [HML.out]; omega)] at hBF
          have hBF2 : B = decide (0 ≤ F) := by
            rw [hBF, Bool.eq_iff_iff, decide_eq_true_eq, decide_eq_true_eq, mem_cnAt HAT.out, HF.out]
            exact ⟨fun h => h.1, fun h => ⟨h, rfl⟩⟩
          have HBF := Lib.hid hBF2
          have HCO := Lib.hid (constsC ds f _ n c w4 (HX.out.keep HB4.out) (by omega))
          clear hBF hBF2 HBq
          go_wp2_with fail
          refine HCO.out.mono ?_
          clear HCO
          rintro e w5 ⟨Ac2, m2, cc2, rfl, hml2, hmc2, hcc2, hnu2, hb5⟩
          have HB5 := Lib.hid (HB4.out.trans (hb5.mono HB4.out.size))
          have HRX5 := Lib.hid (Rd.keep hb5 _ _ HRX4.out)
          have HNU2 := Lib.hid hnu2
          have HML2 := Lib.hid hml2
          have hm230 : m2 ≤ n := by have := cnL_len f ds 0; have := HX.out.len; omega
          have f1 := (hb5.cell (cell_lt e1)).trans e1
          have f2 := (hb5.cell (cell_lt e2)).trans e2
          have f3 := (hb5.cell (cell_lt e3)).trans e3
          unfold maxLen at hcc2
          clear e1 e2 e3 hb5 HRX4 hnu2 hml2
          go_wp2_with fail
          go_loop [13] (fun i => ∃ (q : Nat), q ≤ m2 ∧ i = .int .i64 q) (fun i => m2 - (Go.RowKit.intOf i).toNat)
          case atStart => exact ⟨0, Nat.zero_le _, rfl⟩
          case round =>
            obtain ⟨q, hq, rfl⟩ := hrel
            by_cases hql : q < m2
            · obtain ⟨z, hz⟩ := at_of HML2.out hql
              obtain ⟨bz, oz, rfl, cz⟩ := HNU2.out q z hz
              have hq0 : (0 : Int) ≤ q := by omega
              have hq1 : (q : Int) < m2 := by omega
              by_cases hzj : z = (j : Int)
              · have e0 : (z == (j : Int)) = true := by simpa using hzj
                have hff : F = f := by
                  have := (mem_cnAt (f := f) HAT.out).1 (hzj ▸ List.mem_of_getElem? hz)
                  rw [← this.2, HF.out]
                have ef : (F != f) = false := by simp [hff]
                clear hzj hz hff
                go_wp2_with fail
                go_round
                case rel => exact ⟨q + 1, by omega, by go_num⟩
                case measure => simp [Go.RowKit.intOf]; omega
              · have e0 : (z == (j : Int)) = false := by simpa using hzj
                clear hzj hz
                go_wp2_with fail
                go_round
                case rel => exact ⟨q + 1, by omega, by go_num⟩
                case measure => simp [Go.RowKit.intOf]; omega
            · by_cases hF0 : 0 ≤ F
              · have e0 : decide (F ≥ 0) = true := by simpa using hF0
                have hB : B = true := by rw [HBF.out]; exact decide_eq_true hF0
                subst hB
                have HKI := Lib.hid (kindC x _ w5 HRX5.out)
                rw [faI_kind (by rw [HF.out]; exact hF0)] at HKI
                clear hF0 HBF
                go_wp2_with fail
                refine HKI.out.mono ?_
                clear HKI
                rintro e w6 ⟨rfl, hb6⟩
                have HB6 := Lib.hid (HB5.out.trans (hb6.mono HB5.out.size))
                clear hb6 f1 f2 f3
                go_wp2_with fail
                go_roundw
                case rel => exact ⟨j + 1, by omega, by go_num, HB6⟩
                case measure => simp [Go.RowKit.intOf]; omega
              · have e0 : decide (F ≥ 0) = false := by simpa using hF0
                have hB : B = false := by rw [HBF.out]; exact decide_eq_false hF0
                subst hB
                clear hF0 HBF
                go_wp2_with fail
                go_roundw
                case rel => exact ⟨j + 1, by omega, by go_num, HB5⟩
                case measure => simp [Go.RowKit.intOf]; omega
    · go_wp2_with fail
      go_ret
      exact ⟨rfl, HB.out⟩
end Go.Proofs.Ytclhllkgamnpoaa
