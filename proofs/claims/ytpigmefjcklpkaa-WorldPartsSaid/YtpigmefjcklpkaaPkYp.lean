/-
  The walk of the law WorldParts.
-/
import Derived.Test.YtpigmefjcklpkaaPkYo
namespace Go.Proofs.Ytpigmefjcklpkaa
open Go.ChangeShapes Go.WideShapes Go.ChangeAt Go.RowKit
set_option linter.unusedVariables false

theorem clv_sub {w : World} {xs : List T} {q n c j : Nat} {x : T} (h : CLV w xs (some ⟨q, 0, none⟩) n c) (hx : xs[j]? = some x) (o c' : Nat) (ho : o = j * 3) (h1 : 1 ≤ c') (hc : c' ≤ maxLen) : CLV w [x] (some ⟨q, o, none⟩) 1 c' :=
  ⟨rfl, h1, hc, fun i y hy => by
    match i, hy with
    | 0, hy =>
      cases hy
      subst ho
      obtain ⟨b, o, k, g, A, n', c2, e, d0, d1, d2, hr⟩ := (h.at_ j x hx).full
      cases e
      rw [Nat.zero_add] at d0 d1 d2
      exact ⟨q, j * 3, _, _, _, rfl, by simpa using d0, by simpa using d1, by simpa using d2, hr⟩
    | i + 1, hy => simp at hy⟩
theorem cf_snoc {sc l : List T} {j : Nat} {x : T} (h : l[j]? = some x) : cfV sc (l.take (j + 1)) = (cfV sc (l.take j) && cfV sc [x]) := by rw [take_snoc h, cf_app]
theorem ls_parts {l : List T} {s d : Int} (h : lsB l s d = true) : l.length ≤ 60 := by rw [lsB, Bool.and_eq_true, decide_eq_true_eq] at h; exact h.1
set_option maxRecDepth 100000 in
set_option maxHeartbeats 16000000 in
theorem worldPartsC (sc a b : List T) (As : Option Addr) (ns cs : Nat) (Aa : Option Addr) (na ca : Nat) (Ab : Option Addr) (nb cb : Nat) (w : World) (hs : CLV w sc As ns cs) (ha : CLV w a Aa na ca) (hb : CLV w b Ab nb cb) :
    Calls Try.prog 6 #[.slice As ns cs, .slice Aa na ca, .slice Ab nb cb] w fun e w' => e = .returned (.bool true) ∧ Below w.heap.size w w' := by
  have hal := ha.len
  have hbl := hb.len
  have HS := Lib.hid hs; clear hs
  have HA := Lib.hid ha; clear ha
  have HBB := Lib.hid hb; clear hb
  have HB := Lib.hid (Below.refl w.heap.size w)
  obtain ⟨rs, hrs⟩ : ∃ r, lsB sc 500 80 = r := ⟨_, rfl⟩
  have HRS := Lib.hid hrs; clear hrs
  obtain ⟨ra, hra⟩ : ∃ r, lsB a 500 80 = r := ⟨_, rfl⟩
  have HRA := Lib.hid hra; clear hra
  obtain ⟨rb, hrb⟩ : ∃ r, lsB b 500 80 = r := ⟨_, rfl⟩
  have HRB := Lib.hid hrb; clear hrb
  go_enter Try.func6, Try.ntmps6
  go_wp2_with fail
  have HC := Lib.hid (yAwakeC w)
  refine HC.out.mono ?_
  rintro e w1 ⟨rfl, hb1⟩
  replace HB := Lib.hid (HB.out.trans (hb1.mono HB.out.size))
  clear hb1 HC
  go_wp2_with fail
  have HC := Lib.hid (lightsC sc As ns cs 500 80 w1 HS.out.len HS.out.le HS.out.cap (HS.out.keep HB.out).at_)
  rw [HRS.out] at HC
  refine HC.out.mono ?_
  rintro e w2 ⟨rfl, hb1⟩
  replace HB := Lib.hid (HB.out.trans (hb1.mono HB.out.size))
  clear hb1 HC
  go_wp2_with fail
  have HC := Lib.hid (lightsC a Aa na ca 500 80 w2 HA.out.len HA.out.le HA.out.cap (HA.out.keep HB.out).at_)
  rw [HRA.out] at HC
  refine HC.out.mono ?_
  rintro e w3 ⟨rfl, hb1⟩
  replace HB := Lib.hid (HB.out.trans (hb1.mono HB.out.size))
  clear hb1 HC
  go_wp2_with fail
  have HC := Lib.hid (lightsC b Ab nb cb 500 80 w3 HBB.out.len HBB.out.le HBB.out.cap (HBB.out.keep HB.out).at_)
  rw [HRB.out] at HC
  refine HC.out.mono ?_
  rintro e w4 ⟨rfl, hb1⟩
  replace HB := Lib.hid (HB.out.trans (hb1.mono HB.out.size))
  clear hb1 HC
  cases rs
  · go_wp2_with fail
    go_ret
    exact ⟨rfl, HB.out⟩
  cases ra
  · go_wp2_with fail
    go_ret
    exact ⟨rfl, HB.out⟩
  cases rb
  · go_wp2_with fail
    go_ret
    exact ⟨rfl, HB.out⟩
  have hal2 := ls_parts HRA.out
  have hbl2 := ls_parts HRB.out
  obtain ⟨A1, c1, w5, cs1, hrun1, hr1, hb1⟩ := rowT_new (HA.out.keep HB.out) (by omega) (Below.refl w4.heap.size w4)
  obtain ⟨A2, c2, w6, cs2, hrun2, hr2, hb2⟩ := rowT_app hr1 (HBB.out.keep HB.out) (by omega) hb1
  have HL := Lib.hid (hr2.lst hb2)
  have HB6 := Lib.hid (HB.out.trans (hb2.mono HB.out.size))
  have hcap := hr2.cap
  unfold maxLen at hcap
  have hN : (a ++ b).length = na + nb := by rw [List.length_append, hal, hbl]
  have hq : 0 < na + nb → ∃ q, A2 = some ⟨q, 0, none⟩ := fun h => by
    rcases hr2.own.2 with ⟨e, h0⟩ | ⟨g', cap', cur, hv, _⟩
    · omega
    · cases hv; exact ⟨_, rfl⟩
  have HQ := Lib.hid hq
  clear hr1 hb1 hr2 hb2 hq
  go_wp2_with (at_builtin; first | (refine Lib.wpList_append_run _ rfl _ _ _ _ rfl _ _ rfl rfl _ _ hrun1 ?_; clear hrun1) | (refine Lib.wpList_append_run _ rfl _ _ _ _ rfl _ _ rfl rfl _ _ hrun2 ?_; clear hrun2))
  obtain ⟨N, hNN⟩ : ∃ N, na + nb = N := ⟨_, rfl⟩
  try rw [hNN]
  try rw [hNN] at hcap
  try rw [hNN] at HL
  try rw [hNN] at HQ
  try rw [hNN] at hN
  have hN120 : N ≤ 120 := by omega
  clear hNN
  go_loopw [12, 13] (fun ev i wr => ∃ (j : Nat) (r : Bool), j ≤ N ∧ i = .int .i64 j ∧ ev = .bool r ∧ Hid (cfV sc ((a ++ b).take j) = r) ∧ Hid (Below w6.heap.size w6 wr)) (fun _ i _ => N - (Go.RowKit.intOf i).toNat)
  case atStart => exact ⟨0, true, Nat.zero_le _, rfl, rfl, Lib.hid rfl, Lib.hid (Below.refl _ _)⟩
  case round =>
    obtain ⟨j, r, hj, rfl, rfl, HR, HW⟩ := hrel
    have HBW := Lib.hid (HB6.out.trans (HW.out.mono HB6.out.size))
    by_cases hlt : j < N
    · have dj : decide ((j : Int) < (N : Int)) = true := by simp; omega
      have hsj : IntKind.i64.wrap ((j : Int) + 1) = ((j + 1 : Nat) : Int) := by rw [wrapEq, wrap_small (by omega) (by omega)]; omega
      obtain ⟨x, hx⟩ := at_of hN hlt
      have HSN := Lib.hid (cf_snoc (sc := sc) hx)
      rw [HR.out] at HSN
      cases r
      · have HR2 := Lib.hid (show cfV sc ((a ++ b).take (j + 1)) = false by rw [HSN.out, Bool.false_and])
        go_wp2_with fail
        go_roundw
        case rel => exact ⟨j + 1, false, by omega, by go_num, rfl, HR2, HW⟩
        case measure => simp [Go.RowKit.intOf]; omega
      · obtain ⟨r2, hr2⟩ : ∃ r, cfV sc [x] = r := ⟨_, rfl⟩
        have HR2 := Lib.hid (show cfV sc ((a ++ b).take (j + 1)) = r2 by rw [HSN.out, Bool.true_and, hr2])
        obtain ⟨q, hqe⟩ := HQ.out (by omega)
        subst hqe
        have HX := Lib.hid (fun (o c' : Nat) (ho : o = j * 3) (h1 : 1 ≤ c') (hc : c' ≤ maxLen) => clv_sub (HL.out.keep HW.out) hx o c' ho h1 hc)
        have HR3 := Lib.hid hr2
        clear hr2 hx
        have hi0 : (0 : Int) ≤ j := by omega
        have hi1 : (j : Int) ≤ ((j + 1 : Nat) : Int) := by omega
        have hi2 : ((j + 1 : Nat) : Int) ≤ c2 := by omega
        go_wp2_with fail
        refine (yConformsC sc [x] As _ ns cs _ _ wr (HS.out.keep HBW.out) (HX.out _ _ ?_ ?_ ?_)).mono ?_
        · rfl
        · omega
        · unfold maxLen; omega
        rintro e w8 ⟨rfl, hb8⟩
        rw [HR3.out]
        have HW8 := Lib.hid (HW.out.trans (hb8.mono HW.out.size))
        clear hb8
        go_wp2_with fail
        go_roundw
        case rel => exact ⟨j + 1, r2, by omega, by go_num, rfl, HR2, HW8⟩
        case measure => simp [Go.RowKit.intOf]; omega
    · obtain rfl : j = N := by omega
      have dj : decide ((j : Int) < (j : Int)) = false := by simp
      have HE := Lib.hid (show cfV sc (a ++ b) = r by have := HR.out; rwa [List.take_of_length_le (by omega)] at this)
      have HE2 := Lib.hid (HE.out.symm.trans (cf_app sc a b))
      have HL9 := Lib.hid (HL.out.keep HW.out)
      clear HL HQ HR
      obtain ⟨r1, hr1⟩ : ∃ r, cfV sc a = r := ⟨_, rfl⟩
      obtain ⟨r2, hr2⟩ : ∃ r, cfV sc b = r := ⟨_, rfl⟩
      rw [hr1, hr2] at HE2
      have HR1 := Lib.hid hr1
      have HR2 := Lib.hid hr2
      clear hr1 hr2
      go_wp2_with fail
      refine (yConformsC sc a As Aa ns cs na ca wr (HS.out.keep HBW.out) (HA.out.keep HBW.out)).mono ?_
      rintro e w8 ⟨rfl, hb8⟩
      rw [HR1.out]
      replace HBW := Lib.hid (HBW.out.trans (hb8.mono HBW.out.size))
      replace HL9 := Lib.hid (HL9.out.keep hb8)
      clear hb8
      have fin : ∀ (r : Bool) (wz : World), r = r := fun r _ => rfl
      clear fin
      cases r1
      · obtain rfl : r = false := HE2.out
        go_wp2_with fail
        refine (yConformsC sc (a ++ b) As _ ns cs j c2 w8 (HS.out.keep HBW.out) HL9.out).mono ?_
        rintro e w9 ⟨rfl, hb9⟩
        rw [HE.out]
        replace HBW := Lib.hid (HBW.out.trans (hb9.mono HBW.out.size))
        clear hb9
        go_wp2_with fail
        refine (yConformsC sc [] As _ ns cs 0 0 w9 (HS.out.keep HBW.out) (clv_nil _ _ _ (Nat.zero_le _))).mono ?_
        rintro e w10 ⟨rfl, hb9⟩
        rw [cf_nil]
        replace HBW := Lib.hid (HBW.out.trans (hb9.mono HBW.out.size))
        clear hb9
        go_wp2_with fail
        go_ret
        exact ⟨rfl, HBW.out⟩
      · rw [Bool.true_and] at HE2
        obtain rfl : r = r2 := HE2.out
        go_wp2_with fail
        refine (yConformsC sc b As Ab ns cs nb cb w8 (HS.out.keep HBW.out) (HBB.out.keep HBW.out)).mono ?_
        rintro e w9 ⟨rfl, hb9⟩
        rw [HR2.out]
        replace HBW := Lib.hid (HBW.out.trans (hb9.mono HBW.out.size))
        replace HL9 := Lib.hid (HL9.out.keep hb9)
        clear hb9
        go_wp2_with fail
        refine (yConformsC sc (a ++ b) As _ ns cs j c2 w9 (HS.out.keep HBW.out) HL9.out).mono ?_
        rintro e w10 ⟨rfl, hb9⟩
        rw [HE.out]
        replace HBW := Lib.hid (HBW.out.trans (hb9.mono HBW.out.size))
        clear hb9
        cases r
        · go_wp2_with fail
          refine (yConformsC sc [] As _ ns cs 0 0 w10 (HS.out.keep HBW.out) (clv_nil _ _ _ (Nat.zero_le _))).mono ?_
          rintro e w11 ⟨rfl, hb9⟩
          rw [cf_nil]
          replace HBW := Lib.hid (HBW.out.trans (hb9.mono HBW.out.size))
          clear hb9
          go_wp2_with fail
          go_ret
          exact ⟨rfl, HBW.out⟩
        · go_wp2_with fail
          refine (yConformsC sc [] As _ ns cs 0 0 w10 (HS.out.keep HBW.out) (clv_nil _ _ _ (Nat.zero_le _))).mono ?_
          rintro e w11 ⟨rfl, hb9⟩
          rw [cf_nil]
          replace HBW := Lib.hid (HBW.out.trans (hb9.mono HBW.out.size))
          clear hb9
          go_wp2_with fail
          go_ret
          exact ⟨rfl, HBW.out⟩
end Go.Proofs.Ytpigmefjcklpkaa
