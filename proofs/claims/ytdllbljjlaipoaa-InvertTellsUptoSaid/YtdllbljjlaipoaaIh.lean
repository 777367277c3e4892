/-
  Contracts of the document's own may and Invert. No statement is proved here.
-/
import Derived.Test.YtdllbljjlaipoaaIg
import Derived.Test.YtdllbljjlaipoaaIf
namespace Go.Proofs.Ytdllbljjlaipoaa
open Go.ChangeShapes Go.WideShapes Go.ChangeAt Go.RowKit
set_option linter.unusedVariables false

set_option maxRecDepth 100000 in
set_option maxHeartbeats 4000000 in
theorem rmaysC (vs : List Int) (V0 : Option Addr) (nv c0v : Nat) (x : Int) (w : World) (hnv : vs.length = nv) (hnc : nv ≤ c0v) (hnm : c0v ≤ maxLen) (hx : ∀ i z, vs[i]? = some z → ∃ b o, V0 = some ⟨b, o, none⟩ ∧ w.cell? ⟨b, o + i, none⟩ = some (.int .i64 z)) :
    Calls Try.prog 31 #[.slice V0 nv c0v, .int .i64 x] w fun e w' => e = .returned (.bool (decide (0 ≤ x) && decide (x ≤ 1000) && vB x [] vs)) ∧ Below w.heap.size w w' := by
  have HX := Lib.hid hx; clear hx
  have HN := Lib.hid hnv; clear hnv
  unfold maxLen at hnm
  by_cases h0 : x < 0
  · have d0 : decide (x < 0) = true := by simpa using h0
    have e : (decide (0 ≤ x) && decide (x ≤ 1000) && vB x [] vs) = false := by rw [decide_eq_false (by omega)]; rfl
    rw [e]
    clear h0 e
    go_enter Try.func31, Try.ntmps31
    go_wp2_with fail
    go_ret
    exact ⟨rfl, Below.refl _ _⟩
  have d0 : decide (x < 0) = false := by simpa using h0
  by_cases h1 : 1000 < x
  · have d1 : decide (1000 < x) = true := by simpa using h1
    have e : (decide (0 ≤ x) && decide (x ≤ 1000) && vB x [] vs) = false := by rw [decide_eq_false (p := x ≤ 1000) (by omega), Bool.and_false]; rfl
    rw [e]
    clear h0 h1 e
    go_enter Try.func31, Try.ntmps31
    go_wp2_with fail
    go_ret
    exact ⟨rfl, Below.refl _ _⟩
  have d1 : decide (1000 < x) = false := by simpa using h1
  have e : (decide (0 ≤ x) && decide (x ≤ 1000) && vB x [] vs) = vB x [] vs := by rw [decide_eq_true (p := 0 ≤ x) (by omega), decide_eq_true (p := x ≤ 1000) (by omega)]; rfl
  rw [e]
  obtain ⟨V, hV⟩ : ∃ V, V = vB x [] vs := ⟨_, rfl⟩
  rw [← hV]
  have HVV := Lib.hid hV; clear hV
  clear h0 h1 e
  go_enter Try.func31, Try.ntmps31
  go_wp2_with fail
  go_loopw [5] (fun q wr => ∃ (j : Nat), j ≤ nv ∧ q = .int .i64 j ∧ Below w.heap.size w wr ∧ Hid (V = vB x (vs.take j) (vs.drop j))) (fun q _ => nv - (Go.RowKit.intOf q).toNat)
  case atStart => exact ⟨0, Nat.zero_le _, rfl, Below.refl _ _, Lib.hid (by rw [HVV.out]; simp)⟩
  case round =>
    obtain ⟨j, hj, rfl, hbr, HP⟩ := hrel
    by_cases hlt : j < nv
    · have hi0 : (0 : Int) ≤ j := by omega
      have hi1 : (j : Int) < nv := by omega
      obtain ⟨v, hv⟩ := at_of HN.out hlt
      obtain ⟨b, o, rfl, hc0⟩ := HX.out j v hv
      replace hc0 := (hbr.cell (cell_lt hc0)).trans hc0
      have hstep := HP.out
      rw [drop_at hv, vB] at hstep
      have HST := Lib.hid hstep; clear hstep
      have HV := Lib.hid hv; clear hv
      by_cases hv0 : v < 0
      · have d2 : decide (v < 0) = true := by simpa using hv0
        have hbad : V = false := by rw [HST.out, decide_eq_false (p := 0 ≤ v) (by omega)]; rfl
        subst hbad
        clear hv0
        go_wp2_with fail
        go_ret
        exact ⟨rfl, hbr⟩
      have d2 : decide (v < 0) = false := by simpa using hv0
      by_cases hvx : x ≤ v
      · have d3 : decide (x ≤ v) = true := by simpa using hvx
        have hbad : V = false := by rw [HST.out, decide_eq_false (p := v < x) (by omega), Bool.and_false]; rfl
        subst hbad
        clear hv0 hvx
        go_wp2_with fail
        go_ret
        exact ⟨rfl, hbr⟩
      have d3 : decide (x ≤ v) = false := by simpa using hvx
      have hin : (decide (0 ≤ v) && decide (v < x)) = true := by rw [decide_eq_true (p := 0 ≤ v) (by omega), decide_eq_true (p := v < x) (by omega)]; rfl
      have HIN := Lib.hid hin; clear hin hv0 hvx
      go_wp2_with fail
      obtain ⟨wz, hwz⟩ : ∃ wz, wz = wr := ⟨_, rfl⟩
      rw [← hwz] at hbr hc0 ⊢
      clear hwz wr
      obtain ⟨J, hJ⟩ : ∃ J : Int, (j : Int) = J := ⟨_, rfl⟩
      rw [hJ] at hi0 hi1 ⊢
      have HJ := Lib.hid hJ; clear hJ
      go_loopw [6] (fun q wr => ∃ (m : Nat), m ≤ j ∧ q = .int .i64 m ∧ Below wz.heap.size wz wr ∧ Hid (∀ i u, i < m → vs[i]? = some u → u ≠ v)) (fun q _ => j - (Go.RowKit.intOf q).toNat)
      case atStart => exact ⟨0, Nat.zero_le _, rfl, Below.refl _ _, Lib.hid (fun i u h => by omega)⟩
      case round =>
        obtain ⟨m, hm, rfl, hbm, HQ⟩ := hrel
        by_cases hml : m < j
        · have hm0 : (0 : Int) ≤ m := by omega
          have hm1 : (m : Int) < nv := by have := HJ.out; omega
          have hm2 : decide ((m : Int) < J) = true := by have := HJ.out; simp; omega
          obtain ⟨u, hu⟩ := at_of HN.out (show m < nv by omega)
          have hcu : wr.cell? ⟨b, o + m, none⟩ = some (.int .i64 u) := by
            obtain ⟨b', o', e, h⟩ := HX.out m u hu
            injection e with e; injection e with e1 e2
            subst e1; subst e2
            exact ((hbr.trans (hbm.mono hbr.size)).cell (cell_lt h)).trans h
          have hcv : wr.cell? ⟨b, o + J.toNat, none⟩ = some (.int .i64 v) := by
            rw [← HJ.out, Int.toNat_natCast]
            exact (hbm.cell (cell_lt hc0)).trans hc0
          have HU := Lib.hid hu; clear hu
          go_wp2_with fail
          have p0 := Past.cell hcu
          have p1 := Past.cell hcv
          refine wp_region_past (by kernel_rfl) (by kernel_rfl) ?_
          repeat (go_big_quiet_step (fail))
          refine wpQuiet_nil ?_
          rintro _ ⟨q, rfl⟩
          clear p0 p1 hcu hcv
          obtain ⟨w7, hb1⟩ := q
          dsimp only
          by_cases huv : u = v
          · have e1 : (u == v) = true := by simpa using huv
            have hmem : v ∈ vs.take j := by
              have hu := HU.out
              rw [huv] at hu
              rw [List.mem_take_iff_getElem]
              obtain ⟨h1, h2⟩ := List.getElem?_eq_some_iff.1 hu
              exact ⟨m, by omega, h2⟩
            have hbad : V = false := by rw [HST.out, HIN.out]; simp [hmem]
            subst hbad
            clear huv hmem
            go_wp2_with fail
            go_ret
            exact ⟨rfl, hbr.trans ((hbm.trans (hb1.mono hbm.size)).mono hbr.size)⟩
          · have e1 : (u == v) = false := by simpa using huv
            have HUV := Lib.hid huv; clear huv
            go_wp2_with fail
            go_roundw
            case rel => exact ⟨m + 1, by omega, by go_num, hbm.trans (hb1.mono hbm.size), Lib.hid (fun i u' hi hu' => by
              by_cases him : i < m
              · exact HQ.out i u' him hu'
              · have : i = m := by omega
                subst this
                have e := HU.out.symm.trans hu'
                cases e
                exact HUV.out)⟩
            case measure => simp [Go.RowKit.intOf]; omega
        · obtain rfl : m = j := by omega
          have hm2 : decide ((m : Int) < J) = false := by have := HJ.out; simp; omega
          have hnm : v ∉ vs.take m := fun hm => by
            rw [List.mem_take_iff_getElem] at hm
            obtain ⟨i, hi, e⟩ := hm
            exact HQ.out i v (by omega) (by rw [← e]; exact List.getElem?_eq_getElem (by omega)) rfl
          have hnext : V = vB x (vs.take (m + 1)) (vs.drop (m + 1)) := by
            rw [HST.out, HIN.out]
            have hjl := (List.getElem?_eq_some_iff.1 HV.out).1
            have ev := (List.getElem?_eq_some_iff.1 HV.out).2
            rw [List.take_succ_eq_append_getElem hjl, ev]
            simp [hnm]
          have HNX := Lib.hid hnext; clear hnext hnm
          have hw1 : IntKind.i64.wrap (J + 1) = J + 1 := by rw [wrapEq]; exact wrap_small (by omega) (by omega)
          go_wp2_with fail
          go_roundw
          case rel => exact ⟨m + 1, by omega, by rw [← HJ.out]; go_num, hbr.trans (hbm.mono hbr.size), HNX⟩
          case measure => have := HJ.out; simp [Go.RowKit.intOf]; omega
    · obtain rfl : j = nv := by omega
      have hgood : V = true := by rw [HP.out, drop_all HN.out (Nat.le_refl _), vB]
      subst hgood
      go_wp2_with fail
      go_ret
      exact ⟨rfl, hbr⟩

/-- what the document's Invert tells -/
def rvR (t : T) (vs : List Int) (n : Int) : Except Int T := if (mayB t && (decide (0 ≤ n) && decide (n ≤ 1000) && vB n [] vs)) = true then ivO (rn (rgo vs n) t 0) else .error 1
set_option maxRecDepth 100000 in
set_option maxHeartbeats 4000000 in
theorem rInvertC (t : T) (vs : List Int) (V0 : Option Addr) (nv c0v : Nat) (x : Int) (v : Value) (w : World) (hvt : Rd w t v) (hs : nd t ≤ 1048576) (hnv : vs.length = nv) (hnc : nv ≤ c0v) (hnm : c0v ≤ maxLen) (hx : ∀ i z, vs[i]? = some z → ∃ b o, V0 = some ⟨b, o, none⟩ ∧ w.cell? ⟨b, o + i, none⟩ = some (.int .i64 z)) :
    Calls Try.prog 12 #[v, .slice V0 nv c0v, .int .i64 x] w (IEnd (rvR t vs x) w) := by
  obtain ⟨k, h, At, nt, ct, rfl⟩ := hvt.full
  have HX := Lib.hid hx; clear hx
  have HN := Lib.hid hnv; clear hnv
  have HM := Lib.hid hnm; clear hnm
  have HC := Lib.hid hnc; clear hnc
  have HV := Lib.hid hvt; clear hvt
  have HS := Lib.hid hs; clear hs
  obtain ⟨W, hW⟩ : ∃ W, (w.alloc (.cells #[.int .i64 k, .int .i64 h, .slice At nt ct] 24)).alloc (.cells #[.int .i64 0, .int .i64 0, .slice none 0 0] 24) = W := ⟨_, rfl⟩
  have hb : Below w.heap.size w W := by rw [← hW]; exact ((Below.refl _ _).alloc (Nat.le_refl _) _).alloc (by simp) _
  have xT : Box W w.heap.size 24 #[.int .i64 k, .int .i64 h, .slice At nt ct] := by rw [← hW]; exact (Box.new _ _ _).alloc _
  have xR : Box W (w.heap.size + 1) 24 #[.int .i64 0, .int .i64 0, .slice none 0 0] := by rw [← hW]; exact (Box.new (w.alloc _) _ _).at (by simp)
  have HWW := Lib.hid hW; clear hW
  have HMY : Hid (Calls Try.prog 30 #[.agg #[.int .i64 k, .int .i64 h, .slice At nt ct]] W fun e w' => e = .returned (.bool (mayB t)) ∧ Below W.heap.size W w') := Lib.hid (refMay t _ _ (Rd.keep hb _ _ HV.out))
  obtain ⟨R, hR⟩ : ∃ R, R = rvR t vs x := ⟨_, rfl⟩
  rw [← hR]
  have HR := Lib.hid hR; clear hR
  go_enter Try.func12, Try.ntmps12
  go_wp2_with fail
  rw [HWW.out]
  clear HWW
  refine HMY.out.mono ?_
  generalize hq : mayB t = M at *
  rintro e w1 ⟨rfl, hb1⟩
  have HMB := Lib.hid hq; clear hq
  replace xT := xT.keep hb1 xT.lt
  replace xR := xR.keep hb1 xR.lt
  replace hb := hb.trans (hb1.mono hb.size)
  clear hb1 HMY
  go_wp2_with fail
  refine (rmaysC vs V0 nv c0v x w1 HN.out HC.out HM.out (fun i z hz => by obtain ⟨b, o, e, h⟩ := HX.out i z hz; exact ⟨b, o, e, (hb.cell (cell_lt h)).trans h⟩)).mono ?_
  generalize hq : (decide (0 ≤ x) && decide (x ≤ 1000) && vB x [] vs) = Q at *
  rintro e w2 ⟨rfl, hb1⟩
  have HQB := Lib.hid hq; clear hq
  replace xT := xT.keep hb1 xT.lt
  replace xR := xR.keep hb1 xR.lt
  replace hb := hb.trans (hb1.mono hb.size)
  clear hb1
  have lR := xR.lt
  have lT := xT.lt
  obtain ⟨c0, c1, c2⟩ := xT.three
  cases M
  · have hbad : R = .error 1 := by rw [HR.out, rvR, HMB.out]; rfl
    have HB := Lib.hid hbad; clear hbad
    obtain ⟨r0, r1, r2⟩ := xR.three
    have f0 := xR.frozen 0
    have f1 := xR.frozen 1
    have f2 := xR.frozen 2
    go_wp2_with fail
    refine bodyPost_ret (v := .tuple #[.agg #[.int .i64 0, .int .i64 0, .slice none 0 0], .int .i64 1]) (by simp [results, Try.results12, go_sem, r0, r1, r2]) rfl ?_
    exact .bad HB.out (below_set3 hb (by omega) _ _ _)
  cases Q
  · have hbad : R = .error 1 := by rw [HR.out, rvR, HQB.out, Bool.and_false]; rfl
    have HB := Lib.hid hbad; clear hbad
    obtain ⟨r0, r1, r2⟩ := xR.three
    have f0 := xR.frozen 0
    have f1 := xR.frozen 1
    have f2 := xR.frozen 2
    go_wp2_with fail
    refine bodyPost_ret (v := .tuple #[.agg #[.int .i64 0, .int .i64 0, .slice none 0 0], .int .i64 1]) (by simp [results, Try.results12, go_sem, r0, r1, r2]) rfl ?_
    exact .bad HB.out (below_set3 hb (by omega) _ _ _)
  have hgood : R = ivO (rn (rgo vs x) t 0) := by rw [HR.out, rvR, HMB.out, HQB.out]; rfl
  have HG := Lib.hid hgood; clear hgood
  have HRI := Lib.hid (rinvertC vs V0 nv c0v x HN.out HC.out HM.out t 0 _ w2 (fun i z hz => by obtain ⟨b, o, e, h⟩ := HX.out i z hz; exact ⟨b, o, e, (hb.cell (cell_lt h)).trans h⟩) (Rd.keep hb _ _ HV.out) HS.out)
  generalize rn (rgo vs x) t 0 = O at *
  go_wp2_with fail
  refine HRI.out.mono ?_
  rintro e w3 ⟨k3, h3, A3, n3, c3, bo, rfl, hout, hb1⟩
  have s2 : w.heap.size + 2 ≤ w2.heap.size := by omega
  replace xR := xR.keep hb1 lR
  replace hb := hb.trans (hb1.mono hb.size)
  have s3 := hb1.size
  have HOUT := Lib.hid hout; clear hout HRI hb1 c0 c1 c2 lT lR xT
  have lR := xR.lt
  obtain ⟨r0, r1, r2⟩ := xR.three
  have f0 := xR.frozen 0
  have f1 := xR.frozen 1
  have f2 := xR.frozen 2
  cases bo
  · have hno : O = none := by
      rcases HOUT.out with ⟨_, _, h, _⟩ | ⟨h, _, _⟩
      · cases h
      · exact h
    subst hno
    go_wp2_with fail
    refine bodyPost_ret (v := .tuple #[.agg #[.int .i64 0, .int .i64 0, .slice none 0 0], .int .i64 7]) (by simp [results, Try.results12, go_sem, r0, r1, r2, lR]) rfl ?_
    exact .bad HG.out ((below_set3 hb (by omega) _ _ _).alloc (by simp; omega) _)
  · obtain ⟨u, hu, hown⟩ : ∃ u, O = some u ∧ RdF (fun g => w2.heap.size ≤ g ∧ g < w3.heap.size) w3 u (.agg #[.int .i64 k3, .int .i64 h3, .slice A3 n3 c3]) := by
      rcases HOUT.out with ⟨u, h1, _, h3⟩ | ⟨_, h, _⟩
      · exact ⟨u, h1, h3⟩
      · cases h
    subst hu
    have HOW := Lib.hid hown; clear hown HOUT
    go_wp2_with fail
    refine bodyPost_ret (v := .tuple #[.agg #[.int .i64 k3, .int .i64 h3, .slice A3 n3 c3], .int .i64 0]) (by simp [results, Try.results12, go_sem, r0, r1, r2, lR]) rfl ?_
    have hR : R = .ok u := HG.out
    refine ⟨k3, h3, A3, n3, c3, by rw [hR]; rfl, ?_, (below_set3 hb (by omega) _ _ _).alloc (by simp; omega) _⟩
    rw [hR]
    have hr := RdF.move (ok' := fun b => w.heap.size ≤ b) (w' := (((w3.setCell ⟨w.heap.size + 1, 0, none⟩ (.int .i64 k3)).setCell ⟨w.heap.size + 1, 1, none⟩ (.int .i64 h3)).setCell ⟨w.heap.size + 1, 2, none⟩ (.slice A3 n3 c3)).alloc (.cells #[.int .i64 k3, .int .i64 h3, .slice A3 n3 c3] 24)) (fun g hg => (show w.heap.size ≤ g by omega)) (fun g hg hg' => (Below.heap_alloc _ _ _ (by simpa using hg')).trans (heap_other3 _ _ _ _ _ _ (by omega))) _ _ HOW.out
    exact hr
/-- the program and the document tell the same of a term with low Heads -/
theorem rv_iv {t : T} {vs : List Int} {n : Int} (hs : nd t ≤ 1048576) (hlow : lowB t = true) (hl : (vs.length : Int) ≤ 1000) : rvR t vs n = ivR t vs n := by
  unfold rvR ivR
  by_cases h1 : (decide (0 ≤ n) && decide (n ≤ 1000) && mayB t && vB n [] vs) = true
  · have h2 := h1
    simp only [Bool.and_eq_true, decide_eq_true_eq] at h2
    have ho := okT_of t ((mayB_iff hs).1 h2.1.2).1 hlow
    rw [if_pos (by simp [h2]), if_pos h1, rn_iv (M := 1099511627776) (g := igo vs n) (by omega) (fun x h0 hx => ⟨rgo_eq h0 (by omega) h2.1.1 (by omega), fun y hy => by have := igo_bd (M := 1099511627776) (by omega) hx h2.1.1.1 hy; omega⟩) t 0 ho (by omega) (by omega),
      rn_iv (M := 1099511627776) (g := igo vs n) (by omega) (fun x h0 hx => ⟨igW_eq h0 (by omega) h2.1.1 (by omega), fun y hy => by have := igo_bd (M := 1099511627776) (by omega) hx h2.1.1.1 hy; omega⟩) t 0 ho (by omega) (by omega)]
  · rw [if_neg h1, if_neg (fun h => h1 (by simp only [Bool.and_eq_true] at h ⊢; exact ⟨⟨h.2.1, h.1⟩, h.2.2⟩))]
end Go.Proofs.Ytdllbljjlaipoaa
