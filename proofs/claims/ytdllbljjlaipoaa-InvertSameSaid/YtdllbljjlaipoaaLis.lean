/-
  The walk of the law InvertSame.
-/
import Derived.Test.YtdllbljjlaipoaaIi
import Derived.Test.YtdllbljjlaipoaaSn
import Derived.Test.YtdllbljjlaipoaaOa
import Derived.Test.YtdllbljjlaipoaaPc
import Derived.Test.YtdllbljjlaipoaaSa
namespace Go.Proofs.Ytdllbljjlaipoaa
open Go.ChangeShapes Go.WideShapes Go.ChangeAt Go.RowKit
set_option linter.unusedVariables false

/-- the numbers from m - 1 down to 0 -/
def dwn (m : Nat) : List Int := (List.range m).map fun (i : Nat) => (m : Int) - 1 - (i : Int)
theorem dwn_len (m : Nat) : (dwn m).length = m := by simp [dwn]
theorem dwn_at {m i : Nat} {x : Int} (h : (dwn m)[i]? = some x) : i < m ∧ x = (m : Int) - 1 - i := by
  have hi : i < m := by have := (List.getElem?_eq_some_iff.1 h).1; rwa [dwn_len] at this
  refine ⟨hi, ?_⟩
  simp only [dwn, List.getElem?_map, List.getElem?_range hi, Option.map_some, Option.some.injEq] at h
  exact h.symm
theorem dwn_take {m j : Nat} (h : j < m) : (dwn m).take j ++ [(m : Int) - 1 - j] = (dwn m).take (j + 1) := by
  have hl : j < (dwn m).length := by rw [dwn_len]; exact h
  rw [List.take_succ_eq_append_getElem hl, (dwn_at (List.getElem?_eq_getElem hl)).2]
theorem dwn_good (m : Nat) : vB m [] (dwn m) = true := by
  rw [vB_top]
  refine ⟨fun v hv => ?_, ?_⟩
  · obtain ⟨i, hi⟩ := List.getElem?_of_mem hv
    obtain ⟨h1, rfl⟩ := dwn_at hi
    omega
  · rw [List.nodup_iff_pairwise_ne, List.pairwise_iff_getElem]
    intro i j hi hj hij
    rw [(dwn_at (List.getElem?_eq_getElem hi)).2, (dwn_at (List.getElem?_eq_getElem hj)).2]
    omega
theorem dwn_igo (m : Nat) (x : Int) (hx : 0 ≤ x) : igo (dwn m) m x = some x := by
  unfold igo
  by_cases h : (m : Int) ≤ x
  · rw [if_pos h, dwn_len]
    congr 1; omega
  · rw [if_neg h]
    have hl : m - 1 - x.toNat < (dwn m).length := by rw [dwn_len]; omega
    have e := (dwn_at (List.getElem?_eq_getElem hl)).2
    have := at_pls (x := x) (m - 1 - x.toNat) (vB_top.1 (dwn_good m)).2 (by rw [List.getElem?_eq_getElem hl, e]; congr 1; omega)
    rw [this, dwn_len]
    congr 1; omega
theorem nil_igo (x : Int) (hx : 0 ≤ x) : igo [] 0 x = some x := by
  unfold igo
  rw [if_pos hx]
  simp
/-- what may be is itself -/
theorem ivR_self {s d : Nat} {t : T} (k : Kn s d t) {vs : List Int} {n : Int} (hn : 0 ≤ n ∧ n ≤ 1000) (hl : (vs.length : Int) ≤ 1000) (hv : vB n [] vs = true) (hg : ∀ x, 0 ≤ x → igo vs n x = some x) : ivR t vs n = .ok t := by
  have hs : nd t ≤ 1048576 := by have := ((myB_iff t).1 k.my).2.1; omega
  have ho := okT_of t k.nod k.lo
  unfold ivR
  rw [if_pos (by rw [mayB_my hs, k.my, hv, decide_eq_true hn.1, decide_eq_true hn.2]; rfl), rn_iv (M := 1099511627776) (g := igo vs n) (by omega) (fun x h0 hx => ⟨igW_eq h0 (by omega) hn (by omega), fun y hy => by have := igo_bd (M := 1099511627776) (by omega) hx hn.1 hy; omega⟩) t 0 ho (by omega) (by omega),
    iv_id (M := 1099511627776) (fun x h0 _ => hg x h0) t 0 (by omega) ho]
  rfl
set_option maxRecDepth 100000 in
set_option maxHeartbeats 8000000 in
theorem invertSameC (t : T) (n : Int) (v : Value) (w : World) (hvt : Rd w t v) :
    Calls Try.prog 6 #[v, .int .i64 n] w fun e w' => e = .returned (.bool true) ∧ Below w.heap.size w w' := by
  obtain ⟨kt, ht, At, nt, ct, rfl⟩ := hvt.full
  have HVt := Lib.hid hvt; clear hvt
  obtain ⟨W0, hW0⟩ : ∃ W0, (w.alloc (.cells #[.int .i64 kt, .int .i64 ht, .slice At nt ct] 24)) = W0 := ⟨_, rfl⟩
  have hb : Below w.heap.size w W0 := by rw [← hW0]; exact ((Below.refl _ _).alloc (Nat.le_refl _) _)
  have bxt : Box W0 (w.heap.size) 24 #[.int .i64 kt, .int .i64 ht, .slice At nt ct] := by rw [← hW0]; exact (Box.new w _ _)
  replace HVt := Lib.hid (Rd.keep hb _ _ HVt.out)
  have HW0 := Lib.hid hW0; clear hW0
  go_enter Try.func6, Try.ntmps6
  go_wp2_with fail
  rw [HW0.out]
  clear HW0
  refine (awakeI _).mono ?_
  rintro e w1 ⟨rfl, hb1⟩
  replace bxt := bxt.keep hb1 bxt.lt
  replace HVt := Lib.hid (Rd.keep hb1 _ _ HVt.out)
  replace hb := hb.trans (hb1.mono hb.size)
  clear hb1
  obtain ⟨bxt0, bxt1, bxt2⟩ := bxt.three
  have bxtl := bxt.lt
  go_wp2_with fail
  refine (refLight t 3000 60 _ _ HVt.out).mono ?_
  have HLt : Hid (ltB t 3000 60 = true → ltB t 3000 60 = true) := Lib.hid fun e => e
  generalize hqt : ltB t 3000 60 = Rt at *
  rintro e w2t ⟨rfl, hb1⟩
  have HQt := Lib.hid hqt; clear hqt HLt
  clear bxt0 bxt1 bxt2 bxtl
  replace bxt := bxt.keep hb1 bxt.lt
  replace HVt := Lib.hid (Rd.keep hb1 _ _ HVt.out)
  replace hb := hb.trans (hb1.mono hb.size)
  clear hb1
  obtain ⟨bxt0, bxt1, bxt2⟩ := bxt.three
  have bxtl := bxt.lt
  cases Rt
  · go_wp2_with fail
    go_ret
    exact ⟨rfl, hb⟩
  go_wp2_with fail
  refine (myC t _ _ HVt.out).mono ?_
  generalize hqt : myB t = Mt at *
  rintro e w3t ⟨rfl, hb1⟩
  have HMt := Lib.hid hqt; clear hqt
  clear bxt0 bxt1 bxt2 bxtl
  replace bxt := bxt.keep hb1 bxt.lt
  replace HVt := Lib.hid (Rd.keep hb1 _ _ HVt.out)
  replace hb := hb.trans (hb1.mono hb.size)
  clear hb1
  obtain ⟨bxt0, bxt1, bxt2⟩ := bxt.three
  have bxtl := bxt.lt
  cases Mt
  · go_wp2_with fail
    go_ret
    exact ⟨rfl, hb⟩
  have KNt : Hid (Kn 3000 60 t) := Lib.hid (kn_of HQt.out HMt.out); clear HQt HMt
  by_cases x1 : n < 0
  · have dx1 : decide (n < 0) = true := by simpa using x1
    go_wp2_with fail
    go_ret
    exact ⟨rfl, hb⟩
  have dx1 : decide (n < 0) = false := by simpa using x1
  by_cases x2 : 100 < n
  · have dx2 : decide (100 < n) = true := by simpa using x2
    go_wp2_with fail
    go_ret
    exact ⟨rfl, hb⟩
  have dx2 : decide (100 < n) = false := by simpa using x2
  obtain ⟨m, rfl⟩ : ∃ m : Nat, n = m := ⟨n.toNat, by omega⟩
  have hm100 : m ≤ 100 := by omega
  have hs : nd t ≤ 1048576 := by have := ((myB_iff t).1 KNt.out.my).2.1; omega
  have HS := Lib.hid hs; clear hs
  have HE1 := Lib.hid (ivR_self KNt.out (vs := dwn m) (n := m) (by omega) (by rw [dwn_len]; omega) (dwn_good m) (dwn_igo m))
  have HE2 := Lib.hid (ivR_self KNt.out (vs := []) (n := 0) (by omega) (by simp) rfl nil_igo)
  have hw1 : IntKind.i64.wrap ((m : Int) - 1) = (m : Int) - 1 := by rw [wrapEq]; exact wrap_small (by omega) (by omega)
  obtain ⟨i0, hi, hz0, hz1, hz2⟩ := info_parts infoI
  clear bxt0 bxt1 bxt2 bxtl
  go_wp2_with fail
  obtain ⟨wz, hwz⟩ : ∃ wz, wz = w3t := ⟨_, rfl⟩
  rw [← hwz] at hb bxt HVt ⊢
  clear hwz
  go_loopw [7, 8] (fun q i wr => ∃ (j : Nat) (I : Int), j ≤ m ∧ i = .int .i64 I ∧ Hid (I = (m : Int) - 1 - j) ∧ Hid (wr.ownsRow wz.heap.size 3 1 q j (((dwn m).take j).map (Value.int .i64))) ∧ Hid (Below wz.heap.size wz wr)) (fun _ i _ => (Go.RowKit.intOf i + 1).toNat)
  case atStart => exact ⟨0, _, Nat.zero_le _, rfl, Lib.hid (by omega), Lib.hid (World.ownsRow_nil _ _ _ _), Lib.hid (Below.refl _ _)⟩
  case round =>
    obtain ⟨j, I, hj, rfl, HII, HR, HBR⟩ := hrel
    by_cases hlt : j < m
    · have hi0 : 0 ≤ I := by have := HII.out; omega
      have hi2 : I ≤ 200 := by have := HII.out; omega
      have hge : decide (0 ≤ I) = true := by simpa using hi0
      have hw2 : IntKind.i64.wrap (I - 1) = I - 1 := by rw [wrapEq]; exact wrap_small (by omega) (by omega)
      have hgm : j + 1 ≤ maxLen := by unfold maxLen; omega
      have hgl : (j + 1) * 8 ≤ 140737488355328 := by omega
      have hrow := HR.out
      have hsz := HBR.out.size
      go_wp2_with (first
        | (at_builtin; refine wpList_append_own _ rfl _ _ 25 rfl wz.heap.size 3 i0 (.int .i64 0) 1 8 Try.underlying25 hi hz0 hz1 hz2 rfl (by decide) _ _ _ rfl (hrow.alloc _) ⟨wr.heap.size, 0, none⟩ 1 1 [.int .i64 I] rfl rfl (cell_one_new _ _ _) (ints_oneCell .i64 [I]) hgm hgl (by simp; omega) ?_; intro v' w4 hown' hg4 hnil4))
      have hrA := hrow.alloc (.cells #[.int .i64 I] 3)
      refine ⟨⟨j + 1, I - 1, by omega, rfl, Lib.hid (by have := HII.out; omega), Lib.hid ?_, Lib.hid ?_⟩, by simp [Go.RowKit.intOf]; omega⟩
      · rw [← dwn_take hlt, ← HII.out, List.map_append]; exact hown'
      · exact (HBR.out.alloc HBR.out.size _).grown hg4 (by have := HBR.out.size; simp; omega) (fun i hi => (hrA.lt i hi).1)
    · have hge : decide (0 ≤ I) = false := by have := HII.out; simp; omega
      obtain rfl : j = m := by omega
      have hrow := HR.out
      rw [List.take_of_length_le (by rw [dwn_len]; exact Nat.le_refl _)] at hrow
      have hns : Ns wr _ (dwn j) := Ns.of_row (by rw [dwn_len]; exact hrow)
      obtain ⟨A9, c9, hq9, hc9, hm9, hx9⟩ := hns
      rw [dwn_len] at hq9 hc9
      subst hq9
      have hbz := HBR.out
      replace bxt := bxt.keep hbz bxt.lt
      replace HVt := Lib.hid (Rd.keep hbz _ _ HVt.out)
      have hbw := hb.trans (hbz.mono hb.size)
      have HI1 := Lib.hid (InvertC t (dwn j) A9 j c9 j _ wr HVt.out HS.out (dwn_len j) hc9 hm9 hx9)
      rw [HE1.out] at HI1
      clear hrow hx9 HR HBR hbz hb HII hi hz0 hz1 hz2 i0
      obtain ⟨t0, t1, t2⟩ := bxt.three
      have lt := bxt.lt
      go_wp2_with fail
      refine HI1.out.mono ?_
      clear HI1
      rintro e w4 ⟨ka, ha, Aa, na, ca, rfl, hra, hb1⟩
      simp only [ivA, ivE] at hra ⊢
      have HVa := Lib.hid (RdF.rd _ _ hra); clear hra
      replace bxt := bxt.keep hb1 bxt.lt
      replace HVt := Lib.hid (Rd.keep hb1 _ _ HVt.out)
      replace hbw := hbw.trans (hb1.mono hbw.size)
      clear hb1 t0 t1 t2 lt
      obtain ⟨t0, t1, t2⟩ := bxt.three
      have lt := bxt.lt
      have bxa := Box.new w4 24 #[.int .i64 ka, .int .i64 ha, .slice Aa na ca]
      have hbA : Below w4.heap.size w4 (w4.alloc (.cells #[.int .i64 ka, .int .i64 ha, .slice Aa na ca] 24)) := (Below.refl _ _).alloc (Nat.le_refl _) _
      have HI2 := Lib.hid (InvertC t [] none 0 0 0 _ (w4.alloc (.cells #[.int .i64 ka, .int .i64 ha, .slice Aa na ca] 24)) (Rd.keep hbA _ _ HVt.out) HS.out rfl (Nat.le_refl _) (Nat.zero_le _) (fun i z h => by simp at h))
      rw [HE2.out] at HI2
      go_wp2_with fail
      refine HI2.out.mono ?_
      clear HI2
      generalize w4.alloc (.cells #[.int .i64 ka, .int .i64 ha, .slice Aa na ca] 24) = W5 at *
      rintro e w5 ⟨kq, hq, Aq, nq, cq, rfl, hrq, hb1⟩
      simp only [ivA, ivE] at hrq ⊢
      have HVq := Lib.hid (RdF.rd _ _ hrq); clear hrq
      replace bxa := bxa.keep hb1 bxa.lt
      replace hb1 := hbA.trans (hb1.mono hbA.size)
      replace bxt := bxt.keep hb1 bxt.lt
      replace HVt := Lib.hid (Rd.keep hb1 _ _ HVt.out)
      replace HVa := Lib.hid (Rd.keep hb1 _ _ HVa.out)
      replace hbw := hbw.trans (hb1.mono hbw.size)
      clear hb1 hbA t0 t1 t2 lt
      have hbB : Below w5.heap.size w5 (w5.alloc (.cells #[.int .i64 kq, .int .i64 hq, .slice Aq nq cq] 24)) := (Below.refl _ _).alloc (Nat.le_refl _) _
      have HSA := Lib.hid (termSame t t _ _ (w5.alloc (.cells #[.int .i64 kq, .int .i64 hq, .slice Aq nq cq] 24)) (Rd.keep hbB _ _ HVa.out) (Rd.keep hbB _ _ HVt.out))
      obtain ⟨t0, t1, t2⟩ := bxt.three
      obtain ⟨a0, a1, a2⟩ := bxa.three
      have lt := bxt.lt
      have la := bxa.lt
      go_wp2_with fail
      refine HSA.out.mono ?_
      clear HSA
      rw [sam_refl]
      have bxq := Box.new w5 24 #[.int .i64 kq, .int .i64 hq, .slice Aq nq cq]
      generalize w5.alloc (.cells #[.int .i64 kq, .int .i64 hq, .slice Aq nq cq] 24) = W6 at *
      rintro e w6 ⟨rfl, hb1⟩
      replace bxq := bxq.keep hb1 bxq.lt
      replace hb1 := hbB.trans (hb1.mono hbB.size)
      replace bxt := bxt.keep hb1 bxt.lt
      replace HVt := Lib.hid (Rd.keep hb1 _ _ HVt.out)
      replace HVq := Lib.hid (Rd.keep hb1 _ _ HVq.out)
      replace hbw := hbw.trans (hb1.mono hbw.size)
      clear hb1 hbB t0 t1 t2 a0 a1 a2 lt la
      obtain ⟨t0, t1, t2⟩ := bxt.three
      obtain ⟨q0, q1, q2⟩ := bxq.three
      go_wp2_with fail
      refine (termSame t t _ _ _ HVq.out HVt.out).mono ?_
      rw [sam_refl]
      rintro e w7 ⟨rfl, hb1⟩
      go_wp2_with fail
      go_ret
      exact ⟨rfl, hbw.trans (hb1.mono hbw.size)⟩
end Go.Proofs.Ytdllbljjlaipoaa
