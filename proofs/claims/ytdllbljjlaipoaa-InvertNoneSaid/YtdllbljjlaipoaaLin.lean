/-
  The walk of the law InvertNone.
-/
import Derived.Test.YtdllbljjlaipoaaIi
import Derived.Test.YtdllbljjlaipoaaSn
import Derived.Test.YtdllbljjlaipoaaPc
import Derived.Test.YtdllbljjlaipoaaSa
namespace Go.Proofs.Ytdllbljjlaipoaa
open Go.ChangeShapes Go.WideShapes Go.ChangeAt Go.RowKit
set_option linter.unusedVariables false

/-- how Down's answer reads -/
def dnA (t : T) (n : Int) : Except Int T := ivO (dnX t n 0)
theorem ivR_nil {s d : Nat} {t : T} (k : Kn s d t) {n : Int} (hn : 0 ≤ n ∧ n ≤ 100) : ivR t [] n = dnA t n := by
  have hs : nd t ≤ 1048576 := by have := ((myB_iff t).1 k.my).2.1; omega
  have ho := okT_of t k.nod k.lo
  unfold ivR dnA
  rw [if_pos (by rw [mayB_my hs, k.my, decide_eq_true hn.1, decide_eq_true (p := n ≤ 1000) (by omega)]; rfl), rn_iv (M := 1099511627776) (g := igo [] n) (by omega) (fun x h0 hx => ⟨igW_eq h0 (by omega) (by omega) (by simp), fun y hy => by have := igo_bd (M := 1099511627776) (by omega) hx hn.1 hy; simp at this; omega⟩) t 0 ho (by omega) (by omega),
    iv_dn, dnX_eq (M := 1099511627776) (by omega) ho hs (by rw [mayB_my hs]; exact k.my) (by omega) (by omega)]
/-- Down's answer, as Invert's -/
theorem down_ends {o : Option T} {w w' : World} {e : Ending} (h : REnd o w e w') : ∃ k g A n c, e = .returned (.tuple #[.agg #[.int .i64 k, .int .i64 g, .slice A n c], .bool o.isSome]) ∧ RdF (fun b => w.heap.size ≤ b) w' (ivA (ivO o)) (.agg #[.int .i64 k, .int .i64 g, .slice A n c]) ∧ Below w.heap.size w w' := by
  obtain ⟨hb, ⟨t, v, rfl, rfl, how⟩ | ⟨rfl, rfl⟩⟩ := h
  · obtain ⟨k, g, A, n, c, rfl⟩ := how.full
    exact ⟨k, g, A, n, c, rfl, how.rdF, hb⟩
  · exact ⟨0, 0, none, 0, 0, rfl, rd_nought, hb⟩
set_option maxRecDepth 100000 in
set_option maxHeartbeats 8000000 in
theorem invertNoneC (t : T) (n : Int) (v : Value) (w : World) (hvt : Rd w t v) :
    Calls Try.prog 7 #[v, .int .i64 n] w fun e w' => e = .returned (.bool true) ∧ Below w.heap.size w w' := by
  obtain ⟨kt, ht, At, nt, ct, rfl⟩ := hvt.full
  have HVt := Lib.hid hvt; clear hvt
  obtain ⟨W0, hW0⟩ : ∃ W0, (w.alloc (.cells #[.int .i64 kt, .int .i64 ht, .slice At nt ct] 24)) = W0 := ⟨_, rfl⟩
  have hb : Below w.heap.size w W0 := by rw [← hW0]; exact ((Below.refl _ _).alloc (Nat.le_refl _) _)
  have bxt : Box W0 (w.heap.size) 24 #[.int .i64 kt, .int .i64 ht, .slice At nt ct] := by rw [← hW0]; exact (Box.new w _ _)
  replace HVt := Lib.hid (Rd.keep hb _ _ HVt.out)
  have HW0 := Lib.hid hW0; clear hW0
  go_enter Try.func7, Try.ntmps7
  go_wp2_with fail
  rw [HW0.out]
  clear HW0
  refine (awakeI _).mono ?_
  rintro e w1 ⟨rfl, hb1⟩
  replace bxt := bxt.keep hb1 bxt.lt
  replace HVt := Lib.hid (Rd.keep hb1 _ _ HVt.out)
  replace hb := hb.trans (hb1.mono hb.size)
  clear hb1
  obtain ⟨bxt0, bxt1, bxt2⟩ := bxt.three
  have bxtl := bxt.lt
  go_wp2_with fail
  refine (refLight t 3000 60 _ _ HVt.out).mono ?_
  have HLt : Hid (ltB t 3000 60 = true → ltB t 3000 60 = true) := Lib.hid fun e => e
  generalize hqt : ltB t 3000 60 = Rt at *
  rintro e w2t ⟨rfl, hb1⟩
  have HQt := Lib.hid hqt; clear hqt HLt
  clear bxt0 bxt1 bxt2 bxtl
  replace bxt := bxt.keep hb1 bxt.lt
  replace HVt := Lib.hid (Rd.keep hb1 _ _ HVt.out)
  replace hb := hb.trans (hb1.mono hb.size)
  clear hb1
  obtain ⟨bxt0, bxt1, bxt2⟩ := bxt.three
  have bxtl := bxt.lt
  cases Rt
  · go_wp2_with fail
    go_ret
    exact ⟨rfl, hb⟩
  go_wp2_with fail
  refine (myC t _ _ HVt.out).mono ?_
  generalize hqt : myB t = Mt at *
  rintro e w3t ⟨rfl, hb1⟩
  have HMt := Lib.hid hqt; clear hqt
  clear bxt0 bxt1 bxt2 bxtl
  replace bxt := bxt.keep hb1 bxt.lt
  replace HVt := Lib.hid (Rd.keep hb1 _ _ HVt.out)
  replace hb := hb.trans (hb1.mono hb.size)
  clear hb1
  obtain ⟨bxt0, bxt1, bxt2⟩ := bxt.three
  have bxtl := bxt.lt
  cases Mt
  · go_wp2_with fail
    go_ret
    exact ⟨rfl, hb⟩
  have KNt : Hid (Kn 3000 60 t) := Lib.hid (kn_of HQt.out HMt.out); clear HQt HMt
  by_cases x1 : n < 0
  · have dx1 : decide (n < 0) = true := by simpa using x1
    go_wp2_with fail
    go_ret
    exact ⟨rfl, hb⟩
  have dx1 : decide (n < 0) = false := by simpa using x1
  by_cases x2 : 100 < n
  · have dx2 : decide (100 < n) = true := by simpa using x2
    go_wp2_with fail
    go_ret
    exact ⟨rfl, hb⟩
  have dx2 : decide (100 < n) = false := by simpa using x2
  have hs : nd t ≤ 1048576 := by have := ((myB_iff t).1 KNt.out.my).2.1; omega
  have HS := Lib.hid hs; clear hs
  have HI1 := Lib.hid (InvertC t [] none 0 0 n _ w3t HVt.out HS.out rfl (Nat.le_refl _) (Nat.zero_le _) (fun i z h => by simp at h))
  rw [ivR_nil KNt.out (by omega), dnA] at HI1
  have HD := Lib.hid fun (W : World) (h : Below w3t.heap.size w3t W) => downC t n 0 _ W (Rd.keep h _ _ HVt.out) HS.out
  generalize dnX t n 0 = O at *
  go_wp2_with fail
  refine HI1.out.mono ?_
  clear HI1
  rintro e w4 ⟨ka, ha, Aa, na, ca, rfl, hra, hb1⟩
  have HVa := Lib.hid (RdF.rd _ _ hra); clear hra
  have hbA : Below w4.heap.size w4 (w4.alloc (.cells #[.int .i64 ka, .int .i64 ha, .slice Aa na ca] 24)) := (Below.refl _ _).alloc (Nat.le_refl _) _
  have HD4 := Lib.hid (HD.out _ (hb1.trans (hbA.mono hb1.size)))
  clear HD
  clear bxt0 bxt1 bxt2 bxtl
  replace bxt := bxt.keep hb1 bxt.lt
  replace HVt := Lib.hid (Rd.keep hb1 _ _ HVt.out)
  replace hb := hb.trans (hb1.mono hb.size)
  clear hb1
  obtain ⟨bxt0, bxt1, bxt2⟩ := bxt.three
  have bxtl := bxt.lt
  have bxa := Box.new w4 24 #[.int .i64 ka, .int .i64 ha, .slice Aa na ca]
  go_wp2_with fail
  refine HD4.out.mono ?_
  clear HD4
  generalize w4.alloc (.cells #[.int .i64 ka, .int .i64 ha, .slice Aa na ca] 24) = W5 at *
  intro e w5 hE
  obtain ⟨kq, hq, Aq, nq, cq, rfl, hrq, hb1⟩ := down_ends hE
  clear hE
  have HVq := Lib.hid (RdF.rd _ _ hrq); clear hrq
  replace bxa := bxa.keep hb1 bxa.lt
  replace hb1 := hbA.trans (hb1.mono hbA.size)
  replace HVa := Lib.hid (Rd.keep hb1 _ _ HVa.out)
  replace hb := hb.trans (hb1.mono hb.size)
  clear bxt HVt hb1 hbA
  clear bxt0 bxt1 bxt2 bxtl
  have hbB : Below w5.heap.size w5 (w5.alloc (.cells #[.int .i64 kq, .int .i64 hq, .slice Aq nq cq] 24)) := (Below.refl _ _).alloc (Nat.le_refl _) _
  have HSA := Lib.hid (termSame (ivA (ivO O)) (ivA (ivO O)) _ _ (w5.alloc (.cells #[.int .i64 kq, .int .i64 hq, .slice Aq nq cq] 24)) (Rd.keep hbB _ _ HVa.out) (Rd.keep hbB _ _ HVq.out))
  obtain ⟨a0, a1, a2⟩ := bxa.three
  have la := bxa.lt
  have hbw := hb.trans (hbB.mono hb.size)
  clear hb hbB
  cases O
  all_goals
    simp only [ivE, ivO, ivA, Option.isSome_none, Option.isSome_some] at HSA ⊢
    go_wp2_with fail
    refine HSA.out.mono ?_
    rw [sam_refl]
    rintro e w6 ⟨rfl, hb1⟩
    go_wp2_with fail
    go_ret
    exact ⟨rfl, hbw.trans (hb1.mono hbw.size)⟩
end Go.Proofs.Ytdllbljjlaipoaa
