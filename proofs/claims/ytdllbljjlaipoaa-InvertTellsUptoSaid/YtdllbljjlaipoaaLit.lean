/-
  The walk of the law InvertTells.
-/
import Derived.Test.YtdllbljjlaipoaaIh
import Derived.Test.YtdllbljjlaipoaaIi
import Derived.Test.YtdllbljjlaipoaaSn
namespace Go.Proofs.Ytdllbljjlaipoaa
open Go.ChangeShapes Go.WideShapes Go.ChangeAt Go.RowKit
set_option linter.unusedVariables false

set_option maxRecDepth 100000 in
set_option maxHeartbeats 8000000 in
theorem invertTellsC (t : T) (vs : List Int) (V0 : Option Addr) (nv c0v : Nat) (n : Int) (v : Value) (w : World) (hvt : Rd w t v) (hs : nd t ≤ 1048576) (hnv : vs.length = nv) (hnc : nv ≤ c0v) (hnm : c0v ≤ maxLen) (hx : ∀ i z, vs[i]? = some z → ∃ b o, V0 = some ⟨b, o, none⟩ ∧ w.cell? ⟨b, o + i, none⟩ = some (.int .i64 z)) :
    Calls Try.prog 3 #[v, .slice V0 nv c0v, .int .i64 n] w fun e w' => e = .returned (.bool true) ∧ Below w.heap.size w w' := by
  have HS := Lib.hid hs; clear hs
  have HNV := Lib.hid hnv; clear hnv
  have HNC := Lib.hid hnc
  have HNM := Lib.hid hnm
  have HNX : Hid (∀ W, Below w.heap.size w W → ∀ i z, vs[i]? = some z → ∃ b o, V0 = some ⟨b, o, none⟩ ∧ W.cell? ⟨b, o + i, none⟩ = some (.int .i64 z)) := Lib.hid fun W hb i z hz => by
    obtain ⟨b, o, e, h⟩ := hx i z hz
    exact ⟨b, o, e, (hb.cell (cell_lt h)).trans h⟩
  clear hx
  unfold maxLen at hnm
  obtain ⟨kt, ht, At, nt, ct, rfl⟩ := hvt.full
  have HVt := Lib.hid hvt; clear hvt
  obtain ⟨W0, hW0⟩ : ∃ W0, (w.alloc (.cells #[.int .i64 kt, .int .i64 ht, .slice At nt ct] 24)) = W0 := ⟨_, rfl⟩
  have hb : Below w.heap.size w W0 := by rw [← hW0]; exact ((Below.refl _ _).alloc (Nat.le_refl _) _)
  have bxt : Box W0 (w.heap.size) 24 #[.int .i64 kt, .int .i64 ht, .slice At nt ct] := by rw [← hW0]; exact (Box.new w _ _)
  replace HVt := Lib.hid (Rd.keep hb _ _ HVt.out)
  have HW0 := Lib.hid hW0; clear hW0
  go_enter Try.func3, Try.ntmps3
  go_wp2_with fail
  rw [HW0.out]
  clear HW0
  refine (awakeI _).mono ?_
  rintro e w1 ⟨rfl, hb1⟩
  replace bxt := bxt.keep hb1 bxt.lt
  replace HVt := Lib.hid (Rd.keep hb1 _ _ HVt.out)
  replace hb := hb.trans (hb1.mono hb.size)
  clear hb1
  obtain ⟨bxt0, bxt1, bxt2⟩ := bxt.three
  have bxtl := bxt.lt
  go_wp2_with fail
  refine (refLight t 5000 200 _ _ HVt.out).mono ?_
  have HLt : Hid (ltB t 5000 200 = true → ltB t 5000 200 = true) := Lib.hid fun e => e
  generalize hqt : ltB t 5000 200 = Rt at *
  rintro e w2t ⟨rfl, hb1⟩
  have HQt := Lib.hid hqt; clear hqt HLt
  clear bxt0 bxt1 bxt2 bxtl
  replace bxt := bxt.keep hb1 bxt.lt
  replace HVt := Lib.hid (Rd.keep hb1 _ _ HVt.out)
  replace hb := hb.trans (hb1.mono hb.size)
  clear hb1
  obtain ⟨bxt0, bxt1, bxt2⟩ := bxt.three
  have bxtl := bxt.lt
  cases Rt
  · go_wp2_with fail
    go_ret
    exact ⟨rfl, hb⟩
  by_cases x1 : (60 : Int) < nv
  · have dx1 : decide ((60 : Int) < nv) = true := by simpa using x1
    go_wp2_with fail
    go_ret
    exact ⟨rfl, hb⟩
  have dx1 : decide ((60 : Int) < nv) = false := by simpa using x1
  have hl60 : (vs.length : Int) ≤ 1000 := by have := HNV.out; omega
  have hrv := Lib.hid (rv_iv (n := n) HS.out (low_of HQt.out) hl60)
  have HI1 := Lib.hid (InvertC t vs V0 nv c0v n _ _ HVt.out HS.out HNV.out HNC.out HNM.out (HNX.out _ hb))
  go_wp2_with fail
  refine HI1.out.mono ?_
  clear HI1
  rintro e w4 ⟨ka, ha, Aa, na, ca, rfl, hra, hb1⟩
  have HVa := Lib.hid (RdF.rd _ _ hra); clear hra
  clear bxt0 bxt1 bxt2 bxtl
  replace bxt := bxt.keep hb1 bxt.lt
  replace HVt := Lib.hid (Rd.keep hb1 _ _ HVt.out)
  replace hb := hb.trans (hb1.mono hb.size)
  clear hb1
  obtain ⟨bxt0, bxt1, bxt2⟩ := bxt.three
  have bxtl := bxt.lt
  have HI2 := Lib.hid (fun (W : World) (h : Below w4.heap.size w4 W) => rInvertC t vs V0 nv c0v n _ W (Rd.keep h _ _ HVt.out) HS.out HNV.out HNC.out HNM.out (HNX.out _ (hb.trans (h.mono hb.size))))
  rw [hrv.out] at HI2
  generalize ivR t vs n = R at *
  have hbA : Below w4.heap.size w4 (w4.alloc (.cells #[.int .i64 ka, .int .i64 ha, .slice Aa na ca] 24)) := (Below.refl _ _).alloc (Nat.le_refl _) _
  go_wp2_with fail
  refine (HI2.out _ hbA).mono ?_
  clear HI2
  have bxa := Box.new w4 24 #[.int .i64 ka, .int .i64 ha, .slice Aa na ca]
  generalize w4.alloc (.cells #[.int .i64 ka, .int .i64 ha, .slice Aa na ca] 24) = W5 at *
  rintro e w5 ⟨kq, hq, Aq, nq, cq, rfl, hrb, hb1⟩
  have bxa' := bxa.keep hb1 bxa.lt
  replace hb1 := hbA.trans (hb1.mono hbA.size)
  clear bxa hbA
  have HVb := Lib.hid (RdF.rd _ _ hrb); clear hrb
  clear bxt0 bxt1 bxt2 bxtl
  replace bxt := bxt.keep hb1 bxt.lt
  replace HVt := Lib.hid (Rd.keep hb1 _ _ HVt.out)
  replace HVa := Lib.hid (Rd.keep hb1 _ _ HVa.out)
  replace hb := hb.trans (hb1.mono hb.size)
  clear hb1
  have hbB : Below w5.heap.size w5 (w5.alloc (.cells #[.int .i64 kq, .int .i64 hq, .slice Aq nq cq] 24)) := (Below.refl _ _).alloc (Nat.le_refl _) _
  have HSM := Lib.hid (refSame (ivA R) (ivA R) _ _ _ (Rd.keep hbB _ _ HVa.out) (Rd.keep hbB _ _ HVb.out))
  obtain ⟨a0, a1, a2⟩ := bxa'.three
  have la := bxa'.lt
  have hbw := hb.trans (hbB.mono hb.size)
  generalize ivE R = E at *
  have hbe : (E == E) = true := by simp
  clear hb hbB
  go_wp2_with fail
  refine HSM.out.mono ?_
  rw [sam_refl]
  rintro e w6 ⟨rfl, hb1⟩
  go_wp2_with fail
  go_ret
  exact ⟨rfl, hbw.trans (hb1.mono hbw.size)⟩
end Go.Proofs.Ytdllbljjlaipoaa
