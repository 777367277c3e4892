/-
  The walk of the law TermSame.
-/
import Derived.Test.YtlcoadbeiaiioaaOw
import Derived.Test.YtlcoadbeiaiioaaLa
namespace Go.Proofs.Ytlcoadbeiaiioaa
open Go.ChangeShapes Go.WideShapes Go.ChangeAt Go.RowKit
set_option linter.unusedVariables false

set_option maxRecDepth 100000 in
set_option maxHeartbeats 8000000 in
theorem termSameC (t u : T) (v v' : Value) (w : World) (hv : Rd w t v) (hv' : Rd w u v') (hs : wd t ≤ 3518437208780) :
    Calls Try.prog 4 #[v, v'] w fun e w' => e = .returned (.bool true) ∧ Below w.heap.size w w' := by
  obtain ⟨k, h, A, n, c, rfl⟩ := hv.full
  obtain ⟨k', h', A', n', c', rfl⟩ := hv'.full
  have HV := Lib.hid hv; clear hv
  have HV' := Lib.hid hv'; clear hv'
  obtain ⟨W, hW⟩ : ∃ W, (w.alloc (.cells #[.int .i64 k, .int .i64 h, .slice A n c] 24)).alloc (.cells #[.int .i64 k', .int .i64 h', .slice A' n' c'] 24) = W := ⟨_, rfl⟩
  have hb : Below w.heap.size w W := by rw [← hW]; exact ((Below.refl _ _).alloc (Nat.le_refl _) _).alloc (by simp) _
  have bx : Box W w.heap.size 24 #[.int .i64 k, .int .i64 h, .slice A n c] := by rw [← hW]; exact (Box.new _ _ _).alloc _
  have by' : Box W (w.heap.size + 1) 24 #[.int .i64 k', .int .i64 h', .slice A' n' c'] := by rw [← hW]; exact (Box.new (w.alloc _) _ _).at (by simp)
  have HWW := Lib.hid hW; clear hW
  go_enter Try.func4, Try.ntmps4
  go_wp2_with fail
  rw [HWW.out]
  clear HWW
  refine (awakeC _).mono ?_
  rintro e w1 ⟨rfl, hb1⟩
  have bx := bx.keep hb1 bx.lt
  have by' := by'.keep hb1 by'.lt
  have hb := hb.trans (hb1.mono hb.size)
  clear hb1
  obtain ⟨c0, c1, c2⟩ := bx.three
  go_wp2_with fail
  refine (refLight t 9000 200 _ _ (Rd.keep hb _ _ HV.out)).mono ?_
  rintro e w2 ⟨rfl, hb1⟩
  have bx := bx.keep hb1 bx.lt
  have by' := by'.keep hb1 by'.lt
  have hb := hb.trans (hb1.mono hb.size)
  clear hb1 c0 c1 c2
  obtain ⟨c0, c1, c2⟩ := bx.three
  obtain ⟨d0, d1, d2⟩ := by'.three
  generalize ltB t 9000 200 = R at *
  go_wp2_with fail
  refine (refLight u 9000 200 _ _ (Rd.keep hb _ _ HV'.out)).mono ?_
  rintro e w3 ⟨rfl, hb1⟩
  have bx := bx.keep hb1 bx.lt
  have by' := by'.keep hb1 by'.lt
  have hb := hb.trans (hb1.mono hb.size)
  clear hb1 c0 c1 c2 d0 d1 d2
  obtain ⟨c0, c1, c2⟩ := bx.three
  obtain ⟨d0, d1, d2⟩ := by'.three
  generalize ltB u 9000 200 = R' at *
  cases R
  · go_wp2_with fail
    go_ret
    exact ⟨rfl, hb⟩
  cases R'
  · go_wp2_with fail
    go_ret
    exact ⟨rfl, hb⟩
  go_wp2_with fail
  refine (refSame t u _ _ _ (Rd.keep hb _ _ HV.out) (Rd.keep hb _ _ HV'.out)).mono ?_
  rintro e w4 ⟨rfl, hb1⟩
  have bx := bx.keep hb1 bx.lt
  have by' := by'.keep hb1 by'.lt
  have hb := hb.trans (hb1.mono hb.size)
  clear hb1 c0 c1 c2 d0 d1 d2
  obtain ⟨c0, c1, c2⟩ := bx.three
  go_wp2_with fail
  have HO := Lib.hid (termOwn t (.agg #[.int .i64 k, .int .i64 h, .slice A n c]) w4.drew (Rd.keep hb.drew _ _ HV.out) hs)
  go_region_held3 (fun w' => w'.cell? ⟨w.heap.size, 0, none⟩ = some (.int .i64 k) ∧ w'.cell? ⟨w.heap.size, 1, none⟩ = some (.int .i64 h) ∧ w'.cell? ⟨w.heap.size, 2, none⟩ = some (.slice A n c))
    (first | exact ⟨c0, c1, c2⟩ | exact ⟨s0, s1, s2⟩ | exact ⟨r0, r1, r2⟩)
    (first
      | (go_at_call 26
         refine HO.out.mono ?_
         rintro e w5 ⟨vo, rfl, how, hb1⟩
         have g1 := (show Box w4.drew _ _ _ from bx).keep hb1 bx.lt
         have g2 := (show Box w4.drew _ _ _ from by').keep hb1 by'.lt
         have hb5 : Below w.heap.size w w5 := hb.drew.trans (hb1.mono hb.size)
         clear hb1
         obtain ⟨s0, s1, s2⟩ := g1.three)
      | (go_at_call 25
         refine (refSame t t _ _ _ (RdF.rd _ _ how.rdF) (Rd.keep hb5 _ _ HV.out)).mono ?_
         rw [sam_refl]
         rintro e w6 ⟨rfl, hb1⟩
         have i1 := g1.keep hb1 g1.lt
         have i2 := g2.keep hb1 g2.lt
         have hb6 : Below w.heap.size w w6 := hb5.trans (hb1.mono hb5.size)
         clear hb1
         obtain ⟨r0, r1, r2⟩ := i1.three))
  clear c0 c1 c2 s0 s1 s2
  obtain ⟨x0, x1, x2⟩ := i2.three
  go_wp2_with fail
  refine (termSame t u _ _ _ (Rd.keep hb6 _ _ HV.out) (Rd.keep hb6 _ _ HV'.out)).mono ?_
  have HC : Hid (∀ W, Below w.heap.size w W → Calls Try.prog 27 #[.agg #[.int .i64 k', .int .i64 h', .slice A' n' c'], .agg #[.int .i64 k, .int .i64 h, .slice A n c]] W fun e w' => e = .returned (.bool (samB t u)) ∧ Below W.heap.size W w') :=
    Lib.hid fun W hW => by rw [sam_comm]; exact termSame u t _ _ _ (Rd.keep hW _ _ HV'.out) (Rd.keep hW _ _ HV.out)
  have HD : Hid (∀ W, Below w.heap.size w W → Calls Try.prog 27 #[.agg #[.int .i64 k, .int .i64 h, .slice A n c], .agg #[.int .i64 k, .int .i64 h, .slice A n c]] W fun e w' => e = .returned (.bool true) ∧ Below W.heap.size W w') :=
    Lib.hid fun W hW => by rw [← sam_refl t]; exact termSame t t _ _ _ (Rd.keep hW _ _ HV.out) (Rd.keep hW _ _ HV.out)
  generalize samB t u = S at *
  rintro e w7 ⟨rfl, hb1⟩
  have i1 := i1.keep hb1 i1.lt
  have i2 := i2.keep hb1 i2.lt
  have hb7 : Below w.heap.size w w7 := hb6.trans (hb1.mono hb6.size)
  clear hb1 x0 x1 x2 r0 r1 r2
  obtain ⟨r0, r1, r2⟩ := i1.three
  obtain ⟨x0, x1, x2⟩ := i2.three
  go_wp2_with fail
  refine (HC.out _ hb7).mono ?_
  rintro e w8 ⟨rfl, hb1⟩
  have i1 := i1.keep hb1 i1.lt
  have hb8 : Below w.heap.size w w8 := hb7.trans (hb1.mono hb7.size)
  clear hb1 x0 x1 x2 r0 r1 r2
  obtain ⟨r0, r1, r2⟩ := i1.three
  go_wp2_with fail
  refine (HD.out _ hb8).mono ?_
  rintro e w9 ⟨rfl, hb1⟩
  have hb9 : Below w.heap.size w w9 := hb8.trans (hb1.mono hb8.size)
  clear hb1
  go_wp2_with fail
  go_ret
  exact ⟨rfl, hb9⟩
end Go.Proofs.Ytlcoadbeiaiioaa
