/-
  The walk of the law OccurTells.
-/
import Derived.Test.YtehdbjfalpjpeaaOn
namespace Go.Proofs.Ytehdbjfalpjpeaa
open Go.ChangeShapes Go.WideShapes Go.ChangeAt Go.RowKit
set_option linter.unusedVariables false

set_option maxRecDepth 100000 in
set_option maxHeartbeats 8000000 in
theorem occurTellsC (t : T) (n : Int) (v : Value) (w : World) (hvt : Rd w t v) (hs : nd t ≤ 1048576) (hn : (Lit.int .i64 n).wf = true) :
    Calls Try.prog 3 #[v, .int .i64 n] w fun e w' => e = .returned (.bool true) ∧ Below w.heap.size w w' := by
  obtain ⟨kt, ht, At, nt, ct, rfl⟩ := hvt.full
  have HVt := Lib.hid hvt; clear hvt
  obtain ⟨W0, hW0⟩ : ∃ W0, (w.alloc (.cells #[.int .i64 kt, .int .i64 ht, .slice At nt ct] 24)) = W0 := ⟨_, rfl⟩
  have hb : Below w.heap.size w W0 := by rw [← hW0]; exact ((Below.refl _ _).alloc (Nat.le_refl _) _)
  have bxt : Box W0 (w.heap.size) 24 #[.int .i64 kt, .int .i64 ht, .slice At nt ct] := by rw [← hW0]; exact (Box.new w _ _)
  replace HVt := Lib.hid (Rd.keep hb _ _ HVt.out)
  have HW0 := Lib.hid hW0; clear hW0
  go_enter Try.func3, Try.ntmps3
  go_wp2_with fail
  rw [HW0.out]
  clear HW0
  refine (awakeO _).mono ?_
  rintro e w1 ⟨rfl, hb1⟩
  replace bxt := bxt.keep hb1 bxt.lt
  replace HVt := Lib.hid (Rd.keep hb1 _ _ HVt.out)
  replace hb := hb.trans (hb1.mono hb.size)
  clear hb1
  obtain ⟨bxt0, bxt1, bxt2⟩ := bxt.three
  have bxtl := bxt.lt
  go_wp2_with fail
  refine (refLight t 3000 200 _ _ HVt.out).mono ?_
  have HLt : Hid (ltB t 3000 200 = true → ltB t 3000 200 = true) := Lib.hid fun e => e
  generalize hqt : ltB t 3000 200 = Rt at *
  rintro e w2t ⟨rfl, hb1⟩
  have HQt := Lib.hid hqt; clear hqt HLt
  clear bxt0 bxt1 bxt2 bxtl
  replace bxt := bxt.keep hb1 bxt.lt
  replace HVt := Lib.hid (Rd.keep hb1 _ _ HVt.out)
  replace hb := hb.trans (hb1.mono hb.size)
  clear hb1
  obtain ⟨bxt0, bxt1, bxt2⟩ := bxt.three
  have bxtl := bxt.lt
  cases Rt
  · go_wp2_with fail
    go_ret
    exact ⟨rfl, hb⟩
  by_cases x1 : 1099511627776 < n
  · have dx1 : decide (1099511627776 < n) = true := by simpa using x1
    go_wp2_with fail
    go_ret
    exact ⟨rfl, hb⟩
  have dx1 : decide (1099511627776 < n) = false := by simpa using x1
  go_wp2_with fail
  have HA : Hid (∀ w', Hid (Below w2t.heap.size w2t w') → Calls Try.prog 13 #[.agg #[.int .i64 kt, .int .i64 ht, .slice At nt ct]] w' (fun e w'' => (∃ u, e = .returned u ∧ Ns w'' u (rs ((nds t 0).flatMap fv1)) ∧ Below w'.heap.size w' w'') ∧ Hid (Below w2t.heap.size w2t w''))) := Lib.hid fun w' h =>
    (oVarsC t _ w' (Rd.keep h.out _ _ HVt.out) hs).mono fun e w'' ⟨u, e1, e2, e3⟩ => ⟨⟨u, e1, e2, e3⟩, Lib.hid (h.out.trans (e3.mono h.out.size))⟩
  have HB : Hid (∀ w', Hid (Below w2t.heap.size w2t w') → Calls Try.prog 14 #[.agg #[.int .i64 kt, .int .i64 ht, .slice At nt ct]] w' (fun e w'' => (∃ u, e = .returned u ∧ Ns w'' u (rs ((nds t 0).flatMap fv1)) ∧ Below w'.heap.size w' w'') ∧ Hid (Below w2t.heap.size w2t w''))) := Lib.hid fun w' h =>
    (rfVars t _ w' (Rd.keep h.out _ _ HVt.out) hs).mono fun e w'' ⟨u, e1, e2, e3⟩ => ⟨⟨u, e1, e2, e3⟩, Lib.hid (h.out.trans (e3.mono h.out.size))⟩
  generalize hzs : rs ((nds t 0).flatMap fv1) = zs at HA HB
  clear hzs
  have HK : Hid (∀ w', Hid (Below w2t.heap.size w2t w') → (w'.cell? ⟨w.heap.size, 0, none⟩ = some (.int .i64 kt) ∧ w'.cell? ⟨w.heap.size, 1, none⟩ = some (.int .i64 ht) ∧ w'.cell? ⟨w.heap.size, 2, none⟩ = some (.slice At nt ct) ∧ Hid (Below w2t.heap.size w2t w'))) := Lib.hid fun w' h => by
    have s0 := bxt.keep h.out bxt.lt
    exact ⟨s0.three.1, s0.three.2.1, s0.three.2.2, h⟩
  have hcu0 : Hid (Below w2t.heap.size w2t w2t.drew) := Lib.hid (Below.refl _ _).drew
  go_region_held3 (fun w' => w'.cell? ⟨w.heap.size, 0, none⟩ = some (.int .i64 kt) ∧ w'.cell? ⟨w.heap.size, 1, none⟩ = some (.int .i64 ht) ∧ w'.cell? ⟨w.heap.size, 2, none⟩ = some (.slice At nt ct) ∧ Hid (Below w2t.heap.size w2t w'))
    (first | exact HK.out _ (by assumption) | exact HK.out _ (cur_allocO (by assumption) _) | exact HK.out _ (cur_allocO (cur_allocO (by assumption) _) _))
    (first
      | (go_at_call 13
         with_reducible refine Calls.mono (HA.out _ (by assumption)) ?_
         rintro e w8 ⟨⟨u1, rfl, hn1, hb8⟩, hcu8⟩
         have HN1 := Lib.hid hn1
         clear hn1 hb8 hcu0)
      | (go_at_call 14
         with_reducible refine Calls.mono (HB.out _ (by assumption)) ?_
         rintro e w9 ⟨⟨u2, rfl, hn2, hb9⟩, hcu9⟩
         have HN2 := Lib.hid hn2
         have HN3 := Lib.hid (HN1.out.keep hb9)
         clear hn2 hb9 hcu8)
      | (go_at_call 12
         with_reducible refine Calls.mono (intsC zs zs _ _ _ HN3.out HN2.out) ?_
         rintro e w10 ⟨rfl, hb10⟩
         have hcu10 : Hid (Below w2t.heap.size w2t w10) := Lib.hid (hcu9.out.trans (hb10.mono hcu9.out.size))
         clear hb10 hcu9))
  have hb1 := hcu10.out
  clear hcu10 HK HA HB HN1 HN2 HN3
  clear bxt0 bxt1 bxt2 bxtl
  replace bxt := bxt.keep hb1 bxt.lt
  replace HVt := Lib.hid (Rd.keep hb1 _ _ HVt.out)
  replace hb := hb.trans (hb1.mono hb.size)
  clear hb1
  obtain ⟨bxt0, bxt1, bxt2⟩ := bxt.three
  have bxtl := bxt.lt
  go_wp2_with fail
  have HA : Hid (∀ w', Hid (Below w10.heap.size w10 w') → Calls Try.prog 15 #[.agg #[.int .i64 kt, .int .i64 ht, .slice At nt ct]] w' (fun e w'' => (∃ u, e = .returned u ∧ Ns w'' u (rs ((nds t 0).flatMap mt1)) ∧ Below w'.heap.size w' w'') ∧ Hid (Below w10.heap.size w10 w''))) := Lib.hid fun w' h =>
    (oMetasC t _ w' (Rd.keep h.out _ _ HVt.out) hs).mono fun e w'' ⟨u, e1, e2, e3⟩ => ⟨⟨u, e1, e2, e3⟩, Lib.hid (h.out.trans (e3.mono h.out.size))⟩
  have HB : Hid (∀ w', Hid (Below w10.heap.size w10 w') → Calls Try.prog 16 #[.agg #[.int .i64 kt, .int .i64 ht, .slice At nt ct]] w' (fun e w'' => (∃ u, e = .returned u ∧ Ns w'' u (rs ((nds t 0).flatMap mt1)) ∧ Below w'.heap.size w' w'') ∧ Hid (Below w10.heap.size w10 w''))) := Lib.hid fun w' h =>
    (rfMetas t _ w' (Rd.keep h.out _ _ HVt.out) hs).mono fun e w'' ⟨u, e1, e2, e3⟩ => ⟨⟨u, e1, e2, e3⟩, Lib.hid (h.out.trans (e3.mono h.out.size))⟩
  generalize hzs : rs ((nds t 0).flatMap mt1) = zs at HA HB
  clear hzs
  have HK : Hid (∀ w', Hid (Below w10.heap.size w10 w') → (w'.cell? ⟨w.heap.size, 0, none⟩ = some (.int .i64 kt) ∧ w'.cell? ⟨w.heap.size, 1, none⟩ = some (.int .i64 ht) ∧ w'.cell? ⟨w.heap.size, 2, none⟩ = some (.slice At nt ct) ∧ Hid (Below w10.heap.size w10 w'))) := Lib.hid fun w' h => by
    have s0 := bxt.keep h.out bxt.lt
    exact ⟨s0.three.1, s0.three.2.1, s0.three.2.2, h⟩
  have hcu0 : Hid (Below w10.heap.size w10 w10.drew) := Lib.hid (Below.refl _ _).drew
  go_region_held3 (fun w' => w'.cell? ⟨w.heap.size, 0, none⟩ = some (.int .i64 kt) ∧ w'.cell? ⟨w.heap.size, 1, none⟩ = some (.int .i64 ht) ∧ w'.cell? ⟨w.heap.size, 2, none⟩ = some (.slice At nt ct) ∧ Hid (Below w10.heap.size w10 w'))
    (first | exact HK.out _ (by assumption) | exact HK.out _ (cur_allocO (by assumption) _) | exact HK.out _ (cur_allocO (cur_allocO (by assumption) _) _))
    (first
      | (go_at_call 15
         with_reducible refine Calls.mono (HA.out _ (by assumption)) ?_
         rintro e w18 ⟨⟨u1, rfl, hn1, hb8⟩, hcu8⟩
         have HN1 := Lib.hid hn1
         clear hn1 hb8 hcu0)
      | (go_at_call 16
         with_reducible refine Calls.mono (HB.out _ (by assumption)) ?_
         rintro e w19 ⟨⟨u2, rfl, hn2, hb9⟩, hcu9⟩
         have HN2 := Lib.hid hn2
         have HN3 := Lib.hid (HN1.out.keep hb9)
         clear hn2 hb9 hcu8)
      | (go_at_call 12
         with_reducible refine Calls.mono (intsC zs zs _ _ _ HN3.out HN2.out) ?_
         rintro e w20 ⟨rfl, hb10⟩
         have hcu10 : Hid (Below w10.heap.size w10 w20) := Lib.hid (hcu9.out.trans (hb10.mono hcu9.out.size))
         clear hb10 hcu9))
  have hb1 := hcu10.out
  clear hcu10 HK HA HB HN1 HN2 HN3
  clear bxt0 bxt1 bxt2 bxtl
  replace bxt := bxt.keep hb1 bxt.lt
  replace HVt := Lib.hid (Rd.keep hb1 _ _ HVt.out)
  replace hb := hb.trans (hb1.mono hb.size)
  clear hb1
  obtain ⟨bxt0, bxt1, bxt2⟩ := bxt.three
  have bxtl := bxt.lt
  go_wp2_with fail
  refine (rfPatternsC t n _ _ HVt.out (by have h1 := wd_nd t; omega)).mono ?_
  have hpp := pat_top hn t
  generalize patB t n = R at *
  rintro e w21 ⟨rfl, hb1⟩
  clear bxt0 bxt1 bxt2 bxtl
  replace bxt := bxt.keep hb1 bxt.lt
  replace HVt := Lib.hid (Rd.keep hb1 _ _ HVt.out)
  replace hb := hb.trans (hb1.mono hb.size)
  clear hb1
  obtain ⟨bxt0, bxt1, bxt2⟩ := bxt.three
  have bxtl := bxt.lt
  have HPT := Lib.hid (oPatternsC t n _ w21 HVt.out (by have h1 := wd_nd t; omega))
  rw [hpp] at HPT
  clear hpp
  go_wp2_with (go_at_call 18; refine HPT.out.mono ?_; rintro e w22 ⟨rfl, hb1⟩)
  all_goals (go_ret; exact ⟨rfl, hb.trans (hb1.mono hb.size)⟩)
end Go.Proofs.Ytehdbjfalpjpeaa
