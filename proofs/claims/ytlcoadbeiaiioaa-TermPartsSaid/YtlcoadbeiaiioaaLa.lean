/-
  The walk of the law TermTells.
-/
import Derived.Test.YtlcoadbeiaiioaaCs
import Derived.Test.YtlcoadbeiaiioaaAw
import Derived.Test.YtlcoadbeiaiioaaRv
namespace Go.Proofs.Ytlcoadbeiaiioaa
open Go.ChangeShapes Go.WideShapes Go.ChangeAt Go.RowKit Go.Shelf
set_option linter.unusedVariables false

theorem depthC (t : T) (v : Value) (w : World) (hv : Rd w t v) (hs : nd t ≤ 1048576) : Calls Try.prog 21 #[v] w fun e w' => e = .returned (.int .i64 (dpW t)) ∧ Below w.heap.size w w' := by
  rw [← depth_eq hs]; exact termDepth t v w hv

set_option maxRecDepth 100000 in
set_option maxHeartbeats 4000000 in
theorem termTellsC (t : T) (vars metas : Int) (v : Value) (w : World) (hv : Rd w t v) (hs : nd t ≤ 1048576) (hw : wrap64 vars = vars) :
    Calls Try.prog 3 #[v, .int .i64 vars, .int .i64 metas] w fun e w' => e = .returned (.bool true) ∧ Below w.heap.size w w' := by
  obtain ⟨k, h, A, n, c, rfl⟩ := hv.full
  have HV := Lib.hid hv; clear hv
  have HW := Lib.hid hw; clear hw
  have hb : Below w.heap.size w (w.alloc (.cells #[.int .i64 k, .int .i64 h, .slice A n c] 24)) := (Below.refl _ _).alloc (Nat.le_refl _) _
  have bx := Box.new w 24 #[.int .i64 k, .int .i64 h, .slice A n c]
  go_enter Try.func3, Try.ntmps3
  go_wp2_with fail
  refine (awakeC _).mono ?_
  rintro e w1 ⟨rfl, hb1⟩
  have bx := bx.keep hb1 bx.lt
  have hb := hb.trans (hb1.mono hb.size)
  clear hb1
  obtain ⟨c0, c1, c2⟩ := bx.three
  go_wp2_with fail
  refine (refLight t 9000 200 _ _ (Rd.keep hb _ _ HV.out)).mono ?_
  rintro e w2 ⟨rfl, hb1⟩
  have bx := bx.keep hb1 bx.lt
  have hb := hb.trans (hb1.mono hb.size)
  clear hb1 c0 c1 c2
  obtain ⟨c0, c1, c2⟩ := bx.three
  generalize ltB t 9000 200 = R at *
  cases R
  · go_wp2_with fail
    go_ret
    exact ⟨rfl, hb⟩
  · by_cases h1 : vars < -1099511627776
    · have d1 : decide (vars < -1099511627776) = true := by simpa using h1
      go_wp2_with fail
      go_ret
      exact ⟨rfl, hb⟩
    have d1 : decide (vars < -1099511627776) = false := by simpa using h1
    by_cases h2 : 1099511627776 < vars
    · have d2 : decide (1099511627776 < vars) = true := by simpa using h2
      go_wp2_with fail
      go_ret
      exact ⟨rfl, hb⟩
    have d2 : decide (1099511627776 < vars) = false := by simpa using h2
    by_cases h3 : 1099511627776 < metas
    · have d3 : decide (1099511627776 < metas) = true := by simpa using h3
      go_wp2_with fail
      go_ret
      exact ⟨rfl, hb⟩
    have d3 : decide (1099511627776 < metas) = false := by simpa using h3
    go_wp2_with fail
    refine (refMay t _ _ (Rd.keep hb _ _ HV.out)).mono ?_
    rintro e w3 ⟨rfl, hb1⟩
    have bx := bx.keep hb1 bx.lt
    have hb := hb.trans (hb1.mono hb.size)
    clear hb1 c0 c1 c2
    obtain ⟨c0, c1, c2⟩ := bx.three
    go_wp2_with fail
    refine (refScoped t vars metas _ _ (Rd.keep hb _ _ HV.out)).mono ?_
    rintro e w4 ⟨rfl, hb1⟩
    have bx := bx.keep hb1 bx.lt
    have hb := hb.trans (hb1.mono hb.size)
    clear hb1 c0 c1 c2
    obtain ⟨c0, c1, c2⟩ := bx.three
    have hM := fun (z : Past w4) => mayC t _ z.wd (Rd.keep z.h _ _ (Rd.keep hb _ _ HV.out)) hs
    have HM := Lib.hid hM; clear hM
    generalize mayB t = m at *
    go_wp2_with fail
    have p0 := Past.cell c0
    have p1 := Past.cell c1
    have p2 := Past.cell c2
    have HR : Hid (Rd w4 t (.agg #[.int .i64 k, .int .i64 h, .slice A n c])) := Lib.hid (Rd.keep hb _ _ HV.out)
    cases m
    all_goals
      refine wp_region_past (by kernel_rfl) (by kernel_rfl) ?_
      repeat (go_big_quiet_step ((first
        | (go_at_call 19; exact calls_past (sizeC t _ _ (Rd.keep (Past.h _) _ _ HR.out)))
        | (go_at_call 20; exact calls_past (refSize t _ _ (Rd.keep (Past.h _) _ _ HR.out)))
        | (go_at_call 21; exact calls_past (depthC t _ _ (Rd.keep (Past.h _) _ _ HR.out) hs))
        | (go_at_call 22; exact calls_past (refDepth t _ _ (Rd.keep (Past.h _) _ _ HR.out)))
        | (go_at_call 23; exact calls_past (HM.out _))
        | (go_at_call 24; exact calls_past (scopedC t vars metas _ _ (Rd.keep (Past.h _) _ _ HR.out) HW.out)))))
      refine wpQuiet_nil ?_
      rintro _ ⟨z, rfl⟩
      obtain ⟨w5, hb5⟩ := z
      have hb := hb.trans (hb5.mono hb.size)
      clear p0 p1 p2
      go_wp2_with fail
      go_ret
      exact ⟨rfl, hb⟩
end Go.Proofs.Ytlcoadbeiaiioaa
