/-
  The walk of the law ShiftParts.
-/
import Derived.Test.YtooihffijpndoaaSw
import Derived.Test.YtooihffijpndoaaSn
namespace Go.Proofs.Ytooihffijpndoaa
open Go.ChangeShapes Go.WideShapes Go.ChangeAt Go.RowKit
set_option linter.unusedVariables false

theorem rd_lam {w : World} {bl : Nat} {ty : TypeId} {t : T} {v0 v1 v2 : Value} (hx : Box w bl ty #[v0, v1, v2]) (hr : Rd w t (.agg #[v0, v1, v2])) : Rd w (.node 3 0 [t]) (.agg #[.int .i64 3, .int .i64 0, .slice (some ⟨bl, 0, none⟩) 1 1]) := by
  refine Rd_node.2 ⟨some ⟨bl, 0, none⟩, 1, 1, rfl, by decide, by decide, rfl, Nat.le_refl _, by unfold maxLen; omega, fun i u hu => ?_⟩
  cases i with
  | zero =>
    simp only [List.getElem?_cons_zero, Option.some.injEq] at hu
    subst hu
    obtain ⟨c0, c1, c2⟩ := hx.three
    exact ⟨bl, 0, _, _, _, rfl, c0, c1, c2, hr⟩
  | succ i => simp at hu
/-- Lam of a term in memory: its Arg -/
theorem Rd.only {w : World} {k h : Int} {t : T} {v : Value} (hv : Rd w (.node k h [t]) v) :
    ∃ b o c k2 h2 A2 n2 c2, v = .agg #[.int .i64 k, .int .i64 h, .slice (some ⟨b, o, none⟩) 1 c] ∧ w.cell? ⟨b, o, none⟩ = some (.int .i64 k2) ∧ w.cell? ⟨b, o + 1, none⟩ = some (.int .i64 h2) ∧
      w.cell? ⟨b, o + 2, none⟩ = some (.slice A2 n2 c2) ∧ Rd w t (.agg #[.int .i64 k2, .int .i64 h2, .slice A2 n2 c2]) ∧ 1 ≤ c ∧ c ≤ maxLen := by
  obtain ⟨A, n, c, rfl, h1, h2', h3, h4, h5, h6⟩ := Rd_node.1 hv
  obtain ⟨b, o, k2, h2, A2, n2, c2, rfl, c0, c1, c2', hr⟩ := (h6 0 _ rfl).full
  have : n = 1 := by simpa using h3.symm
  subst this
  simp only [Nat.zero_mul, Nat.add_zero] at c0 c1 c2'
  exact ⟨b, o, c, k2, h2, A2, n2, c2, rfl, c0, c1, c2', hr, h4, h5⟩

set_option maxRecDepth 100000 in
set_option maxHeartbeats 8000000 in
theorem shiftPartsC (t : T) (b f : Int) (v : Value) (w : World) (hv : Rd w t v) :
    Calls Try.prog 7 #[v, .int .i64 b, .int .i64 f] w fun e w' => e = .returned (.bool true) ∧ Below w.heap.size w w' := by
  obtain ⟨k, h, A, n, c, rfl⟩ := hv.full
  have HV := Lib.hid hv; clear hv
  have HFC : Hid (ltB t 3000 50 = true → mayK (flat t 1 0) = true → 0 ≤ b ∧ b ≤ 1000 → 0 ≤ f ∧ f ≤ 1000 → nd (.node 3 0 [t]) ≤ 1048576 ∧ upX (.node 3 0 [t]) b f = .node 3 0 [upT b t (f + 1)] ∧ upX t b (f + 1) = upT b t (f + 1) ∧ szW t ≤ 3998) := Lib.hid lam_facts
  have hb : Below w.heap.size w (w.alloc (.cells #[.int .i64 k, .int .i64 h, .slice A n c] 24)) := (Below.refl _ _).alloc (Nat.le_refl _) _
  have bx := Box.new w 24 #[.int .i64 k, .int .i64 h, .slice A n c]
  replace HV := Lib.hid (Rd.keep hb _ _ HV.out)
  go_enter Try.func7, Try.ntmps7
  go_wp2_with fail
  refine (awakeS _).mono ?_
  rintro e w1 ⟨rfl, hb1⟩
  replace bx := bx.keep hb1 bx.lt
  replace HV := Lib.hid (Rd.keep hb1 _ _ HV.out)
  replace hb := hb.trans (hb1.mono hb.size)
  clear hb1
  obtain ⟨bx0, bx1, bx2⟩ := bx.three
  have bxl := bx.lt
  go_wp2_with fail
  refine (refLight t 3000 50 _ _ HV.out).mono ?_
  have HLT : Hid (ltB t 3000 50 = true → okT 1099511627776 t ∨ mayK (flat t 1 0) = false) := Lib.hid fun e => by
    cases hm : mayK (flat t 1 0)
    · exact .inr rfl
    · exact .inl (okT_small e hm)
  generalize ltB t 3000 50 = R at *
  rintro e w2 ⟨rfl, hb1⟩
  clear bx0 bx1 bx2 bxl
  replace bx := bx.keep hb1 bx.lt
  replace HV := Lib.hid (Rd.keep hb1 _ _ HV.out)
  replace hb := hb.trans (hb1.mono hb.size)
  clear hb1
  obtain ⟨bx0, bx1, bx2⟩ := bx.three
  have bxl := bx.lt
  cases R
  · go_wp2_with fail
    go_ret
    exact ⟨rfl, hb⟩
  replace HLT := Lib.hid (HLT.out rfl)
  go_wp2_with fail
  replace HFC := Lib.hid (HFC.out (by trivial))
  refine (termMay t _ _ HV.out).mono ?_
  have HMY : Hid (mayK (flat t 1 0) = true → nd t ≤ 1048576 ∧ mayB t = true) := Lib.hid may_small
  generalize mayK (flat t 1 0) = R at *
  rintro e w3 ⟨rfl, hb1⟩
  clear bx0 bx1 bx2 bxl
  replace bx := bx.keep hb1 bx.lt
  replace HV := Lib.hid (Rd.keep hb1 _ _ HV.out)
  replace hb := hb.trans (hb1.mono hb.size)
  clear hb1
  obtain ⟨bx0, bx1, bx2⟩ := bx.three
  have bxl := bx.lt
  cases R
  · go_wp2_with fail
    go_ret
    exact ⟨rfl, hb⟩
  have hok := HLT.out.resolve_right (by simp)
  obtain ⟨hnd, hmay⟩ := HMY.out rfl
  clear HLT HMY
  replace HFC := Lib.hid (HFC.out (by trivial))
  by_cases x1 : b < 0
  · have dx1 : decide (b < 0) = true := by simpa using x1
    go_wp2_with fail
    go_ret
    exact ⟨rfl, hb⟩
  have dx1 : decide (b < 0) = false := by simpa using x1
  by_cases x2 : 1000 < b
  · have dx2 : decide (1000 < b) = true := by simpa using x2
    go_wp2_with fail
    go_ret
    exact ⟨rfl, hb⟩
  have dx2 : decide (1000 < b) = false := by simpa using x2
  by_cases x3 : f < 0
  · have dx3 : decide (f < 0) = true := by simpa using x3
    go_wp2_with fail
    go_ret
    exact ⟨rfl, hb⟩
  have dx3 : decide (f < 0) = false := by simpa using x3
  by_cases x4 : 1000 < f
  · have dx4 : decide (1000 < f) = true := by simpa using x4
    go_wp2_with fail
    go_ret
    exact ⟨rfl, hb⟩
  have dx4 : decide (1000 < f) = false := by simpa using x4
  obtain ⟨q1, q2, q3, q4⟩ := HFC.out ⟨by omega, by omega⟩ ⟨by omega, by omega⟩
  have HN := Lib.hid q1; clear q1
  have HUL := Lib.hid q2; clear q2
  have HUT := Lib.hid q3; clear q3 HFC
  go_wp2_with fail
  obtain ⟨W4, hW4⟩ : ∃ W4, (w3.alloc (.cells #[.int .i64 k, .int .i64 h, .slice A n c] 24)).alloc (.cells #[.int .i64 3, .int .i64 0, .slice (some ⟨w3.heap.size, 0, none⟩) 1 1] 24) = W4 := ⟨_, rfl⟩
  rw [hW4]
  have hb1 : Below w3.heap.size w3 W4 := by rw [← hW4]; exact ((Below.refl _ _).alloc (Nat.le_refl _) _).alloc (by simp) _
  have xl : Box W4 w3.heap.size 24 #[.int .i64 k, .int .i64 h, .slice A n c] := by rw [← hW4]; exact (Box.new _ _ _).alloc _
  clear hW4
  clear bx0 bx1 bx2 bxl
  replace bx := bx.keep hb1 bx.lt
  replace HV := Lib.hid (Rd.keep hb1 _ _ HV.out)
  replace hb := hb.trans (hb1.mono hb.size)
  clear hb1
  refine (upC (.node 3 0 [t]) b f _ _ (rd_lam xl HV.out) HN.out).mono ?_
  rw [HUL.out]
  rintro e w5 ⟨v1, rfl, how, hb1⟩
  have hra := RdF.rd _ _ how.rdF
  clear how
  obtain ⟨ba, oa, ca, ka, ha, Aa, na, ca', rfl, p0, p1, p2, hra', hca, hma⟩ := hra.only
  have HA := Lib.hid hra'; clear hra hra'
  have lp0 := cell_lt p0
  have lp1 := cell_lt p1
  have lp2 := cell_lt p2
  unfold maxLen at hma
  replace bx := bx.keep hb1 bx.lt
  replace HV := Lib.hid (Rd.keep hb1 _ _ HV.out)
  replace hb := hb.trans (hb1.mono hb.size)
  clear hb1
  obtain ⟨bx0, bx1, bx2⟩ := bx.three
  have bxl := bx.lt
  go_wp2_with fail
  have hbA : Below w5.heap.size w5 (w5.alloc (.cells #[.int .i64 3, .int .i64 0, .slice (some ⟨ba, oa, none⟩) 1 ca] 24)) := (Below.refl _ _).alloc (Nat.le_refl _) _
  have xa := Box.new w5 24 #[.int .i64 3, .int .i64 0, .slice (some ⟨ba, oa, none⟩) 1 ca]
  generalize w5.alloc (.cells #[.int .i64 3, .int .i64 0, .slice (some ⟨ba, oa, none⟩) 1 ca] 24) = W5 at *
  replace bx := bx.keep hbA bx.lt
  replace HV := Lib.hid (Rd.keep hbA _ _ HV.out)
  replace HA := Lib.hid (Rd.keep hbA _ _ HA.out)
  replace p0 := (hbA.cell lp0).trans p0
  replace lp0 := cell_lt p0
  replace p1 := (hbA.cell lp1).trans p1
  replace lp1 := cell_lt p1
  replace p2 := (hbA.cell lp2).trans p2
  replace lp2 := cell_lt p2
  replace hb := hb.trans (hbA.mono hb.size)
  clear hbA
  clear bx0 bx1 bx2 bxl
  obtain ⟨bx0, bx1, bx2⟩ := bx.three
  have bxl := bx.lt
  obtain ⟨xa0, xa1, xa2⟩ := xa.three
  have xal := xa.lt
  have hw1 : IntKind.i64.wrap (f + 1) = f + 1 := by rw [wrapEq]; exact wrap_small (by omega) (by omega)
  have dz : decide (3998 < szW t) = false := by simp; omega
  have HSZ := Lib.hid (sizeC t _ W5.drew (Rd.keep (Below.refl _ W5).drew _ _ HV.out))
  have HUC : Hid (∀ W, Below W5.heap.size W5 W → Calls Try.prog 13 #[.agg #[.int .i64 k, .int .i64 h, .slice A n c], .int .i64 b, .int .i64 (f + 1)] W (OEnd (upT b t (f + 1)) W)) := Lib.hid fun W hW => by
    rw [← HUT.out]; exact upC t b (f + 1) _ _ (Rd.keep hW _ _ HV.out) hnd
  go_region_held3 (fun w' => w'.cell? ⟨w.heap.size, 0, none⟩ = some (.int .i64 k) ∧ w'.cell? ⟨w.heap.size, 1, none⟩ = some (.int .i64 h) ∧ w'.cell? ⟨w.heap.size, 2, none⟩ = some (.slice A n c) ∧ w'.cell? ⟨w5.heap.size, 2, none⟩ = some (.slice (some ⟨ba, oa, none⟩) 1 ca) ∧
      w'.cell? ⟨ba, oa, none⟩ = some (.int .i64 ka) ∧ w'.cell? ⟨ba, oa + 1, none⟩ = some (.int .i64 ha) ∧ w'.cell? ⟨ba, oa + 2, none⟩ = some (.slice Aa na ca'))
    (first | exact ⟨bx0, bx1, bx2, xa2, p0, p1, p2⟩ | exact ⟨s1.three.1, s1.three.2.1, s1.three.2.2, s2.three.2.2, s3, s4, s5⟩ | exact ⟨r1.three.1, r1.three.2.1, r1.three.2.2, r2.three.2.2, r3, r4, r5⟩ | exact ⟨o1.three.1, o1.three.2.1, o1.three.2.2, o2.three.2.2, o3, o4, o5⟩)
    (first
      | (go_at_call 19
         refine HSZ.out.mono ?_
         rintro e w6 ⟨rfl, hb1⟩
         have hbs : Below W5.heap.size W5 w6 := (Below.refl _ W5).drew.trans hb1
         clear hb1
         have s1 := bx.keep hbs bx.lt
         have s2 := xa.keep hbs xa.lt
         have s3 := (hbs.cell lp0).trans p0
         have s4 := (hbs.cell lp1).trans p1
         have s5 := (hbs.cell lp2).trans p2)
      | (go_at_call 13
         refine (HUC.out _ hbs).mono ?_
         rintro e w7 ⟨v7, rfl, how, hb1⟩
         obtain ⟨k7, h7, A7, n7, c7, rfl⟩ := how.full
         have HU7 := Lib.hid (RdF.rd _ _ how.rdF); clear how
         have hbr : Below W5.heap.size W5 w7 := hbs.trans (hb1.mono hbs.size)
         clear hb1
         have r1 := bx.keep hbr bx.lt
         have r2 := xa.keep hbr xa.lt
         have r3 := (hbr.cell lp0).trans p0
         have r4 := (hbr.cell lp1).trans p1
         have r5 := (hbr.cell lp2).trans p2)
      | (go_at_call 18
         refine (termSame (upT b t (f + 1)) (upT b t (f + 1)) _ _ _ (Rd.keep hbr _ _ HA.out) HU7.out).mono ?_
         rw [sam_refl]
         rintro e w8 ⟨rfl, hb1⟩
         have hbo : Below W5.heap.size W5 w8 := hbr.trans (hb1.mono hbr.size)
         clear hb1
         have o1 := bx.keep hbo bx.lt
         have o2 := xa.keep hbo xa.lt
         have o3 := (hbo.cell lp0).trans p0
         have o4 := (hbo.cell lp1).trans p1
         have o5 := (hbo.cell lp2).trans p2))
  go_wp2_with fail
  go_ret
  exact ⟨rfl, hb.trans (hbo.mono hb.size)⟩
end Go.Proofs.Ytooihffijpndoaa
