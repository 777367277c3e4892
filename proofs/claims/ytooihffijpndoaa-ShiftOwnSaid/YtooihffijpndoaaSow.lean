/-
  The walk of the law ShiftOwn.
-/
import Derived.Test.YtooihffijpndoaaSw
import Derived.Test.YtooihffijpndoaaSn
namespace Go.Proofs.Ytooihffijpndoaa
open Go.ChangeShapes Go.WideShapes Go.ChangeAt Go.RowKit
set_option linter.unusedVariables false

/-- the top list of a term of its own that has Args -/
theorem OwT.top {w : World} {lo n : Nat} {k h : Int} {ys : List T} {v : Value} (ho : OwT w lo (.node k h ys) v) (hn : ys.length = n) (h0 : n ≠ 0) :
    ∃ b c cs, v = .agg #[.int .i64 k, .int .i64 h, .slice (some ⟨b, 0, none⟩) n c] ∧ n ≤ c ∧ c ≤ maxLen ∧ lo ≤ b ∧ Box w b 24 cs ∧ cs.size = n * 3 := by
  obtain ⟨A, n', c, rfl, h1, h2, h3, h4, h5, h6⟩ := ho
  obtain rfl : n = n' := by omega
  rcases h6 with h6 | ⟨b, cs, rfl, hb, hx, hs, _⟩
  · exact absurd h6 h0
  · exact ⟨b, c, cs, rfl, h4, h5, hb, hx, hs⟩

set_option maxRecDepth 100000 in
set_option maxHeartbeats 8000000 in
theorem shiftOwnC (t : T) (b : Int) (v : Value) (w : World) (hv : Rd w t v) :
    Calls Try.prog 8 #[v, .int .i64 b] w fun e w' => e = .returned (.bool true) ∧ Below w.heap.size w w' := by
  obtain ⟨k, h, xs⟩ := t
  have hv0 := hv
  obtain ⟨A, n, c, rfl, hk, hh, hn, hc, hm, hx⟩ := Rd_node.1 hv
  clear hv
  have HV := Lib.hid hv0; clear hv0
  have HX := Lib.hid hx; clear hx
  have HN := Lib.hid hn; clear hn
  unfold maxLen at hm
  generalize htt : T.node k h xs = t at *
  have HTT := Lib.hid htt; clear htt
  have hb : Below w.heap.size w (w.alloc (.cells #[.int .i64 k, .int .i64 h, .slice A n c] 24)) := (Below.refl _ _).alloc (Nat.le_refl _) _
  have bx := Box.new w 24 #[.int .i64 k, .int .i64 h, .slice A n c]
  replace HV := Lib.hid (Rd.keep hb _ _ HV.out)
  go_enter Try.func8, Try.ntmps8
  go_wp2_with fail
  refine (awakeS _).mono ?_
  rintro e w1 ⟨rfl, hb1⟩
  replace bx := bx.keep hb1 bx.lt
  replace HV := Lib.hid (Rd.keep hb1 _ _ HV.out)
  replace hb := hb.trans (hb1.mono hb.size)
  clear hb1
  obtain ⟨bx0, bx1, bx2⟩ := bx.three
  have bxl := bx.lt
  go_wp2_with fail
  refine (refLight t 3000 60 _ _ HV.out).mono ?_
  have HLT : Hid (ltB t 3000 60 = true → okT 1099511627776 t ∨ mayK (flat t 1 0) = false) := Lib.hid fun e => by
    cases hm : mayK (flat t 1 0)
    · exact .inr rfl
    · exact .inl (okT_small e hm)
  generalize ltB t 3000 60 = R at *
  rintro e w2 ⟨rfl, hb1⟩
  clear bx0 bx1 bx2 bxl
  replace bx := bx.keep hb1 bx.lt
  replace HV := Lib.hid (Rd.keep hb1 _ _ HV.out)
  replace hb := hb.trans (hb1.mono hb.size)
  clear hb1
  obtain ⟨bx0, bx1, bx2⟩ := bx.three
  have bxl := bx.lt
  cases R
  · go_wp2_with fail
    go_ret
    exact ⟨rfl, hb⟩
  replace HLT := Lib.hid (HLT.out rfl)
  go_wp2_with fail
  refine (termMay t _ _ HV.out).mono ?_
  have HMY : Hid (mayK (flat t 1 0) = true → nd t ≤ 1048576 ∧ mayB t = true) := Lib.hid may_small
  generalize mayK (flat t 1 0) = R at *
  rintro e w3 ⟨rfl, hb1⟩
  clear bx0 bx1 bx2 bxl
  replace bx := bx.keep hb1 bx.lt
  replace HV := Lib.hid (Rd.keep hb1 _ _ HV.out)
  replace hb := hb.trans (hb1.mono hb.size)
  clear hb1
  obtain ⟨bx0, bx1, bx2⟩ := bx.three
  have bxl := bx.lt
  cases R
  · go_wp2_with fail
    go_ret
    exact ⟨rfl, hb⟩
  have hok := HLT.out.resolve_right (by simp)
  obtain ⟨hnd, hmay⟩ := HMY.out rfl
  clear HLT HMY
  by_cases h0 : n = 0
  · have e0 : ((n : Int) == 0) = true := by rw [beq_iff_eq]; omega
    have H0 := Lib.hid h0; clear h0
    go_wp2_with fail
    go_ret
    exact ⟨rfl, hb⟩
  have e0 : ((n : Int) == 0) = false := by rw [beq_eq_false_iff_ne]; omega
  by_cases x1 : b < 0
  · have dx1 : decide (b < 0) = true := by simpa using x1
    go_wp2_with fail
    go_ret
    exact ⟨rfl, hb⟩
  have dx1 : decide (b < 0) = false := by simpa using x1
  by_cases x2 : 1000 < b
  · have dx2 : decide (1000 < b) = true := by simpa using x2
    go_wp2_with fail
    go_ret
    exact ⟨rfl, hb⟩
  have dx2 : decide (1000 < b) = false := by simpa using x2
  obtain ⟨x, hx0⟩ := at_of HN.out (Nat.pos_of_ne_zero h0)
  obtain ⟨bt, o, kx, hx1, Ax, nx, cx, rfl, g0, _, _, _⟩ := (HX.out 0 x hx0).full
  simp only [Nat.zero_mul, Nat.add_zero] at g0
  have lt0 : bt < w.heap.size := cell_lt g0
  replace g0 := (hb.cell lt0).trans g0
  have lg := cell_lt g0
  clear HX hx0
  have hn0 : (0 : Int) < n := by omega
  have HH0 := Lib.hid h0; clear h0
  obtain ⟨f1, f2, f3, f4⟩ := back_facts hok hnd hmay (b := b) (f := 0) (by omega) (by omega)
  have HUP := Lib.hid f1; clear f1
  have HDN := Lib.hid f2; clear f2
  have HND := Lib.hid f3; clear f3 f4
  have HTOP : Hid (∃ h' ys, upT b t 0 = .node k h' ys ∧ ys.length = n) := Lib.hid (by rw [← HTT.out, upT]; exact ⟨_, _, rfl, by rw [upL_len]; exact HN.out⟩)
  go_wp2_with fail
  refine (upC t b 0 _ _ HV.out hnd).mono ?_
  rw [HUP.out]
  obtain ⟨h', ys, htop, hys⟩ := HTOP.out
  rw [htop] at HDN HND
  rw [htop]
  rintro e w5 ⟨v1, rfl, how, hb1⟩
  have HA := Lib.hid (RdF.rd _ _ how.rdF)
  obtain ⟨ba, ca, csa, rfl, hca, hma, hla, oa, hsa⟩ := how.top hys HH0.out
  clear how HTOP htop HUP
  have lba := oa.lt
  have lbx : w.heap.size < ba := Nat.lt_of_lt_of_le bx.lt hla
  clear hla
  unfold maxLen at hma
  clear bx0 bx1 bx2 bxl
  replace bx := bx.keep hb1 bx.lt
  replace HV := Lib.hid (Rd.keep hb1 _ _ HV.out)
  replace g0 := (hb1.cell lg).trans g0
  replace lg := cell_lt g0
  replace hb := hb.trans (hb1.mono hb.size)
  clear hb1
  obtain ⟨bx0, bx1, bx2⟩ := bx.three
  have bxl := bx.lt
  go_wp2_with fail
  have hbA : Below w5.heap.size w5 (w5.alloc (.cells #[.int .i64 k, .int .i64 h', .slice (some ⟨ba, 0, none⟩) n ca] 24)) := (Below.refl _ _).alloc (Nat.le_refl _) _
  have xa := Box.new w5 24 #[.int .i64 k, .int .i64 h', .slice (some ⟨ba, 0, none⟩) n ca]
  generalize w5.alloc (.cells #[.int .i64 k, .int .i64 h', .slice (some ⟨ba, 0, none⟩) n ca] 24) = W5 at *
  replace bx := bx.keep hbA bx.lt
  replace oa := oa.keep hbA oa.lt
  replace HV := Lib.hid (Rd.keep hbA _ _ HV.out)
  replace HA := Lib.hid (Rd.keep hbA _ _ HA.out)
  replace g0 := (hbA.cell lg).trans g0
  replace lg := cell_lt g0
  replace hb := hb.trans (hbA.mono hb.size)
  clear hbA
  clear bx0 bx1 bx2 bxl
  refine (downC _ b 0 _ _ HA.out HND.out).mono ?_
  rw [HDN.out]
  rintro e w6 ⟨hb1, ⟨t', v', ht', rfl, how⟩ | ⟨ht', rfl⟩⟩
  rotate_left 1
  · cases ht'
  cases ht'
  rw [← HTT.out] at how
  obtain ⟨bb, cb, csb, rfl, hcb, hmb, hlb, ob, hsb⟩ := how.top HN.out HH0.out
  clear how
  have lbb := ob.lt
  have lab : ba < bb := Nat.lt_of_lt_of_le oa.lt hlb
  have lxb : w5.heap.size < bb := Nat.lt_of_lt_of_le xa.lt hlb
  clear hlb
  unfold maxLen at hmb
  replace bx := bx.keep hb1 bx.lt
  replace oa := oa.keep hb1 oa.lt
  replace xa := xa.keep hb1 xa.lt
  replace HV := Lib.hid (Rd.keep hb1 _ _ HV.out)
  replace HA := Lib.hid (Rd.keep hb1 _ _ HA.out)
  replace g0 := (hb1.cell lg).trans g0
  replace lg := cell_lt g0
  replace hb := hb.trans (hb1.mono hb.size)
  clear hb1
  obtain ⟨bx0, bx1, bx2⟩ := bx.three
  have bxl := bx.lt
  obtain ⟨xa0, xa1, xa2⟩ := xa.three
  have xal := xa.lt
  obtain ⟨ua, hua⟩ := oa.there (i := 0) (by have := HH0.out; omega)
  obtain ⟨ub, hub⟩ := ob.there (i := 0) (by have := HH0.out; omega)
  have fa := oa.frozen 0
  have la6 := oa.lt
  have fb := ob.frozen 0
  have n1 : bt ≠ ba := by omega
  have n2 : bt ≠ bb := by omega
  have n3 : w.heap.size ≠ ba := by omega
  have n4 : w.heap.size ≠ bb := by omega
  have n5 : w5.heap.size ≠ ba := by omega
  have n6 : w5.heap.size ≠ bb := by omega
  have n7 : bb ≠ ba := by omega
  have n8 : w6.heap.size ≠ ba := by omega
  have n9 : w6.heap.size ≠ bb := by omega
  dsimp only at lg
  go_wp2_with fail
  go_ret
  exact ⟨rfl, ((hb.setCell (by dsimp only; omega) _).setCell (by dsimp only; omega) _).alloc (by simp; omega) _⟩
end Go.Proofs.Ytooihffijpndoaa
