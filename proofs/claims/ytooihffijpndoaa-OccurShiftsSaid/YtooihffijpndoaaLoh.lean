/-
  The walk of the law OccurShifts.
-/
import Derived.Test.YtooihffijpndoaaOr
namespace Go.Proofs.Ytooihffijpndoaa
open Go.ChangeShapes Go.WideShapes Go.ChangeAt Go.RowKit
set_option linter.unusedVariables false

set_option maxRecDepth 100000 in
set_option maxHeartbeats 8000000 in
theorem occurShiftsC (t : T) (m n : Int) (v : Value) (w : World) (hvt : Rd w t v) :
    Calls Try.prog 9 #[v, .int .i64 m, .int .i64 n] w fun e w' => e = .returned (.bool true) ∧ Below w.heap.size w w' := by
  obtain ⟨kt, ht, At, nt, ct, rfl⟩ := hvt.full
  have HVt := Lib.hid hvt; clear hvt
  obtain ⟨W0, hW0⟩ : ∃ W0, (w.alloc (.cells #[.int .i64 kt, .int .i64 ht, .slice At nt ct] 24)) = W0 := ⟨_, rfl⟩
  have hb : Below w.heap.size w W0 := by rw [← hW0]; exact ((Below.refl _ _).alloc (Nat.le_refl _) _)
  have bxt : Box W0 (w.heap.size) 24 #[.int .i64 kt, .int .i64 ht, .slice At nt ct] := by rw [← hW0]; exact (Box.new w _ _)
  replace HVt := Lib.hid (Rd.keep hb _ _ HVt.out)
  have HW0 := Lib.hid hW0; clear hW0
  go_enter Try.func9, Try.ntmps9
  go_wp2_with fail
  rw [HW0.out]
  clear HW0
  refine (awakeO _).mono ?_
  rintro e w1 ⟨rfl, hb1⟩
  replace bxt := bxt.keep hb1 bxt.lt
  replace HVt := Lib.hid (Rd.keep hb1 _ _ HVt.out)
  replace hb := hb.trans (hb1.mono hb.size)
  clear hb1
  obtain ⟨bxt0, bxt1, bxt2⟩ := bxt.three
  have bxtl := bxt.lt
  go_wp2_with fail
  refine (refLight t 3000 60 _ _ HVt.out).mono ?_
  have HLt : Hid (ltB t 3000 60 = true → ltB t 3000 60 = true) := Lib.hid fun e => e
  generalize hqt : ltB t 3000 60 = Rt at *
  rintro e w2t ⟨rfl, hb1⟩
  have HQt := Lib.hid hqt; clear hqt HLt
  clear bxt0 bxt1 bxt2 bxtl
  replace bxt := bxt.keep hb1 bxt.lt
  replace HVt := Lib.hid (Rd.keep hb1 _ _ HVt.out)
  replace hb := hb.trans (hb1.mono hb.size)
  clear hb1
  obtain ⟨bxt0, bxt1, bxt2⟩ := bxt.three
  have bxtl := bxt.lt
  cases Rt
  · go_wp2_with fail
    go_ret
    exact ⟨rfl, hb⟩
  go_wp2_with fail
  refine (termMay t _ _ HVt.out).mono ?_
  generalize hqt : mayK (flat t 1 0) = Mt at *
  rintro e w3t ⟨rfl, hb1⟩
  have HMt := Lib.hid hqt; clear hqt
  clear bxt0 bxt1 bxt2 bxtl
  replace bxt := bxt.keep hb1 bxt.lt
  replace HVt := Lib.hid (Rd.keep hb1 _ _ HVt.out)
  replace hb := hb.trans (hb1.mono hb.size)
  clear hb1
  obtain ⟨bxt0, bxt1, bxt2⟩ := bxt.three
  have bxtl := bxt.lt
  cases Mt
  · go_wp2_with fail
    go_ret
    exact ⟨rfl, hb⟩
  have KVt : Hid (Kv t) := Lib.hid (kv_of HQt.out HMt.out)
  by_cases x1 : m < 0
  · have dx1 : decide (m < 0) = true := by simpa using x1
    go_wp2_with fail
    go_ret
    exact ⟨rfl, hb⟩
  have dx1 : decide (m < 0) = false := by simpa using x1
  by_cases x2 : 1000 < m
  · have dx2 : decide (1000 < m) = true := by simpa using x2
    go_wp2_with fail
    go_ret
    exact ⟨rfl, hb⟩
  have dx2 : decide (1000 < m) = false := by simpa using x2
  by_cases x3 : n < 0
  · have dx3 : decide (n < 0) = true := by simpa using x3
    go_wp2_with fail
    go_ret
    exact ⟨rfl, hb⟩
  have dx3 : decide (n < 0) = false := by simpa using x3
  by_cases x4 : 100 < n
  · have dx4 : decide (100 < n) = true := by simpa using x4
    go_wp2_with fail
    go_ret
    exact ⟨rfl, hb⟩
  have dx4 : decide (100 < n) = false := by simpa using x4
  have HUX := Lib.hid (kv_up HQt.out HMt.out (m := m) ⟨by omega, by omega⟩); clear HQt HMt
  go_wp2_with fail
  refine (oVarsC t _ _ HVt.out (by have := KVt.out.n4; omega)).mono ?_
  rintro e w4 ⟨u1, rfl, hn1, hb1⟩
  change Ns w4 u1 (VsT t) at hn1
  clear bxt0 bxt1 bxt2 bxtl
  replace bxt := bxt.keep hb1 bxt.lt
  replace HVt := Lib.hid (Rd.keep hb1 _ _ HVt.out)
  replace hb := hb.trans (hb1.mono hb.size)
  clear hb1
  obtain ⟨bxt0, bxt1, bxt2⟩ := bxt.three
  have bxtl := bxt.lt
  go_wp2_with fail
  have hup := upC t m 0 _ w4 HVt.out (by have := KVt.out.n4; omega)
  rw [HUX.out] at hup
  refine hup.mono ?_
  rintro e w5 ⟨v5, rfl, how, hb1⟩
  have HR5 := Lib.hid (RdF.rd _ _ how.rdF)
  replace hn1 := hn1.keep hb1
  clear hup how
  clear bxt0 bxt1 bxt2 bxtl
  replace bxt := bxt.keep hb1 bxt.lt
  replace HVt := Lib.hid (Rd.keep hb1 _ _ HVt.out)
  replace hb := hb.trans (hb1.mono hb.size)
  clear hb1
  obtain ⟨bxt0, bxt1, bxt2⟩ := bxt.three
  have bxtl := bxt.lt
  obtain ⟨k5, h5, A5, n5, c5, rfl⟩ := HR5.out.full
  go_wp2_with fail
  refine (oVarsC (upT m t 0) _ _ HR5.out (by rw [nd_up]; have := KVt.out.n4; omega)).mono ?_
  rintro e w6 ⟨u2, rfl, hn2, hb1⟩
  change Ns w6 u2 (VsT (upT m t 0)) at hn2
  rw [KVt.out.up ⟨by omega, by omega⟩] at hn2
  replace hn1 := hn1.keep hb1
  clear HR5
  clear bxt0 bxt1 bxt2 bxtl
  replace bxt := bxt.keep hb1 bxt.lt
  replace HVt := Lib.hid (Rd.keep hb1 _ _ HVt.out)
  replace hb := hb.trans (hb1.mono hb.size)
  clear hb1
  obtain ⟨bxt0, bxt1, bxt2⟩ := bxt.three
  have bxtl := bxt.lt
  have hvr := KVt.out.vs
  generalize VsT t = V at *
  clear HUX
  obtain ⟨A1, n1, c1, rfl, hl1, hc1, hm1⟩ := hn1.full
  obtain ⟨A2, n2, c2, rfl, hl2, hc2, hm2⟩ := hn2.full
  rw [List.length_map] at hl2
  obtain rfl : n1 = n2 := by omega
  unfold maxLen at hm1 hm2
  have HN1 := Lib.hid hn1; clear hn1
  have HN2 := Lib.hid hn2; clear hn2
  have HVR := Lib.hid hvr; clear hvr
  have HL1 := Lib.hid hl1; clear hl1 hl2
  obtain ⟨hcl, hcl2⟩ := clO_eq (n := n) (by omega) (by omega)
  generalize clO n = N at *
  have HCL := Lib.hid hcl
  have HSM := Lib.hid fun W => SameO n W
  have hclN : clO n = N := by
    have := clO_eq (n := n) (by omega) (by omega)
    omega
  rw [hclN] at HSM
  clear hclN
  clear dx1 dx2 dx3 dx4
  go_wp2_with fail
  go_loopw [11] (fun i wr => ∃ (j : Nat), j ≤ n1 ∧ i = .int .i64 j ∧ Below w6.heap.size w6 wr) (fun i _ => n1 - (intOf i).toNat)
  case atStart => exact ⟨0, Nat.zero_le _, rfl, Below.refl _ _⟩
  case round =>
    obtain ⟨j, hj, rfl, hbr⟩ := hrel
    clear bxt0 bxt1 bxt2 bxtl
    by_cases hlt : j < n1
    · obtain ⟨b1, o1, z1, rfl, hz1, d1⟩ := (HN1.out.keep hbr).cell hlt
      obtain ⟨b2, o2, z2, rfl, hz2, d2⟩ := (HN2.out.keep hbr).cell hlt
      have hz3 : z2 = z1 + m := by
        rw [List.getElem?_map, hz1] at hz2
        simpa using hz2.symm
      subst hz3
      have hzr := HVR.out z1 (List.mem_of_getElem? hz1)
      have hwz : IntKind.i64.wrap (z1 + m) = z1 + m := by rw [wrapEq]; exact wrap_small (by omega) (by omega)
      clear hz1 hz2 hzr
      have hi0 : (0 : Int) ≤ j := by omega
      have hi1 : (j : Int) < n1 := by omega
      go_wp2_with fail
      have p0 := Past.cell d1
      have p1 := Past.cell d2
      refine wp_region_past (by kernel_rfl) (by kernel_rfl) ?_
      repeat (go_big_quiet_step (fail))
      refine wpQuiet_nil ?_
      rintro _ ⟨q, rfl⟩
      clear p0 p1 d1 d2
      obtain ⟨w7, hb1⟩ := q
      dsimp only
      go_wp2_with fail
      go_roundw
      case rel => exact ⟨j + 1, by omega, by go_num, hbr.trans (hb1.mono hbr.size)⟩
      case measure => simp [intOf]; omega
    · have hbW : Below w.heap.size w wr := hb.trans (hbr.mono hb.size)
      clear hb hbr
      have hfd : ∀ (A : Option Addr) (n c : Nat) (x : Int) (W : World), (Instr.field 40 (.agg #[.slice A n c, .int .i64 x]) 0).run Try.prog W = .ok (.slice A n c) W := fun A n c x W => by kernel_rfl
      have tok1 : True := trivial
      have tok2 : True := trivial
      go_wp2_with (first
        | (go_at_call 24; have _t := tok1; refine (HSM.out _).mono ?_; rintro e w8 ⟨A8, n8, c8, rfl, hL8, hb8⟩; clear tok1
           have HP8 := Lib.hid (oPatternC (vsO N) A8 n8 c8 n w8 hL8.len hL8.le hL8.cap (by have := hL8.len; rw [vsO_len] at this; omega) hL8.at_)
           rw [← HCL.out, vsO_pat] at HP8
           rw [HCL.out] at HP8
           have HP8 := Lib.hid (HP8.out.mono fun e w' hp => hp.some)
           have hbW8 := hbW.trans (hb8.mono hbW.size))
        | (go_at_call 23; have _t := tok2; clear tok2; refine HP8.out.mono ?_; rintro e w9 ⟨p, rfl, hn9, hb9⟩
           obtain ⟨A9, c9, rfl⟩ := hn9.len (n := N) (by rw [List.length_map, vsO_len])
           have hbW9 := hbW8.trans (hb9.mono hbW8.size)
           clear hn9)
        | (go_at_call 24; refine (HSM.out _).mono ?_; rintro e w10 ⟨A10, n10, c10, rfl, hL10, hb10⟩
           have HP10 := Lib.hid ((oPatternC (vsO N) A10 n10 c10 (n - 1) w10 hL10.len hL10.le hL10.cap (by have := hL10.len; rw [vsO_len] at this; omega) hL10.at_).mono fun e w' hp => hp.tuple)
           rw [← HCL.out, vsO_less] at HP10
           rw [HCL.out] at HP10
           have hbW10 := hbW9.trans (hb10.mono hbW9.size)
           have hnm : IntKind.i64.wrap (n - 1) = n - 1 := by rw [wrapEq]; exact wrap_small (by omega) (by omega))
        | (go_at_call 23; refine HP10.out.mono ?_; rintro e w11 ⟨v11, rfl, hb11⟩))
      go_ret
      refine ⟨ret_bool ?_, hbW10.trans (hb11.mono hbW10.size)⟩
      have h := HCL.out
      have e : (n == 0) = decide (N = 0) := by rw [Bool.eq_iff_iff]; simp; omega
      rw [e]; simp
end Go.Proofs.Ytooihffijpndoaa
