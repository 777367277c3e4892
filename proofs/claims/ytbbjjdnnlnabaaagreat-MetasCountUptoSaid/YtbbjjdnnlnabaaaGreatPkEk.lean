/- Texts of one proof, put together. No statement is proved here. -/
import Derived.Test.YtbbjjdnnlnabaaaGreatPkEh
namespace Go.Proofs.YtbbjjdnnlnabaaaGreat
open Go.ChangeShapes Go.WideShapes Go.ChangeAt Go.RowKit
set_option linter.unusedVariables false
set_option linter.unusedSimpArgs false
set_option maxRecDepth 100000
set_option maxHeartbeats 16000000
theorem eCheckTermB {B : Int} (hB : B ≤ 70368744177664) (W : WV) (cx : List T) (m a : T) (As : Option Addr) (ns cs : Nat) (Am : Option Addr) (nm cm : Nat) (Ac : Option Addr) (nc cc : Nat) (vm va : Value) (w : World) (hk : CkV w W cx As ns cs Am nm cm Ac nc cc) (hm : Rd w m vm) (ha : Rd w a va)
    (hL : mayV W cx [m, a] = true → EnvV W cx B) (hz : SzE W cx) (hnm : nd m ≤ 1048576) (hna : nd a ≤ 1048576) (hlm : myB m = true → okT loV m) (hla : myB a = true → okT B a) :
    Calls Tryz.prog 42 #[.slice As ns cs, .slice Am nm cm, .slice Ac nc cc, vm, va] w fun e w' => e = .returned (.int .i64 (ckT W cx m a)) ∧ Below w.heap.size w w' := by
  obtain ⟨k, h, A, n, c, rfl⟩ := hm.full
  obtain ⟨k2, h2, A2, n2, c2, rfl⟩ := ha.full
  obtain ⟨W0, hW⟩ : ∃ W0, (w.alloc (.cells #[.int .i64 k, .int .i64 h, .slice A n c] 39)).alloc (.cells #[.int .i64 k2, .int .i64 h2, .slice A2 n2 c2] 39) = W0 := ⟨_, rfl⟩
  have hb : Below w.heap.size w W0 := by rw [← hW]; exact ((Below.refl _ _).alloc (Nat.le_refl _) _).alloc (by simp) _
  have x0 : Box W0 w.heap.size 39 #[.int .i64 k, .int .i64 h, .slice A n c] := by rw [← hW]; exact (Box.new _ _ _).alloc _
  have x1 : Box W0 (w.heap.size + 1) 39 #[.int .i64 k2, .int .i64 h2, .slice A2 n2 c2] := by rw [← hW]; exact (Box.new (w.alloc _) _ _).at (by simp)
  obtain ⟨W4, hW4⟩ : ∃ W4, W0.alloc (.cells #[.int .i64 k, .int .i64 h, .slice A n c, .int .i64 k2, .int .i64 h2, .slice A2 n2 c2] 39) = W4 := ⟨_, rfl⟩
  have hb4 : Below W0.heap.size W0 W4 := by rw [← hW4]; exact (Below.refl _ _).alloc (Nat.le_refl _) _
  have x4 : Box W4 W0.heap.size 39 #[.int .i64 k, .int .i64 h, .slice A n c, .int .i64 k2, .int .i64 h2, .slice A2 n2 c2] := by rw [← hW4]; exact Box.new _ _ _
  have hbw := hb.trans (hb4.mono hb.size)
  have HMY := Lib.hid (eMayC W cx [m, a] As Am Ac _ ns cs nm cm nc cc 2 2 W4 (hk.keep hbw).sg (hk.keep hbw).ms (hk.keep hbw).cx (clv_two x4 (Rd.keep hbw _ _ hm) (Rd.keep hbw _ _ ha)) hz (fun t ht => by rcases List.mem_cons.1 ht with rfl | ht; exact hnm; rw [List.mem_singleton.1 ht]; exact hna))
  have X0 := Lib.hid (x0.keep hb4 x0.lt)
  have X1 := Lib.hid (x1.keep hb4 x1.lt)
  have HB := Lib.hid hbw
  have HTM : Hid (mayV W cx [m, a] = true → ∀ (W' : World) (pw : Nat), Below W4.heap.size W4 W' → PwE W' pw As ns cs Am nm cm → Calls Tryz.prog 57 #[.pointer (some ⟨pw, 0, none⟩), .slice Ac nc cc, .agg #[.int .i64 k, .int .i64 h, .slice A n c], .agg #[.int .i64 k2, .int .i64 h2, .slice A2 n2 c2]] W' fun e w' => e = .returned (.int .i64 (tmV W m cx a)) ∧ Below W'.heap.size W' w') := Lib.hid fun hy W' pw h' hp => by
    obtain ⟨y1, y2, y3, y4, y5⟩ := (mayV_iff W cx [m, a]).1 hy
    have ym := y3 m (by simp)
    have ya := y3 a (by simp)
    have hnd := ((myB_iff m).1 ym).2.1
    exact eTermAll m cx a B As ns cs Am nm cm Ac nc cc pw _ _ W' (hL hy) ⟨ym, .inr (hlm ym)⟩ ⟨ya, hla ya⟩ (by unfold dlV hiV; omega) (by omega) (hk.keep (hbw.trans (h'.mono hbw.size))) hp (Rd.keep (hbw.trans (h'.mono hbw.size)) _ _ hm) (Rd.keep (hbw.trans (h'.mono hbw.size)) _ _ ha)
  obtain ⟨c0, c1, c2⟩ := x0.three
  obtain ⟨d0, d1, d2⟩ := x1.three
  have HCT : Hid (ckT W cx m a = if mayV W cx [m, a] = true then tmV W m cx a else 1) := Lib.hid rfl
  generalize ckT W cx m a = R at *
  generalize tmV W m cx a = S at *
  clear hk hm ha hL hlm hB hla hb hb4 hbw x0 x1 x4 hz hnm hna
  generalize mayV W cx [m, a] = r at *
  go_enter Tryz.func42, Tryz.ntmps42
  go_wp2_with fail
  clear hW hW4
  refine HMY.out.mono ?_
  rintro e w1 ⟨rfl, hb1⟩
  have HB1 := Lib.hid (HB.out.trans (hb1.mono HB.out.size))
  cases r
  · have HC := Lib.hid (show 1 = R by rw [HCT.out]; rfl)
    clear hb1 HTM HCT
    go_wp2_with fail
    go_ret
    exact ⟨ret_int HC.out, HB1.out⟩
  · have HC := Lib.hid (show S = R by rw [HCT.out]; rfl)
    obtain ⟨W2, hW2⟩ : ∃ W2, w1.alloc (.cells #[.slice As ns cs, .slice Am nm cm] 81) = W2 := ⟨_, rfl⟩
    have hb2 : Below w1.heap.size w1 W2 := by rw [← hW2]; exact (Below.refl _ _).alloc (Nat.le_refl _) _
    have xw : PwE W2 w1.heap.size As ns cs Am nm cm := by rw [← hW2]; exact Box.new _ _ _
    have HT := Lib.hid (HTM.out rfl W2 w1.heap.size (hb1.trans (hb2.mono hb1.size)) xw)
    have HB2 := Lib.hid (HB1.out.trans (hb2.mono HB1.out.size))
    obtain ⟨p0, p1, p2⟩ := ((X0.out.keep hb1 X0.out.lt).keep hb2 (X0.out.keep hb1 X0.out.lt).lt).three
    obtain ⟨q0, q1, q2⟩ := ((X1.out.keep hb1 X1.out.lt).keep hb2 (X1.out.keep hb1 X1.out.lt).lt).three
    clear hb1 HTM HCT hb2 xw
    subst hW2
    go_wp2_with fail
    refine HT.out.mono ?_
    rintro e w3 ⟨rfl, hb3⟩
    have HB3 := Lib.hid (HB2.out.trans (hb3.mono HB2.out.size))
    clear hb3 HT p0 p1 p2 q0 q1 q2
    go_wp2_with fail
    go_ret
    exact ⟨ret_int HC.out, HB3.out⟩
end Go.Proofs.YtbbjjdnnlnabaaaGreat
