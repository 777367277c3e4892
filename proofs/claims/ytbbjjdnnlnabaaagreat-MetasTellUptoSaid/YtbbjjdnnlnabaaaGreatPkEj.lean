/- Texts of one proof, put together. No statement is proved here. -/
import Derived.Test.YtbbjjdnnlnabaaaGreatPkEh
import Derived.Test.YtbbjjdnnlnabaaaGreatPkVn
import Derived.Test.YtbbjjdnnlnabaaaGreatPkYa
import Derived.Test.YtbbjjdnnlnabaaaGreatPkY
namespace Go.Proofs.YtbbjjdnnlnabaaaGreat
open Go.ChangeShapes Go.WideShapes Go.ChangeAt Go.RowKit
set_option linter.unusedVariables false
set_option linter.unusedSimpArgs false
set_option maxRecDepth 100000
set_option maxHeartbeats 16000000
theorem eTypNo {W : WV} {k h : Int} {xs : List T} (h1 : k ≠ 1) (h2 : k ≠ 2) : TpE 49 (tyV W) W (.node k h xs) := by
  intro cx As ns cs Am nm cm Ac nc cc pw va w hE hba hlen hk hp ha
  obtain ⟨A, n, c, rfl, _, _, g3, g4, g5, g6⟩ := Rd_node.1 ha
  obtain ⟨W0, hW⟩ : ∃ W0, w.alloc (.cells #[.int .i64 k, .int .i64 h, .slice A n c] 39) = W0 := ⟨_, rfl⟩
  have hb : Below w.heap.size w W0 := by rw [← hW]; exact (Below.refl _ _).alloc (Nat.le_refl _) _
  have x1 : Box W0 w.heap.size 39 #[.int .i64 k, .int .i64 h, .slice A n c] := by rw [← hW]; exact Box.new _ _ _
  obtain ⟨d0, d1, d2⟩ := x1.three
  have HB := Lib.hid hb
  rw [ty_no W h1 h2]
  have b1 : (k == 1) = false := by simpa using h1
  have b2 : (k != 2) = true := by simpa using h2
  clear hE hba hlen hk hp hb x1 ha g3 g4 g5 g6
  go_enter Tryz.func49, Tryz.ntmps49
  go_wp2_with fail
  try rw [hW]
  clear hW
  try go_wp2_with fail
  go_ret
  exact ⟨rfl, HB.out⟩
theorem eTypAll {W : WV} (a : T) : TpE 49 (tyV W) W a := by
  induction a using T.ind with
  | step k h xs ih =>
    by_cases h1 : k = 1
    · subst h1
      intro cx As ns cs Am nm cm Ac nc cc pw va w hE hba hlen hk hp ha
      obtain ⟨rfl, x, y, rfl, _, _⟩ := piV hba.nod
      obtain ⟨A, n, c, rfl, _⟩ := Rd_node.1 ha
      exact ePiTC (ih x (by simp)) (ih y (by simp)) cx As ns cs Am nm cm Ac nc cc pw A n c w hE hba hlen hk hp ha
    by_cases h2 : k = 2
    · subst h2
      intro cx As ns cs Am nm cm Ac nc cc pw va w hE hba hlen hk hp ha
      obtain ⟨A, n, c, rfl, _⟩ := Rd_node.1 ha
      exact eFamC cx As ns cs Am nm cm Ac nc cc pw A n c w hE hba hlen hk hp ha
    exact eTypNo h1 h2
theorem eCheckTypeC (W : WV) (cx : List T) (m : T) (As : Option Addr) (ns cs : Nat) (Am : Option Addr) (nm cm : Nat) (Ac : Option Addr) (nc cc : Nat) (vm : Value) (w : World) (hk : CkV w W cx As ns cs Am nm cm Ac nc cc) (hm : Rd w m vm)
    (hL : LoV W cx) (hz : SzE W cx) (hnm : nd m ≤ 1048576) (hlm : myB m = true → okT loV m) :
    Calls Tryz.prog 33 #[.slice As ns cs, .slice Am nm cm, .slice Ac nc cc, vm] w fun e w' => e = .returned (.int .i64 (ckTy W cx m)) ∧ Below w.heap.size w w' := by
  obtain ⟨k, h, A, n, c, rfl⟩ := hm.full
  obtain ⟨W0, hW⟩ : ∃ W0, w.alloc (.cells #[.int .i64 k, .int .i64 h, .slice A n c] 39) = W0 := ⟨_, rfl⟩
  have hb : Below w.heap.size w W0 := by rw [← hW]; exact (Below.refl _ _).alloc (Nat.le_refl _) _
  have x0 : Box W0 w.heap.size 39 #[.int .i64 k, .int .i64 h, .slice A n c] := by rw [← hW]; exact Box.new _ _ _
  obtain ⟨W4, hW4⟩ : ∃ W4, W0.alloc (.cells #[.int .i64 k, .int .i64 h, .slice A n c] 39) = W4 := ⟨_, rfl⟩
  have hb4 : Below W0.heap.size W0 W4 := by rw [← hW4]; exact (Below.refl _ _).alloc (Nat.le_refl _) _
  have x4 : Box W4 W0.heap.size 39 #[.int .i64 k, .int .i64 h, .slice A n c] := by rw [← hW4]; exact Box.new _ _ _
  have hbw := hb.trans (hb4.mono hb.size)
  have HMY := Lib.hid (eMayC W cx [m] As Am Ac _ ns cs nm cm nc cc 1 1 W4 (hk.keep hbw).sg (hk.keep hbw).ms (hk.keep hbw).cx (clv_one x4 (Rd.keep hbw _ _ hm)) hz (fun t ht => by rw [List.mem_singleton.1 ht]; exact hnm))
  have X0 := Lib.hid (x0.keep hb4 x0.lt)
  have HB := Lib.hid hbw
  have HTM : Hid (mayV W cx [m] = true → ∀ (W' : World) (pw : Nat), Below W4.heap.size W4 W' → PwE W' pw As ns cs Am nm cm → Calls Tryz.prog 49 #[.pointer (some ⟨pw, 0, none⟩), .slice Ac nc cc, .agg #[.int .i64 k, .int .i64 h, .slice A n c]] W' (ByQ (tyV W m cx) W')) := Lib.hid fun hy W' pw h' hp => by
    obtain ⟨y1, y2, y3, y4, y5⟩ := (mayV_iff W cx [m]).1 hy
    have ym := y3 m (by simp)
    have hnd := ((myB_iff m).1 ym).2.1
    exact eTypAll m cx As ns cs Am nm cm Ac nc cc pw _ W' (env_of hL hy) ⟨ym, .inr (hlm ym)⟩ (by omega) (hk.keep (hbw.trans (h'.mono hbw.size))) hp (Rd.keep (hbw.trans (h'.mono hbw.size)) _ _ hm)
  obtain ⟨c0, c1, c2⟩ := x0.three
  have HCT : Hid (ckTy W cx m = if mayV W cx [m] = true then tyV W m cx else 1) := Lib.hid rfl
  generalize ckTy W cx m = R at *
  generalize tyV W m cx = S at *
  clear hk hm hL hlm hb hb4 hbw x0 x4 hz hnm
  generalize mayV W cx [m] = r at *
  go_enter Tryz.func33, Tryz.ntmps33
  go_wp2_with fail
  clear hW hW4
  refine HMY.out.mono ?_
  rintro e w1 ⟨rfl, hb1⟩
  have HB1 := Lib.hid (HB.out.trans (hb1.mono HB.out.size))
  cases r
  · have HC := Lib.hid (show 1 = R by rw [HCT.out]; rfl)
    clear hb1 HTM HCT
    go_wp2_with fail
    go_ret
    exact ⟨ret_int HC.out, HB1.out⟩
  · have HC := Lib.hid (show S = R by rw [HCT.out]; rfl)
    obtain ⟨W2, hW2⟩ : ∃ W2, w1.alloc (.cells #[.slice As ns cs, .slice Am nm cm] 81) = W2 := ⟨_, rfl⟩
    have hb2 : Below w1.heap.size w1 W2 := by rw [← hW2]; exact (Below.refl _ _).alloc (Nat.le_refl _) _
    have xw : PwE W2 w1.heap.size As ns cs Am nm cm := by rw [← hW2]; exact Box.new _ _ _
    have HT := Lib.hid (HTM.out rfl W2 w1.heap.size (hb1.trans (hb2.mono hb1.size)) xw)
    have HB2 := Lib.hid (HB1.out.trans (hb2.mono HB1.out.size))
    obtain ⟨p0, p1, p2⟩ := ((X0.out.keep hb1 X0.out.lt).keep hb2 (X0.out.keep hb1 X0.out.lt).lt).three
    clear hb1 HTM HCT hb2 xw
    subst hW2
    go_wp2_with fail
    refine HT.out.mono ?_
    rintro e w3 ⟨rfl, hb3⟩
    have HB3 := Lib.hid (HB2.out.trans (hb3.mono HB2.out.size))
    clear hb3 HT p0 p1 p2
    go_wp2_with fail
    go_ret
    exact ⟨ret_int HC.out, HB3.out⟩
theorem eCtxC (W0 : WV) (ar cx : List T) (As : Option Addr) (ns cs : Nat) (Am : Option Addr) (nm cm : Nat) (Aa : Option Addr) (na ca : Nat) (A : Option Addr) (n c : Nat) (w : World) (hk : CkV w W0 ar As ns cs Am nm cm Aa na ca) (hx : CLV w cx A n c) (hl : LoV W0 (ar ++ cx)) (hz : SzE W0 (ar ++ cx)) (hna : na ≤ 90000) :
    Calls Tryz.prog 32 #[.slice As ns cs, .slice Am nm cm, .slice Aa na ca, .slice A n c] w fun e w' => e = .returned (.int .i64 (ctV W0 ar cx)) ∧ Below w.heap.size w w' := by
  have hcap := hx.cap
  have hle := hx.le
  have hln := hx.len
  unfold maxLen at hcap
  have HX := Lib.hid hx; clear hx
  have HK := Lib.hid hk; clear hk
  have HL := Lib.hid hl; clear hl
  have HZ := Lib.hid hz; clear hz
  by_cases h40 : 40 < n
  · have hd : decide ((n : Int) > 40) = true := by simp; omega
    have HQ := Lib.hid (show 4 = ctV W0 ar cx by rw [ctV, firV, if_pos (by omega)])
    go_enter Tryz.func32, Tryz.ntmps32
    go_wp2_with fail
    go_ret
    exact ⟨ret_int HQ.out, Below.refl _ _⟩
  have hd : decide ((n : Int) > 40) = false := by simp; omega
  obtain ⟨Q, hQ⟩ : ∃ Q, fiV (cxW W0 ar) [] cx = Q := ⟨_, rfl⟩
  have HR := Lib.hid (show ctV W0 ar cx = Q.2 by rw [ctV, firV, if_neg (by omega), hQ])
  have HQ0 := Lib.hid hQ; clear hQ
  obtain ⟨A5, c5, w55, cs55, hrun5, hrow5, hb55⟩ := rowT_new HK.out.cx (by omega) (Below.refl w.heap.size w)
  have HROW5 := Lib.hid hrow5
  have HB55 := Lib.hid hb55
  clear hrow5 hb55
  go_enter Tryz.func32, Tryz.ntmps32
  go_wp2_with (at_builtin; first | (refine Lib.wpList_append_run _ rfl _ _ _ _ rfl _ _ rfl rfl _ _ hrun5 ?_; clear hrun5))
  go_loopw [9, 10] (fun v i wr => ∃ (j : Nat) (Av : Option Addr) (cv : Nat) (csv : List Value), j ≤ n ∧ i = .int .i64 j ∧ v = .slice Av (na + j) cv ∧ Hid (RowTv w wr Av (na + j) cv (ar ++ cx.take j) csv) ∧ Hid (fiV (cxW W0 ar) (cx.take j) (cx.drop j) = Q) ∧ Hid (Below w.heap.size w wr)) (fun _ i _ => n - (Go.RowKit.intOf i).toNat)
  case atStart => exact ⟨0, A5, c5, cs55, Nat.zero_le _, rfl, rfl, Lib.hid (by simpa using HROW5.out), Lib.hid (by simpa using HQ0.out), HB55⟩
  case round =>
    clear HROW5 HB55
    obtain ⟨j, Av, cv, csv, hj, rfl, rfl, HROW, HI, HB⟩ := hrel
    by_cases hlt : j < n
    · obtain ⟨x, ht⟩ := at_of HX.out.len hlt
      obtain ⟨b, o, k, g, A1, n1, c1, rfl, f0, f1, f2, hre⟩ := ((HX.out.keep HB.out).at_ j x ht).full
      obtain ⟨_, _, k', g', A1', n1', c1', e', f0', f1', f2', hre0⟩ := (HX.out.at_ j x ht).full
      cases e'
      have q0 : Value.int .i64 k = .int .i64 k' := Option.some.inj (f0.symm.trans ((HB.out.cell (cell_lt f0')).trans f0'))
      have q1 : Value.int .i64 g = .int .i64 g' := Option.some.inj (f1.symm.trans ((HB.out.cell (cell_lt f1')).trans f1'))
      have q2 : Value.slice A1 n1 c1 = .slice A1' n1' c1' := Option.some.inj (f2.symm.trans ((HB.out.cell (cell_lt f2')).trans f2'))
      cases q0; cases q1; cases q2
      have hi0 : (0 : Int) ≤ j := by omega
      have hi1 : (j : Int) < n := by omega
      have dj : decide ((j : Int) < (n : Int)) = true := by simp; omega
      have hsj : IntKind.i64.wrap ((j : Int) + 1) = ((j + 1 : Nat) : Int) := by rw [wrapEq, wrap_small (by omega) (by omega)]; omega
      have hmem : x ∈ ar ++ cx := List.mem_append_right _ (List.mem_of_getElem? ht)
      have hsub : ∀ t ∈ ar ++ cx.take j, t ∈ ar ++ cx := fun t h => by
        rcases List.mem_append.1 h with h | h
        · exact List.mem_append_left _ h
        · exact List.mem_append_right _ (List.mem_of_mem_take h)
      have hkr := HK.out.keep HB.out
      have HT0 := Lib.hid (eCheckTypeC W0 (ar ++ cx.take j) x As ns cs Am nm cm Av (na + j) cv _ wr ⟨hkr.sg, hkr.ms, HROW.out.lst HB.out⟩ hre (lo_take HL.out j) ⟨HZ.out.sg, HZ.out.ms, fun t h => HZ.out.cx t (hsub t h)⟩ (HZ.out.cx x hmem) (HL.out.cx x hmem))
      obtain ⟨R2, hR2⟩ : ∃ R, ckTy W0 (ar ++ cx.take j) x = R := ⟨_, rfl⟩
      have HW := Lib.hid (show cxW W0 ar (cx.take j) x = R2 from hR2)
      rw [hR2] at HT0
      have HXJ := Lib.hid ht
      have HRE0 := Lib.hid hre0
      clear ht hre hre0 hR2 hmem hsub hkr f0' f1' f2'
      go_wp2_with fail
      refine HT0.out.mono ?_
      rintro e w1 ⟨rfl, hb1⟩
      have HB1 := Lib.hid (HB.out.trans (hb1.mono HB.out.size))
      have HROW1 := Lib.hid (HROW.out.kept hb1)
      replace f0 := (hb1.cell (cell_lt f0)).trans f0
      replace f1 := (hb1.cell (cell_lt f1)).trans f1
      replace f2 := (hb1.cell (cell_lt f2)).trans f2
      clear hb1 HT0 HB HROW
      by_cases hz : R2 = 0
      · subst hz
        have HF := Lib.hid (show fiV (cxW W0 ar) (cx.take (j + 1)) (cx.drop (j + 1)) = Q by rw [← fi_go HXJ.out HW.out]; exact HI.out)
        obtain ⟨w2, hw2⟩ : ∃ w2, w1.alloc (.cells #[.int .i64 k, .int .i64 g, .slice A1 n1 c1] 39) = w2 := ⟨_, rfl⟩
        have hb2 : Below w1.heap.size w1 w2 := by rw [← hw2]; exact (Below.refl _ _).alloc (Nat.le_refl _) _
        have z2 : Box w2 w1.heap.size 39 #[.int .i64 k, .int .i64 g, .slice A1 n1 c1] := by rw [← hw2]; exact Box.new _ _ _
        have hbw2 := HB1.out.trans (hb2.mono HB1.out.size)
        obtain ⟨q3, c3, w3, cs3, hrun3, hrow3, hb3, _, _⟩ := rowT_one (HROW1.out.kept hb2) z2 HRE0.out (by omega) hbw2
        have HROW3 := Lib.hid hrow3
        have HB3 := Lib.hid hb3
        clear hrow3 hb3 hb2 z2 hbw2
        subst hw2
        go_wp2_with (at_builtin; first | (refine Lib.wpList_append_run _ rfl _ _ _ _ rfl _ _ rfl rfl _ _ hrun3 ?_; clear hrun3))
        go_roundw
        case measure => simp [Go.RowKit.intOf]; omega
        case rel =>
          refine ⟨j + 1, some ⟨q3, 0, none⟩, c3, cs3, by omega, by go_num, by rw [Nat.add_assoc], ?_, HF, HB3⟩
          rw [take_snoc HXJ.out, ← List.append_assoc, ← Nat.add_assoc]
          exact HROW3
      · have hd2 : (R2 != 0) = true := by simpa using hz
        have HF := Lib.hid (show R2 = ctV W0 ar cx by rw [HR.out, ← HI.out, fi_e HXJ.out HW.out hz])
        go_wp2_with fail
        go_ret
        exact ⟨ret_int HF.out, HB1.out⟩
    · obtain rfl : j = n := by omega
      have dj : decide ((j : Int) < (j : Int)) = false := by simp
      have HF := Lib.hid (show 0 = ctV W0 ar cx by rw [HR.out, ← HI.out, drop_all HX.out.len (by omega), fiV])
      go_wp2_with fail
      go_ret
      exact ⟨ret_int HF.out, HB.out⟩
end Go.Proofs.YtbbjjdnnlnabaaaGreat
