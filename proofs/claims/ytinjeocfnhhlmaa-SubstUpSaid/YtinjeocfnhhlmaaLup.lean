/-
  The walk of the law SubstUp.
-/
import Derived.Test.YtinjeocfnhhlmaaPc
namespace Go.Proofs.Ytinjeocfnhhlmaa
open Go.ChangeShapes Go.WideShapes Go.ChangeAt Go.RowKit
set_option linter.unusedVariables false

set_option maxRecDepth 100000 in
set_option maxHeartbeats 8000000 in
theorem substUpC (t : T) (b : Int) (v : Value) (w : World) (hvt : Rd w t v) :
    Calls Try.prog 21 #[v, .int .i64 b] w fun e w' => e = .returned (.bool true) ∧ Below w.heap.size w w' := by
  obtain ⟨kt, ht, At, nt, ct, rfl⟩ := hvt.full
  have HVt := Lib.hid hvt; clear hvt
  obtain ⟨W0, hW0⟩ : ∃ W0, (w.alloc (.cells #[.int .i64 kt, .int .i64 ht, .slice At nt ct] 24)) = W0 := ⟨_, rfl⟩
  have hb : Below w.heap.size w W0 := by rw [← hW0]; exact ((Below.refl _ _).alloc (Nat.le_refl _) _)
  have bxt : Box W0 (w.heap.size) 24 #[.int .i64 kt, .int .i64 ht, .slice At nt ct] := by rw [← hW0]; exact (Box.new w _ _)
  replace HVt := Lib.hid (Rd.keep hb _ _ HVt.out)
  have HW0 := Lib.hid hW0; clear hW0
  go_enter Try.func21, Try.ntmps21
  go_wp2_with fail
  rw [HW0.out]
  clear HW0
  refine (awakeU _).mono ?_
  rintro e w1 ⟨rfl, hb1⟩
  replace bxt := bxt.keep hb1 bxt.lt
  replace HVt := Lib.hid (Rd.keep hb1 _ _ HVt.out)
  replace hb := hb.trans (hb1.mono hb.size)
  clear hb1
  obtain ⟨bxt0, bxt1, bxt2⟩ := bxt.three
  have bxtl := bxt.lt
  go_wp2_with fail
  refine (refLight t 1000 60 _ _ HVt.out).mono ?_
  have HLt : Hid (ltB t 1000 60 = true → ltB t 1000 60 = true) := Lib.hid fun e => e
  generalize hqt : ltB t 1000 60 = Rt at *
  rintro e w2t ⟨rfl, hb1⟩
  have HQt := Lib.hid hqt; clear hqt HLt
  clear bxt0 bxt1 bxt2 bxtl
  replace bxt := bxt.keep hb1 bxt.lt
  replace HVt := Lib.hid (Rd.keep hb1 _ _ HVt.out)
  replace hb := hb.trans (hb1.mono hb.size)
  clear hb1
  obtain ⟨bxt0, bxt1, bxt2⟩ := bxt.three
  have bxtl := bxt.lt
  cases Rt
  · go_wp2_with fail
    go_ret
    exact ⟨rfl, hb⟩
  go_wp2_with fail
  refine (myC t _ _ HVt.out).mono ?_
  generalize hqt : myB t = Mt at *
  rintro e w3t ⟨rfl, hb1⟩
  have HMt := Lib.hid hqt; clear hqt
  clear bxt0 bxt1 bxt2 bxtl
  replace bxt := bxt.keep hb1 bxt.lt
  replace HVt := Lib.hid (Rd.keep hb1 _ _ HVt.out)
  replace hb := hb.trans (hb1.mono hb.size)
  clear hb1
  obtain ⟨bxt0, bxt1, bxt2⟩ := bxt.three
  have bxtl := bxt.lt
  cases Mt
  · go_wp2_with fail
    go_ret
    exact ⟨rfl, hb⟩
  have KNt : Hid (Kn 1000 60 t) := Lib.hid (kn_of HQt.out HMt.out); clear HQt HMt
  by_cases x1 : b < 0
  · have dx1 : decide (b < 0) = true := by simpa using x1
    go_wp2_with fail
    go_ret
    exact ⟨rfl, hb⟩
  have dx1 : decide (b < 0) = false := by simpa using x1
  by_cases x2 : 1000 < b
  · have dx2 : decide (1000 < b) = true := by simpa using x2
    go_wp2_with fail
    go_ret
    exact ⟨rfl, hb⟩
  have dx2 : decide (1000 < b) = false := by simpa using x2
  obtain ⟨f1, f2⟩ := up_tells KNt.out (b := b) (by omega)
  obtain ⟨f3, f4⟩ := up1_tells KNt.out (b := b) (by omega)
  have f5 : upX t b 0 = upT b t 0 := KNt.out.upX (by omega) (by omega)
  have f6 : upX t b 1 = upT b t 1 := KNt.out.upX (by omega) (by omega)
  have F1 := Lib.hid f1; have F2 := Lib.hid f2; have F3 := Lib.hid f3; have F4 := Lib.hid f4; have F5 := Lib.hid f5; have F6 := Lib.hid f6
  clear f1 f2 f3 f4 f5 f6
  have hw64 : wrap64 (b + 1) = b + 1 := wrap_small (by omega) (by omega)
  have HW64 := Lib.hid hw64; clear hw64
  have hnd4 : nd t ≤ 1048576 := by have := KNt.out.n4; omega
  go_wp2_with fail
  refine (ApplyC (t := t) (L := []) (sh := b) HVt.out rfl (Nat.le_refl _) (Nat.zero_le _) (fun i u hu => by simp at hu) (fun _ => KNt.out.low) (fun x hx => by cases hx)).mono ?_
  rw [F1.out, F2.out]
  rintro e w5 ⟨kp, hp, Ap, np, cp, rfl, hrd, hb1⟩
  have HVp := Lib.hid (RdF.rd _ _ hrd); clear hrd
  clear bxt0 bxt1 bxt2 bxtl
  replace bxt := bxt.keep hb1 bxt.lt
  replace HVt := Lib.hid (Rd.keep hb1 _ _ HVt.out)
  replace hb := hb.trans (hb1.mono hb.size)
  clear hb1
  obtain ⟨bxt0, bxt1, bxt2⟩ := bxt.three
  have bxtl := bxt.lt
  go_wp2_with fail
  have hbA : Below w5.heap.size w5 (w5.alloc (.cells #[.int .i64 kp, .int .i64 hp, .slice Ap np cp] 24)) := (Below.refl _ _).alloc (Nat.le_refl _) _
  have xp := Box.new w5 24 #[.int .i64 kp, .int .i64 hp, .slice Ap np cp]
  generalize w5.alloc (.cells #[.int .i64 kp, .int .i64 hp, .slice Ap np cp] 24) = W5 at *
  replace bxt := bxt.keep hbA bxt.lt
  replace HVt := Lib.hid (Rd.keep hbA _ _ HVt.out)
  replace HVp := Lib.hid (Rd.keep hbA _ _ HVp.out)
  replace hb := hb.trans (hbA.mono hb.size)
  clear hbA
  clear bxt0 bxt1 bxt2 bxtl
  obtain ⟨bxt0, bxt1, bxt2⟩ := bxt.three
  have bxtl := bxt.lt
  obtain ⟨xp0, xp1, xp2⟩ := xp.three
  have xpl := xp.lt
  have HUN : Hid (∀ W', Hid (Below W5.heap.size W5 W') → Calls Try.prog 55 #[.agg #[.slice none 0 0, .int .i64 b]] W' (fun e w' => SEnd [.node 4 0 []] (b + 1) W' e w' ∧ Hid (Below W5.heap.size W5 w'))) := Lib.hid fun W' h => by
    have := UnderC (L := []) (A := none) (n := 0) (c := 0) (sh := b) (w := W') rfl (Nat.le_refl _) (Nat.zero_le _) (fun i u hu => by simp at hu) (fun x hx => by cases hx) (by omega)
    rw [HW64.out] at this
    exact this.mono fun e w' h' => ⟨h', by obtain ⟨_, _, _, _, _, hb'⟩ := h'; exact cur_trans h hb'⟩
  have lW5 : w.heap.size ≤ W5.heap.size := hb.size
  have HK : Hid (∀ w', Hid (Below W5.heap.size W5 w') → (w'.cell? ⟨w.heap.size, 0, none⟩ = some (.int .i64 kt) ∧ w'.cell? ⟨w.heap.size, 1, none⟩ = some (.int .i64 ht) ∧ w'.cell? ⟨w.heap.size, 2, none⟩ = some (.slice At nt ct) ∧ Hid (Below W5.heap.size W5 w'))) := Lib.hid fun w' h => by
    have s0 := bxt.keep h.out bxt.lt
    exact ⟨s0.three.1, s0.three.2.1, s0.three.2.2, h⟩
  have hcu0 : Hid (Below W5.heap.size W5 W5.drew) := cur_drew
  go_region_held3 (fun w' => w'.cell? ⟨w.heap.size, 0, none⟩ = some (.int .i64 kt) ∧ w'.cell? ⟨w.heap.size, 1, none⟩ = some (.int .i64 ht) ∧ w'.cell? ⟨w.heap.size, 2, none⟩ = some (.slice At nt ct) ∧ Hid (Below W5.heap.size W5 w'))
    (first | exact HK.out _ (by assumption) | exact HK.out _ (cur_alloc (by assumption) _) | exact HK.out _ (cur_alloc (cur_alloc (by assumption) _) _) | exact HK.out _ (cur_set3 (by assumption) (by omega) _ _ _))
    (first
      | (go_at_call 37
         with_reducible refine Calls.mono (HAP.out _ ?hh) ?_
         case hh => first | exact Below.refl _ w8 | exact (Below.refl _ w8).alloc (Nat.le_refl _) _
         rintro e w9 ⟨⟨kq, hq, Aq, nq, cq, rfl, hrd, hb9⟩, hcu9⟩
         first | (have zP := Box.keepC (cs := #[.int .i64 0, .int .i64 0, .slice none 0 0]) (ty := 24) (by first | exact zP | exact zP.alloc _ | exact Box.new _ _ _ | exact (Box.new _ _ _).alloc _) hb9; have lzhb9 := zP.lt) | skip
         have hs9 := hcu9.out.size
         have HRq := Lib.hid hrd
         first | (obtain ⟨z0, z1, z2⟩ := zP.three; have fz0 := zP.frozen 0; have fz1 := zP.frozen 1; have fz2 := zP.frozen 2) | skip
         clear hrd hb9)
      | (go_at_call 55
         with_reducible refine Calls.mono (HUN.out _ ?hh) ?_
         case hh => first | assumption | exact Lib.hid (((Below.refl _ _).alloc (Nat.le_refl _) _).drew)
         rintro e w8 ⟨⟨A8, n8, c8, rfl, hrl, hb8⟩, hcu8⟩
         have hs8 := hcu8.out.size
         first | (have zP := Box.keepC (cs := #[.int .i64 0, .int .i64 0, .slice none 0 0]) (ty := 24) (by first | exact zP | exact zP.alloc _ | exact Box.new _ _ _ | exact (Box.new _ _ _).alloc _) hb8; have lzhb8 := zP.lt) | skip
         have hs88 := hb8.size
         have HAP : Hid (∀ W', Below w8.heap.size w8 W' → Calls Try.prog 37 #[.agg #[.int .i64 kt, .int .i64 ht, .slice At nt ct], .agg #[.slice A8 n8 c8, .int .i64 (b + 1)]] W' (fun e w' => TEnd (upT b t 1) 0 W' e w' ∧ Hid (Below W5.heap.size W5 w'))) := Lib.hid fun W' h => by
            have := ApplyC (w := W') (t := t) (L := [.node 4 0 []]) (sh := b + 1) (Rd.keep (cur_trans hcu8 h).out _ _ HVt.out) hrl.len hrl.le hrl.cap (fun i u hu => RdAt.keep h (rdFAt_rd (hrl.at_ i u hu))) (fun _ => KNt.out.low) (fun x hx _ => by rw [List.mem_singleton.1 hx]; simp [LoT, okT, okL])
            rw [F3.out, F4.out] at this
            exact this.mono fun e w' h' => ⟨h', by obtain ⟨_, _, _, _, _, _, _, hb'⟩ := h'; exact cur_trans (cur_trans hcu8 h) hb'⟩
         clear hrl hb8))
  all_goals first
    | (obtain ⟨W6, hWf⟩ : ∃ Wf, w9.alloc (.cells #[.int .i64 kq, .int .i64 hq, .slice Aq nq cq] 24) = Wf := ⟨_, rfl⟩
       obtain ⟨pq, hpe⟩ : ∃ p, p = w9.heap.size := ⟨_, rfl⟩
       have xq : Box W6 pq 24 #[.int .i64 kq, .int .i64 hq, .slice Aq nq cq] := by rw [hpe, ← hWf]; exact Box.new _ _ _
       have hbF : Below W5.heap.size W5 W6 := by rw [← hWf]; exact (cur_alloc (by assumption) _).out
       have HVq : Hid (Rd W6 (upT b t 1) (.agg #[.int .i64 kq, .int .i64 hq, .slice Aq nq cq])) := Lib.hid (by rw [← hWf]; exact rd_alloc HRq.out _)
       rw [hWf, ← hpe]
       clear hWf hpe)
    | (obtain ⟨W6, hWf⟩ : ∃ Wf, ((w9.setCell ⟨w8.heap.size, 0, none⟩ (.int .i64 kq)).setCell ⟨w8.heap.size, 1, none⟩ (.int .i64 hq)).setCell ⟨w8.heap.size, 2, none⟩ (.slice Aq nq cq) = Wf := ⟨_, rfl⟩
       obtain ⟨pq, hpe⟩ : ∃ p, p = w8.heap.size := ⟨_, rfl⟩
       have xq : Box W6 pq 24 #[.int .i64 kq, .int .i64 hq, .slice Aq nq cq] := by rw [hpe, ← hWf]; exact zP.put3 _ _ _
       have hbF : Below W5.heap.size W5 W6 := by rw [← hWf]; exact (cur_set3 (by assumption) (by omega) _ _ _).out
       have HVq : Hid (Rd W6 (upT b t 1) (.agg #[.int .i64 kq, .int .i64 hq, .slice Aq nq cq])) := Lib.hid (by rw [← hWf]; exact rd_set3 HRq.out (by first | omega | (simp; omega) | simp))
       rw [hWf, ← hpe]
       clear hWf hpe)
    | (obtain ⟨W6, hWf⟩ : ∃ Wf, ((w9.setCell ⟨W5.heap.size, 0, none⟩ (.int .i64 kq)).setCell ⟨W5.heap.size, 1, none⟩ (.int .i64 hq)).setCell ⟨W5.heap.size, 2, none⟩ (.slice Aq nq cq) = Wf := ⟨_, rfl⟩
       obtain ⟨pq, hpe⟩ : ∃ p, p = W5.heap.size := ⟨_, rfl⟩
       have xq : Box W6 pq 24 #[.int .i64 kq, .int .i64 hq, .slice Aq nq cq] := by rw [hpe, ← hWf]; exact zP.put3 _ _ _
       have hbF : Below W5.heap.size W5 W6 := by rw [← hWf]; exact (cur_set3 (by assumption) (by omega) _ _ _).out
       have HVq : Hid (Rd W6 (upT b t 1) (.agg #[.int .i64 kq, .int .i64 hq, .slice Aq nq cq])) := Lib.hid (by rw [← hWf]; exact rd_set3 HRq.out (by first | omega | (simp; omega) | simp))
       rw [hWf, ← hpe]
       clear hWf hpe)
  all_goals
    replace bxt := bxt.keep hbF bxt.lt
    replace xp := xp.keep hbF xp.lt
    replace HVt := Lib.hid (Rd.keep hbF _ _ HVt.out)
    replace HVp := Lib.hid (Rd.keep hbF _ _ HVp.out)
    replace hb := hb.trans (hbF.mono hb.size)
    clear hbF
    try clear zP
  all_goals
    have HUA : Hid (∀ W, Hid (Below W6.heap.size W6 W) → Calls Try.prog 58 #[.agg #[.int .i64 kt, .int .i64 ht, .slice At nt ct], .int .i64 b, .int .i64 0] W (fun e w' => OEnd (upT b t 0) W e w' ∧ Hid (Below W6.heap.size W6 w'))) := Lib.hid fun W h => by
      have := upC t b 0 _ W (Rd.keep h.out _ _ HVt.out) hnd4
      rw [F5.out] at this
      exact this.mono fun e w' h' => ⟨h', by obtain ⟨_, _, _, hb'⟩ := h'; exact cur_trans h hb'⟩
    have HUB : Hid (∀ W, Hid (Below W6.heap.size W6 W) → Calls Try.prog 58 #[.agg #[.int .i64 kt, .int .i64 ht, .slice At nt ct], .int .i64 b, .int .i64 1] W (fun e w' => OEnd (upT b t 1) W e w' ∧ Hid (Below W6.heap.size W6 w'))) := Lib.hid fun W h => by
      have := upC t b 1 _ W (Rd.keep h.out _ _ HVt.out) hnd4
      rw [F6.out] at this
      exact this.mono fun e w' h' => ⟨h', by obtain ⟨_, _, _, hb'⟩ := h'; exact cur_trans h hb'⟩
    go_wp2_with fail
    have HK : Hid (∀ w', Hid (Below W6.heap.size W6 w') → (w'.cell? ⟨w.heap.size, 0, none⟩ = some (.int .i64 kt) ∧ w'.cell? ⟨w.heap.size, 1, none⟩ = some (.int .i64 ht) ∧ w'.cell? ⟨w.heap.size, 2, none⟩ = some (.slice At nt ct) ∧ w'.cell? ⟨w5.heap.size, 0, none⟩ = some (.int .i64 kp) ∧ w'.cell? ⟨w5.heap.size, 1, none⟩ = some (.int .i64 hp) ∧ w'.cell? ⟨w5.heap.size, 2, none⟩ = some (.slice Ap np cp) ∧ w'.cell? ⟨pq, 0, none⟩ = some (.int .i64 kq) ∧ w'.cell? ⟨pq, 1, none⟩ = some (.int .i64 hq) ∧ w'.cell? ⟨pq, 2, none⟩ = some (.slice Aq nq cq) ∧ Hid (Below W6.heap.size W6 w'))) := Lib.hid fun w' h => by
      have s0 := bxt.keep h.out bxt.lt
      have s1 := xp.keep h.out xp.lt
      have s2 := xq.keep h.out xq.lt
      exact ⟨s0.three.1, s0.three.2.1, s0.three.2.2, s1.three.1, s1.three.2.1, s1.three.2.2, s2.three.1, s2.three.2.1, s2.three.2.2, h⟩
    have hcu0 : Hid (Below W6.heap.size W6 W6.drew) := cur_drew
    go_region_held3 (fun w' => w'.cell? ⟨w.heap.size, 0, none⟩ = some (.int .i64 kt) ∧ w'.cell? ⟨w.heap.size, 1, none⟩ = some (.int .i64 ht) ∧ w'.cell? ⟨w.heap.size, 2, none⟩ = some (.slice At nt ct) ∧ w'.cell? ⟨w5.heap.size, 0, none⟩ = some (.int .i64 kp) ∧ w'.cell? ⟨w5.heap.size, 1, none⟩ = some (.int .i64 hp) ∧ w'.cell? ⟨w5.heap.size, 2, none⟩ = some (.slice Ap np cp) ∧ w'.cell? ⟨pq, 0, none⟩ = some (.int .i64 kq) ∧ w'.cell? ⟨pq, 1, none⟩ = some (.int .i64 hq) ∧ w'.cell? ⟨pq, 2, none⟩ = some (.slice Aq nq cq) ∧ Hid (Below W6.heap.size W6 w'))
      (first | exact HK.out _ (by assumption) | exact HK.out _ (cur_alloc (by assumption) _) | exact HK.out _ (cur_alloc (cur_alloc (by assumption) _) _) | exact HK.out _ (cur_set3 (by assumption) (by omega) _ _ _))
      (first
        | (go_at_call 58
           with_reducible refine Calls.mono (HUA.out _ ?hh) ?_
           case hh => assumption
           rintro e v8 ⟨⟨v1, rfl, how, hb8⟩, hcu8⟩
           obtain ⟨ka, ha, Aa, na, ca, rfl⟩ := how.full
           have HVa := Lib.hid (RdF.rd _ _ how.rdF)
           clear how hb8)
        | (go_at_call 58
           with_reducible refine Calls.mono (HUB.out _ ?hh) ?_
           case hh => assumption
           rintro e v8 ⟨⟨v1, rfl, how, hb8⟩, hcu8⟩
           obtain ⟨kb, hb_, Ab, nb, cb, rfl⟩ := how.full
           have HVb := Lib.hid (RdF.rd _ _ how.rdF)
           clear how hb8)
        | (go_at_call 33
           with_reducible refine (termSame (upT b t 0) (upT b t 0) _ _ _ (Rd.keep (Hid.out hcu8) _ _ HVp.out) HVa.out).mono ?_
           rw [sam_refl]
           rintro e v9 ⟨rfl, hb9⟩
           have hcu9 := cur_trans hcu8 hb9
           clear hb9)
        | (go_at_call 33
           with_reducible refine (termSame (upT b t 1) (upT b t 1) _ _ _ (Rd.keep (Hid.out hcu8) _ _ HVq.out) HVb.out).mono ?_
           rw [sam_refl]
           rintro e v9 ⟨rfl, hb9⟩
           have hcu9 := cur_trans hcu8 hb9
           clear hb9))
    all_goals
      go_wp2_with fail
      go_ret
      exact ⟨rfl, hb.trans (hcu9.out.mono hb.size)⟩
end Go.Proofs.Ytinjeocfnhhlmaa
