/-
  The walk of the law SubstWeakens.
-/
import Derived.Test.YtinjeocfnhhlmaaPc
namespace Go.Proofs.Ytinjeocfnhhlmaa
open Go.ChangeShapes Go.WideShapes Go.ChangeAt Go.RowKit
set_option linter.unusedVariables false

set_option maxRecDepth 100000 in
set_option maxHeartbeats 8000000 in
theorem substWeakensC (t x : T) (b : Int) (v u : Value) (w : World) (hvt : Rd w t v) (hvx : Rd w x u) :
    Calls Try.prog 17 #[v, u, .int .i64 b] w fun e w' => e = .returned (.bool true) ∧ Below w.heap.size w w' := by
  obtain ⟨kt, ht, At, nt, ct, rfl⟩ := hvt.full
  have HVt := Lib.hid hvt; clear hvt
  obtain ⟨kx, hx, Ax, nx, cx, rfl⟩ := hvx.full
  have HVx := Lib.hid hvx; clear hvx
  obtain ⟨W0, hW0⟩ : ∃ W0, ((w.alloc (.cells #[.int .i64 kt, .int .i64 ht, .slice At nt ct] 24)).alloc (.cells #[.int .i64 kx, .int .i64 hx, .slice Ax nx cx] 24)) = W0 := ⟨_, rfl⟩
  have hb : Below w.heap.size w W0 := by rw [← hW0]; exact (((Below.refl _ _).alloc (Nat.le_refl _) _).alloc (by simp) _)
  have bxt : Box W0 (w.heap.size) 24 #[.int .i64 kt, .int .i64 ht, .slice At nt ct] := by rw [← hW0]; exact ((Box.new w _ _).alloc _)
  have bxx : Box W0 (w.heap.size + 1) 24 #[.int .i64 kx, .int .i64 hx, .slice Ax nx cx] := by rw [← hW0]; exact ((Box.new (w.alloc _) _ _).at (by simp))
  replace HVt := Lib.hid (Rd.keep hb _ _ HVt.out)
  replace HVx := Lib.hid (Rd.keep hb _ _ HVx.out)
  have HW0 := Lib.hid hW0; clear hW0
  go_enter Try.func17, Try.ntmps17
  go_wp2_with fail
  rw [HW0.out]
  clear HW0
  refine (awakeU _).mono ?_
  rintro e w1 ⟨rfl, hb1⟩
  replace bxt := bxt.keep hb1 bxt.lt
  replace bxx := bxx.keep hb1 bxx.lt
  replace HVt := Lib.hid (Rd.keep hb1 _ _ HVt.out)
  replace HVx := Lib.hid (Rd.keep hb1 _ _ HVx.out)
  replace hb := hb.trans (hb1.mono hb.size)
  clear hb1
  obtain ⟨bxt0, bxt1, bxt2⟩ := bxt.three
  have bxtl := bxt.lt
  obtain ⟨bxx0, bxx1, bxx2⟩ := bxx.three
  have bxxl := bxx.lt
  go_wp2_with fail
  refine (refLight t 1000 60 _ _ HVt.out).mono ?_
  have HLt : Hid (ltB t 1000 60 = true → ltB t 1000 60 = true) := Lib.hid fun e => e
  generalize hqt : ltB t 1000 60 = Rt at *
  rintro e w2t ⟨rfl, hb1⟩
  have HQt := Lib.hid hqt; clear hqt HLt
  clear bxt0 bxt1 bxt2 bxtl bxx0 bxx1 bxx2 bxxl
  replace bxt := bxt.keep hb1 bxt.lt
  replace bxx := bxx.keep hb1 bxx.lt
  replace HVt := Lib.hid (Rd.keep hb1 _ _ HVt.out)
  replace HVx := Lib.hid (Rd.keep hb1 _ _ HVx.out)
  replace hb := hb.trans (hb1.mono hb.size)
  clear hb1
  obtain ⟨bxt0, bxt1, bxt2⟩ := bxt.three
  have bxtl := bxt.lt
  obtain ⟨bxx0, bxx1, bxx2⟩ := bxx.three
  have bxxl := bxx.lt
  go_wp2_with fail
  refine (refLight x 1000 60 _ _ HVx.out).mono ?_
  have HLx : Hid (ltB x 1000 60 = true → ltB x 1000 60 = true) := Lib.hid fun e => e
  generalize hqx : ltB x 1000 60 = Rx at *
  rintro e w2x ⟨rfl, hb1⟩
  have HQx := Lib.hid hqx; clear hqx HLx
  clear bxt0 bxt1 bxt2 bxtl bxx0 bxx1 bxx2 bxxl
  replace bxt := bxt.keep hb1 bxt.lt
  replace bxx := bxx.keep hb1 bxx.lt
  replace HVt := Lib.hid (Rd.keep hb1 _ _ HVt.out)
  replace HVx := Lib.hid (Rd.keep hb1 _ _ HVx.out)
  replace hb := hb.trans (hb1.mono hb.size)
  clear hb1
  obtain ⟨bxt0, bxt1, bxt2⟩ := bxt.three
  have bxtl := bxt.lt
  obtain ⟨bxx0, bxx1, bxx2⟩ := bxx.three
  have bxxl := bxx.lt
  cases Rt
  · go_wp2_with fail
    go_ret
    exact ⟨rfl, hb⟩
  cases Rx
  · go_wp2_with fail
    go_ret
    exact ⟨rfl, hb⟩
  go_wp2_with fail
  refine (myC t _ _ HVt.out).mono ?_
  generalize hqt : myB t = Mt at *
  rintro e w3t ⟨rfl, hb1⟩
  have HMt := Lib.hid hqt; clear hqt
  clear bxt0 bxt1 bxt2 bxtl bxx0 bxx1 bxx2 bxxl
  replace bxt := bxt.keep hb1 bxt.lt
  replace bxx := bxx.keep hb1 bxx.lt
  replace HVt := Lib.hid (Rd.keep hb1 _ _ HVt.out)
  replace HVx := Lib.hid (Rd.keep hb1 _ _ HVx.out)
  replace hb := hb.trans (hb1.mono hb.size)
  clear hb1
  obtain ⟨bxt0, bxt1, bxt2⟩ := bxt.three
  have bxtl := bxt.lt
  obtain ⟨bxx0, bxx1, bxx2⟩ := bxx.three
  have bxxl := bxx.lt
  cases Mt
  · go_wp2_with fail
    go_ret
    exact ⟨rfl, hb⟩
  have KNt : Hid (Kn 1000 60 t) := Lib.hid (kn_of HQt.out HMt.out); clear HQt HMt
  go_wp2_with fail
  refine (myC x _ _ HVx.out).mono ?_
  generalize hqx : myB x = Mx at *
  rintro e w3x ⟨rfl, hb1⟩
  have HMx := Lib.hid hqx; clear hqx
  clear bxt0 bxt1 bxt2 bxtl bxx0 bxx1 bxx2 bxxl
  replace bxt := bxt.keep hb1 bxt.lt
  replace bxx := bxx.keep hb1 bxx.lt
  replace HVt := Lib.hid (Rd.keep hb1 _ _ HVt.out)
  replace HVx := Lib.hid (Rd.keep hb1 _ _ HVx.out)
  replace hb := hb.trans (hb1.mono hb.size)
  clear hb1
  obtain ⟨bxt0, bxt1, bxt2⟩ := bxt.three
  have bxtl := bxt.lt
  obtain ⟨bxx0, bxx1, bxx2⟩ := bxx.three
  have bxxl := bxx.lt
  cases Mx
  · go_wp2_with fail
    go_ret
    exact ⟨rfl, hb⟩
  have KNx : Hid (Kn 1000 60 x) := Lib.hid (kn_of HQx.out HMx.out); clear HQx HMx
  by_cases x1 : b < 0
  · have dx1 : decide (b < 0) = true := by simpa using x1
    go_wp2_with fail
    go_ret
    exact ⟨rfl, hb⟩
  have dx1 : decide (b < 0) = false := by simpa using x1
  by_cases x2 : 20 < b
  · have dx2 : decide (20 < b) = true := by simpa using x2
    go_wp2_with fail
    go_ret
    exact ⟨rfl, hb⟩
  have dx2 : decide (20 < b) = false := by simpa using x2
  obtain ⟨f1, f2⟩ := weak_tells KNt.out KNx.out.my
  obtain ⟨m, hm⟩ : ∃ m : Nat, b = m := ⟨b.toNat, by omega⟩
  have hcl : clN b = m := by unfold clN; rw [if_neg (by omega), if_neg (by omega)]; omega
  obtain ⟨f3, f4⟩ := same_tells KNt.out (n := m) (by omega)
  have f5 : upX t 1 0 = upT 1 t 0 := KNt.out.upX (by omega) (by omega)
  have f6 : LoT (upT 1 t 0) := okT_mono (by omega) _ (okT_up (b := 1) (by omega) t 0 KNt.out.ok)
  have F1 := Lib.hid f1; have F2 := Lib.hid f2; have F3 := Lib.hid f3; have F4 := Lib.hid f4; have F5 := Lib.hid f5; have F6 := Lib.hid f6; have FC := Lib.hid hcl
  clear f1 f2 f3 f4 f5 f6 hcl
  have hnd4 : nd t ≤ 1048576 := by have := KNt.out.n4; omega
  have HM := Lib.hid hm; clear hm
  go_wp2_with fail
  clear bxt0 bxt1 bxt2 bxtl bxx0 bxx1 bxx2 bxxl
  have HUP : Hid (∀ W', Hid (Below w3x.heap.size w3x W') → Calls Try.prog 58 #[.agg #[.int .i64 kt, .int .i64 ht, .slice At nt ct], .int .i64 1, .int .i64 0] W' (fun e w' => OEnd (upT 1 t 0) W' e w' ∧ Hid (Below w3x.heap.size w3x w'))) := Lib.hid fun W' h => by
    have := upC t 1 0 _ W' (Rd.keep h.out _ _ HVt.out) hnd4
    rw [F5.out] at this
    exact this.mono fun e w' h' => ⟨h', by obtain ⟨_, _, _, hb'⟩ := h'; exact cur_trans h hb'⟩
  have HK : Hid (∀ w', Hid (Below w3x.heap.size w3x w') → (w'.cell? ⟨w.heap.size, 0, none⟩ = some (.int .i64 kt) ∧ w'.cell? ⟨w.heap.size, 1, none⟩ = some (.int .i64 ht) ∧ w'.cell? ⟨w.heap.size, 2, none⟩ = some (.slice At nt ct) ∧ w'.cell? ⟨w.heap.size + 1, 0, none⟩ = some (.int .i64 kx) ∧ w'.cell? ⟨w.heap.size + 1, 1, none⟩ = some (.int .i64 hx) ∧ w'.cell? ⟨w.heap.size + 1, 2, none⟩ = some (.slice Ax nx cx) ∧ Hid (Below w3x.heap.size w3x w'))) := Lib.hid fun w' h => by
    have s0 := bxt.keep h.out bxt.lt
    have s1 := bxx.keep h.out bxx.lt
    exact ⟨s0.three.1, s0.three.2.1, s0.three.2.2, s1.three.1, s1.three.2.1, s1.three.2.2, h⟩
  have hcu0 : Hid (Below w3x.heap.size w3x w3x.drew) := cur_drew
  go_region_held3 (fun w' => w'.cell? ⟨w.heap.size, 0, none⟩ = some (.int .i64 kt) ∧ w'.cell? ⟨w.heap.size, 1, none⟩ = some (.int .i64 ht) ∧ w'.cell? ⟨w.heap.size, 2, none⟩ = some (.slice At nt ct) ∧ w'.cell? ⟨w.heap.size + 1, 0, none⟩ = some (.int .i64 kx) ∧ w'.cell? ⟨w.heap.size + 1, 1, none⟩ = some (.int .i64 hx) ∧ w'.cell? ⟨w.heap.size + 1, 2, none⟩ = some (.slice Ax nx cx) ∧ Hid (Below w3x.heap.size w3x w'))
    (first | exact HK.out _ (by assumption) | exact HK.out _ (cur_alloc (by assumption) _) | exact HK.out _ (cur_alloc (cur_alloc (by assumption) _) _) | exact HK.out _ (Lib.hid (((Below.refl _ _).alloc (Nat.le_refl _) _).drew)) | exact HK.out _ (Lib.hid ((((Below.refl _ _).alloc (Nat.le_refl _) _).alloc (by simp) _).drew)) | exact HK.out _ (cur_set3 (by assumption) (by omega) _ _ _))
    (first
      | (go_at_call 37
         with_reducible refine Calls.mono (HAP.out _ _ ?hh ?hr) ?_
         case hh => first | exact Below.refl _ w8 | exact (Below.refl _ w8).alloc (Nat.le_refl _) _ | exact ((Below.refl _ w8).alloc (Nat.le_refl _) _).alloc (by simp) _
         case hr => first | exact yP | exact yP.alloc _ | exact (yP.alloc _).alloc _ | exact Box.new _ _ _ | exact (Box.new _ _ _).alloc _ | exact Box.drewI (Box.new _ _ _) | exact Box.drewI ((Box.new _ _ _).alloc _) | exact Box.at1 (Box.new _ _ _) | exact Box.drewI (Box.at1 (Box.new _ _ _))
         rintro e w9 ⟨⟨kq, hq, Aq, nq, cq, rfl, hrd, hb9⟩, hcu9⟩
         first | (have zP := Box.keepC (cs := #[.int .i64 0, .int .i64 0, .slice none 0 0]) (ty := 24) (by first | exact zP | exact zP.alloc _ | exact (zP.alloc _).alloc _ | exact Box.new _ _ _ | exact (Box.new _ _ _).alloc _ | exact Box.drewI (Box.new _ _ _) | exact Box.drewI ((Box.new _ _ _).alloc _)) hb9; (try (with_reducible replace zP := zP.at1)); have lzhb9 := zP.lt) | skip
         have hs9 := hcu9.out.size
         have HRq := Lib.hid hrd
         first | (obtain ⟨z0, z1, z2⟩ := zP.three; have fz0 := zP.frozen 0; have fz1 := zP.frozen 1; have fz2 := zP.frozen 2) | skip
         clear hrd hb9)
      | (go_at_call 58
         with_reducible refine Calls.mono (HUP.out _ ?hh) ?_
         case hh => first | assumption | exact cur_alloc (by assumption) _ | exact cur_alloc (cur_alloc (by assumption) _) _ | exact Lib.hid (((Below.refl _ _).alloc (Nat.le_refl _) _).drew) | exact Lib.hid ((((Below.refl _ _).alloc (Nat.le_refl _) _).alloc (by simp) _).drew)
         rintro e w8 ⟨⟨v1, rfl, how, hb8⟩, hcu8⟩
         obtain ⟨ka, ha, Aa, na, ca, rfl⟩ := how.full
         have hs8 := hcu8.out.size
         first | (have zP := Box.keepC (cs := #[.int .i64 0, .int .i64 0, .slice none 0 0]) (ty := 24) (by first | exact zP | exact zP.alloc _ | exact (zP.alloc _).alloc _ | exact Box.new _ _ _ | exact (Box.new _ _ _).alloc _ | exact Box.drewI (Box.new _ _ _) | exact Box.drewI ((Box.new _ _ _).alloc _)) hb8; (try (with_reducible replace zP := zP.at1)); have lzhb8 := zP.lt) | skip
         first | (have yP := Box.keepC (cs := #[.int .i64 kx, .int .i64 hx, .slice Ax nx cx]) (ty := 24) (by first | exact yP | exact yP.alloc _ | exact (yP.alloc _).alloc _ | exact Box.new _ _ _ | exact (Box.new _ _ _).alloc _ | exact Box.drewI (Box.new _ _ _) | exact Box.drewI ((Box.new _ _ _).alloc _) | exact Box.at1 (Box.new _ _ _) | exact Box.drewI (Box.at1 (Box.new _ _ _))) hb8; (try (with_reducible replace yP := yP.at1))) | skip
         have HAP : Hid (∀ W' pr, Below w8.heap.size w8 W' → Box W' pr 24 #[.int .i64 kx, .int .i64 hx, .slice Ax nx cx] → Calls Try.prog 37 #[.agg #[.int .i64 ka, .int .i64 ha, .slice Aa na ca], .agg #[.slice (some ⟨pr, 0, none⟩) 1 1, .int .i64 0]] W' (fun e w' => TEnd t 0 W' e w' ∧ Hid (Below w3x.heap.size w3x w'))) := Lib.hid fun W' pr h bx => by
            have := ApplyC (w := W') (t := upT 1 t 0) (L := [x]) (sh := 0) (n := 1) (c := 1) (Rd.keep h _ _ (RdF.rd _ _ how.rdF)) rfl (Nat.le_refl _) (by unfold maxLen; omega) (rd_one (k := 0) (h := 0) bx (Rd.keep (cur_trans hcu8 h).out _ _ HVx.out)) (fun _ => F6.out) (fun y hy _ => by rw [List.mem_singleton.1 hy]; exact KNx.out.low)
            rw [F1.out, F2.out] at this
            exact this.mono fun e w' h' => ⟨h', by obtain ⟨_, _, _, _, _, _, _, hb'⟩ := h'; exact cur_trans (cur_trans hcu8 h) hb'⟩
         clear how hb8))
  all_goals first
    | (obtain ⟨W6, hWf⟩ : ∃ Wf, w9.alloc (.cells #[.int .i64 kq, .int .i64 hq, .slice Aq nq cq] 24) = Wf := ⟨_, rfl⟩
       obtain ⟨pq, hpe⟩ : ∃ p, p = w9.heap.size := ⟨_, rfl⟩
       have xq : Box W6 pq 24 #[.int .i64 kq, .int .i64 hq, .slice Aq nq cq] := by rw [hpe, ← hWf]; exact Box.new _ _ _
       have hbF : Below w3x.heap.size w3x W6 := by rw [← hWf]; exact (cur_alloc (by assumption) _).out
       have HVq : Hid (Rd W6 (t) (.agg #[.int .i64 kq, .int .i64 hq, .slice Aq nq cq])) := Lib.hid (by rw [← hWf]; exact rd_alloc HRq.out _)
       rw [hWf, ← hpe]
       clear hWf hpe)
    | (obtain ⟨W6, hWf⟩ : ∃ Wf, ((w9.setCell ⟨w8.heap.size, 0, none⟩ (.int .i64 kq)).setCell ⟨w8.heap.size, 1, none⟩ (.int .i64 hq)).setCell ⟨w8.heap.size, 2, none⟩ (.slice Aq nq cq) = Wf := ⟨_, rfl⟩
       obtain ⟨pq, hpe⟩ : ∃ p, p = w8.heap.size := ⟨_, rfl⟩
       have xq : Box W6 pq 24 #[.int .i64 kq, .int .i64 hq, .slice Aq nq cq] := by rw [hpe, ← hWf]; exact zP.put3 _ _ _
       have hbF : Below w3x.heap.size w3x W6 := by rw [← hWf]; exact (cur_set3 (by assumption) (by omega) _ _ _).out
       have HVq : Hid (Rd W6 (t) (.agg #[.int .i64 kq, .int .i64 hq, .slice Aq nq cq])) := Lib.hid (by rw [← hWf]; exact rd_set3 HRq.out (by first | omega | (simp; omega) | simp))
       rw [hWf, ← hpe]
       clear hWf hpe)
    | (obtain ⟨W6, hWf⟩ : ∃ Wf, ((w9.setCell ⟨w8.heap.size + 1, 0, none⟩ (.int .i64 kq)).setCell ⟨w8.heap.size + 1, 1, none⟩ (.int .i64 hq)).setCell ⟨w8.heap.size + 1, 2, none⟩ (.slice Aq nq cq) = Wf := ⟨_, rfl⟩
       obtain ⟨pq, hpe⟩ : ∃ p, p = w8.heap.size + 1 := ⟨_, rfl⟩
       have xq : Box W6 pq 24 #[.int .i64 kq, .int .i64 hq, .slice Aq nq cq] := by rw [hpe, ← hWf]; exact zP.put3 _ _ _
       have hbF : Below w3x.heap.size w3x W6 := by rw [← hWf]; exact (cur_set3 (by assumption) (by omega) _ _ _).out
       have HVq : Hid (Rd W6 (t) (.agg #[.int .i64 kq, .int .i64 hq, .slice Aq nq cq])) := Lib.hid (by rw [← hWf]; exact rd_set3 HRq.out (by first | omega | (simp; omega) | simp))
       rw [hWf, ← hpe]
       clear hWf hpe)
    | (obtain ⟨W6, hWf⟩ : ∃ Wf, ((w9.setCell ⟨w3x.heap.size, 0, none⟩ (.int .i64 kq)).setCell ⟨w3x.heap.size, 1, none⟩ (.int .i64 hq)).setCell ⟨w3x.heap.size, 2, none⟩ (.slice Aq nq cq) = Wf := ⟨_, rfl⟩
       obtain ⟨pq, hpe⟩ : ∃ p, p = w3x.heap.size := ⟨_, rfl⟩
       have xq : Box W6 pq 24 #[.int .i64 kq, .int .i64 hq, .slice Aq nq cq] := by rw [hpe, ← hWf]; exact zP.put3 _ _ _
       have hbF : Below w3x.heap.size w3x W6 := by rw [← hWf]; exact (cur_set3 (by assumption) (by omega) _ _ _).out
       have HVq : Hid (Rd W6 (t) (.agg #[.int .i64 kq, .int .i64 hq, .slice Aq nq cq])) := Lib.hid (by rw [← hWf]; exact rd_set3 HRq.out (by first | omega | (simp; omega) | simp))
       rw [hWf, ← hpe]
       clear hWf hpe)
    | (obtain ⟨W6, hWf⟩ : ∃ Wf, ((w9.setCell ⟨w3x.heap.size + 1, 0, none⟩ (.int .i64 kq)).setCell ⟨w3x.heap.size + 1, 1, none⟩ (.int .i64 hq)).setCell ⟨w3x.heap.size + 1, 2, none⟩ (.slice Aq nq cq) = Wf := ⟨_, rfl⟩
       obtain ⟨pq, hpe⟩ : ∃ p, p = w3x.heap.size + 1 := ⟨_, rfl⟩
       have xq : Box W6 pq 24 #[.int .i64 kq, .int .i64 hq, .slice Aq nq cq] := by rw [hpe, ← hWf]; exact zP.put3 _ _ _
       have hbF : Below w3x.heap.size w3x W6 := by rw [← hWf]; exact (cur_set3 (by assumption) (by omega) _ _ _).out
       have HVq : Hid (Rd W6 (t) (.agg #[.int .i64 kq, .int .i64 hq, .slice Aq nq cq])) := Lib.hid (by rw [← hWf]; exact rd_set3 HRq.out (by first | omega | (simp; omega) | simp))
       rw [hWf, ← hpe]
       clear hWf hpe)
  all_goals
    replace bxt := bxt.keep hbF bxt.lt
    replace bxx := bxx.keep hbF bxx.lt
    replace HVt := Lib.hid (Rd.keep hbF _ _ HVt.out)
    replace HVx := Lib.hid (Rd.keep hbF _ _ HVx.out)
    replace hb := hb.trans (hbF.mono hb.size)
    clear hbF
    try clear zP
  all_goals
    have HSM : Hid (∀ W, Hid (Below W6.heap.size W6 W) → Calls Try.prog 47 #[.int .i64 b] W (fun e w' => SEnd (vsL m) (m : Int) W e w' ∧ Hid (Below W6.heap.size W6 w'))) := Lib.hid fun W h => by
      have := SameC b W
      rw [FC.out] at this
      exact this.mono fun e w' h' => ⟨h', by obtain ⟨_, _, _, _, _, hb'⟩ := h'; exact cur_trans h hb'⟩
    have hm20 : m ≤ 20 := by have := HM.out; omega
    go_wp2_with fail
    have HK : Hid (∀ w', Hid (Below W6.heap.size W6 w') → (w'.cell? ⟨w.heap.size, 0, none⟩ = some (.int .i64 kt) ∧ w'.cell? ⟨w.heap.size, 1, none⟩ = some (.int .i64 ht) ∧ w'.cell? ⟨w.heap.size, 2, none⟩ = some (.slice At nt ct) ∧ w'.cell? ⟨pq, 0, none⟩ = some (.int .i64 kq) ∧ w'.cell? ⟨pq, 1, none⟩ = some (.int .i64 hq) ∧ w'.cell? ⟨pq, 2, none⟩ = some (.slice Aq nq cq) ∧ Hid (Below W6.heap.size W6 w'))) := Lib.hid fun w' h => by
      have s0 := bxt.keep h.out bxt.lt
      have s1 := xq.keep h.out xq.lt
      exact ⟨s0.three.1, s0.three.2.1, s0.three.2.2, s1.three.1, s1.three.2.1, s1.three.2.2, h⟩
    have hcu0 : Hid (Below W6.heap.size W6 W6.drew) := cur_drew
    go_region_held3 (fun w' => w'.cell? ⟨w.heap.size, 0, none⟩ = some (.int .i64 kt) ∧ w'.cell? ⟨w.heap.size, 1, none⟩ = some (.int .i64 ht) ∧ w'.cell? ⟨w.heap.size, 2, none⟩ = some (.slice At nt ct) ∧ w'.cell? ⟨pq, 0, none⟩ = some (.int .i64 kq) ∧ w'.cell? ⟨pq, 1, none⟩ = some (.int .i64 hq) ∧ w'.cell? ⟨pq, 2, none⟩ = some (.slice Aq nq cq) ∧ Hid (Below W6.heap.size W6 w'))
      (first | exact HK.out _ (by assumption) | exact HK.out _ (cur_alloc (by assumption) _) | exact HK.out _ (cur_alloc (cur_alloc (by assumption) _) _) | exact HK.out _ (Lib.hid (((Below.refl _ _).alloc (Nat.le_refl _) _).drew)) | exact HK.out _ (Lib.hid ((((Below.refl _ _).alloc (Nat.le_refl _) _).alloc (by simp) _).drew)) | exact HK.out _ (cur_set3 (by assumption) (by omega) _ _ _))
      (first
        | (go_at_call 37
           with_reducible refine Calls.mono (HAP.out _ ?hh) ?_
           case hh => first | exact Below.refl _ v8 | exact (Below.refl _ v8).alloc (Nat.le_refl _) _
           rintro e v9 ⟨⟨kr, hr, Ar, nr, cr, rfl, hrd, hb9⟩, hcu9⟩
           first | (have zP := Box.keepC (cs := #[.int .i64 0, .int .i64 0, .slice none 0 0]) (ty := 24) (by first | exact zP | exact zP.alloc _ | exact (zP.alloc _).alloc _ | exact Box.new _ _ _ | exact (Box.new _ _ _).alloc _ | exact Box.drewI (Box.new _ _ _) | exact Box.drewI ((Box.new _ _ _).alloc _)) hb9; (try (with_reducible replace zP := zP.at1)); have lzhb9 := zP.lt) | skip
           have hs9 := hcu9.out.size
           have HRr := Lib.hid hrd
           first | (obtain ⟨z0, z1, z2⟩ := zP.three; have fz0 := zP.frozen 0; have fz1 := zP.frozen 1; have fz2 := zP.frozen 2) | skip
           clear hrd hb9)
        | (go_at_call 47
           with_reducible refine Calls.mono (HSM.out _ ?hh) ?_
           case hh => first | assumption | exact cur_alloc (by assumption) _ | exact cur_alloc (cur_alloc (by assumption) _) _ | exact Lib.hid (((Below.refl _ _).alloc (Nat.le_refl _) _).drew) | exact Lib.hid ((((Below.refl _ _).alloc (Nat.le_refl _) _).alloc (by simp) _).drew)
           rintro e v8 ⟨⟨A8, n8, c8, rfl, hrl, hb8⟩, hcu8⟩
           have hs8 := hcu8.out.size
           first | (have zP := Box.keepC (cs := #[.int .i64 0, .int .i64 0, .slice none 0 0]) (ty := 24) (by first | exact zP | exact zP.alloc _ | exact (zP.alloc _).alloc _ | exact Box.new _ _ _ | exact (Box.new _ _ _).alloc _ | exact Box.drewI (Box.new _ _ _) | exact Box.drewI ((Box.new _ _ _).alloc _)) hb8; (try (with_reducible replace zP := zP.at1)); have lzhb8 := zP.lt) | skip
           have hs88 := hb8.size
           have HAP : Hid (∀ W', Below v8.heap.size v8 W' → Calls Try.prog 37 #[.agg #[.int .i64 kt, .int .i64 ht, .slice At nt ct], .agg #[.slice A8 n8 c8, .int .i64 (m : Int)]] W' (fun e w' => TEnd t 0 W' e w' ∧ Hid (Below W6.heap.size W6 w'))) := Lib.hid fun W' h => by
              have := ApplyC (w := W') (t := t) (L := vsL m) (sh := m) (Rd.keep (cur_trans hcu8 h).out _ _ HVt.out) hrl.len hrl.le hrl.cap (fun i u hu => RdAt.keep h (rdFAt_rd (hrl.at_ i u hu))) (fun _ => KNt.out.low) (fun x hx _ => by
                 obtain ⟨i, hi⟩ := List.getElem?_of_mem hx
                 obtain ⟨h1, rfl⟩ := vsL_at _ _ _ hi
                 simp [LoT, okT, okL]; omega)
              rw [F3.out, F4.out] at this
              exact this.mono fun e w' h' => ⟨h', by obtain ⟨_, _, _, _, _, _, _, hb'⟩ := h'; exact cur_trans (cur_trans hcu8 h) hb'⟩
           clear hrl hb8))
  all_goals first
    | (obtain ⟨W7, hWf⟩ : ∃ Wf, v9.alloc (.cells #[.int .i64 kr, .int .i64 hr, .slice Ar nr cr] 24) = Wf := ⟨_, rfl⟩
       obtain ⟨pr, hpe⟩ : ∃ p, p = v9.heap.size := ⟨_, rfl⟩
       have xr : Box W7 pr 24 #[.int .i64 kr, .int .i64 hr, .slice Ar nr cr] := by rw [hpe, ← hWf]; exact Box.new _ _ _
       have hbF : Below W6.heap.size W6 W7 := by rw [← hWf]; exact (cur_alloc (by assumption) _).out
       have HVr : Hid (Rd W7 (t) (.agg #[.int .i64 kr, .int .i64 hr, .slice Ar nr cr])) := Lib.hid (by rw [← hWf]; exact rd_alloc HRr.out _)
       rw [hWf, ← hpe]
       clear hWf hpe)
    | (obtain ⟨W7, hWf⟩ : ∃ Wf, ((v9.setCell ⟨v8.heap.size, 0, none⟩ (.int .i64 kr)).setCell ⟨v8.heap.size, 1, none⟩ (.int .i64 hr)).setCell ⟨v8.heap.size, 2, none⟩ (.slice Ar nr cr) = Wf := ⟨_, rfl⟩
       obtain ⟨pr, hpe⟩ : ∃ p, p = v8.heap.size := ⟨_, rfl⟩
       have xr : Box W7 pr 24 #[.int .i64 kr, .int .i64 hr, .slice Ar nr cr] := by rw [hpe, ← hWf]; exact zP.put3 _ _ _
       have hbF : Below W6.heap.size W6 W7 := by rw [← hWf]; exact (cur_set3 (by assumption) (by omega) _ _ _).out
       have HVr : Hid (Rd W7 (t) (.agg #[.int .i64 kr, .int .i64 hr, .slice Ar nr cr])) := Lib.hid (by rw [← hWf]; exact rd_set3 HRr.out (by first | omega | (simp; omega) | simp))
       rw [hWf, ← hpe]
       clear hWf hpe)
    | (obtain ⟨W7, hWf⟩ : ∃ Wf, ((v9.setCell ⟨W6.heap.size, 0, none⟩ (.int .i64 kr)).setCell ⟨W6.heap.size, 1, none⟩ (.int .i64 hr)).setCell ⟨W6.heap.size, 2, none⟩ (.slice Ar nr cr) = Wf := ⟨_, rfl⟩
       obtain ⟨pr, hpe⟩ : ∃ p, p = W6.heap.size := ⟨_, rfl⟩
       have xr : Box W7 pr 24 #[.int .i64 kr, .int .i64 hr, .slice Ar nr cr] := by rw [hpe, ← hWf]; exact zP.put3 _ _ _
       have hbF : Below W6.heap.size W6 W7 := by rw [← hWf]; exact (cur_set3 (by assumption) (by omega) _ _ _).out
       have HVr : Hid (Rd W7 (t) (.agg #[.int .i64 kr, .int .i64 hr, .slice Ar nr cr])) := Lib.hid (by rw [← hWf]; exact rd_set3 HRr.out (by first | omega | (simp; omega) | simp))
       rw [hWf, ← hpe]
       clear hWf hpe)
  all_goals
    replace bxt := bxt.keep hbF bxt.lt
    replace bxx := bxx.keep hbF bxx.lt
    replace xq := xq.keep hbF xq.lt
    replace HVt := Lib.hid (Rd.keep hbF _ _ HVt.out)
    replace HVx := Lib.hid (Rd.keep hbF _ _ HVx.out)
    replace HVq := Lib.hid (Rd.keep hbF _ _ HVq.out)
    replace hb := hb.trans (hbF.mono hb.size)
    clear hbF
    try clear zP
  all_goals
    obtain ⟨q0, q1, q2⟩ := xq.three
    obtain ⟨r0, r1, r2⟩ := xr.three
    obtain ⟨t0, t1, t2⟩ := bxt.three
    go_wp2_with fail
    with_reducible refine (termSame t t _ _ _ HVq.out HVt.out).mono ?_
    rw [sam_refl]
    rintro e u1 ⟨rfl, hb1⟩
    replace HVr := Lib.hid (Rd.keep hb1 _ _ HVr.out)
    replace HVt := Lib.hid (Rd.keep hb1 _ _ HVt.out)
    obtain ⟨r0, r1, r2⟩ := (xr.keepC hb1).three
    obtain ⟨t0, t1, t2⟩ := (bxt.keepC hb1).three
    go_wp2_with fail
    with_reducible refine (termSame t t _ _ _ HVr.out HVt.out).mono ?_
    rw [sam_refl]
    rintro e u2 ⟨rfl, hb2⟩
    go_wp2_with fail
    go_ret
    exact ⟨rfl, hb.trans ((hb1.trans (hb2.mono hb1.size)).mono hb.size)⟩
end Go.Proofs.Ytinjeocfnhhlmaa
