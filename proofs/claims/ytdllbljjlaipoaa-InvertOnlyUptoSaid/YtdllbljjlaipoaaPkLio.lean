/-
  The walk of the law InvertOnly.
-/
import Derived.Test.YtdllbljjlaipoaaPkG
import Derived.Test.YtdllbljjlaipoaaIi
import Derived.Test.YtdllbljjlaipoaaSn
import Derived.Test.YtdllbljjlaipoaaSa
namespace Go.Proofs.Ytdllbljjlaipoaa
open Go.ChangeShapes Go.WideShapes Go.ChangeAt Go.RowKit
set_option linter.unusedVariables false

set_option maxRecDepth 100000 in
set_option maxHeartbeats 8000000 in
theorem invertOnlyC (t : T) (vs : List Int) (V0 : Option Addr) (nv c0v : Nat) (n : Int) (v : Value) (w : World) (hvt : Rd w t v) (hnv : vs.length = nv) (hnc : nv ≤ c0v) (hnm : c0v ≤ maxLen) (hx : ∀ i z, vs[i]? = some z → ∃ b o, V0 = some ⟨b, o, none⟩ ∧ w.cell? ⟨b, o + i, none⟩ = some (.int .i64 z)) (hn6 : nv ≤ 1048576) (hwf : ∀ v ∈ vs, (Lit.int .i64 v).wf = true) :
    Calls Try.prog 5 #[v, .slice V0 nv c0v, .int .i64 n] w fun e w' => e = .returned (.bool true) ∧ Below w.heap.size w w' := by
  have HWF := Lib.hid hwf; clear hwf
  have HNV := Lib.hid hnv; clear hnv
  have HNC := Lib.hid hnc
  have HNM := Lib.hid hnm
  have HNX : Hid (∀ W, Below w.heap.size w W → ∀ i z, vs[i]? = some z → ∃ b o, V0 = some ⟨b, o, none⟩ ∧ W.cell? ⟨b, o + i, none⟩ = some (.int .i64 z)) := Lib.hid fun W hb i z hz => by
    obtain ⟨b, o, e, h⟩ := hx i z hz
    exact ⟨b, o, e, (hb.cell (cell_lt h)).trans h⟩
  clear hx
  unfold maxLen at hnm
  obtain ⟨kt, ht, At, nt, ct, rfl⟩ := hvt.full
  have HVt := Lib.hid hvt; clear hvt
  obtain ⟨W0, hW0⟩ : ∃ W0, (w.alloc (.cells #[.int .i64 kt, .int .i64 ht, .slice At nt ct] 24)) = W0 := ⟨_, rfl⟩
  have hb : Below w.heap.size w W0 := by rw [← hW0]; exact ((Below.refl _ _).alloc (Nat.le_refl _) _)
  have bxt : Box W0 (w.heap.size) 24 #[.int .i64 kt, .int .i64 ht, .slice At nt ct] := by rw [← hW0]; exact (Box.new w _ _)
  replace HVt := Lib.hid (Rd.keep hb _ _ HVt.out)
  have HW0 := Lib.hid hW0; clear hW0
  go_enter Try.func5, Try.ntmps5
  go_wp2_with fail
  rw [HW0.out]
  clear HW0
  refine (awakeI _).mono ?_
  rintro e w1 ⟨rfl, hb1⟩
  replace bxt := bxt.keep hb1 bxt.lt
  replace HVt := Lib.hid (Rd.keep hb1 _ _ HVt.out)
  replace hb := hb.trans (hb1.mono hb.size)
  clear hb1
  obtain ⟨bxt0, bxt1, bxt2⟩ := bxt.three
  have bxtl := bxt.lt
  go_wp2_with fail
  refine (refLight t 1000 60 _ _ HVt.out).mono ?_
  have HLt : Hid (ltB t 1000 60 = true → ltB t 1000 60 = true) := Lib.hid fun e => e
  generalize hqt : ltB t 1000 60 = Rt at *
  rintro e w2t ⟨rfl, hb1⟩
  have HQt := Lib.hid hqt; clear hqt HLt
  clear bxt0 bxt1 bxt2 bxtl
  replace bxt := bxt.keep hb1 bxt.lt
  replace HVt := Lib.hid (Rd.keep hb1 _ _ HVt.out)
  replace hb := hb.trans (hb1.mono hb.size)
  clear hb1
  obtain ⟨bxt0, bxt1, bxt2⟩ := bxt.three
  have bxtl := bxt.lt
  have hfd : ∀ (A : Option Addr) (n c : Nat) (W : World), (Instr.field 24 (.agg #[.int .i64 6, .int .i64 0, .slice A n c]) 2).run Try.prog W = .ok (.slice A n c) W := fun A n c W => by kernel_rfl
  have HN6 := Lib.hid hn6
  go_wp2_with fail
  refine (metaOfC vs V0 nv c0v _ HNV.out HNC.out HNM.out (by omega) (HNX.out _ hb) HWF.out).mono ?_
  rintro e w3 ⟨A3, c3, rfl, hc3, hm3, hx3, hb1⟩
  clear bxt0 bxt1 bxt2 bxtl
  replace bxt := bxt.keep hb1 bxt.lt
  replace HVt := Lib.hid (Rd.keep hb1 _ _ HVt.out)
  replace hb := hb.trans (hb1.mono hb.size)
  clear hb1
  obtain ⟨bxt0, bxt1, bxt2⟩ := bxt.three
  have bxtl := bxt.lt
  have HPT := Lib.hid (oPatternC (vrs vs) A3 nv c3 n w3 ((vrs_len vs).trans HNV.out) hc3 hm3 (by omega) hx3)
  clear hx3
  go_wp2_with fail
  refine HPT.out.mono ?_
  clear HPT
  intro e w4 hE
  obtain ⟨vp, rfl, hb1⟩ := hE.tupleI
  clear hE
  rw [ptn_vrs]
  generalize hqv : vB n [] vs = IS at *
  have HVB := Lib.hid hqv; clear hqv
  clear bxt0 bxt1 bxt2 bxtl
  replace bxt := bxt.keep hb1 bxt.lt
  replace HVt := Lib.hid (Rd.keep hb1 _ _ HVt.out)
  replace hb := hb.trans (hb1.mono hb.size)
  clear hb1
  obtain ⟨bxt0, bxt1, bxt2⟩ := bxt.three
  have bxtl := bxt.lt
  cases Rt
  · go_wp2_with fail
    go_ret
    exact ⟨rfl, hb⟩
  by_cases x1 : (20 : Int) < nv
  · have dx1 : decide ((20 : Int) < nv) = true := by simpa using x1
    go_wp2_with fail
    go_ret
    exact ⟨rfl, hb⟩
  have dx1 : decide ((20 : Int) < nv) = false := by simpa using x1
  cases IS
  · go_wp2_with fail
    go_ret
    exact ⟨rfl, hb⟩
  by_cases x2 : n < 0
  · have dx2 : decide (n < 0) = true := by simpa using x2
    go_wp2_with fail
    go_ret
    exact ⟨rfl, hb⟩
  have dx2 : decide (n < 0) = false := by simpa using x2
  by_cases x3 : 1000 < n
  · have dx3 : decide (1000 < n) = true := by simpa using x3
    go_wp2_with fail
    go_ret
    exact ⟨rfl, hb⟩
  have dx3 : decide (1000 < n) = false := by simpa using x3
  go_wp2_with fail
  refine (myC t _ _ HVt.out).mono ?_
  generalize hqt : myB t = Mt at *
  rintro e w3t ⟨rfl, hb1⟩
  have HMt := Lib.hid hqt; clear hqt
  clear bxt0 bxt1 bxt2 bxtl
  replace bxt := bxt.keep hb1 bxt.lt
  replace HVt := Lib.hid (Rd.keep hb1 _ _ HVt.out)
  replace hb := hb.trans (hb1.mono hb.size)
  clear hb1
  obtain ⟨bxt0, bxt1, bxt2⟩ := bxt.three
  have bxtl := bxt.lt
  cases Mt
  · go_wp2_with fail
    go_ret
    exact ⟨rfl, hb⟩
  have KNt : Hid (Kn 1000 60 t) := Lib.hid (kn_of HQt.out HMt.out); clear HQt HMt
  have hs : nd t ≤ 1048576 := by have := ((myB_iff t).1 KNt.out.my).2.1; omega
  have HS := Lib.hid hs; clear hs
  go_wp2_with fail
  refine (oMetasC t _ _ HVt.out HS.out).mono ?_
  rintro e w5 ⟨um, rfl, hms, hb1⟩
  obtain ⟨Am, cm, rfl, hcm5, hmm5, hxm5⟩ := hms
  clear hxm5
  generalize (rs ((nds t 0).flatMap mt1)).length = nm at *
  unfold maxLen at hmm5
  clear bxt0 bxt1 bxt2 bxtl
  replace bxt := bxt.keep hb1 bxt.lt
  replace HVt := Lib.hid (Rd.keep hb1 _ _ HVt.out)
  replace hb := hb.trans (hb1.mono hb.size)
  clear hb1
  obtain ⟨bxt0, bxt1, bxt2⟩ := bxt.three
  have bxtl := bxt.lt
  by_cases hz : (0 : Int) < nm
  · have dz : decide ((0 : Int) < nm) = true := by simpa using hz
    go_wp2_with fail
    go_ret
    exact ⟨rfl, hb⟩
  obtain rfl : nm = 0 := by omega
  have hl20 : vs.length ≤ 20 := by have := HNV.out; omega
  obtain ⟨u, hfi, hndu, hback⟩ := only_facts KNt.out hl20 (n := n) (by omega) HVB.out
  have HFI := Lib.hid hfi; clear hfi
  have HNU := Lib.hid hndu; clear hndu
  have HBK := Lib.hid hback; clear hback
  have HLL := Lib.hid (vrs_low (n := n) (by omega) HVB.out)
  clear hz x1 x2 x3
  generalize hw5 : w5 = W5 at *
  clear hw5
  go_wp2_with fail
  have HMO : Hid (∀ W', Hid (Below W5.heap.size W5 W') → Calls Try.prog 18 #[.slice V0 nv c0v] W' (fun e w' => (∃ A c, e = .returned (.agg #[.int .i64 6, .int .i64 0, .slice A nv c]) ∧ nv ≤ c ∧ c ≤ maxLen ∧ (∀ i t, (vrs vs)[i]? = some t → RdAt w' A i t) ∧ Below W'.heap.size W' w') ∧ Hid (Below W5.heap.size W5 w'))) := Lib.hid fun W' h =>
    (metaOfC vs V0 nv c0v W' HNV.out HNC.out HNM.out (by have := HN6.out; omega) (HNX.out _ (hb.trans (h.out.mono hb.size))) HWF.out).mono fun e w' h' => ⟨h', by obtain ⟨_, _, _, _, _, _, hb'⟩ := h'; exact cur_trans h hb'⟩
  have HK : Hid (∀ w', Hid (Below W5.heap.size W5 w') → (w'.cell? ⟨w.heap.size, 0, none⟩ = some (.int .i64 kt) ∧ w'.cell? ⟨w.heap.size, 1, none⟩ = some (.int .i64 ht) ∧ w'.cell? ⟨w.heap.size, 2, none⟩ = some (.slice At nt ct) ∧ Hid (Below W5.heap.size W5 w'))) := Lib.hid fun w' h => by
    have s0 := bxt.keep h.out bxt.lt
    exact ⟨s0.three.1, s0.three.2.1, s0.three.2.2, h⟩
  have hcu0 : Hid (Below W5.heap.size W5 W5.drew) := cur_drew
  go_region_held3 (fun w' => w'.cell? ⟨w.heap.size, 0, none⟩ = some (.int .i64 kt) ∧ w'.cell? ⟨w.heap.size, 1, none⟩ = some (.int .i64 ht) ∧ w'.cell? ⟨w.heap.size, 2, none⟩ = some (.slice At nt ct) ∧ Hid (Below W5.heap.size W5 w'))
    (first | exact HK.out _ (by assumption) | exact HK.out _ (cur_alloc (by assumption) _) | exact HK.out _ (cur_alloc (cur_alloc (by assumption) _) _) | exact HK.out _ (Lib.hid (((Below.refl _ _).alloc (Nat.le_refl _) _).drew)) | exact HK.out _ (Lib.hid ((((Below.refl _ _).alloc (Nat.le_refl _) _).alloc (by simp) _).drew)) | exact HK.out _ (cur_set3 (by assumption) (by omega) _ _ _))
    (first
      | (go_at_call 17
         with_reducible refine Calls.mono (HAP.out _ _ ?hh ?hr) ?_
         case hh => first | exact Below.refl _ w8 | exact (Below.refl _ w8).alloc (Nat.le_refl _) _ | exact ((Below.refl _ w8).alloc (Nat.le_refl _) _).alloc (by simp) _
         case hr => first | exact yP | exact yP.alloc _ | exact (yP.alloc _).alloc _ | exact Box.new _ _ _ | exact (Box.new _ _ _).alloc _ | exact Box.drewI (Box.new _ _ _) | exact Box.drewI ((Box.new _ _ _).alloc _) | exact Box.at1 (Box.new _ _ _) | exact Box.drewI (Box.at1 (Box.new _ _ _))
         rintro e w9 ⟨⟨kq, hq, Aq, nq, cq, rfl, hrd, hb9⟩, hcu9⟩
         first | (have zP := Box.keepC (cs := #[.int .i64 0, .int .i64 0, .slice none 0 0]) (ty := 24) (by first | exact zP | exact zP.alloc _ | exact (zP.alloc _).alloc _ | exact Box.new _ _ _ | exact (Box.new _ _ _).alloc _ | exact Box.drewI (Box.new _ _ _) | exact Box.drewI ((Box.new _ _ _).alloc _)) hb9; (try (with_reducible replace zP := zP.at1)); have lzhb9 := zP.lt) | skip
         have hs9 := hcu9.out.size
         have HRq := Lib.hid hrd
         first | (obtain ⟨z0, z1, z2⟩ := zP.three; have fz0 := zP.frozen 0; have fz1 := zP.frozen 1; have fz2 := zP.frozen 2) | skip
         clear hrd hb9)
      | (go_at_call 18
         with_reducible refine Calls.mono (HMO.out _ ?hh) ?_
         case hh => first | assumption | exact cur_alloc (by assumption) _ | exact cur_alloc (cur_alloc (by assumption) _) _ | exact Lib.hid (((Below.refl _ _).alloc (Nat.le_refl _) _).drew) | exact Lib.hid ((((Below.refl _ _).alloc (Nat.le_refl _) _).alloc (by simp) _).drew)
         rintro e w8 ⟨⟨A8, c8, rfl, hc8, hm8, hx8, hb8⟩, hcu8⟩
         have hs8 := hcu8.out.size
         first | (have zP := Box.keepC (cs := #[.int .i64 0, .int .i64 0, .slice none 0 0]) (ty := 24) (by first | exact zP | exact zP.alloc _ | exact (zP.alloc _).alloc _ | exact Box.new _ _ _ | exact (Box.new _ _ _).alloc _ | exact Box.drewI (Box.new _ _ _) | exact Box.drewI ((Box.new _ _ _).alloc _)) hb8; (try (with_reducible replace zP := zP.at1)); have lzhb8 := zP.lt) | skip
         first | (have yP := Box.keepC (cs := #[.int .i64 kt, .int .i64 ht, .slice At nt ct]) (ty := 24) (by first | exact yP | exact yP.alloc _ | exact (yP.alloc _).alloc _ | exact Box.new _ _ _ | exact (Box.new _ _ _).alloc _ | exact Box.drewI (Box.new _ _ _) | exact Box.drewI ((Box.new _ _ _).alloc _) | exact Box.at1 (Box.new _ _ _) | exact Box.drewI (Box.at1 (Box.new _ _ _))) hb8; (try (with_reducible replace yP := yP.at1))) | skip
         have HAP : Hid (∀ W' pr, Below w8.heap.size w8 W' → Box W' pr 24 #[.int .i64 kt, .int .i64 ht, .slice At nt ct] → Calls Try.prog 17 #[.agg #[.int .i64 6, .int .i64 0, .slice A8 nv c8], .slice (some ⟨pr, 0, none⟩) 1 1, .int .i64 n] W' (fun e w' => TEnd u 0 W' e w' ∧ Hid (Below W5.heap.size W5 w'))) := Lib.hid fun W' pr h bx => by
            have := FillC (th := [t]) (t := .node 6 0 (vrs vs)) (n := n) (m := 1) (cL := 1) W' ⟨fun y hy _ => by rw [List.mem_singleton.1 hy]; exact okT_mono (by omega) _ KNt.out.ok, rfl, Nat.le_refl _, by unfold maxLen; omega, rd_one (k := 0) (h := 0) bx (Rd.keep (cur_trans hcu8 h).out _ _ HVt.out)⟩ (Rd_node.2 ⟨A8, nv, c8, rfl, by decide, by decide, (vrs_len vs).trans HNV.out, hc8, hm8, fun i u hu => RdAt.keep h (hx8 i u hu)⟩) (fun _ => ok_node6 fun y hy => okT_mono (by omega) _ (HLL.out y hy))
            rw [HFI.out] at this
            exact this.mono fun e w' h' => ⟨h', cur_trans (cur_trans hcu8 h) h'.below⟩
         clear hx8 hb8))
  all_goals first
    | (obtain ⟨W6, hWf⟩ : ∃ Wf, w9.alloc (.cells #[.int .i64 kq, .int .i64 hq, .slice Aq nq cq] 24) = Wf := ⟨_, rfl⟩
       obtain ⟨pq, hpe⟩ : ∃ p, p = w9.heap.size := ⟨_, rfl⟩
       have xq : Box W6 pq 24 #[.int .i64 kq, .int .i64 hq, .slice Aq nq cq] := by rw [hpe, ← hWf]; exact Box.new _ _ _
       have hbF : Below W5.heap.size W5 W6 := by rw [← hWf]; exact (cur_alloc (by assumption) _).out
       have HVq : Hid (Rd W6 (u) (.agg #[.int .i64 kq, .int .i64 hq, .slice Aq nq cq])) := Lib.hid (by rw [← hWf]; exact rd_alloc HRq.out _)
       rw [hWf, ← hpe]
       clear hWf hpe)
    | (obtain ⟨W6, hWf⟩ : ∃ Wf, ((w9.setCell ⟨w8.heap.size, 0, none⟩ (.int .i64 kq)).setCell ⟨w8.heap.size, 1, none⟩ (.int .i64 hq)).setCell ⟨w8.heap.size, 2, none⟩ (.slice Aq nq cq) = Wf := ⟨_, rfl⟩
       obtain ⟨pq, hpe⟩ : ∃ p, p = w8.heap.size := ⟨_, rfl⟩
       have xq : Box W6 pq 24 #[.int .i64 kq, .int .i64 hq, .slice Aq nq cq] := by rw [hpe, ← hWf]; exact zP.put3 _ _ _
       have hbF : Below W5.heap.size W5 W6 := by rw [← hWf]; exact (cur_set3 (by assumption) (by omega) _ _ _).out
       have HVq : Hid (Rd W6 (u) (.agg #[.int .i64 kq, .int .i64 hq, .slice Aq nq cq])) := Lib.hid (by rw [← hWf]; exact rd_set3 HRq.out (by first | omega | (simp; omega) | simp))
       rw [hWf, ← hpe]
       clear hWf hpe)
    | (obtain ⟨W6, hWf⟩ : ∃ Wf, ((w9.setCell ⟨w8.heap.size + 1, 0, none⟩ (.int .i64 kq)).setCell ⟨w8.heap.size + 1, 1, none⟩ (.int .i64 hq)).setCell ⟨w8.heap.size + 1, 2, none⟩ (.slice Aq nq cq) = Wf := ⟨_, rfl⟩
       obtain ⟨pq, hpe⟩ : ∃ p, p = w8.heap.size + 1 := ⟨_, rfl⟩
       have xq : Box W6 pq 24 #[.int .i64 kq, .int .i64 hq, .slice Aq nq cq] := by rw [hpe, ← hWf]; exact zP.put3 _ _ _
       have hbF : Below W5.heap.size W5 W6 := by rw [← hWf]; exact (cur_set3 (by assumption) (by omega) _ _ _).out
       have HVq : Hid (Rd W6 (u) (.agg #[.int .i64 kq, .int .i64 hq, .slice Aq nq cq])) := Lib.hid (by rw [← hWf]; exact rd_set3 HRq.out (by first | omega | (simp; omega) | simp))
       rw [hWf, ← hpe]
       clear hWf hpe)
    | (obtain ⟨W6, hWf⟩ : ∃ Wf, ((w9.setCell ⟨W5.heap.size, 0, none⟩ (.int .i64 kq)).setCell ⟨W5.heap.size, 1, none⟩ (.int .i64 hq)).setCell ⟨W5.heap.size, 2, none⟩ (.slice Aq nq cq) = Wf := ⟨_, rfl⟩
       obtain ⟨pq, hpe⟩ : ∃ p, p = W5.heap.size := ⟨_, rfl⟩
       have xq : Box W6 pq 24 #[.int .i64 kq, .int .i64 hq, .slice Aq nq cq] := by rw [hpe, ← hWf]; exact zP.put3 _ _ _
       have hbF : Below W5.heap.size W5 W6 := by rw [← hWf]; exact (cur_set3 (by assumption) (by omega) _ _ _).out
       have HVq : Hid (Rd W6 (u) (.agg #[.int .i64 kq, .int .i64 hq, .slice Aq nq cq])) := Lib.hid (by rw [← hWf]; exact rd_set3 HRq.out (by first | omega | (simp; omega) | simp))
       rw [hWf, ← hpe]
       clear hWf hpe)
    | (obtain ⟨W6, hWf⟩ : ∃ Wf, ((w9.setCell ⟨W5.heap.size + 1, 0, none⟩ (.int .i64 kq)).setCell ⟨W5.heap.size + 1, 1, none⟩ (.int .i64 hq)).setCell ⟨W5.heap.size + 1, 2, none⟩ (.slice Aq nq cq) = Wf := ⟨_, rfl⟩
       obtain ⟨pq, hpe⟩ : ∃ p, p = W5.heap.size + 1 := ⟨_, rfl⟩
       have xq : Box W6 pq 24 #[.int .i64 kq, .int .i64 hq, .slice Aq nq cq] := by rw [hpe, ← hWf]; exact zP.put3 _ _ _
       have hbF : Below W5.heap.size W5 W6 := by rw [← hWf]; exact (cur_set3 (by assumption) (by omega) _ _ _).out
       have HVq : Hid (Rd W6 (u) (.agg #[.int .i64 kq, .int .i64 hq, .slice Aq nq cq])) := Lib.hid (by rw [← hWf]; exact rd_set3 HRq.out (by first | omega | (simp; omega) | simp))
       rw [hWf, ← hpe]
       clear hWf hpe)
  all_goals
    replace HVt := Lib.hid (Rd.keep hbF _ _ HVt.out)
    replace bxt := bxt.keep hbF bxt.lt
    replace hb := hb.trans (hbF.mono hb.size)
    have HI2 := Lib.hid (InvertC u vs V0 nv c0v n _ W6 HVq.out HNU.out HNV.out HNC.out HNM.out (HNX.out _ hb))
    rw [HBK.out] at HI2
    obtain ⟨q0, q1, q2⟩ := xq.three
    clear HMO hcu0 hfd
    go_wp2_with fail
    refine HI2.out.mono ?_
    clear HI2
    rintro e w7 ⟨ky, hy, Ay, ny, cy, rfl, hry, hb1⟩
    simp only [ivA, ivE] at hry ⊢
    have HVy := Lib.hid (RdF.rd _ _ hry); clear hry
    replace HVt := Lib.hid (Rd.keep hb1 _ _ HVt.out)
    replace bxt := bxt.keep hb1 bxt.lt
    replace hb := hb.trans (hb1.mono hb.size)
    have hbB : Below w7.heap.size w7 (w7.alloc (.cells #[.int .i64 ky, .int .i64 hy, .slice Ay ny cy] 24)) := (Below.refl _ _).alloc (Nat.le_refl _) _
    have HSM := Lib.hid (termSame t t _ _ (w7.alloc (.cells #[.int .i64 ky, .int .i64 hy, .slice Ay ny cy] 24)) (Rd.keep hbB _ _ HVt.out) (Rd.keep hbB _ _ HVy.out))
    have hbw := hb.trans (hbB.mono hb.size)
    obtain ⟨t0, t1, t2⟩ := bxt.three
    have lt := bxt.lt
    clear hb hb1 hbB hbF q0 q1 q2 xq HVq
    go_wp2_with fail
    refine HSM.out.mono ?_
    rw [sam_refl]
    rintro e u1 ⟨rfl, hb1⟩
    go_wp2_with fail
    go_ret
    exact ⟨rfl, hbw.trans (hb1.mono hbw.size)⟩
end Go.Proofs.Ytdllbljjlaipoaa
