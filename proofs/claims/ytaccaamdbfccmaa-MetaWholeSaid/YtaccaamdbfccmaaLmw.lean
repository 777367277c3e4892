/-
  The walk of the law MetaWhole.
-/
import Derived.Test.YtaccaamdbfccmaaKn
namespace Go.Proofs.Ytaccaamdbfccmaa
open Go.ChangeShapes Go.WideShapes Go.ChangeAt Go.RowKit
set_option linter.unusedVariables false

set_option maxRecDepth 100000 in
set_option maxHeartbeats 8000000 in
theorem metaWholeC (x : T) (L : List T) (AL : Option Addr) (nL cL : Nat) (n : Int) (u : Value) (w : World) (hvx : Rd w x u) (hnL : L.length = nL) (hcL : nL ≤ cL) (hmL : cL ≤ maxLen) (hxL : ∀ i t, L[i]? = some t → RdAt w AL i t) :
    Calls Try.prog 5 #[u, .int .i64 n, .slice AL nL cL] w fun e w' => e = .returned (.bool true) ∧ Below w.heap.size w w' := by
  have hmmL := hmL
  have HXL := Lib.hid hxL; clear hxL
  have HNL := Lib.hid hnL; clear hnL
  obtain ⟨kx, hx, Ax, nx, cx, rfl⟩ := hvx.full
  have HVx := Lib.hid hvx; clear hvx
  obtain ⟨W0, hW0⟩ : ∃ W0, (w.alloc (.cells #[.int .i64 kx, .int .i64 hx, .slice Ax nx cx] 24)) = W0 := ⟨_, rfl⟩
  have hb : Below w.heap.size w W0 := by rw [← hW0]; exact ((Below.refl _ _).alloc (Nat.le_refl _) _)
  have bxx : Box W0 (w.heap.size) 24 #[.int .i64 kx, .int .i64 hx, .slice Ax nx cx] := by rw [← hW0]; exact (Box.new w _ _)
  replace HVx := Lib.hid (Rd.keep hb _ _ HVx.out)
  have HW0 := Lib.hid hW0; clear hW0
  go_enter Try.func5, Try.ntmps5
  go_wp2_with fail
  rw [HW0.out]
  clear HW0
  refine (awakeM _).mono ?_
  rintro e w1 ⟨rfl, hb1⟩
  replace bxx := bxx.keep hb1 bxx.lt
  replace HVx := Lib.hid (Rd.keep hb1 _ _ HVx.out)
  replace hb := hb.trans (hb1.mono hb.size)
  clear hb1
  obtain ⟨bxx0, bxx1, bxx2⟩ := bxx.three
  have bxxl := bxx.lt
  go_wp2_with fail
  refine (refLight x 1000 60 _ _ HVx.out).mono ?_
  have HLx : Hid (ltB x 1000 60 = true → ltB x 1000 60 = true) := Lib.hid fun e => e
  generalize hqx : ltB x 1000 60 = Rx at *
  rintro e w2x ⟨rfl, hb1⟩
  have HQx := Lib.hid hqx; clear hqx HLx
  clear bxx0 bxx1 bxx2 bxxl
  replace bxx := bxx.keep hb1 bxx.lt
  replace HVx := Lib.hid (Rd.keep hb1 _ _ HVx.out)
  replace hb := hb.trans (hb1.mono hb.size)
  clear hb1
  obtain ⟨bxx0, bxx1, bxx2⟩ := bxx.three
  have bxxl := bxx.lt
  go_wp2_with fail
  refine (lightsC L AL nL cL 300 60 _ HNL.out hcL hmL (fun i u hu => RdAt.keep hb (HXL.out i u hu))).mono ?_
  generalize hqL : lsB L 300 60 = RL at *
  rintro e w2L ⟨rfl, hb1⟩
  have HQL := Lib.hid hqL; clear hqL
  clear bxx0 bxx1 bxx2 bxxl
  replace bxx := bxx.keep hb1 bxx.lt
  replace HVx := Lib.hid (Rd.keep hb1 _ _ HVx.out)
  replace hb := hb.trans (hb1.mono hb.size)
  clear hb1
  obtain ⟨bxx0, bxx1, bxx2⟩ := bxx.three
  have bxxl := bxx.lt
  cases Rx
  · go_wp2_with fail
    go_ret
    exact ⟨rfl, hb⟩
  cases RL
  · go_wp2_with fail
    go_ret
    exact ⟨rfl, hb⟩
  go_wp2_with fail
  refine (myC x _ _ HVx.out).mono ?_
  generalize hqx : myB x = Mx at *
  rintro e w3x ⟨rfl, hb1⟩
  have HMx := Lib.hid hqx; clear hqx
  clear bxx0 bxx1 bxx2 bxxl
  replace bxx := bxx.keep hb1 bxx.lt
  replace HVx := Lib.hid (Rd.keep hb1 _ _ HVx.out)
  replace hb := hb.trans (hb1.mono hb.size)
  clear hb1
  obtain ⟨bxx0, bxx1, bxx2⟩ := bxx.three
  have bxxl := bxx.lt
  cases Mx
  · go_wp2_with fail
    go_ret
    exact ⟨rfl, hb⟩
  have KNx : Hid (Kn 1000 60 x) := Lib.hid (kn_of HQx.out HMx.out); clear HQx HMx
  unfold maxLen at hmL
  by_cases x1 : n < 0
  · have dx1 : decide (n < 0) = true := by simpa using x1
    go_wp2_with fail
    go_ret
    exact ⟨rfl, hb⟩
  have dx1 : decide (n < 0) = false := by simpa using x1
  by_cases x2 : 20 < n
  · have dx2 : decide (20 < n) = true := by simpa using x2
    go_wp2_with fail
    go_ret
    exact ⟨rfl, hb⟩
  have dx2 : decide (20 < n) = false := by simpa using x2
  obtain ⟨m, hm⟩ : ∃ m : Nat, n = m := ⟨n.toNat, by omega⟩
  have hm20 : m ≤ 20 := by omega
  have hcl : clN n = m := by unfold clN; rw [if_neg (by omega), if_neg (by omega)]; omega
  have f1 := fi_whole KNx.out.my hm20
  rw [← hm] at f1
  have F1 := Lib.hid f1; have FC := Lib.hid hcl; have HM := Lib.hid hm
  have HWF : Hid ((Lit.int .i64 0).wf = true ∧ (Lit.int .i64 6).wf = true) := Lib.hid (by decide)
  clear f1 hcl hm
  go_wp2_with fail
  clear bxx0 bxx1 bxx2 bxxl
  have HSM : Hid (∀ W', Hid (Below w3x.heap.size w3x W') → Calls Try.prog 23 #[.int .i64 n] W' (fun e w' => SEnd (vsL m) (m : Int) W' e w' ∧ Hid (Below w3x.heap.size w3x w'))) := Lib.hid fun W' h => by
    have := SameC n W'
    rw [FC.out] at this
    exact this.mono fun e w' h' => ⟨h', by obtain ⟨_, _, _, _, _, hb'⟩ := h'; exact cur_trans h hb'⟩
  have hfd : ∀ (A : Option Addr) (n c : Nat) (x : Int) (W : World), (Instr.field 41 (.agg #[.slice A n c, .int .i64 x]) 0).run Try.prog W = .ok (.slice A n c) W := fun A n c x W => by kernel_rfl
  have HK : Hid (∀ w', Hid (Below w3x.heap.size w3x w') → (w'.cell? ⟨w.heap.size, 0, none⟩ = some (.int .i64 kx) ∧ w'.cell? ⟨w.heap.size, 1, none⟩ = some (.int .i64 hx) ∧ w'.cell? ⟨w.heap.size, 2, none⟩ = some (.slice Ax nx cx) ∧ Hid (Below w3x.heap.size w3x w'))) := Lib.hid fun w' h => by
    have s0 := bxx.keep h.out bxx.lt
    exact ⟨s0.three.1, s0.three.2.1, s0.three.2.2, h⟩
  have hcu0 : Hid (Below w3x.heap.size w3x w3x.drew) := cur_drew
  go_region_held3 (fun w' => w'.cell? ⟨w.heap.size, 0, none⟩ = some (.int .i64 kx) ∧ w'.cell? ⟨w.heap.size, 1, none⟩ = some (.int .i64 hx) ∧ w'.cell? ⟨w.heap.size, 2, none⟩ = some (.slice Ax nx cx) ∧ Hid (Below w3x.heap.size w3x w'))
    (first | exact HK.out _ (by assumption) | exact HK.out _ (cur_alloc (by assumption) _) | exact HK.out _ (cur_alloc (cur_alloc (by assumption) _) _) | exact HK.out _ (Lib.hid (((Below.refl _ _).alloc (Nat.le_refl _) _).drew)) | exact HK.out _ (Lib.hid ((((Below.refl _ _).alloc (Nat.le_refl _) _).alloc (by simp) _).drew)) | exact HK.out _ (cur_set3 (by assumption) (by omega) _ _ _))
    (first
      | (go_at_call 12
         with_reducible refine Calls.mono (HAP.out _ _ ?hh ?hr) ?_
         case hh => first | exact Below.refl _ w8 | exact (Below.refl _ w8).alloc (Nat.le_refl _) _ | exact ((Below.refl _ w8).alloc (Nat.le_refl _) _).alloc (by simp) _
         case hr => first | exact yP | exact yP.alloc _ | exact (yP.alloc _).alloc _ | exact Box.new _ _ _ | exact (Box.new _ _ _).alloc _ | exact Box.drewI (Box.new _ _ _) | exact Box.drewI ((Box.new _ _ _).alloc _) | exact Box.at1 (Box.new _ _ _) | exact Box.drewI (Box.at1 (Box.new _ _ _))
         rintro e w9 ⟨⟨kq, hq, Aq, nq, cq, rfl, hrd, hb9⟩, hcu9⟩
         first | (have zP := Box.keepC (cs := #[.int .i64 0, .int .i64 0, .slice none 0 0]) (ty := 24) (by first | exact zP | exact zP.alloc _ | exact (zP.alloc _).alloc _ | exact Box.new _ _ _ | exact (Box.new _ _ _).alloc _ | exact Box.drewI (Box.new _ _ _) | exact Box.drewI ((Box.new _ _ _).alloc _)) hb9; (try (with_reducible replace zP := zP.at1)); have lzhb9 := zP.lt) | skip
         have hs9 := hcu9.out.size
         have HRq := Lib.hid hrd
         first | (obtain ⟨z0, z1, z2⟩ := zP.three; have fz0 := zP.frozen 0; have fz1 := zP.frozen 1; have fz2 := zP.frozen 2) | skip
         clear hrd hb9)
      | (go_at_call 23
         with_reducible refine Calls.mono (HSM.out _ ?hh) ?_
         case hh => first | assumption | exact cur_alloc (by assumption) _ | exact cur_alloc (cur_alloc (by assumption) _) _ | exact Lib.hid (((Below.refl _ _).alloc (Nat.le_refl _) _).drew) | exact Lib.hid ((((Below.refl _ _).alloc (Nat.le_refl _) _).alloc (by simp) _).drew)
         rintro e w8 ⟨⟨A8, n8, c8, rfl, hrl, hb8⟩, hcu8⟩
         have hs8 := hcu8.out.size
         first | (have zP := Box.keepC (cs := #[.int .i64 0, .int .i64 0, .slice none 0 0]) (ty := 24) (by first | exact zP | exact zP.alloc _ | exact (zP.alloc _).alloc _ | exact Box.new _ _ _ | exact (Box.new _ _ _).alloc _ | exact Box.drewI (Box.new _ _ _) | exact Box.drewI ((Box.new _ _ _).alloc _)) hb8; (try (with_reducible replace zP := zP.at1)); have lzhb8 := zP.lt) | skip
         first | (have yP := Box.keepC (cs := #[.int .i64 kx, .int .i64 hx, .slice Ax nx cx]) (ty := 24) (by first | exact yP | exact yP.alloc _ | exact (yP.alloc _).alloc _ | exact Box.new _ _ _ | exact (Box.new _ _ _).alloc _ | exact Box.drewI (Box.new _ _ _) | exact Box.drewI ((Box.new _ _ _).alloc _) | exact Box.at1 (Box.new _ _ _) | exact Box.drewI (Box.at1 (Box.new _ _ _))) hb8; (try (with_reducible replace yP := yP.at1))) | skip
         have HAP : Hid (∀ W' pr, Below w8.heap.size w8 W' → Box W' pr 24 #[.int .i64 kx, .int .i64 hx, .slice Ax nx cx] → Calls Try.prog 12 #[.agg #[.int .i64 6, .int .i64 0, .slice A8 n8 c8], .slice (some ⟨pr, 0, none⟩) 1 1, .int .i64 n] W' (fun e w' => TEnd x 0 W' e w' ∧ Hid (Below w3x.heap.size w3x w'))) := Lib.hid fun W' pr h bx => by
            have := FillC (th := [x]) (t := .node 6 0 (vsL m)) (n := n) (m := 1) (cL := 1) W' ⟨fun y hy _ => by rw [List.mem_singleton.1 hy]; exact okT_mono (by omega) _ KNx.out.ok, rfl, Nat.le_refl _, by unfold maxLen; omega, rd_one (k := 0) (h := 0) bx (Rd.keep (cur_trans hcu8 h).out _ _ HVx.out)⟩ (Rd_node.2 ⟨A8, n8, c8, rfl, HWF.out.2, HWF.out.1, hrl.len, hrl.le, hrl.cap, fun i u hu => RdAt.keep h (rdFAt_rd (hrl.at_ i u hu))⟩) (fun _ => ok_vs m hm20)
            rw [F1.out] at this
            exact this.mono fun e w' h' => ⟨h', cur_trans (cur_trans hcu8 h) h'.below⟩
         clear hrl hb8))
  all_goals first
    | (obtain ⟨W6, hWf⟩ : ∃ Wf, w9.alloc (.cells #[.int .i64 kq, .int .i64 hq, .slice Aq nq cq] 24) = Wf := ⟨_, rfl⟩
       obtain ⟨pq, hpe⟩ : ∃ p, p = w9.heap.size := ⟨_, rfl⟩
       have xq : Box W6 pq 24 #[.int .i64 kq, .int .i64 hq, .slice Aq nq cq] := by rw [hpe, ← hWf]; exact Box.new _ _ _
       have hbF : Below w3x.heap.size w3x W6 := by rw [← hWf]; exact (cur_alloc (by assumption) _).out
       have HVq : Hid (Rd W6 (x) (.agg #[.int .i64 kq, .int .i64 hq, .slice Aq nq cq])) := Lib.hid (by rw [← hWf]; exact rd_alloc HRq.out _)
       rw [hWf, ← hpe]
       clear hWf hpe)
    | (obtain ⟨W6, hWf⟩ : ∃ Wf, ((w9.setCell ⟨w8.heap.size, 0, none⟩ (.int .i64 kq)).setCell ⟨w8.heap.size, 1, none⟩ (.int .i64 hq)).setCell ⟨w8.heap.size, 2, none⟩ (.slice Aq nq cq) = Wf := ⟨_, rfl⟩
       obtain ⟨pq, hpe⟩ : ∃ p, p = w8.heap.size := ⟨_, rfl⟩
       have xq : Box W6 pq 24 #[.int .i64 kq, .int .i64 hq, .slice Aq nq cq] := by rw [hpe, ← hWf]; exact zP.put3 _ _ _
       have hbF : Below w3x.heap.size w3x W6 := by rw [← hWf]; exact (cur_set3 (by assumption) (by omega) _ _ _).out
       have HVq : Hid (Rd W6 (x) (.agg #[.int .i64 kq, .int .i64 hq, .slice Aq nq cq])) := Lib.hid (by rw [← hWf]; exact rd_set3 HRq.out (by first | omega | (simp; omega) | simp))
       rw [hWf, ← hpe]
       clear hWf hpe)
    | (obtain ⟨W6, hWf⟩ : ∃ Wf, ((w9.setCell ⟨w8.heap.size + 1, 0, none⟩ (.int .i64 kq)).setCell ⟨w8.heap.size + 1, 1, none⟩ (.int .i64 hq)).setCell ⟨w8.heap.size + 1, 2, none⟩ (.slice Aq nq cq) = Wf := ⟨_, rfl⟩
       obtain ⟨pq, hpe⟩ : ∃ p, p = w8.heap.size + 1 := ⟨_, rfl⟩
       have xq : Box W6 pq 24 #[.int .i64 kq, .int .i64 hq, .slice Aq nq cq] := by rw [hpe, ← hWf]; exact zP.put3 _ _ _
       have hbF : Below w3x.heap.size w3x W6 := by rw [← hWf]; exact (cur_set3 (by assumption) (by omega) _ _ _).out
       have HVq : Hid (Rd W6 (x) (.agg #[.int .i64 kq, .int .i64 hq, .slice Aq nq cq])) := Lib.hid (by rw [← hWf]; exact rd_set3 HRq.out (by first | omega | (simp; omega) | simp))
       rw [hWf, ← hpe]
       clear hWf hpe)
    | (obtain ⟨W6, hWf⟩ : ∃ Wf, ((w9.setCell ⟨w3x.heap.size, 0, none⟩ (.int .i64 kq)).setCell ⟨w3x.heap.size, 1, none⟩ (.int .i64 hq)).setCell ⟨w3x.heap.size, 2, none⟩ (.slice Aq nq cq) = Wf := ⟨_, rfl⟩
       obtain ⟨pq, hpe⟩ : ∃ p, p = w3x.heap.size := ⟨_, rfl⟩
       have xq : Box W6 pq 24 #[.int .i64 kq, .int .i64 hq, .slice Aq nq cq] := by rw [hpe, ← hWf]; exact zP.put3 _ _ _
       have hbF : Below w3x.heap.size w3x W6 := by rw [← hWf]; exact (cur_set3 (by assumption) (by omega) _ _ _).out
       have HVq : Hid (Rd W6 (x) (.agg #[.int .i64 kq, .int .i64 hq, .slice Aq nq cq])) := Lib.hid (by rw [← hWf]; exact rd_set3 HRq.out (by first | omega | (simp; omega) | simp))
       rw [hWf, ← hpe]
       clear hWf hpe)
    | (obtain ⟨W6, hWf⟩ : ∃ Wf, ((w9.setCell ⟨w3x.heap.size + 1, 0, none⟩ (.int .i64 kq)).setCell ⟨w3x.heap.size + 1, 1, none⟩ (.int .i64 hq)).setCell ⟨w3x.heap.size + 1, 2, none⟩ (.slice Aq nq cq) = Wf := ⟨_, rfl⟩
       obtain ⟨pq, hpe⟩ : ∃ p, p = w3x.heap.size + 1 := ⟨_, rfl⟩
       have xq : Box W6 pq 24 #[.int .i64 kq, .int .i64 hq, .slice Aq nq cq] := by rw [hpe, ← hWf]; exact zP.put3 _ _ _
       have hbF : Below w3x.heap.size w3x W6 := by rw [← hWf]; exact (cur_set3 (by assumption) (by omega) _ _ _).out
       have HVq : Hid (Rd W6 (x) (.agg #[.int .i64 kq, .int .i64 hq, .slice Aq nq cq])) := Lib.hid (by rw [← hWf]; exact rd_set3 HRq.out (by first | omega | (simp; omega) | simp))
       rw [hWf, ← hpe]
       clear hWf hpe)
  all_goals
    replace bxx := bxx.keep hbF bxx.lt
    replace HVx := Lib.hid (Rd.keep hbF _ _ HVx.out)
    replace hb := hb.trans (hbF.mono hb.size)
    clear hbF
    try clear zP
  all_goals
    obtain ⟨q0, q1, q2⟩ := xq.three
    obtain ⟨t0, t1, t2⟩ := bxx.three
    clear hfd HSM
    have hcu0' := hcu0
    clear hcu0' hcu0
    go_wp2_with fail
    with_reducible refine (termSame x x _ _ _ HVq.out HVx.out).mono ?_
    rw [sam_refl]
    rintro e u1 ⟨rfl, hb1⟩
    replace HVx := Lib.hid (Rd.keep hb1 _ _ HVx.out)
    replace bxx := bxx.keepC hb1
    replace hb := hb.trans (hb1.mono hb.size)
    clear q0 q1 q2 t0 t1 t2 hb1 xq HVq
    go_wp2_with fail
    go_loopw [12] (fun i wr => ∃ (j : Nat), j ≤ nL ∧ i = .int .i64 j ∧ Hid (∀ (m : Nat) (y : T), m < j → L[m]? = some y → hasB y = false ∧ myB y = true) ∧ Below u1.heap.size u1 wr) (fun i _ => nL - (intOf i).toNat)
    case atStart => exact ⟨0, Nat.zero_le _, rfl, Lib.hid (fun m x h => by omega), Below.refl _ _⟩
    case round =>
      obtain ⟨j, hj, rfl, HS, hbr⟩ := hrel
      have hbW : Below w.heap.size w wr := hb.trans (hbr.mono hb.size)
      by_cases hlt : j < nL
      · obtain ⟨y, ht⟩ := at_of HNL.out hlt
        obtain ⟨b, o, k2, h2, A2, n2, c2', rfl, c0, c1, c2, hr⟩ := (RdAt.keep hbW (HXL.out j y ht)).full
        have HT := Lib.hid ht; clear ht
        have HR := Lib.hid hr; clear hr
        have hi0 : (0 : Int) ≤ j := by omega
        have hi1 : (j : Int) < nL := by omega
        go_wp2_with fail
        refine (metasC y _ _ HR.out).mono ?_
        generalize hqm : hasB y = M at *
        rintro e w5 ⟨rfl, hb1⟩
        have HMx := Lib.hid hqm; clear hqm
        replace c0 := (hb1.cell (cell_lt c0)).trans c0
        replace c1 := (hb1.cell (cell_lt c1)).trans c1
        replace c2 := (hb1.cell (cell_lt c2)).trans c2
        replace HR := Lib.hid (Rd.keep hb1 _ _ HR.out)
        replace hbr := hbr.trans (hb1.mono hbr.size)
        clear hb1 hbW
        cases M
        · go_wp2_with fail
          refine (myC y _ _ HR.out).mono ?_
          generalize hqm : myB y = M at *
          rintro e w6 ⟨rfl, hb1⟩
          have HMy := Lib.hid hqm; clear hqm
          clear c0 c1 c2
          replace hbr := hbr.trans (hb1.mono hbr.size)
          clear hb1
          cases M
          · go_wp2_with fail
            go_ret
            exact ⟨rfl, hb.trans (hbr.mono hb.size)⟩
          · by_cases x5 : (20 : Int) < nL
            · have dx5 : decide ((20 : Int) < nL) = true := by simpa using x5
              go_wp2_with fail
              go_ret
              exact ⟨rfl, hb.trans (hbr.mono hb.size)⟩
            · have dx5 : decide ((20 : Int) < nL) = false := by simpa using x5
              go_wp2_with fail
              go_roundw
              case rel => exact ⟨j + 1, by omega, by go_num, Lib.hid (fun m y hm hy => by
                  by_cases hmj : m < j
                  · exact HS.out m y hmj hy
                  · have : m = j := by omega
                    subst this
                    have e := HT.out.symm.trans hy
                    cases e
                    exact ⟨HMx.out, HMy.out⟩), hbr⟩
              case measure => simp [intOf]; omega
        · clear c0 c1 c2
          go_wp2_with fail
          go_ret
          exact ⟨rfl, hb.trans (hbr.mono hb.size)⟩
      · have hjn : j = nL := by omega
        subst hjn
        have hq := HQL.out
        unfold lsB at hq
        rw [Bool.and_eq_true] at hq
        have hKL : ∀ y ∈ L, Kn 300 60 y ∧ hasB y = false := fun y hy => by
          obtain ⟨i, hi⟩ := List.getElem?_of_mem hy
          have hlt : i < j := by have := (List.getElem?_eq_some_iff.1 hi).1; have := HNL.out; omega
          exact ⟨kn_of (lights_all hq.2 y hy) (HS.out i y hlt hi).2, (HS.out i y hlt hi).1⟩
        have HKL := Lib.hid hKL; clear hKL hq
        have y0 := bxx.keep hbr bxx.lt
        obtain ⟨t0, t1, t2⟩ := y0.three
        have ly0 := y0.lt
        have HVx' := Lib.hid (Rd.keep hbr _ _ HVx.out)
        have hbD : Below wr.heap.size wr (wr.alloc (.cells #[.int .i64 6, .int .i64 0, .slice AL j cL] 24)) := (Below.refl _ _).alloc (Nat.le_refl _) _
        have hrw := Rd_node.2 ⟨AL, j, cL, rfl, HWF.out.2, HWF.out.1, HNL.out, hcL, hmmL, fun i u hu => RdAt.keep (hbW.trans (hbD.mono hbW.size)) (HXL.out i u hu)⟩
        have HRW := Lib.hid (show Rd (wr.alloc (.cells #[.int .i64 6, .int .i64 0, .slice AL j cL] 24)) (.node 6 0 L) (.agg #[.int .i64 6, .int .i64 0, .slice AL j cL]) from hrw)
        have HBD := Lib.hid hbD
        have xw := Box.new wr 24 #[.int .i64 6, .int .i64 0, .slice AL j cL]
        clear hrw hbD HS
        go_wp2_with fail
        refine (myC (.node 6 0 L) _ _ HRW.out).mono ?_
        generalize hqm : myB (.node 6 0 L) = M at *
        rintro e v1 ⟨rfl, hb1⟩
        have HMw := Lib.hid hqm; clear hqm
        have hb2 := HBD.out.trans (hb1.mono HBD.out.size)
        have zw := xw.keep hb1 xw.lt
        have z0 := y0.keep hb2 ly0
        have HVx2 := Lib.hid (Rd.keep hb2 _ _ HVx'.out)
        have HRW2 := Lib.hid (Rd.keep hb1 _ _ HRW.out)
        have hbX := hbW.trans (hb2.mono hbW.size)
        clear t0 t1 t2 xw hb1
        cases M
        · go_wp2_with fail
          go_ret
          exact ⟨rfl, hbX⟩
        have hfo := fi_one (n := n) KNx.out.my (hasL_of fun y hy => (HKL.out y hy).2) (HMw.out) (List.all_eq_true.2 fun y hy => (HKL.out y hy).1.my) (by omega)
        have hF : ∀ W' pr, Below v1.heap.size v1 W' → Box W' pr 24 #[.int .i64 kx, .int .i64 hx, .slice Ax nx cx] → Calls Try.prog 12 #[.agg #[.int .i64 6, .int .i64 0, .slice AL j cL], .slice (some ⟨pr, 0, none⟩) 1 1, .int .i64 n] W' (fun e w' => TEnd (apT x L n) (apE x L n) W' e w') := fun W' pr h bx => by
          have := FillC (th := [x]) (t := .node 6 0 L) (n := n) (m := 1) (cL := 1) W' ⟨fun y hy _ => by rw [List.mem_singleton.1 hy]; exact okT_mono (by omega) _ KNx.out.ok, rfl, Nat.le_refl _, by unfold maxLen; omega, rd_one (k := 0) (h := 0) bx (Rd.keep h _ _ HVx2.out)⟩ (Rd.keep h _ _ HRW2.out) (fun _ => ok_node6 fun y hy => okT_mono (by omega) _ (HKL.out y hy).1.ok)
          rw [hfo] at this
          exact this.mono fun e w' h' => fi_tend h'
        have HF := Lib.hid hF
        have HA := Lib.hid fun W' (h : Below v1.heap.size v1 W') => ApplyC (w := W') (t := x) (L := L) (sh := n) (Rd.keep h _ _ HVx2.out) HNL.out hcL hmmL (fun i u hu => RdAt.keep (hbX.trans (h.mono hbX.size)) (HXL.out i u hu)) (fun _ => KNx.out.low) (fun y hy _ => (HKL.out y hy).1.low)
        clear hF hfo
        generalize apT x L n = RT at *
        generalize apE x L n = RE at *
        have hbe : (RE == RE) = true := by simp
        obtain ⟨t0, t1, t2⟩ := z0.three
        obtain ⟨a0, a1, a2⟩ := zw.three
        have lz0 := z0.lt
        have lzw := zw.lt
        go_wp2_with fail
        have hbR : Below v1.heap.size v1 (v1.alloc (.cells #[.int .i64 kx, .int .i64 hx, .slice Ax nx cx] 24)) := (Below.refl _ _).alloc (Nat.le_refl _) _
        refine (HF.out _ _ hbR (Box.new _ _ _)).mono ?_
        rintro e v2 ⟨ka, ha, Aa, na, ca, rfl, hrd, hb3⟩
        have hb4 := hbR.trans (hb3.mono hbR.size)
        have zz := z0.keep hb4 lz0
        have lzz := zz.lt
        have hbE : Below v2.heap.size v2 (v2.alloc (.cells #[.int .i64 ka, .int .i64 ha, .slice Aa na ca] 24)) := (Below.refl _ _).alloc (Nat.le_refl _) _
        have xa := Box.new v2 24 #[.int .i64 ka, .int .i64 ha, .slice Aa na ca]
        have HVa := Lib.hid (Rd.keep hbE _ _ (RdF.rd _ _ hrd))
        have hb5 := hb4.trans (hbE.mono hb4.size)
        have HA5 := Lib.hid (HA.out _ hb5)
        have HB5 := Lib.hid (hbX.trans (hb5.mono hbX.size))
        clear t0 t1 t2 a0 a1 a2 hrd hb3 hb4 hbE hb5 hbR HF HA
        obtain ⟨t0, t1, t2⟩ := zz.three
        go_wp2_with fail
        refine HA5.out.mono ?_
        clear HA5
        rintro e v3 ⟨kc, hc_, Ac, nc, cc, rfl, hrd, hb3⟩
        have za := xa.keep hb3 xa.lt
        have lza := za.lt
        have HVa2 := Lib.hid (Rd.keep hb3 _ _ HVa.out)
        have hbE : Below v3.heap.size v3 (v3.alloc (.cells #[.int .i64 kc, .int .i64 hc_, .slice Ac nc cc] 24)) := (Below.refl _ _).alloc (Nat.le_refl _) _
        have HS9 := Lib.hid (termSame RT RT _ _ _ (Rd.keep hbE _ _ HVa2.out) (Rd.keep hbE _ _ (RdF.rd _ _ hrd)))
        have HB6 := Lib.hid (HB5.out.trans ((hb3.trans (hbE.mono hb3.size)).mono HB5.out.size))
        clear t0 t1 t2 hrd hb3 hbE
        obtain ⟨a0, a1, a2⟩ := za.three
        go_wp2_with fail
        refine HS9.out.mono ?_
        rw [sam_refl]
        rintro e v4 ⟨rfl, hb9⟩
        go_wp2_with fail
        go_ret
        exact ⟨rfl, HB6.out.trans (hb9.mono HB6.out.size)⟩
end Go.Proofs.Ytaccaamdbfccmaa
