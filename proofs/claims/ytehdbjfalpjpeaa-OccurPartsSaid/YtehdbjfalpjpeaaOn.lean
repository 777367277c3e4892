/-
  The document's own Patterns. No statement is proved here.
-/
import Derived.Test.YtehdbjfalpjpeaaOm
namespace Go.Proofs.Ytehdbjfalpjpeaa
open Go.ChangeShapes Go.WideShapes Go.ChangeAt Go.RowKit Go.Maps
set_option linter.unusedVariables false

mutual
def patB : T → Int → Bool
  | .node k h xs, n => (!(k == 6) || (ptn n [] xs).isSome) && patL k xs.length xs 0 n
def patL (k : Int) (m : Nat) : List T → Nat → Int → Bool
  | [], _, _ => true
  | t :: ts, i, n => patB t (wrap64 (n + bd k m i)) && patL k m ts (i + 1) n
end
mutual
theorem pat_nds (n : Int) : ∀ (t : T) (b : Int), (nds t b).all (pa1 n) = patB t (wrap64 (n + b))
  | .node k h xs, b => by rw [nds, List.all_cons, patB, pat_ndsL n k xs.length xs 0 b]; rfl
theorem pat_ndsL (n k : Int) (m : Nat) : ∀ (xs : List T) (i : Nat) (b : Int), (ndsL k m xs i b).all (pa1 n) = patL k m xs i (wrap64 (n + b))
  | [], _, _ => by rw [ndsL, patL]; rfl
  | t :: ts, i, b => by
    rw [ndsL, List.all_append, patL, pat_nds n t, pat_ndsL n k m ts (i + 1) b]
    congr 2
    rw [wrap_add', wrap_add]
    congr 1
    omega
end
theorem pat_top {n : Int} (hn : (Lit.int .i64 n).wf = true) (t : T) : (nds t 0).all (pa1 n) = patB t n := by
  rw [pat_nds, Int.add_zero, wf_wrap hn]

theorem cur_allocO {W W' : World} (h : Hid (Below W.heap.size W W')) (o : Obj) : Hid (Below W.heap.size W (W'.alloc o)) := Lib.hid (h.out.alloc h.out.size o)

set_option maxRecDepth 100000 in
set_option maxHeartbeats 4000000 in
theorem rfPatternsC (t : T) : ∀ (nn : Int) (v : Value) (w : World), Rd w t v → wd t ≤ 3518437208780 →
    Calls Try.prog 17 #[v, .int .i64 nn] w fun e w' => e = .returned (.bool (patB t nn)) ∧ Below w.heap.size w w' := by
  induction t using T.ind with
  | step k h xs ih =>
    intro nn v w hv hsz
    obtain ⟨A, n, c, rfl, hk, hh, hn, hc, hm, hx⟩ := Rd_node.1 hv
    clear hv
    have HM := Lib.hid hm
    have hnn : n ≤ 3518437208780 := by rw [wd] at hsz; omega
    have hsx : ∀ t ∈ xs, wd t ≤ 3518437208780 := fun t ht => by rw [wd] at hsz; have := wd_mem ht; omega
    have HSX := Lib.hid hsx; clear hsx hsz
    have hwA : Below w.heap.size w (w.alloc (.cells #[.int .i64 k, .int .i64 h, .slice A n c] 24)) := (Below.refl _ _).alloc (Nat.le_refl _) _
    have x0 := Box.new w 24 #[.int .i64 k, .int .i64 h, .slice A n c]
    have HPC := Lib.hid ((rfPatternC xs A n c nn _ hn hc hm (by omega) (fun i t ht => (hx i t ht).keep hwA)).mono fun e w' hp => hp.tuple)
    unfold maxLen at hm
    have HN := Lib.hid hn; clear hn
    have HX := Lib.hid hx; clear hx
    have IH := Lib.hid ih; clear ih
    have HWA := Lib.hid hwA; clear hwA
    have X0 := Lib.hid x0; clear x0
    have E : patB (.node k h xs) nn = ((!(k == 6) || (ptn nn [] xs).isSome) && patL k n xs 0 nn) := by rw [patB, HN.out]
    rw [E]
    clear E
    by_cases k6 : k = 6
    · subst k6
      generalize (ptn nn [] xs).isSome = R at *
      cases R
      · go_enter Try.func17, Try.ntmps17
        go_wp2_with (go_at_call 20; refine HPC.out.mono ?_; rintro e w1 ⟨v1, rfl, hb1⟩)
        go_ret
        exact ⟨rfl, HWA.out.trans (hb1.mono HWA.out.size)⟩
      · go_enter Try.func17, Try.ntmps17
        go_wp2_with (go_at_call 20; refine HPC.out.mono ?_; rintro e w1 ⟨v1, rfl, hb1⟩; have x1 := X0.out.keep hb1 X0.out.lt; obtain ⟨q0, q1, q2⟩ := x1.three; have hwB := HWA.out.trans (hb1.mono HWA.out.size); clear hb1 HPC)
        clear q0 q1 q2
        go_loopw [7] (fun i wr => ∃ (j : Nat), j ≤ n ∧ i = .int .i64 j ∧ Hid (patL 6 n (xs.drop j) j nn = patL 6 n xs 0 nn) ∧ Box wr w.heap.size 24 #[.int .i64 6, .int .i64 h, .slice A n c] ∧ Below w.heap.size w wr) (fun i _ => n - (intOf i).toNat)
        case atStart => exact ⟨0, Nat.zero_le _, rfl, Lib.hid rfl, x1, hwB⟩
        case round =>
          clear hwB x1
          obtain ⟨j, hj, rfl, HS, hbox, hb⟩ := hrel
          obtain ⟨b0, b1, b2⟩ := hbox.three
          by_cases hlt : j < n
          · obtain ⟨t, ht⟩ := at_of HN.out hlt
            obtain ⟨b, o, v0, v1, v2, rfl, c0, c1, c2, hr⟩ := RdAt.keep hb (HX.out j t ht)
            have HS' := HS.out
            rw [drop_at ht, patL] at HS'
            have HS := Lib.hid HS'; clear HS'
            have HST := Lib.hid (HSX.out t (List.mem_of_getElem? ht))
            have HT := Lib.hid ht; clear ht
            have hwr : IntKind.i64.wrap (nn + bd 6 n j) = wrap64 (nn + bd 6 n j) := wrapEq _
            go_wp2_with fail
            have pb0 := Past.cell b0
            have pb1 := Past.cell b1
            have pb2 := Past.cell b2
            have p0 := Past.cell c0
            have p1 := Past.cell c1
            have p2 := Past.cell c2
            have hi0 : (0 : Int) ≤ j := by omega
            have hi1 : (j : Int) < n := by omega
            refine wp_region_past (by kernel_rfl) (by kernel_rfl) ?_
            repeat (go_big_quiet_step ((first
              | (go_at_call 26; exact calls_past (refBinds _ _ _ _ _ hc HM.out j (by unfold maxLen; omega) _))
              | (go_at_call 17; exact calls_past (IH.out t (List.mem_of_getElem? HT.out) _ _ _ (Rd.keep (Past.h _) _ _ hr) HST.out)))))
            refine wpQuiet_nil ?_
            rintro _ ⟨z, rfl⟩
            clear pb0 pb1 pb2 p0 p1 p2
            obtain ⟨w1, hb1⟩ := z
            dsimp only
            generalize patB t _ = r at *
            cases r
            · go_wp2_with fail
              go_ret
              exact ⟨ret_bool (by simpa using HS.out), hb.trans (hb1.mono hb.size)⟩
            · go_wp2_with fail
              go_roundw
              case rel => exact ⟨j + 1, by omega, by go_num, Lib.hid (by simpa using HS.out), hbox.keep hb1 hbox.lt, hb.trans (hb1.mono hb.size)⟩
              case measure => simp [intOf]; omega
          · go_wp2_with fail
            go_ret
            exact ⟨ret_bool (by have := HS.out; rw [drop_all HN.out (by omega), patL] at this; simpa using this), hb⟩
    · have e1 : (k == 6) = false := by simpa using k6
      have HK := Lib.hid k6; clear k6
      have E1 : ((!(k == 6) || (ptn nn [] xs).isSome) && patL k n xs 0 nn) = patL k n xs 0 nn := by rw [e1]; rfl
      rw [E1]
      clear E1 HPC
      go_enter Try.func17, Try.ntmps17
      go_wp2_with fail
      have hwB := HWA.out
      have x1 := X0.out
      go_loopw [7] (fun i wr => ∃ (j : Nat), j ≤ n ∧ i = .int .i64 j ∧ Hid (patL k n (xs.drop j) j nn = patL k n xs 0 nn) ∧ Box wr w.heap.size 24 #[.int .i64 k, .int .i64 h, .slice A n c] ∧ Below w.heap.size w wr) (fun i _ => n - (intOf i).toNat)
      case atStart => exact ⟨0, Nat.zero_le _, rfl, Lib.hid rfl, x1, hwB⟩
      case round =>
        clear hwB x1
        obtain ⟨j, hj, rfl, HS, hbox, hb⟩ := hrel
        obtain ⟨b0, b1, b2⟩ := hbox.three
        by_cases hlt : j < n
        · obtain ⟨t, ht⟩ := at_of HN.out hlt
          obtain ⟨b, o, v0, v1, v2, rfl, c0, c1, c2, hr⟩ := RdAt.keep hb (HX.out j t ht)
          have HS' := HS.out
          rw [drop_at ht, patL] at HS'
          have HS := Lib.hid HS'; clear HS'
          have HST := Lib.hid (HSX.out t (List.mem_of_getElem? ht))
          have HT := Lib.hid ht; clear ht
          have hwr : IntKind.i64.wrap (nn + bd k n j) = wrap64 (nn + bd k n j) := wrapEq _
          go_wp2_with fail
          have pb0 := Past.cell b0
          have pb1 := Past.cell b1
          have pb2 := Past.cell b2
          have p0 := Past.cell c0
          have p1 := Past.cell c1
          have p2 := Past.cell c2
          have hi0 : (0 : Int) ≤ j := by omega
          have hi1 : (j : Int) < n := by omega
          refine wp_region_past (by kernel_rfl) (by kernel_rfl) ?_
          repeat (go_big_quiet_step ((first
            | (go_at_call 26; exact calls_past (refBinds _ _ _ _ _ hc HM.out j (by unfold maxLen; omega) _))
            | (go_at_call 17; exact calls_past (IH.out t (List.mem_of_getElem? HT.out) _ _ _ (Rd.keep (Past.h _) _ _ hr) HST.out)))))
          refine wpQuiet_nil ?_
          rintro _ ⟨z, rfl⟩
          clear pb0 pb1 pb2 p0 p1 p2
          obtain ⟨w1, hb1⟩ := z
          dsimp only
          generalize patB t _ = r at *
          cases r
          · go_wp2_with fail
            go_ret
            exact ⟨ret_bool (by simpa using HS.out), hb.trans (hb1.mono hb.size)⟩
          · go_wp2_with fail
            go_roundw
            case rel => exact ⟨j + 1, by omega, by go_num, Lib.hid (by simpa using HS.out), hbox.keep hb1 hbox.lt, hb.trans (hb1.mono hb.size)⟩
            case measure => simp [intOf]; omega
        · go_wp2_with fail
          go_ret
          exact ⟨ret_bool (by have := HS.out; rw [drop_all HN.out (by omega), patL] at this; simpa using this), hb⟩
end Go.Proofs.Ytehdbjfalpjpeaa
