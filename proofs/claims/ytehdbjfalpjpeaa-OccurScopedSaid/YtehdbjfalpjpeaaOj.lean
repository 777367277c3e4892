/-
  The document's own Vars and Metas of layer 5. No statement is proved here.
-/
import Derived.Test.YtehdbjfalpjpeaaOi
namespace Go.Proofs.Ytehdbjfalpjpeaa
open Go.ChangeShapes Go.WideShapes Go.ChangeAt Go.RowKit Go.Maps
set_option linter.unusedVariables false

attribute [local go_sem] Oper.semAt_some

def insF (zs l : List Int) : List Int := l.foldl (fun s n => ins n s) zs
theorem insF_app (zs l m : List Int) : insF zs (l ++ m) = insF (insF zs l) m := by simp [insF]
theorem insF_len : ∀ (l zs : List Int), (insF zs l).length ≤ zs.length + l.length
  | [], zs => by simp [insF]
  | n :: l, zs => by
    have h1 := insF_len l (ins n zs)
    have h2 := ins_len n zs
    show (insF (ins n zs) l).length ≤ _
    rw [List.length_cons]; omega
theorem insF_asc {zs l : List Int} (h : Asc zs) : Asc (insF zs l) := (fold_ins l zs h).1
theorem fv_flat_le (l : List (Int × T)) : (l.flatMap fv1).length ≤ l.length := flat1_le fv1 fv1_le l
theorem mt_flat_le (l : List (Int × T)) : (l.flatMap mt1).length ≤ l.length := flat1_le mt1 mt1_le l
/-- one more number -/
theorem rfAddI (zs : List Int) (x : Int) (v : Value) (w : World) (h1 : Ns w v zs) (ha : Asc zs) (hx : (Lit.int .i64 x).wf = true) (hl : zs.length ≤ 4194304) :
    Calls Try.prog 47 #[v, .int .i64 x] w fun e w' => ∃ u, e = .returned u ∧ Ns w' u (insF zs [x]) ∧ Below w.heap.size w w' := by
  have := rfAddC zs x v w h1 hx hl
  rw [adF_eq ha] at this
  exact this

theorem fv_node (k h b : Int) (xs : List T) : ((nds (.node k h xs) b).flatMap fv1) = (if k = 4 ∧ b ≤ h then [wrap64 (h - b)] else []) ++ (ndsL k xs.length xs 0 b).flatMap fv1 := by rw [nds, List.flatMap_cons]; rfl
theorem mt_node (k h b : Int) (xs : List T) : ((nds (.node k h xs) b).flatMap mt1) = (if k = 6 then [h] else []) ++ (ndsL k xs.length xs 0 b).flatMap mt1 := by rw [nds, List.flatMap_cons]; rfl

set_option maxRecDepth 100000 in
set_option maxHeartbeats 4000000 in
theorem rfVarsC (t : T) : ∀ (b : Int) (v vo : Value) (zs : List Int) (w : World), Rd w t v → Ns w vo zs → Asc zs → zs.length + nd t ≤ 4194304 → wrap64 b = b →
    Calls Try.prog 34 #[v, .int .i64 b, vo] w fun e w' => ∃ u, e = .returned u ∧ Ns w' u (insF zs ((nds t b).flatMap fv1)) ∧ Below w.heap.size w w' := by
  induction t using T.ind with
  | step k h xs ih =>
    intro b v vo zs w hv hzs hasc hlen hwb
    obtain ⟨A, n, c, rfl, hk, hh, hn, hc, hm, hx⟩ := Rd_node.1 hv
    clear hv
    have HM := Lib.hid hm
    unfold maxLen at hm
    have HN := Lib.hid hn; clear hn
    have HX := Lib.hid hx; clear hx
    have IH := Lib.hid ih; clear ih
    have HH := Lib.hid hh; clear hh
    have hwA : Below w.heap.size w (w.alloc (.cells #[.int .i64 k, .int .i64 h, .slice A n c] 24)) := (Below.refl _ _).alloc (Nat.le_refl _) _
    have x0 := Box.new w 24 #[.int .i64 k, .int .i64 h, .slice A n c]
    have hzA := hzs.keep hwA
    -- behind the first test
    obtain ⟨zs1, hz1⟩ : ∃ zs1, zs1 = insF zs (if k = 4 ∧ b ≤ h then [wrap64 (h - b)] else []) := ⟨_, rfl⟩
    have ha1 : Asc zs1 := by rw [hz1]; exact insF_asc hasc
    have hl1 : zs1.length + ndL xs ≤ 4194304 := by
      have h1 := insF_len (if k = 4 ∧ b ≤ h then [wrap64 (h - b)] else []) zs
      rw [← hz1] at h1
      rw [nd] at hlen
      have h2 : (if k = 4 ∧ b ≤ h then [wrap64 (h - b)] else []).length ≤ 1 := by split <;> simp
      omega
    have E : insF zs ((nds (.node k h xs) b).flatMap fv1) = insF zs1 ((ndsL k n xs 0 b).flatMap fv1) := by rw [fv_node, insF_app, ← hz1, HN.out]
    have HL0 := Lib.hid hlen; clear hlen
    rw [E]
    have HA0 := Lib.hid hasc; clear hasc
    clear E hzs
    have tests : (k = 4 ∧ b ≤ h) ∨ (k = 4 ∧ ¬ b ≤ h) ∨ k ≠ 4 := by omega
    have HL1 := Lib.hid hl1; clear hl1
    have HA1 := Lib.hid ha1; clear ha1
    have hwr0 : IntKind.i64.wrap (h - b) = wrap64 (h - b) := wrapEq _
    have HZA := Lib.hid hzA; clear hzA
    have HWA := Lib.hid hwA; clear hwA
    have X0 := Lib.hid x0; clear x0
    rcases tests with ⟨rfl, t2⟩ | ⟨rfl, t2⟩ | t1
    · have e1 : decide (b ≤ h) = true := by simpa using t2
      have hz1 : zs1 = insF zs [wrap64 (h - b)] := by rw [hz1, if_pos ⟨rfl, t2⟩]
      have HT2 := Lib.hid t2; clear t2
      have HAD := Lib.hid (rfAddI zs (wrap64 (h - b)) vo _ HZA.out HA0.out (wrap64_wf _) (by have := HL0.out; omega))
      rw [← hz1] at HAD
      clear hz1
      go_enter Try.func34, Try.ntmps34
      go_wp2_with (go_at_call 47; refine HAD.out.mono ?_; rintro e w1 ⟨vo1, rfl, hzB, hb1⟩; have x1 := X0.out.keep hb1 X0.out.lt; obtain ⟨q0, q1, q2⟩ := x1.three; have hwB := HWA.out.trans (hb1.mono HWA.out.size); clear hb1 HAD)
      clear q0 q1 q2
      go_loopw [2, 7] (fun o i wr => ∃ (j : Nat) (ys : List Int), j ≤ n ∧ i = .int .i64 j ∧ Ns wr o ys ∧ Asc ys ∧ Hid (ys.length + ndL (xs.drop j) ≤ 4194304) ∧ Hid (insF ys ((ndsL 4 n (xs.drop j) j b).flatMap fv1) = insF zs1 ((ndsL 4 n xs 0 b).flatMap fv1)) ∧
          Box wr w.heap.size 24 #[.int .i64 4, .int .i64 h, .slice A n c] ∧ Below w.heap.size w wr) (fun _ i _ => n - (intOf i).toNat)
      case atStart => exact ⟨0, zs1, Nat.zero_le _, rfl, hzB, HA1.out, HL1, Lib.hid rfl, x1, hwB⟩
      case round =>
        clear hzB hwB x1
        obtain ⟨j, ys, hj, rfl, hys, hya, HYL, HS, hbox, hb⟩ := hrel
        obtain ⟨b0, b1, b2⟩ := hbox.three
        by_cases hlt : j < n
        · obtain ⟨t, ht⟩ := at_of HN.out hlt
          obtain ⟨b', o, k2, h2, A2, n2, c2', rfl, c0, c1, c2, hr⟩ := (RdAt.keep hb (HX.out j t ht)).full
          have HS' := HS.out
          rw [drop_at ht, ndsL, List.flatMap_append, insF_app] at HS'
          have HS := Lib.hid HS'; clear HS'
          have HYL' := HYL.out
          rw [drop_at ht, ndL] at HYL'
          have HYL := Lib.hid HYL'; clear HYL'
          have HV : Hid (∀ w1, Below wr.heap.size wr w1 → Calls Try.prog 34 #[.agg #[.int .i64 k2, .int .i64 h2, .slice A2 n2 c2'], .int .i64 (wrap64 (b + bd 4 n j)), u2] w1 fun e w' => ∃ u, e = .returned u ∧ Ns w' u (insF ys ((nds t (wrap64 (b + bd 4 n j))).flatMap fv1)) ∧ Below w1.heap.size w1 w') :=
            Lib.hid fun w1 hb1 => IH.out t (List.mem_of_getElem? ht) _ _ _ ys w1 (Rd.keep hb1 _ _ hr) (hys.keep hb1) hya (by have := HYL.out; omega) (by unfold wrap64; omega)
          have HBD := Lib.hid fun W => refBinds 4 h (some ⟨b', o, none⟩) n c hc HM.out j (by unfold maxLen; omega) W
          have HT := Lib.hid ht; clear ht
          have hwr : IntKind.i64.wrap (b + bd 4 n j) = wrap64 (b + bd 4 n j) := wrapEq _
          go_wp2_with fail
          have pb0 := Past.cell b0
          have pb1 := Past.cell b1
          have pb2 := Past.cell b2
          have p0 := Past.cell c0
          have p1 := Past.cell c1
          have p2 := Past.cell c2
          have hi0 : (0 : Int) ≤ j := by omega
          have hi1 : (j : Int) < n := by omega
          refine wp_region_class_tail (C := fun w' => ∃ z : Past wr, w' = z.wd) 11 (by kernel_rfl) (by kernel_rfl) ⟨⟨wr.drew, (Below.refl _ _).drew⟩, rfl⟩ ?_
          simp only [List.take_succ_cons, List.take_zero, List.drop_succ_cons, List.drop_zero]
          repeat (go_big_quiet_step ((go_at_call 26; exact calls_past (HBD.out _))))
          refine wpQuiet_nil ?_
          rintro _ ⟨z, rfl⟩
          clear pb0 pb1 pb2 p0 p1 p2 b0 b1 b2 c0 c1 c2
          obtain ⟨w1, hb1⟩ := z
          dsimp only
          go_wp2_with (go_at_call 34; refine (HV.out _ hb1).mono ?_; rintro e w2 ⟨u, rfl, hu, hb2⟩)
          have hb3 := hb1.trans (hb2.mono hb1.size)
          go_roundw
          case rel =>
            refine ⟨j + 1, _, by omega, by go_num, hu, insF_asc hya, Lib.hid ?_, HS, hbox.keep hb3 hbox.lt, hb.trans (hb3.mono hb.size)⟩
            have h1 := insF_len ((nds t (wrap64 (b + bd 4 n j))).flatMap fv1) ys
            have h2 := fv_flat_le (nds t (wrap64 (b + bd 4 n j)))
            rw [nds_len] at h2
            have := HYL.out
            omega
          case measure => simp [intOf]; omega
        · have HS' := HS.out
          rw [drop_all HN.out (by omega), ndsL] at HS'
          have HS := Lib.hid HS'; clear HS'
          go_wp2_with fail
          go_ret
          exact ⟨_, rfl, by rw [← HS.out]; exact hys, hb⟩
    · have e1 : decide (b ≤ h) = false := by simpa using t2
      have hz1 : zs1 = zs := by rw [hz1, if_neg (fun e => t2 e.2)]; rfl
      have HT2 := Lib.hid t2; clear t2
      rw [← hz1] at HZA
      clear hz1
      go_enter Try.func34, Try.ntmps34
      go_wp2_with fail
      have hzB := HZA.out
      have hwB := HWA.out
      have x1 := X0.out
      go_loopw [2, 7] (fun o i wr => ∃ (j : Nat) (ys : List Int), j ≤ n ∧ i = .int .i64 j ∧ Ns wr o ys ∧ Asc ys ∧ Hid (ys.length + ndL (xs.drop j) ≤ 4194304) ∧ Hid (insF ys ((ndsL 4 n (xs.drop j) j b).flatMap fv1) = insF zs1 ((ndsL 4 n xs 0 b).flatMap fv1)) ∧
          Box wr w.heap.size 24 #[.int .i64 4, .int .i64 h, .slice A n c] ∧ Below w.heap.size w wr) (fun _ i _ => n - (intOf i).toNat)
      case atStart => exact ⟨0, zs1, Nat.zero_le _, rfl, hzB, HA1.out, HL1, Lib.hid rfl, x1, hwB⟩
      case round =>
        clear hzB hwB x1
        obtain ⟨j, ys, hj, rfl, hys, hya, HYL, HS, hbox, hb⟩ := hrel
        obtain ⟨b0, b1, b2⟩ := hbox.three
        by_cases hlt : j < n
        · obtain ⟨t, ht⟩ := at_of HN.out hlt
          obtain ⟨b', o, k2, h2, A2, n2, c2', rfl, c0, c1, c2, hr⟩ := (RdAt.keep hb (HX.out j t ht)).full
          have HS' := HS.out
          rw [drop_at ht, ndsL, List.flatMap_append, insF_app] at HS'
          have HS := Lib.hid HS'; clear HS'
          have HYL' := HYL.out
          rw [drop_at ht, ndL] at HYL'
          have HYL := Lib.hid HYL'; clear HYL'
          have HV : Hid (∀ w1, Below wr.heap.size wr w1 → Calls Try.prog 34 #[.agg #[.int .i64 k2, .int .i64 h2, .slice A2 n2 c2'], .int .i64 (wrap64 (b + bd 4 n j)), u2] w1 fun e w' => ∃ u, e = .returned u ∧ Ns w' u (insF ys ((nds t (wrap64 (b + bd 4 n j))).flatMap fv1)) ∧ Below w1.heap.size w1 w') :=
            Lib.hid fun w1 hb1 => IH.out t (List.mem_of_getElem? ht) _ _ _ ys w1 (Rd.keep hb1 _ _ hr) (hys.keep hb1) hya (by have := HYL.out; omega) (by unfold wrap64; omega)
          have HBD := Lib.hid fun W => refBinds 4 h (some ⟨b', o, none⟩) n c hc HM.out j (by unfold maxLen; omega) W
          have HT := Lib.hid ht; clear ht
          have hwr : IntKind.i64.wrap (b + bd 4 n j) = wrap64 (b + bd 4 n j) := wrapEq _
          go_wp2_with fail
          have pb0 := Past.cell b0
          have pb1 := Past.cell b1
          have pb2 := Past.cell b2
          have p0 := Past.cell c0
          have p1 := Past.cell c1
          have p2 := Past.cell c2
          have hi0 : (0 : Int) ≤ j := by omega
          have hi1 : (j : Int) < n := by omega
          refine wp_region_class_tail (C := fun w' => ∃ z : Past wr, w' = z.wd) 11 (by kernel_rfl) (by kernel_rfl) ⟨⟨wr.drew, (Below.refl _ _).drew⟩, rfl⟩ ?_
          simp only [List.take_succ_cons, List.take_zero, List.drop_succ_cons, List.drop_zero]
          repeat (go_big_quiet_step ((go_at_call 26; exact calls_past (HBD.out _))))
          refine wpQuiet_nil ?_
          rintro _ ⟨z, rfl⟩
          clear pb0 pb1 pb2 p0 p1 p2 b0 b1 b2 c0 c1 c2
          obtain ⟨w1, hb1⟩ := z
          dsimp only
          go_wp2_with (go_at_call 34; refine (HV.out _ hb1).mono ?_; rintro e w2 ⟨u, rfl, hu, hb2⟩)
          have hb3 := hb1.trans (hb2.mono hb1.size)
          go_roundw
          case rel =>
            refine ⟨j + 1, _, by omega, by go_num, hu, insF_asc hya, Lib.hid ?_, HS, hbox.keep hb3 hbox.lt, hb.trans (hb3.mono hb.size)⟩
            have h1 := insF_len ((nds t (wrap64 (b + bd 4 n j))).flatMap fv1) ys
            have h2 := fv_flat_le (nds t (wrap64 (b + bd 4 n j)))
            rw [nds_len] at h2
            have := HYL.out
            omega
          case measure => simp [intOf]; omega
        · have HS' := HS.out
          rw [drop_all HN.out (by omega), ndsL] at HS'
          have HS := Lib.hid HS'; clear HS'
          go_wp2_with fail
          go_ret
          exact ⟨_, rfl, by rw [← HS.out]; exact hys, hb⟩
    · have e1 : (k == 4) = false := by simpa using t1
      have hz1 : zs1 = zs := by rw [hz1, if_neg (fun e => t1 e.1)]; rfl
      have HT2 := Lib.hid t1; clear t1
      rw [← hz1] at HZA
      clear hz1
      go_enter Try.func34, Try.ntmps34
      go_wp2_with fail
      have hzB := HZA.out
      have hwB := HWA.out
      have x1 := X0.out
      go_loopw [2, 7] (fun o i wr => ∃ (j : Nat) (ys : List Int), j ≤ n ∧ i = .int .i64 j ∧ Ns wr o ys ∧ Asc ys ∧ Hid (ys.length + ndL (xs.drop j) ≤ 4194304) ∧ Hid (insF ys ((ndsL k n (xs.drop j) j b).flatMap fv1) = insF zs1 ((ndsL k n xs 0 b).flatMap fv1)) ∧
          Box wr w.heap.size 24 #[.int .i64 k, .int .i64 h, .slice A n c] ∧ Below w.heap.size w wr) (fun _ i _ => n - (intOf i).toNat)
      case atStart => exact ⟨0, zs1, Nat.zero_le _, rfl, hzB, HA1.out, HL1, Lib.hid rfl, x1, hwB⟩
      case round =>
        clear hzB hwB x1
        obtain ⟨j, ys, hj, rfl, hys, hya, HYL, HS, hbox, hb⟩ := hrel
        obtain ⟨b0, b1, b2⟩ := hbox.three
        by_cases hlt : j < n
        · obtain ⟨t, ht⟩ := at_of HN.out hlt
          obtain ⟨b', o, k2, h2, A2, n2, c2', rfl, c0, c1, c2, hr⟩ := (RdAt.keep hb (HX.out j t ht)).full
          have HS' := HS.out
          rw [drop_at ht, ndsL, List.flatMap_append, insF_app] at HS'
          have HS := Lib.hid HS'; clear HS'
          have HYL' := HYL.out
          rw [drop_at ht, ndL] at HYL'
          have HYL := Lib.hid HYL'; clear HYL'
          have HV : Hid (∀ w1, Below wr.heap.size wr w1 → Calls Try.prog 34 #[.agg #[.int .i64 k2, .int .i64 h2, .slice A2 n2 c2'], .int .i64 (wrap64 (b + bd k n j)), u2] w1 fun e w' => ∃ u, e = .returned u ∧ Ns w' u (insF ys ((nds t (wrap64 (b + bd k n j))).flatMap fv1)) ∧ Below w1.heap.size w1 w') :=
            Lib.hid fun w1 hb1 => IH.out t (List.mem_of_getElem? ht) _ _ _ ys w1 (Rd.keep hb1 _ _ hr) (hys.keep hb1) hya (by have := HYL.out; omega) (by unfold wrap64; omega)
          have HBD := Lib.hid fun W => refBinds k h (some ⟨b', o, none⟩) n c hc HM.out j (by unfold maxLen; omega) W
          have HT := Lib.hid ht; clear ht
          have hwr : IntKind.i64.wrap (b + bd k n j) = wrap64 (b + bd k n j) := wrapEq _
          go_wp2_with fail
          have pb0 := Past.cell b0
          have pb1 := Past.cell b1
          have pb2 := Past.cell b2
          have p0 := Past.cell c0
          have p1 := Past.cell c1
          have p2 := Past.cell c2
          have hi0 : (0 : Int) ≤ j := by omega
          have hi1 : (j : Int) < n := by omega
          refine wp_region_class_tail (C := fun w' => ∃ z : Past wr, w' = z.wd) 11 (by kernel_rfl) (by kernel_rfl) ⟨⟨wr.drew, (Below.refl _ _).drew⟩, rfl⟩ ?_
          simp only [List.take_succ_cons, List.take_zero, List.drop_succ_cons, List.drop_zero]
          repeat (go_big_quiet_step ((go_at_call 26; exact calls_past (HBD.out _))))
          refine wpQuiet_nil ?_
          rintro _ ⟨z, rfl⟩
          clear pb0 pb1 pb2 p0 p1 p2 b0 b1 b2 c0 c1 c2
          obtain ⟨w1, hb1⟩ := z
          dsimp only
          go_wp2_with (go_at_call 34; refine (HV.out _ hb1).mono ?_; rintro e w2 ⟨u, rfl, hu, hb2⟩)
          have hb3 := hb1.trans (hb2.mono hb1.size)
          go_roundw
          case rel =>
            refine ⟨j + 1, _, by omega, by go_num, hu, insF_asc hya, Lib.hid ?_, HS, hbox.keep hb3 hbox.lt, hb.trans (hb3.mono hb.size)⟩
            have h1 := insF_len ((nds t (wrap64 (b + bd k n j))).flatMap fv1) ys
            have h2 := fv_flat_le (nds t (wrap64 (b + bd k n j)))
            rw [nds_len] at h2
            have := HYL.out
            omega
          case measure => simp [intOf]; omega
        · have HS' := HS.out
          rw [drop_all HN.out (by omega), ndsL] at HS'
          have HS := Lib.hid HS'; clear HS'
          go_wp2_with fail
          go_ret
          exact ⟨_, rfl, by rw [← HS.out]; exact hys, hb⟩
end Go.Proofs.Ytehdbjfalpjpeaa
