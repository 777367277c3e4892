/-
  The document's own Metas of layer 5, and its Vars. No statement is proved here.
-/
import Derived.Test.YtehdbjfalpjpeaaOj
namespace Go.Proofs.Ytehdbjfalpjpeaa
open Go.ChangeShapes Go.WideShapes Go.ChangeAt Go.RowKit Go.Maps
set_option linter.unusedVariables false

mutual
theorem mt_any : ∀ (t : T) (b d : Int), (nds t b).flatMap mt1 = (nds t d).flatMap mt1
  | .node k h xs, b, d => by rw [mt_node, mt_node, mt_anyL k xs.length xs 0 b d]
theorem mt_anyL (k : Int) (n : Nat) : ∀ (xs : List T) (i : Nat) (b d : Int), (ndsL k n xs i b).flatMap mt1 = (ndsL k n xs i d).flatMap mt1
  | [], _, _, _ => by rw [ndsL, ndsL]
  | t :: ts, i, b, d => by rw [ndsL, ndsL, List.flatMap_append, List.flatMap_append, mt_any t _ (wrap64 (d + bd k n i)), mt_anyL k n ts (i + 1) b d]
end

set_option maxRecDepth 100000 in
set_option maxHeartbeats 4000000 in
theorem rfHeadsC (t : T) : ∀ (v vo : Value) (zs : List Int) (w : World), Rd w t v → Ns w vo zs → Asc zs → zs.length + nd t ≤ 4194304 →
    Calls Try.prog 35 #[v, vo] w fun e w' => ∃ u, e = .returned u ∧ Ns w' u (insF zs ((nds t 0).flatMap mt1)) ∧ Below w.heap.size w w' := by
  induction t using T.ind with
  | step k h xs ih =>
    intro v vo zs w hv hzs hasc hlen
    obtain ⟨A, n, c, rfl, hk, hh, hn, hc, hm, hx⟩ := Rd_node.1 hv
    clear hv
    have HM := Lib.hid hm
    unfold maxLen at hm
    have HN := Lib.hid hn; clear hn
    have HX := Lib.hid hx; clear hx
    have IH := Lib.hid ih; clear ih
    have HH := Lib.hid hh; clear hh
    have hwA : Below w.heap.size w (w.alloc (.cells #[.int .i64 k, .int .i64 h, .slice A n c] 24)) := (Below.refl _ _).alloc (Nat.le_refl _) _
    have x0 := Box.new w 24 #[.int .i64 k, .int .i64 h, .slice A n c]
    have hzA := hzs.keep hwA
    obtain ⟨zs1, hz1⟩ : ∃ zs1, zs1 = insF zs (if k = 6 then [h] else []) := ⟨_, rfl⟩
    have ha1 : Asc zs1 := by rw [hz1]; exact insF_asc hasc
    have hl1 : zs1.length + ndL xs ≤ 4194304 := by
      have h1 := insF_len (if k = 6 then [h] else []) zs
      rw [← hz1] at h1
      rw [nd] at hlen
      have h2 : (if k = 6 then [h] else []).length ≤ 1 := by split <;> simp
      omega
    have E : insF zs ((nds (.node k h xs) 0).flatMap mt1) = insF zs1 ((ndsL k n xs 0 0).flatMap mt1) := by rw [mt_node, insF_app, ← hz1, HN.out]
    have HL0 := Lib.hid hlen; clear hlen
    rw [E]
    have HA0 := Lib.hid hasc; clear hasc
    clear E hzs
    have HL1 := Lib.hid hl1; clear hl1
    have HA1 := Lib.hid ha1; clear ha1
    have HZA := Lib.hid hzA; clear hzA
    have HWA := Lib.hid hwA; clear hwA
    have X0 := Lib.hid x0; clear x0
    by_cases t1 : k = 6
    · subst t1
      have hz1 : zs1 = insF zs [h] := by rw [hz1, if_pos rfl]
      have HAD := Lib.hid (rfAddI zs h vo _ HZA.out HA0.out HH.out (by have := HL0.out; omega))
      rw [← hz1] at HAD
      clear hz1
      go_enter Try.func35, Try.ntmps35
      go_wp2_with (go_at_call 47; refine HAD.out.mono ?_; rintro e w1 ⟨vo1, rfl, hzB, hb1⟩; have x1 := X0.out.keep hb1 X0.out.lt; obtain ⟨q0, q1, q2⟩ := x1.three; have hwB := HWA.out.trans (hb1.mono HWA.out.size); clear hb1 HAD)
      clear q0 q1 q2
      go_loopw [1, 5] (fun o i wr => ∃ (j : Nat) (ys : List Int), j ≤ n ∧ i = .int .i64 j ∧ Ns wr o ys ∧ Asc ys ∧ Hid (ys.length + ndL (xs.drop j) ≤ 4194304) ∧ Hid (insF ys ((ndsL 6 n (xs.drop j) j 0).flatMap mt1) = insF zs1 ((ndsL 6 n xs 0 0).flatMap mt1)) ∧
          Box wr w.heap.size 24 #[.int .i64 6, .int .i64 h, .slice A n c] ∧ Below w.heap.size w wr) (fun _ i _ => n - (intOf i).toNat)
      case atStart => exact ⟨0, zs1, Nat.zero_le _, rfl, hzB, HA1.out, HL1, Lib.hid rfl, x1, hwB⟩
      case round =>
        clear hzB hwB x1
        obtain ⟨j, ys, hj, rfl, hys, hya, HYL, HS, hbox, hb⟩ := hrel
        obtain ⟨b0, b1, b2⟩ := hbox.three
        by_cases hlt : j < n
        · obtain ⟨t, ht⟩ := at_of HN.out hlt
          obtain ⟨b', o, k2, h2, A2, n2, c2', rfl, c0, c1, c2, hr⟩ := (RdAt.keep hb (HX.out j t ht)).full
          have HS' := HS.out
          rw [drop_at ht, ndsL, List.flatMap_append, insF_app, mt_any t _ 0] at HS'
          have HS := Lib.hid HS'; clear HS'
          have HYL' := HYL.out
          rw [drop_at ht, ndL] at HYL'
          have HYL := Lib.hid HYL'; clear HYL'
          have HV := Lib.hid (IH.out t (List.mem_of_getElem? ht) _ _ ys wr hr hys hya (by have := HYL.out; omega))
          have HT := Lib.hid ht; clear ht
          have hi0 : (0 : Int) ≤ j := by omega
          have hi1 : (j : Int) < n := by omega
          go_wp2_with (go_at_call 35; refine HV.out.mono ?_; rintro e w2 ⟨u, rfl, hu, hb2⟩)
          go_roundw
          case rel =>
            refine ⟨j + 1, _, by omega, by go_num, hu, insF_asc hya, Lib.hid ?_, HS, hbox.keep hb2 hbox.lt, hb.trans (hb2.mono hb.size)⟩
            have h1 := insF_len ((nds t 0).flatMap mt1) ys
            have h2 := mt_flat_le (nds t 0)
            rw [nds_len] at h2
            have := HYL.out
            omega
          case measure => simp [intOf]; omega
        · have HS' := HS.out
          rw [drop_all HN.out (by omega), ndsL] at HS'
          have HS := Lib.hid HS'; clear HS'
          go_wp2_with fail
          go_ret
          exact ⟨_, rfl, by rw [← HS.out]; exact hys, hb⟩
    · have e1 : (k == 6) = false := by simpa using t1
      have hz1 : zs1 = zs := by rw [hz1, if_neg t1]; rfl
      have HT2 := Lib.hid t1; clear t1
      rw [← hz1] at HZA
      clear hz1
      go_enter Try.func35, Try.ntmps35
      go_wp2_with fail
      have hzB := HZA.out
      have hwB := HWA.out
      have x1 := X0.out
      go_loopw [1, 5] (fun o i wr => ∃ (j : Nat) (ys : List Int), j ≤ n ∧ i = .int .i64 j ∧ Ns wr o ys ∧ Asc ys ∧ Hid (ys.length + ndL (xs.drop j) ≤ 4194304) ∧ Hid (insF ys ((ndsL k n (xs.drop j) j 0).flatMap mt1) = insF zs1 ((ndsL k n xs 0 0).flatMap mt1)) ∧
          Box wr w.heap.size 24 #[.int .i64 k, .int .i64 h, .slice A n c] ∧ Below w.heap.size w wr) (fun _ i _ => n - (intOf i).toNat)
      case atStart => exact ⟨0, zs1, Nat.zero_le _, rfl, hzB, HA1.out, HL1, Lib.hid rfl, x1, hwB⟩
      case round =>
        clear hzB hwB x1
        obtain ⟨j, ys, hj, rfl, hys, hya, HYL, HS, hbox, hb⟩ := hrel
        obtain ⟨b0, b1, b2⟩ := hbox.three
        by_cases hlt : j < n
        · obtain ⟨t, ht⟩ := at_of HN.out hlt
          obtain ⟨b', o, k2, h2, A2, n2, c2', rfl, c0, c1, c2, hr⟩ := (RdAt.keep hb (HX.out j t ht)).full
          have HS' := HS.out
          rw [drop_at ht, ndsL, List.flatMap_append, insF_app, mt_any t _ 0] at HS'
          have HS := Lib.hid HS'; clear HS'
          have HYL' := HYL.out
          rw [drop_at ht, ndL] at HYL'
          have HYL := Lib.hid HYL'; clear HYL'
          have HV := Lib.hid (IH.out t (List.mem_of_getElem? ht) _ _ ys wr hr hys hya (by have := HYL.out; omega))
          have HT := Lib.hid ht; clear ht
          have hi0 : (0 : Int) ≤ j := by omega
          have hi1 : (j : Int) < n := by omega
          go_wp2_with (go_at_call 35; refine HV.out.mono ?_; rintro e w2 ⟨u, rfl, hu, hb2⟩)
          go_roundw
          case rel =>
            refine ⟨j + 1, _, by omega, by go_num, hu, insF_asc hya, Lib.hid ?_, HS, hbox.keep hb2 hbox.lt, hb.trans (hb2.mono hb.size)⟩
            have h1 := insF_len ((nds t 0).flatMap mt1) ys
            have h2 := mt_flat_le (nds t 0)
            rw [nds_len] at h2
            have := HYL.out
            omega
          case measure => simp [intOf]; omega
        · have HS' := HS.out
          rw [drop_all HN.out (by omega), ndsL] at HS'
          have HS := Lib.hid HS'; clear HS'
          go_wp2_with fail
          go_ret
          exact ⟨_, rfl, by rw [← HS.out]; exact hys, hb⟩

set_option maxHeartbeats 1000000 in
theorem rfVars (t : T) (v : Value) (w : World) (hv : Rd w t v) (hs : nd t ≤ 1048576) :
    Calls Try.prog 14 #[v] w fun e w' => ∃ u, e = .returned u ∧ Ns w' u (rs ((nds t 0).flatMap fv1)) ∧ Below w.heap.size w w' := by
  obtain ⟨k, h, A, n, c, rfl⟩ := hv.full
  have hwA : Below w.heap.size w (w.alloc (.cells #[.int .i64 k, .int .i64 h, .slice A n c] 24)) := (Below.refl _ _).alloc (Nat.le_refl _) _
  have HR := Lib.hid (rfVarsC t 0 _ (.slice none 0 0) [] _ (Rd.keep hwA _ _ hv) (Ns.nil _) List.Pairwise.nil (by simp; omega) (by unfold wrap64; omega))
  clear hv
  go_enter Try.func14, Try.ntmps14
  go_wp2_with (go_at_call 34; refine HR.out.mono ?_; rintro e w1 ⟨u, rfl, hn1, hb1⟩)
  go_ret
  exact ⟨_, rfl, hn1, hwA.trans (hb1.mono hwA.size)⟩

set_option maxHeartbeats 1000000 in
theorem rfMetas (t : T) (v : Value) (w : World) (hv : Rd w t v) (hs : nd t ≤ 1048576) :
    Calls Try.prog 16 #[v] w fun e w' => ∃ u, e = .returned u ∧ Ns w' u (rs ((nds t 0).flatMap mt1)) ∧ Below w.heap.size w w' := by
  obtain ⟨k, h, A, n, c, rfl⟩ := hv.full
  have hwA : Below w.heap.size w (w.alloc (.cells #[.int .i64 k, .int .i64 h, .slice A n c] 24)) := (Below.refl _ _).alloc (Nat.le_refl _) _
  have HR := Lib.hid (rfHeadsC t _ (.slice none 0 0) [] _ (Rd.keep hwA _ _ hv) (Ns.nil _) List.Pairwise.nil (by simp; omega))
  clear hv
  go_enter Try.func16, Try.ntmps16
  go_wp2_with (go_at_call 35; refine HR.out.mono ?_; rintro e w1 ⟨u, rfl, hn1, hb1⟩)
  go_ret
  exact ⟨_, rfl, hn1, hwA.trans (hb1.mono hwA.size)⟩
end Go.Proofs.Ytehdbjfalpjpeaa
