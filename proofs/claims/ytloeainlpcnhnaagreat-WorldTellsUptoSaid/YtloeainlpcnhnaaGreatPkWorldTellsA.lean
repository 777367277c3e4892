/-
  Texts of one proof, put together. No statement is proved here.
-/
import Derived.Test.YtloeainlpcnhnaaGreatPkDA
import Derived.Test.YtloeainlpcnhnaaGreatPkYA
import Derived.JoinedCond

/-
  The document's own Sig, Schema, Ctx and Conforms of layer 11. No statement is proved here.
-/
namespace Go.Proofs.YtloeainlpcnhnaaGreat
open Go.ChangeShapes Go.WideShapes Go.ChangeAt Go.RowKit
set_option linter.unusedVariables false

theorem szE_take {sg : List T} (h : ∀ t ∈ sg, nd t ≤ 1048576) (i : Nat) : SzE ⟨sg.take i, []⟩ [] := ⟨fun t ht => h t (List.mem_of_mem_take ht), (fun m hm => by cases hm), (fun t ht => by cases ht)⟩
theorem szE_sg {sg : List T} (h : ∀ t ∈ sg, nd t ≤ 1048576) : SzE ⟨sg, []⟩ [] := ⟨h, (fun m hm => by cases hm), (fun t ht => by cases ht)⟩
set_option maxRecDepth 100000 in
set_option maxHeartbeats 8000000 in
theorem eConformsC (sc cx : List T) (As : Option Addr) (ns cs : Nat) (Ac : Option Addr) (nc cc : Nat) (w : World) (hs : CLV w sc As ns cs) (hc : CLV w cx Ac nc cc) :
    Calls Tryz.prog 11 #[.slice As ns cs, .slice Ac nc cc] w fun e w' => e = .returned (.bool (cfV sc cx)) ∧ Below w.heap.size w w' := by
  have hscap := hs.cap
  have hsle := hs.le
  have hccap := hc.cap
  have hcle := hc.le
  unfold maxLen at hscap hccap
  have HX := Lib.hid hs; clear hs
  have HC := Lib.hid hc; clear hc
  obtain ⟨R, hR⟩ : ∃ R, cfV sc cx = R := ⟨_, rfl⟩
  have HR := Lib.hid hR
  rw [hR]
  clear hR
  go_enter Tryz.func11, Tryz.ntmps11
  go_wp2_with fail
  go_loopw [5] (fun i wr => ∃ (j : Nat), j ≤ nc ∧ i = .int .i64 j ∧ Hid (cfV sc (cx.drop j) = R) ∧ Hid (Below w.heap.size w wr)) (fun i _ => nc - (Go.RowKit.intOf i).toNat)
  case atStart => exact ⟨0, Nat.zero_le _, rfl, Lib.hid (by simpa using HR.out), Lib.hid (Below.refl _ _)⟩
  case round =>
    obtain ⟨j, hj, rfl, HS, HB⟩ := hrel
    by_cases hlt : j < nc
    · obtain ⟨x, ht⟩ := at_of HC.out.len hlt
      have hi0 : (0 : Int) ≤ j := by omega
      have hi1 : (j : Int) < nc := by omega
      have dj : decide ((j : Int) < (nc : Int)) = true := by simp; omega
      have hsj : IntKind.i64.wrap ((j : Int) + 1) = ((j + 1 : Nat) : Int) := by rw [wrapEq, wrap_small (by omega) (by omega)]; omega
      have HXJ := Lib.hid ht
      have HS' := HS.out
      rw [cfV, drop_at ht, List.all_cons] at HS'
      obtain ⟨Q, hQ⟩ : ∃ Q, (sc.any fun b => samB x b) = Q := ⟨_, rfl⟩
      rw [hQ] at HS'
      have HQ := Lib.hid hQ; clear hQ
      have HS2 := Lib.hid HS'; clear HS' ht HS
      go_wp2_with fail
      go_loopw [6, 7] (fun v i wr => ∃ (k : Nat) (r : Bool), k ≤ ns ∧ i = .int .i64 k ∧ v = .bool r ∧ Hid ((r || (sc.drop k).any fun b => samB x b) = Q) ∧ Hid (Below w.heap.size w wr)) (fun _ i _ => ns - (Go.RowKit.intOf i).toNat)
      case atStart => exact ⟨0, false, Nat.zero_le _, rfl, rfl, Lib.hid (by simpa using HQ.out), HB⟩
      case round =>
        clear HB
        obtain ⟨k, r, hk, rfl, rfl, HI, HB⟩ := hrel
        by_cases hlk : k < ns
        · obtain ⟨y, hy⟩ := at_of HX.out.len hlk
          obtain ⟨b1, o1, k1, h1, A1, n1, c1, rfl, p0, p1, p2, hry⟩ := ((HX.out.keep HB.out).at_ k y hy).full
          obtain ⟨b2, o2, k2, h2, A2, n2, c2, rfl, q0, q1, q2, hrx⟩ := ((HC.out.keep HB.out).at_ j x HXJ.out).full
          have hk0 : (0 : Int) ≤ k := by omega
          have hk1 : (k : Int) < ns := by omega
          have dk : decide ((k : Int) < (ns : Int)) = true := by simp; omega
          have hsk : IntKind.i64.wrap ((k : Int) + 1) = ((k + 1 : Nat) : Int) := by rw [wrapEq, wrap_small (by omega) (by omega)]; omega
          have HM := Lib.hid (fun (W' : World) (h' : Below wr.heap.size wr W') => refSame y x _ _ W' (Rd.keep h' _ _ hry) (Rd.keep h' _ _ hrx))
          have HI' := HI.out
          rw [drop_at hy, List.any_cons, ← sam_comm y x] at HI'
          obtain ⟨r2, hr2⟩ : ∃ r, samB y x = r := ⟨_, rfl⟩
          rw [hr2] at HI' HM
          have HI2 := Lib.hid HI'
          clear HI' HI hr2 hy hry hrx
          go_wp2_with fail
          have HKS : Hid (∀ w' : World, Below wr.heap.size wr w' → (fun w' => w'.cell? ⟨b1, o1 + k * 3, none⟩ = some (.int .i64 k1) ∧ w'.cell? ⟨b1, o1 + k * 3 + 1, none⟩ = some (.int .i64 h1) ∧ w'.cell? ⟨b1, o1 + k * 3 + 2, none⟩ = some (.slice A1 n1 c1) ∧ w'.cell? ⟨b2, o2 + j * 3, none⟩ = some (.int .i64 k2) ∧ w'.cell? ⟨b2, o2 + j * 3 + 1, none⟩ = some (.int .i64 h2) ∧ w'.cell? ⟨b2, o2 + j * 3 + 2, none⟩ = some (.slice A2 n2 c2)) w') := Lib.hid fun w' h => ⟨(h.cell (cell_lt p0)).trans p0, (h.cell (cell_lt p1)).trans p1, (h.cell (cell_lt p2)).trans p2, (h.cell (cell_lt q0)).trans q0, (h.cell (cell_lt q1)).trans q1, (h.cell (cell_lt q2)).trans q2⟩
          have hbd : Below wr.heap.size wr wr.drew := (Below.refl _ wr).drew
          refine wp_region_held_drew (S := fun w' => w'.cell? ⟨b1, o1 + k * 3, none⟩ = some (.int .i64 k1) ∧ w'.cell? ⟨b1, o1 + k * 3 + 1, none⟩ = some (.int .i64 h1) ∧ w'.cell? ⟨b1, o1 + k * 3 + 2, none⟩ = some (.slice A1 n1 c1) ∧ w'.cell? ⟨b2, o2 + j * 3, none⟩ = some (.int .i64 k2) ∧ w'.cell? ⟨b2, o2 + j * 3 + 1, none⟩ = some (.int .i64 h2) ∧ w'.cell? ⟨b2, o2 + j * 3 + 2, none⟩ = some (.slice A2 n2 c2)) (by kernel_rfl) (HKS.out _ hbd) (fun hS => ?_)
          simp only [List.size_toArray, List.length_cons, List.length_nil, Nat.reduceAdd]
          refine wpAnyH_take (i := 0) (v := .slice (some ⟨b1, o1, none⟩) ns cs) rfl (by kernel_rfl) (by kernel_rfl) (by kernel_rfl) (fun _ _ _ h => h) (Or.inl ⟨by kernel_rfl, ?_⟩) hS ?_
          · intro w' hSw
            obtain ⟨s0, s1, s2, s3, s4, s5⟩ := hSw
            go_simp
          try simp only [Act.put, List.getElem_toArray, List.getElem_cons_zero, List.setIfInBounds_toArray, List.set_cons_zero, List.set_cons_succ]
          refine wpAnyH_take (i := 1) (v := .int .i64 k) rfl (by kernel_rfl) (by kernel_rfl) (by kernel_rfl) (fun _ _ _ h => h) (Or.inl ⟨by kernel_rfl, ?_⟩) hS ?_
          · intro w' hSw
            obtain ⟨s0, s1, s2, s3, s4, s5⟩ := hSw
            go_simp
          try simp only [Act.put, List.getElem_toArray, List.getElem_cons_succ, List.getElem_cons_zero, List.setIfInBounds_toArray, List.set_cons_zero, List.set_cons_succ]
          refine wpAnyH_take (i := 2) (v := .pointer (some ⟨b1, o1 + k * 3, none⟩)) rfl (by kernel_rfl) (by kernel_rfl) (by kernel_rfl) (fun _ _ _ h => h) (Or.inl ⟨by kernel_rfl, ?_⟩) hS ?_
          · intro w' hSw
            obtain ⟨s0, s1, s2, s3, s4, s5⟩ := hSw
            go_simp
          try simp only [Act.put, List.getElem_toArray, List.getElem_cons_succ, List.getElem_cons_zero, List.setIfInBounds_toArray, List.set_cons_zero, List.set_cons_succ]
          refine wpAnyH_take (i := 3) (v := .agg #[.int .i64 k1, .int .i64 h1, .slice A1 n1 c1]) rfl (by kernel_rfl) (by kernel_rfl) (by kernel_rfl) (fun _ _ _ h => h) (Or.inl ⟨by kernel_rfl, ?_⟩) hS ?_
          · intro w' hSw
            obtain ⟨s0, s1, s2, s3, s4, s5⟩ := hSw
            go_simp
          try simp only [Act.put, List.getElem_toArray, List.getElem_cons_succ, List.getElem_cons_zero, List.setIfInBounds_toArray, List.set_cons_zero, List.set_cons_succ]
          refine wpAnyH_take (i := 4) (v := .slice (some ⟨b2, o2, none⟩) nc cc) rfl (by kernel_rfl) (by kernel_rfl) (by kernel_rfl) (fun _ _ _ h => h) (Or.inl ⟨by kernel_rfl, ?_⟩) hS ?_
          · intro w' hSw
            obtain ⟨s0, s1, s2, s3, s4, s5⟩ := hSw
            go_simp
          try simp only [Act.put, List.getElem_toArray, List.getElem_cons_succ, List.getElem_cons_zero, List.setIfInBounds_toArray, List.set_cons_zero, List.set_cons_succ]
          refine wpAnyH_take (i := 5) (v := .int .i64 j) rfl (by kernel_rfl) (by kernel_rfl) (by kernel_rfl) (fun _ _ _ h => h) (Or.inl ⟨by kernel_rfl, ?_⟩) hS ?_
          · intro w' hSw
            obtain ⟨s0, s1, s2, s3, s4, s5⟩ := hSw
            go_simp
          try simp only [Act.put, List.getElem_toArray, List.getElem_cons_succ, List.getElem_cons_zero, List.setIfInBounds_toArray, List.set_cons_zero, List.set_cons_succ]
          refine wpAnyH_take (i := 6) (v := .pointer (some ⟨b2, o2 + j * 3, none⟩)) rfl (by kernel_rfl) (by kernel_rfl) (by kernel_rfl) (fun _ _ _ h => h) (Or.inl ⟨by kernel_rfl, ?_⟩) hS ?_
          · intro w' hSw
            obtain ⟨s0, s1, s2, s3, s4, s5⟩ := hSw
            go_simp
          try simp only [Act.put, List.getElem_toArray, List.getElem_cons_succ, List.getElem_cons_zero, List.setIfInBounds_toArray, List.set_cons_zero, List.set_cons_succ]
          refine wpAnyH_take (i := 7) (v := .agg #[.int .i64 k2, .int .i64 h2, .slice A2 n2 c2]) rfl (by kernel_rfl) (by kernel_rfl) (by kernel_rfl) (fun _ _ _ h => h) (Or.inl ⟨by kernel_rfl, ?_⟩) hS ?_
          · intro w' hSw
            obtain ⟨s0, s1, s2, s3, s4, s5⟩ := hSw
            go_simp
          try simp only [Act.put, List.getElem_toArray, List.getElem_cons_succ, List.getElem_cons_zero, List.setIfInBounds_toArray, List.set_cons_zero, List.set_cons_succ]
          refine wpAnyH_ready (rs := [8]) (by kernel_rfl) (by simp) ?_
          refine AllReadyH.cons rfl (fun KN hK => ?_) AllReadyH.nil
          go_simp
          refine (HM.out _ hbd).mono ?_
          rintro e w1 ⟨rfl, hb6⟩
          replace hbd : Below wr.heap.size wr w1 := hbd.trans (hb6.mono hbd.size)
          clear hb6
          refine hK.out _ _ (HKS.out _ hbd) (fun hS => ?_)
          clear hK KN
          try simp only [Act.put, List.getElem_toArray, List.getElem_cons_succ, List.getElem_cons_zero, List.setIfInBounds_toArray, List.set_cons_zero, List.set_cons_succ]
          refine wpAnyH_take (i := 9) (v := .bool r2) rfl (by kernel_rfl) (by kernel_rfl) (by kernel_rfl) (fun _ _ _ h => h) (Or.inl ⟨by kernel_rfl, ?_⟩) hS ?_
          · intro w' hSw
            obtain ⟨s0, s1, s2, s3, s4, s5⟩ := hSw
            go_simp
          try simp only [Act.put, List.getElem_toArray, List.getElem_cons_succ, List.getElem_cons_zero, List.setIfInBounds_toArray, List.set_cons_zero, List.set_cons_succ]
          refine wpAnyH_done (by kernel_rfl) ?_ _
          try simp only [List.setIfInBounds_toArray]
          try simp only [List.getElem_toArray, List.getElem_cons_succ, List.getElem_cons_zero, List.setIfInBounds_toArray, List.set_cons_zero, List.set_cons_succ]
          have HB1 := Lib.hid (HB.out.trans (hbd.mono HB.out.size))
          clear hS HKS hbd HM p0 p1 p2 q0 q1 q2
          cases r
          · go_wp2_with fail
            go_roundw
            case measure => simp [Go.RowKit.intOf]; omega
            case rel => exact ⟨k + 1, r2, by omega, by go_num, rfl, Lib.hid (by have := HI2.out; simpa using this), HB1⟩
          · go_wp2_with fail
            go_roundw
            case measure => simp [Go.RowKit.intOf]; omega
            case rel => exact ⟨k + 1, true, by omega, by go_num, rfl, Lib.hid (by have := HI2.out; simpa using this), HB1⟩
        · obtain rfl : k = ns := by omega
          have dk : decide ((k : Int) < (k : Int)) = false := by simp
          have HI' := HI.out
          rw [drop_all HX.out.len (by omega), List.any_nil, Bool.or_false] at HI'
          subst HI'
          cases r
          · have HF := Lib.hid (show false = R by rw [← HS2.out]; rfl)
            go_wp2_with fail
            go_ret
            exact ⟨ret_bool HF.out, HB.out⟩
          · have HF := Lib.hid (show cfV sc (cx.drop (j + 1)) = R by rw [← HS2.out, Bool.true_and]; rfl)
            go_wp2_with fail
            go_roundw
            case measure => simp [Go.RowKit.intOf]; omega
            case rel => exact ⟨j + 1, by omega, by go_num, HF, HB⟩
    · obtain rfl : j = nc := by omega
      have dj : decide ((j : Int) < (j : Int)) = false := by simp
      have HF := Lib.hid (show true = R by rw [← HS.out, drop_all HC.out.len (by omega)]; rfl)
      go_wp2_with fail
      go_ret
      exact ⟨ret_bool HF.out, HB.out⟩
set_option maxRecDepth 100000 in
set_option maxHeartbeats 8000000 in
theorem eSigC (sg : List T) (A : Option Addr) (n c : Nat) (w : World) (hx : DL w sg A n c) (hl : LwV sg) (hz : ∀ t ∈ sg, nd t ≤ 1048576) :
    Calls Tryz.prog 10 #[.slice A n c] w (FiE (siV sg) w) := by
  have hcap := hx.cap
  have hle := hx.le
  have hln := hx.len
  unfold maxLen at hcap
  have HX := Lib.hid hx; clear hx
  have HL := Lib.hid hl; clear hl
  have HZ := Lib.hid hz; clear hz
  by_cases h40 : 40 < n
  · have hd : decide ((n : Int) > 40) = true := by simp; omega
    have HQ := Lib.hid (show siV sg = (0, 4) by rw [siV, firV, if_pos (by omega)])
    go_enter Tryz.func10, Tryz.ntmps10
    go_wp2_with fail
    refine bodyPost_ret (v := .tuple #[.int .i64 0, .int .i64 4]) (by simp [results, Tryz.results10, go_sem]) rfl ?_
    exact FiE.of0 HQ.out (Below.refl _ _)
  have hd : decide ((n : Int) > 40) = false := by simp; omega
  obtain ⟨Q, hQ⟩ : ∃ Q, fiV sgW [] sg = Q := ⟨_, rfl⟩
  have HR := Lib.hid (show siV sg = Q by rw [siV, firV, if_neg (by omega), hQ])
  have HQ0 := Lib.hid hQ; clear hQ
  go_enter Tryz.func10, Tryz.ntmps10
  go_wp2_with fail
  go_loopw [4] (fun i wr => ∃ (j : Nat), j ≤ n ∧ i = .int .i64 j ∧ Hid (fiV sgW (sg.take j) (sg.drop j) = Q) ∧ Hid (Below w.heap.size w wr)) (fun i _ => n - (Go.RowKit.intOf i).toNat)
  case atStart => exact ⟨0, Nat.zero_le _, rfl, Lib.hid (by simpa using HQ0.out), Lib.hid (Below.refl _ _)⟩
  case round =>
    obtain ⟨j, hj, rfl, HI, HB⟩ := hrel
    by_cases hlt : j < n
    · obtain ⟨x, ht⟩ := at_of HX.out.len hlt
      obtain ⟨b, o, st, k, g, A1, n1, c1, rfl, f0, f1, f2, f3, hre⟩ := ((HX.out.keep HB.out).at_ j x ht)
      have hi0 : (0 : Int) ≤ j := by omega
      have hi1 : (j : Int) < n := by omega
      have hj3 : (j : Int) ≤ (c : Int) := by omega
      have dj : decide ((j : Int) < (n : Int)) = true := by simp; omega
      have hsj : IntKind.i64.wrap ((j : Int) + 1) = ((j + 1 : Nat) : Int) := by rw [wrapEq, wrap_small (by omega) (by omega)]; omega
      have hnx := HZ.out x (List.mem_of_getElem? ht)
      have HM := Lib.hid (rkindC x _ wr hre hnx)
      have HCK : ∀ W', Below wr.heap.size wr W' → CkV W' ⟨sg.take j, []⟩ [] (some ⟨b, o, none⟩) j c none 0 0 none 0 0 := fun W' h' => ⟨DL.take ((HX.out.keep HB.out).keep h') (by omega), ml_nil _, clv_nil _ _ _ (Nat.zero_le _)⟩
      have HK0 := Lib.hid (fun (W' : World) (h' : Below wr.heap.size wr W') => eCheckKindC ⟨sg.take j, []⟩ [] x (some ⟨b, o, none⟩) j c none 0 0 none 0 0 _ W' (HCK W' h') (Rd.keep h' _ _ hre) (lo_sg (HL.out.take j)) (szE_take HZ.out j) hnx (HL.out.at_ ht))
      have HT0 := Lib.hid (fun (W' : World) (h' : Below wr.heap.size wr W') => eCheckTypeC ⟨sg.take j, []⟩ [] x (some ⟨b, o, none⟩) j c none 0 0 none 0 0 _ W' (HCK W' h') (Rd.keep h' _ _ hre) (lo_sg (HL.out.take j)) (szE_take HZ.out j) hnx (HL.out.at_ ht))
      have HW0 := Lib.hid (show sgW (sg.take j) x = if kiB x = true then ckKi ⟨sg.take j, []⟩ [] x else ckTy ⟨sg.take j, []⟩ [] x from rfl)
      have HXJ := Lib.hid ht
      clear ht hre hnx HCK
      generalize kiB x = r at *
      go_wp2_with fail
      refine HM.out.mono ?_
      rintro e w1 ⟨rfl, hb1⟩
      have HB1 := Lib.hid (HB.out.trans (hb1.mono HB.out.size))
      have HK1 := Lib.hid (fun (W' : World) (h' : Below w1.heap.size w1 W') => HK0.out W' (hb1.trans (h'.mono hb1.size)))
      have HT1 := Lib.hid (fun (W' : World) (h' : Below w1.heap.size w1 W') => HT0.out W' (hb1.trans (h'.mono hb1.size)))
      replace f1 := (hb1.cell (cell_lt f1)).trans f1
      replace f2 := (hb1.cell (cell_lt f2)).trans f2
      replace f3 := (hb1.cell (cell_lt f3)).trans f3
      clear hb1 HM HK0 HT0 f0 HB
      cases r
      · obtain ⟨R2, hR2⟩ : ∃ R, ckTy ⟨sg.take j, []⟩ [] x = R := ⟨_, rfl⟩
        have HW := Lib.hid (show sgW (sg.take j) x = R2 by rw [HW0.out, ← hR2]; rfl)
        rw [hR2] at HT1
        clear hR2 HW0
        go_wp2_with fail
        have HKS : Hid (∀ w' : World, Below w1.heap.size w1 w' → (fun w' => w'.cell? ⟨b, o + j * 4 + 1, none⟩ = some (.int .i64 k) ∧ w'.cell? ⟨b, o + j * 4 + 2, none⟩ = some (.int .i64 g) ∧ w'.cell? ⟨b, o + j * 4 + 3, none⟩ = some (.slice A1 n1 c1)) w') := Lib.hid fun w' h => ⟨(h.cell (cell_lt f1)).trans f1, (h.cell (cell_lt f2)).trans f2, (h.cell (cell_lt f3)).trans f3⟩
        have hbd : Below w1.heap.size w1 w1.drew := (Below.refl _ w1).drew
        refine wp_region_held_drew (S := fun w' => w'.cell? ⟨b, o + j * 4 + 1, none⟩ = some (.int .i64 k) ∧ w'.cell? ⟨b, o + j * 4 + 2, none⟩ = some (.int .i64 g) ∧ w'.cell? ⟨b, o + j * 4 + 3, none⟩ = some (.slice A1 n1 c1)) (by kernel_rfl) (HKS.out _ hbd) (fun hS => ?_)
        simp only [List.size_toArray, List.length_cons, List.length_nil, Nat.reduceAdd]
        refine wpAnyH_take (i := 0) (v := .slice (some ⟨b, o, none⟩) n c) rfl (by kernel_rfl) (by kernel_rfl) (by kernel_rfl) (fun _ _ _ h => h) (Or.inl ⟨by kernel_rfl, ?_⟩) hS ?_
        · intro w' hSw
          obtain ⟨s0, s1, s2⟩ := hSw
          go_simp
        try simp only [Act.put, List.getElem_toArray, List.getElem_cons_zero, List.setIfInBounds_toArray, List.set_cons_zero, List.set_cons_succ]
        refine wpAnyH_take (i := 1) (v := .int .i64 j) rfl (by kernel_rfl) (by kernel_rfl) (by kernel_rfl) (fun _ _ _ h => h) (Or.inl ⟨by kernel_rfl, ?_⟩) hS ?_
        · intro w' hSw
          obtain ⟨s0, s1, s2⟩ := hSw
          go_simp
        try simp only [Act.put, List.getElem_toArray, List.getElem_cons_succ, List.getElem_cons_zero, List.setIfInBounds_toArray, List.set_cons_zero, List.set_cons_succ]
        refine wpAnyH_take (i := 2) (v := .slice (some ⟨b, o, none⟩) j c) rfl (by kernel_rfl) (by kernel_rfl) (by kernel_rfl) (fun _ _ _ h => h) (Or.inl ⟨by kernel_rfl, ?_⟩) hS ?_
        · intro w' hSw
          obtain ⟨s0, s1, s2⟩ := hSw
          go_simp
        try simp only [Act.put, List.getElem_toArray, List.getElem_cons_succ, List.getElem_cons_zero, List.setIfInBounds_toArray, List.set_cons_zero, List.set_cons_succ]
        refine wpAnyH_take (i := 3) (v := .slice (some ⟨b, o, none⟩) n c) rfl (by kernel_rfl) (by kernel_rfl) (by kernel_rfl) (fun _ _ _ h => h) (Or.inl ⟨by kernel_rfl, ?_⟩) hS ?_
        · intro w' hSw
          obtain ⟨s0, s1, s2⟩ := hSw
          go_simp
        try simp only [Act.put, List.getElem_toArray, List.getElem_cons_succ, List.getElem_cons_zero, List.setIfInBounds_toArray, List.set_cons_zero, List.set_cons_succ]
        refine wpAnyH_take (i := 4) (v := .int .i64 j) rfl (by kernel_rfl) (by kernel_rfl) (by kernel_rfl) (fun _ _ _ h => h) (Or.inl ⟨by kernel_rfl, ?_⟩) hS ?_
        · intro w' hSw
          obtain ⟨s0, s1, s2⟩ := hSw
          go_simp
        try simp only [Act.put, List.getElem_toArray, List.getElem_cons_succ, List.getElem_cons_zero, List.setIfInBounds_toArray, List.set_cons_zero, List.set_cons_succ]
        refine wpAnyH_take (i := 5) (v := .pointer (some ⟨b, o + j * 4, none⟩)) rfl (by kernel_rfl) (by kernel_rfl) (by kernel_rfl) (fun _ _ _ h => h) (Or.inl ⟨by kernel_rfl, ?_⟩) hS ?_
        · intro w' hSw
          obtain ⟨s0, s1, s2⟩ := hSw
          go_simp
        try simp only [Act.put, List.getElem_toArray, List.getElem_cons_succ, List.getElem_cons_zero, List.setIfInBounds_toArray, List.set_cons_zero, List.set_cons_succ]
        refine wpAnyH_take (i := 6) (v := .pointer (some ⟨b, o + j * 4 + 1, none⟩)) rfl (by kernel_rfl) (by kernel_rfl) (by kernel_rfl) (fun _ _ _ h => h) (Or.inl ⟨by kernel_rfl, ?_⟩) hS ?_
        · intro w' hSw
          obtain ⟨s0, s1, s2⟩ := hSw
          go_simp
        try simp only [Act.put, List.getElem_toArray, List.getElem_cons_succ, List.getElem_cons_zero, List.setIfInBounds_toArray, List.set_cons_zero, List.set_cons_succ]
        refine wpAnyH_take (i := 7) (v := .agg #[.int .i64 k, .int .i64 g, .slice A1 n1 c1]) rfl (by kernel_rfl) (by kernel_rfl) (by kernel_rfl) (fun _ _ _ h => h) (Or.inl ⟨by kernel_rfl, ?_⟩) hS ?_
        · intro w' hSw
          obtain ⟨s0, s1, s2⟩ := hSw
          go_simp
        try simp only [Act.put, List.getElem_toArray, List.getElem_cons_succ, List.getElem_cons_zero, List.setIfInBounds_toArray, List.set_cons_zero, List.set_cons_succ]
        refine wpAnyH_ready (rs := [8]) (by kernel_rfl) (by simp) ?_
        refine AllReadyH.cons rfl (fun KN hK => ?_) AllReadyH.nil
        go_simp
        refine (HT1.out _ hbd).mono ?_
        rintro e w2 ⟨rfl, hb6⟩
        replace hbd : Below w1.heap.size w1 w2 := hbd.trans (hb6.mono hbd.size)
        clear hb6
        refine hK.out _ _ (HKS.out _ hbd) (fun hS => ?_)
        clear hK KN
        try simp only [Act.put, List.getElem_toArray, List.getElem_cons_succ, List.getElem_cons_zero, List.setIfInBounds_toArray, List.set_cons_zero, List.set_cons_succ]
        refine wpAnyH_take (i := 9) (v := .int .i64 R2) rfl (by kernel_rfl) (by kernel_rfl) (by kernel_rfl) (fun _ _ _ h => h) (Or.inl ⟨by kernel_rfl, ?_⟩) hS ?_
        · intro w' hSw
          obtain ⟨s0, s1, s2⟩ := hSw
          go_simp
        try simp only [Act.put, List.getElem_toArray, List.getElem_cons_succ, List.getElem_cons_zero, List.setIfInBounds_toArray, List.set_cons_zero, List.set_cons_succ]
        refine wpAnyH_done (by kernel_rfl) ?_ _
        try simp only [List.setIfInBounds_toArray]
        try simp only [List.getElem_toArray, List.getElem_cons_succ, List.getElem_cons_zero, List.setIfInBounds_toArray, List.set_cons_zero, List.set_cons_succ]
        have HB2 := Lib.hid (HB1.out.trans (hbd.mono HB1.out.size))
        clear hS HKS hbd f1 f2 f3 HK1 HT1 hj3
        by_cases hz : R2 = 0
        · subst hz
          have HF := Lib.hid (show fiV sgW (sg.take (j + 1)) (sg.drop (j + 1)) = Q by rw [← fi_go HXJ.out HW.out]; exact HI.out)
          go_wp2_with fail
          go_roundw
          case measure => simp [Go.RowKit.intOf]; omega
          case rel => exact ⟨j + 1, by omega, by go_num, HF, HB2⟩
        · have hd : (R2 != 0) = true := by simpa using hz
          have HF := Lib.hid (show Q = (j, R2) from HI.out.symm.trans (fi_e HXJ.out HW.out hz))
          go_wp2_with fail
          refine bodyPost_ret (v := .tuple #[.int .i64 (j : Int), .int .i64 R2]) (by simp [results, Tryz.results10, go_sem]) rfl ?_
          exact FiE.of (HR.out.trans HF.out) HB2.out
      · obtain ⟨R2, hR2⟩ : ∃ R, ckKi ⟨sg.take j, []⟩ [] x = R := ⟨_, rfl⟩
        have HW := Lib.hid (show sgW (sg.take j) x = R2 by rw [HW0.out, ← hR2]; rfl)
        rw [hR2] at HK1
        clear hR2 HW0
        go_wp2_with fail
        have HKS : Hid (∀ w' : World, Below w1.heap.size w1 w' → (fun w' => w'.cell? ⟨b, o + j * 4 + 1, none⟩ = some (.int .i64 k) ∧ w'.cell? ⟨b, o + j * 4 + 2, none⟩ = some (.int .i64 g) ∧ w'.cell? ⟨b, o + j * 4 + 3, none⟩ = some (.slice A1 n1 c1)) w') := Lib.hid fun w' h => ⟨(h.cell (cell_lt f1)).trans f1, (h.cell (cell_lt f2)).trans f2, (h.cell (cell_lt f3)).trans f3⟩
        have hbd : Below w1.heap.size w1 w1.drew := (Below.refl _ w1).drew
        refine wp_region_held_drew (S := fun w' => w'.cell? ⟨b, o + j * 4 + 1, none⟩ = some (.int .i64 k) ∧ w'.cell? ⟨b, o + j * 4 + 2, none⟩ = some (.int .i64 g) ∧ w'.cell? ⟨b, o + j * 4 + 3, none⟩ = some (.slice A1 n1 c1)) (by kernel_rfl) (HKS.out _ hbd) (fun hS => ?_)
        simp only [List.size_toArray, List.length_cons, List.length_nil, Nat.reduceAdd]
        refine wpAnyH_take (i := 0) (v := .slice (some ⟨b, o, none⟩) n c) rfl (by kernel_rfl) (by kernel_rfl) (by kernel_rfl) (fun _ _ _ h => h) (Or.inl ⟨by kernel_rfl, ?_⟩) hS ?_
        · intro w' hSw
          obtain ⟨s0, s1, s2⟩ := hSw
          go_simp
        try simp only [Act.put, List.getElem_toArray, List.getElem_cons_zero, List.setIfInBounds_toArray, List.set_cons_zero, List.set_cons_succ]
        refine wpAnyH_take (i := 1) (v := .int .i64 j) rfl (by kernel_rfl) (by kernel_rfl) (by kernel_rfl) (fun _ _ _ h => h) (Or.inl ⟨by kernel_rfl, ?_⟩) hS ?_
        · intro w' hSw
          obtain ⟨s0, s1, s2⟩ := hSw
          go_simp
        try simp only [Act.put, List.getElem_toArray, List.getElem_cons_succ, List.getElem_cons_zero, List.setIfInBounds_toArray, List.set_cons_zero, List.set_cons_succ]
        refine wpAnyH_take (i := 2) (v := .slice (some ⟨b, o, none⟩) j c) rfl (by kernel_rfl) (by kernel_rfl) (by kernel_rfl) (fun _ _ _ h => h) (Or.inl ⟨by kernel_rfl, ?_⟩) hS ?_
        · intro w' hSw
          obtain ⟨s0, s1, s2⟩ := hSw
          go_simp
        try simp only [Act.put, List.getElem_toArray, List.getElem_cons_succ, List.getElem_cons_zero, List.setIfInBounds_toArray, List.set_cons_zero, List.set_cons_succ]
        refine wpAnyH_take (i := 3) (v := .slice (some ⟨b, o, none⟩) n c) rfl (by kernel_rfl) (by kernel_rfl) (by kernel_rfl) (fun _ _ _ h => h) (Or.inl ⟨by kernel_rfl, ?_⟩) hS ?_
        · intro w' hSw
          obtain ⟨s0, s1, s2⟩ := hSw
          go_simp
        try simp only [Act.put, List.getElem_toArray, List.getElem_cons_succ, List.getElem_cons_zero, List.setIfInBounds_toArray, List.set_cons_zero, List.set_cons_succ]
        refine wpAnyH_take (i := 4) (v := .int .i64 j) rfl (by kernel_rfl) (by kernel_rfl) (by kernel_rfl) (fun _ _ _ h => h) (Or.inl ⟨by kernel_rfl, ?_⟩) hS ?_
        · intro w' hSw
          obtain ⟨s0, s1, s2⟩ := hSw
          go_simp
        try simp only [Act.put, List.getElem_toArray, List.getElem_cons_succ, List.getElem_cons_zero, List.setIfInBounds_toArray, List.set_cons_zero, List.set_cons_succ]
        refine wpAnyH_take (i := 5) (v := .pointer (some ⟨b, o + j * 4, none⟩)) rfl (by kernel_rfl) (by kernel_rfl) (by kernel_rfl) (fun _ _ _ h => h) (Or.inl ⟨by kernel_rfl, ?_⟩) hS ?_
        · intro w' hSw
          obtain ⟨s0, s1, s2⟩ := hSw
          go_simp
        try simp only [Act.put, List.getElem_toArray, List.getElem_cons_succ, List.getElem_cons_zero, List.setIfInBounds_toArray, List.set_cons_zero, List.set_cons_succ]
        refine wpAnyH_take (i := 6) (v := .pointer (some ⟨b, o + j * 4 + 1, none⟩)) rfl (by kernel_rfl) (by kernel_rfl) (by kernel_rfl) (fun _ _ _ h => h) (Or.inl ⟨by kernel_rfl, ?_⟩) hS ?_
        · intro w' hSw
          obtain ⟨s0, s1, s2⟩ := hSw
          go_simp
        try simp only [Act.put, List.getElem_toArray, List.getElem_cons_succ, List.getElem_cons_zero, List.setIfInBounds_toArray, List.set_cons_zero, List.set_cons_succ]
        refine wpAnyH_take (i := 7) (v := .agg #[.int .i64 k, .int .i64 g, .slice A1 n1 c1]) rfl (by kernel_rfl) (by kernel_rfl) (by kernel_rfl) (fun _ _ _ h => h) (Or.inl ⟨by kernel_rfl, ?_⟩) hS ?_
        · intro w' hSw
          obtain ⟨s0, s1, s2⟩ := hSw
          go_simp
        try simp only [Act.put, List.getElem_toArray, List.getElem_cons_succ, List.getElem_cons_zero, List.setIfInBounds_toArray, List.set_cons_zero, List.set_cons_succ]
        refine wpAnyH_ready (rs := [8]) (by kernel_rfl) (by simp) ?_
        refine AllReadyH.cons rfl (fun KN hK => ?_) AllReadyH.nil
        go_simp
        refine (HK1.out _ hbd).mono ?_
        rintro e w2 ⟨rfl, hb6⟩
        replace hbd : Below w1.heap.size w1 w2 := hbd.trans (hb6.mono hbd.size)
        clear hb6
        refine hK.out _ _ (HKS.out _ hbd) (fun hS => ?_)
        clear hK KN
        try simp only [Act.put, List.getElem_toArray, List.getElem_cons_succ, List.getElem_cons_zero, List.setIfInBounds_toArray, List.set_cons_zero, List.set_cons_succ]
        refine wpAnyH_take (i := 9) (v := .int .i64 R2) rfl (by kernel_rfl) (by kernel_rfl) (by kernel_rfl) (fun _ _ _ h => h) (Or.inl ⟨by kernel_rfl, ?_⟩) hS ?_
        · intro w' hSw
          obtain ⟨s0, s1, s2⟩ := hSw
          go_simp
        try simp only [Act.put, List.getElem_toArray, List.getElem_cons_succ, List.getElem_cons_zero, List.setIfInBounds_toArray, List.set_cons_zero, List.set_cons_succ]
        refine wpAnyH_done (by kernel_rfl) ?_ _
        try simp only [List.setIfInBounds_toArray]
        try simp only [List.getElem_toArray, List.getElem_cons_succ, List.getElem_cons_zero, List.setIfInBounds_toArray, List.set_cons_zero, List.set_cons_succ]
        have HB2 := Lib.hid (HB1.out.trans (hbd.mono HB1.out.size))
        clear hS HKS hbd f1 f2 f3 HK1 HT1 hj3
        by_cases hz : R2 = 0
        · subst hz
          have HF := Lib.hid (show fiV sgW (sg.take (j + 1)) (sg.drop (j + 1)) = Q by rw [← fi_go HXJ.out HW.out]; exact HI.out)
          go_wp2_with fail
          go_roundw
          case measure => simp [Go.RowKit.intOf]; omega
          case rel => exact ⟨j + 1, by omega, by go_num, HF, HB2⟩
        · have hd : (R2 != 0) = true := by simpa using hz
          have HF := Lib.hid (show Q = (j, R2) from HI.out.symm.trans (fi_e HXJ.out HW.out hz))
          go_wp2_with fail
          refine bodyPost_ret (v := .tuple #[.int .i64 (j : Int), .int .i64 R2]) (by simp [results, Tryz.results10, go_sem]) rfl ?_
          exact FiE.of (HR.out.trans HF.out) HB2.out
    · obtain rfl : j = n := by omega
      have dj : decide ((j : Int) < (j : Int)) = false := by simp
      have HF := Lib.hid (show Q = (0, 0) by rw [← HI.out, drop_all HX.out.len (by omega), fiV])
      go_wp2_with fail
      refine bodyPost_ret (v := .tuple #[.int .i64 0, .int .i64 0]) (by simp [results, Tryz.results10, go_sem]) rfl ?_
      exact FiE.of0 (HR.out.trans HF.out) HB.out
set_option maxRecDepth 100000 in
set_option maxHeartbeats 8000000 in
theorem eSchemaC (sg sc : List T) (As : Option Addr) (ns cs : Nat) (A : Option Addr) (n c : Nat) (w : World) (hs : DL w sg As ns cs) (hx : CLV w sc A n c) (hl : LwV sg) (hls : LwV sc) (hz : ∀ t ∈ sg, nd t ≤ 1048576) (hzs : ∀ t ∈ sc, nd t ≤ 1048576) :
    Calls Tryz.prog 15 #[.slice As ns cs, .slice A n c] w fun e w' => e = .returned (.int .i64 (schV sg sc)) ∧ Below w.heap.size w w' := by
  have hcap := hx.cap
  have hle := hx.le
  have hln := hx.len
  unfold maxLen at hcap
  have HX := Lib.hid hx; clear hx
  have HSG := Lib.hid hs; clear hs
  have HL := Lib.hid hl; clear hl
  have HLS := Lib.hid hls; clear hls
  have HZ := Lib.hid hz; clear hz
  have HZS := Lib.hid hzs; clear hzs
  by_cases h40 : 40 < n
  · have hd : decide ((n : Int) > 40) = true := by simp; omega
    have HQ := Lib.hid (show 4 = schV sg sc by rw [schV, firV, if_pos (by omega)])
    go_enter Tryz.func15, Tryz.ntmps15
    go_wp2_with fail
    go_ret
    exact ⟨ret_int HQ.out, Below.refl _ _⟩
  have hd : decide ((n : Int) > 40) = false := by simp; omega
  obtain ⟨Q, hQ⟩ : ∃ Q, fiV (scW sg) [] sc = Q := ⟨_, rfl⟩
  have HR := Lib.hid (show schV sg sc = Q.2 by rw [schV, firV, if_neg (by omega), hQ])
  have HQ0 := Lib.hid hQ; clear hQ
  go_enter Tryz.func15, Tryz.ntmps15
  go_wp2_with fail
  go_loopw [5] (fun i wr => ∃ (j : Nat), j ≤ n ∧ i = .int .i64 j ∧ Hid (fiV (scW sg) (sc.take j) (sc.drop j) = Q) ∧ Hid (Below w.heap.size w wr)) (fun i _ => n - (Go.RowKit.intOf i).toNat)
  case atStart => exact ⟨0, Nat.zero_le _, rfl, Lib.hid (by simpa using HQ0.out), Lib.hid (Below.refl _ _)⟩
  case round =>
    obtain ⟨j, hj, rfl, HI, HB⟩ := hrel
    by_cases hlt : j < n
    · obtain ⟨x, ht⟩ := at_of HX.out.len hlt
      obtain ⟨b, o, k, g, A1, n1, c1, rfl, f0, f1, f2, hre⟩ := ((HX.out.keep HB.out).at_ j x ht).full
      have hi0 : (0 : Int) ≤ j := by omega
      have hi1 : (j : Int) < n := by omega
      have dj : decide ((j : Int) < (n : Int)) = true := by simp; omega
      have hsj : IntKind.i64.wrap ((j : Int) + 1) = ((j + 1 : Nat) : Int) := by rw [wrapEq, wrap_small (by omega) (by omega)]; omega
      have hnx := HZS.out x (List.mem_of_getElem? ht)
      have hkd := (rdF_kind hre).1
      have HT0 := Lib.hid (eCheckTypeC ⟨sg, []⟩ [] x As ns cs none 0 0 none 0 0 _ wr ⟨HSG.out.keep HB.out, ml_nil _, clv_nil _ _ _ (Nat.zero_le _)⟩ hre (lo_sg HL.out) (szE_sg HZ.out) hnx (HLS.out.at_ ht))
      have HW0 := Lib.hid (show scW sg (sc.take j) x = if kdQ x = 2 then ckTy ⟨sg, []⟩ [] x else 1 from rfl)
      rw [hkd] at HW0
      obtain ⟨R2, hR2⟩ : ∃ R, ckTy ⟨sg, []⟩ [] x = R := ⟨_, rfl⟩
      rw [hR2] at HT0 HW0
      have HXJ := Lib.hid ht
      clear ht hre hnx hkd hR2
      by_cases hk : k = 2
      case' neg =>
        have d1 : (k != 2) = true := by simpa using hk
        have HF := Lib.hid (show 1 = schV sg sc by rw [HR.out, ← HI.out, fi_e HXJ.out (HW0.out.trans (if_neg hk)) (by decide)])
        go_wp2_with fail
        go_ret
        exact ⟨ret_int HF.out, HB.out⟩
      subst hk
      have HW := Lib.hid (HW0.out.trans (if_pos rfl))
      clear HW0
      go_wp2_with fail
      refine HT0.out.mono ?_
      rintro e w1 ⟨rfl, hb1⟩
      have HB1 := Lib.hid (HB.out.trans (hb1.mono HB.out.size))
      clear hb1 HT0 f0 f1 f2 HB
      by_cases hz : R2 = 0
      · subst hz
        have HF := Lib.hid (show fiV (scW sg) (sc.take (j + 1)) (sc.drop (j + 1)) = Q by rw [← fi_go HXJ.out HW.out]; exact HI.out)
        go_wp2_with fail
        go_roundw
        case measure => simp [Go.RowKit.intOf]; omega
        case rel => exact ⟨j + 1, by omega, by go_num, HF, HB1⟩
      · have hd2 : (R2 != 0) = true := by simpa using hz
        have HF := Lib.hid (show R2 = schV sg sc by rw [HR.out, ← HI.out, fi_e HXJ.out HW.out hz])
        go_wp2_with fail
        go_ret
        exact ⟨ret_int HF.out, HB1.out⟩
    · obtain rfl : j = n := by omega
      have dj : decide ((j : Int) < (j : Int)) = false := by simp
      have HF := Lib.hid (show 0 = schV sg sc by rw [HR.out, ← HI.out, drop_all HX.out.len (by omega), fiV])
      go_wp2_with fail
      go_ret
      exact ⟨ret_int HF.out, HB.out⟩
set_option maxRecDepth 100000 in
set_option maxHeartbeats 8000000 in
theorem eCtxC (W0 : WV) (ar cx : List T) (As : Option Addr) (ns cs : Nat) (Am : Option Addr) (nm cm : Nat) (Aa : Option Addr) (na ca : Nat) (A : Option Addr) (n c : Nat) (w : World) (hk : CkV w W0 ar As ns cs Am nm cm Aa na ca) (hx : CLV w cx A n c) (hl : LoV W0 (ar ++ cx)) (hz : SzE W0 (ar ++ cx)) (hna : na ≤ 90000) :
    Calls Tryz.prog 13 #[.slice As ns cs, .slice Am nm cm, .slice Aa na ca, .slice A n c] w fun e w' => e = .returned (.int .i64 (ctV W0 ar cx)) ∧ Below w.heap.size w w' := by
  have hcap := hx.cap
  have hle := hx.le
  have hln := hx.len
  unfold maxLen at hcap
  have HX := Lib.hid hx; clear hx
  have HK := Lib.hid hk; clear hk
  have HL := Lib.hid hl; clear hl
  have HZ := Lib.hid hz; clear hz
  by_cases h40 : 40 < n
  · have hd : decide ((n : Int) > 40) = true := by simp; omega
    have HQ := Lib.hid (show 4 = ctV W0 ar cx by rw [ctV, firV, if_pos (by omega)])
    go_enter Tryz.func13, Tryz.ntmps13
    go_wp2_with fail
    go_ret
    exact ⟨ret_int HQ.out, Below.refl _ _⟩
  have hd : decide ((n : Int) > 40) = false := by simp; omega
  obtain ⟨Q, hQ⟩ : ∃ Q, fiV (cxW W0 ar) [] cx = Q := ⟨_, rfl⟩
  have HR := Lib.hid (show ctV W0 ar cx = Q.2 by rw [ctV, firV, if_neg (by omega), hQ])
  have HQ0 := Lib.hid hQ; clear hQ
  obtain ⟨A5, c5, w55, cs55, hrun5, hrow5, hb55⟩ := rowT_new HK.out.cx (by omega) (Below.refl w.heap.size w)
  have HROW5 := Lib.hid hrow5
  have HB55 := Lib.hid hb55
  clear hrow5 hb55
  go_enter Tryz.func13, Tryz.ntmps13
  go_wp2_with (at_builtin; first | (refine Lib.wpList_append_run _ rfl _ _ _ _ rfl _ _ rfl rfl _ _ hrun5 ?_; clear hrun5))
  go_loopw [9, 10] (fun v i wr => ∃ (j : Nat) (Av : Option Addr) (cv : Nat) (csv : List Value), j ≤ n ∧ i = .int .i64 j ∧ v = .slice Av (na + j) cv ∧ Hid (RowTv w wr Av (na + j) cv (ar ++ cx.take j) csv) ∧ Hid (fiV (cxW W0 ar) (cx.take j) (cx.drop j) = Q) ∧ Hid (Below w.heap.size w wr)) (fun _ i _ => n - (Go.RowKit.intOf i).toNat)
  case atStart => exact ⟨0, A5, c5, cs55, Nat.zero_le _, rfl, rfl, Lib.hid (by simpa using HROW5.out), Lib.hid (by simpa using HQ0.out), HB55⟩
  case round =>
    clear HROW5 HB55
    obtain ⟨j, Av, cv, csv, hj, rfl, rfl, HROW, HI, HB⟩ := hrel
    by_cases hlt : j < n
    · obtain ⟨x, ht⟩ := at_of HX.out.len hlt
      obtain ⟨b, o, k, g, A1, n1, c1, rfl, f0, f1, f2, hre⟩ := ((HX.out.keep HB.out).at_ j x ht).full
      obtain ⟨_, _, k', g', A1', n1', c1', e', f0', f1', f2', hre0⟩ := (HX.out.at_ j x ht).full
      cases e'
      have q0 : Value.int .i64 k = .int .i64 k' := Option.some.inj (f0.symm.trans ((HB.out.cell (cell_lt f0')).trans f0'))
      have q1 : Value.int .i64 g = .int .i64 g' := Option.some.inj (f1.symm.trans ((HB.out.cell (cell_lt f1')).trans f1'))
      have q2 : Value.slice A1 n1 c1 = .slice A1' n1' c1' := Option.some.inj (f2.symm.trans ((HB.out.cell (cell_lt f2')).trans f2'))
      cases q0; cases q1; cases q2
      have hi0 : (0 : Int) ≤ j := by omega
      have hi1 : (j : Int) < n := by omega
      have dj : decide ((j : Int) < (n : Int)) = true := by simp; omega
      have hsj : IntKind.i64.wrap ((j : Int) + 1) = ((j + 1 : Nat) : Int) := by rw [wrapEq, wrap_small (by omega) (by omega)]; omega
      have hmem : x ∈ ar ++ cx := List.mem_append_right _ (List.mem_of_getElem? ht)
      have hsub : ∀ t ∈ ar ++ cx.take j, t ∈ ar ++ cx := fun t h => by
        rcases List.mem_append.1 h with h | h
        · exact List.mem_append_left _ h
        · exact List.mem_append_right _ (List.mem_of_mem_take h)
      have hkr := HK.out.keep HB.out
      have HT0 := Lib.hid (eCheckTypeC W0 (ar ++ cx.take j) x As ns cs Am nm cm Av (na + j) cv _ wr ⟨hkr.sg, hkr.ms, HROW.out.lst HB.out⟩ hre (lo_take HL.out j) ⟨HZ.out.sg, HZ.out.ms, fun t h => HZ.out.cx t (hsub t h)⟩ (HZ.out.cx x hmem) (HL.out.cx x hmem))
      obtain ⟨R2, hR2⟩ : ∃ R, ckTy W0 (ar ++ cx.take j) x = R := ⟨_, rfl⟩
      have HW := Lib.hid (show cxW W0 ar (cx.take j) x = R2 from hR2)
      rw [hR2] at HT0
      have HXJ := Lib.hid ht
      have HRE0 := Lib.hid hre0
      clear ht hre hre0 hR2 hmem hsub hkr f0' f1' f2'
      go_wp2_with fail
      refine HT0.out.mono ?_
      rintro e w1 ⟨rfl, hb1⟩
      have HB1 := Lib.hid (HB.out.trans (hb1.mono HB.out.size))
      have HROW1 := Lib.hid (HROW.out.kept hb1)
      replace f0 := (hb1.cell (cell_lt f0)).trans f0
      replace f1 := (hb1.cell (cell_lt f1)).trans f1
      replace f2 := (hb1.cell (cell_lt f2)).trans f2
      clear hb1 HT0 HB HROW
      by_cases hz : R2 = 0
      · subst hz
        have HF := Lib.hid (show fiV (cxW W0 ar) (cx.take (j + 1)) (cx.drop (j + 1)) = Q by rw [← fi_go HXJ.out HW.out]; exact HI.out)
        obtain ⟨w2, hw2⟩ : ∃ w2, w1.alloc (.cells #[.int .i64 k, .int .i64 g, .slice A1 n1 c1] 44) = w2 := ⟨_, rfl⟩
        have hb2 : Below w1.heap.size w1 w2 := by rw [← hw2]; exact (Below.refl _ _).alloc (Nat.le_refl _) _
        have z2 : Box w2 w1.heap.size 44 #[.int .i64 k, .int .i64 g, .slice A1 n1 c1] := by rw [← hw2]; exact Box.new _ _ _
        have hbw2 := HB1.out.trans (hb2.mono HB1.out.size)
        obtain ⟨q3, c3, w3, cs3, hrun3, hrow3, hb3, _, _⟩ := rowT_one (HROW1.out.kept hb2) z2 HRE0.out (by omega) hbw2
        have HROW3 := Lib.hid hrow3
        have HB3 := Lib.hid hb3
        clear hrow3 hb3 hb2 z2 hbw2
        subst hw2
        go_wp2_with (at_builtin; first | (refine Lib.wpList_append_run _ rfl _ _ _ _ rfl _ _ rfl rfl _ _ hrun3 ?_; clear hrun3))
        go_roundw
        case measure => simp [Go.RowKit.intOf]; omega
        case rel =>
          refine ⟨j + 1, some ⟨q3, 0, none⟩, c3, cs3, by omega, by go_num, by rw [Nat.add_assoc], ?_, HF, HB3⟩
          rw [take_snoc HXJ.out, ← List.append_assoc, ← Nat.add_assoc]
          exact HROW3
      · have hd2 : (R2 != 0) = true := by simpa using hz
        have HF := Lib.hid (show R2 = ctV W0 ar cx by rw [HR.out, ← HI.out, fi_e HXJ.out HW.out hz])
        go_wp2_with fail
        go_ret
        exact ⟨ret_int HF.out, HB1.out⟩
    · obtain rfl : j = n := by omega
      have dj : decide ((j : Int) < (j : Int)) = false := by simp
      have HF := Lib.hid (show 0 = ctV W0 ar cx by rw [HR.out, ← HI.out, drop_all HX.out.len (by omega), fiV])
      go_wp2_with fail
      go_ret
      exact ⟨ret_int HF.out, HB.out⟩
end Go.Proofs.YtloeainlpcnhnaaGreat

/-
  The walk of the law WorldTells.
-/
namespace Go.Proofs.YtloeainlpcnhnaaGreat
open Go.ChangeShapes Go.WideShapes Go.ChangeAt Go.RowKit
set_option linter.unusedVariables false

theorem eSigD (sg : List T) (A : Option Addr) (n c : Nat) (w : World) (hx : DL w sg A n c) (hl : LwV sg) (hz : ∀ t ∈ sg, nd t ≤ 1048576) {i e : Int} (hi : ((siV sg).1 : Int) = i) (he : (siV sg).2 = e) :
    Calls Tryz.prog 10 #[.slice A n c] w (SiE i e w) := by
  subst hi; subst he
  exact eSigC sg A n c w hx hl hz
set_option maxRecDepth 100000 in
set_option maxHeartbeats 16000000 in
theorem worldTellsC (W : WV) (ar cx sc : List T) (As : Option Addr) (ns cs : Nat) (Am : Option Addr) (nm cm : Nat) (A1 : Option Addr) (n1 c1 : Nat) (Ac : Option Addr) (nc cc : Nat) (A2 : Option Addr) (n2 c2 : Nat) (w : World) (hs : DL w W.sg As ns cs) (hm : ML w W.ms Am nm cm) (ha : CLV w ar A1 n1 c1) (hx : CLV w cx Ac nc cc) (hc : CLV w sc A2 n2 c2)
    (hz : SzE W cx) (hza : ∀ t ∈ ar, nd t ≤ 1048576) (hzs : ∀ t ∈ sc, nd t ≤ 1048576) :
    Calls Tryz.prog 3 #[.slice As ns cs, .slice Am nm cm, .slice A1 n1 c1, .slice Ac nc cc, .slice A2 n2 c2] w fun e w' => e = .returned (.bool true) ∧ Below w.heap.size w w' := by
  have hal := ha.len
  have hcl := hx.len
  have HSG := Lib.hid hs; clear hs
  have HMS := Lib.hid hm; clear hm
  have HAR := Lib.hid ha; clear ha
  have HX := Lib.hid hx; clear hx
  have HSC := Lib.hid hc; clear hc
  have HZ := Lib.hid hz; clear hz
  have HZA := Lib.hid hza; clear hza
  have HZS := Lib.hid hzs; clear hzs
  have HB := Lib.hid (Below.refl w.heap.size w)
  obtain ⟨rf, hrf⟩ : ∃ r, fwV W cx ns nm = r := ⟨_, rfl⟩
  have HRF := Lib.hid hrf; clear hrf
  obtain ⟨ra, hra⟩ : ∃ r, lsB ar 500 80 = r := ⟨_, rfl⟩
  have HRA := Lib.hid hra; clear hra
  obtain ⟨rs, hrs⟩ : ∃ r, lsB sc 500 80 = r := ⟨_, rfl⟩
  have HRS := Lib.hid hrs; clear hrs
  obtain ⟨rc, hrc⟩ : ∃ r, cfV sc cx = r := ⟨_, rfl⟩
  have HRC := Lib.hid hrc; clear hrc
  go_enter Tryz.func3, Tryz.ntmps3
  go_wp2_with fail
  have HC := Lib.hid (yAwakeC w)
  refine HC.out.mono ?_
  rintro e w1 ⟨rfl, hb1⟩
  replace HB := Lib.hid (HB.out.trans (hb1.mono HB.out.size))
  clear hb1 HC
  go_wp2_with fail
  have HC := Lib.hid (vFewC W cx As Am Ac ns cs nm cm nc cc w1 ⟨HSG.out.keep HB.out, HMS.out.keep HB.out, HX.out.keep HB.out⟩)
  rw [HRF.out] at HC
  refine HC.out.mono ?_
  rintro e w2 ⟨rfl, hb1⟩
  replace HB := Lib.hid (HB.out.trans (hb1.mono HB.out.size))
  clear hb1 HC
  go_wp2_with fail
  have HC := Lib.hid (lightsC ar A1 n1 c1 500 80 w2 HAR.out.len HAR.out.le HAR.out.cap (HAR.out.keep HB.out).at_)
  rw [HRA.out] at HC
  refine HC.out.mono ?_
  rintro e w3 ⟨rfl, hb1⟩
  replace HB := Lib.hid (HB.out.trans (hb1.mono HB.out.size))
  clear hb1 HC
  go_wp2_with fail
  have HC := Lib.hid (lightsC sc A2 n2 c2 500 80 w3 HSC.out.len HSC.out.le HSC.out.cap (HSC.out.keep HB.out).at_)
  rw [HRS.out] at HC
  refine HC.out.mono ?_
  rintro e w4 ⟨rfl, hb1⟩
  replace HB := Lib.hid (HB.out.trans (hb1.mono HB.out.size))
  clear hb1 HC
  cases rf
  · go_wp2_with fail
    go_ret
    exact ⟨rfl, HB.out⟩
  cases ra
  · go_wp2_with fail
    go_ret
    exact ⟨rfl, HB.out⟩
  cases rs
  · go_wp2_with fail
    go_ret
    exact ⟨rfl, HB.out⟩
  have HLO := Lib.hid (loV_of HRF.out)
  have hla : ar.length ≤ 60 ∧ LwV ar := ⟨(by have := HRA.out; rw [lsB, Bool.and_eq_true, decide_eq_true_eq] at this; exact this.1), fun t ht hm => lo_lt ((List.all_eq_true.1 (by have := HRA.out; rw [lsB, Bool.and_eq_true] at this; exact this.2)) t ht) hm⟩
  have hls : LwV sc := fun t ht hm => lo_lt ((List.all_eq_true.1 (by have := HRS.out; rw [lsB, Bool.and_eq_true] at this; exact this.2)) t ht) hm
  have HLA := Lib.hid hla.2
  have HLS := Lib.hid hls
  have hna := hla.1
  clear hla hls
  have hnc := (few_len HRF.out).2.2
  have HLC := Lib.hid (show LoV W (ar ++ cx) from ⟨HLO.out.sg, HLO.out.ms, fun t ht => by
    rcases List.mem_append.1 ht with ht | ht
    · exact HLA.out t ht
    · exact HLO.out.cx t ht⟩)
  have HZC := Lib.hid (show SzE W (ar ++ cx) from ⟨HZ.out.sg, HZ.out.ms, fun t ht => by
    rcases List.mem_append.1 ht with ht | ht
    · exact HZA.out t ht
    · exact HZ.out.cx t ht⟩)
  obtain ⟨i1, hi1⟩ : ∃ i, ((siV W.sg).1 : Int) = i := ⟨_, rfl⟩
  obtain ⟨e1, he1⟩ : ∃ e, (siV W.sg).2 = e := ⟨_, rfl⟩
  have HI1 := Lib.hid hi1
  have HE1 := Lib.hid he1
  clear hi1 he1
  obtain ⟨R3, hR3⟩ : ∃ e, ctV W ar cx = e := ⟨_, rfl⟩
  have HR3 := Lib.hid hR3; clear hR3
  obtain ⟨R4, hR4⟩ : ∃ e, schV W.sg sc = e := ⟨_, rfl⟩
  have HR4 := Lib.hid hR4; clear hR4
  go_wp2_with fail
  have HC := Lib.hid (ySigD W.sg As ns cs w4 (HSG.out.keep HB.out) HLO.out.sg HI1.out HE1.out)
  refine HC.out.mono ?_
  rintro e w5 ⟨rfl, hb1⟩
  replace HB := Lib.hid (HB.out.trans (hb1.mono HB.out.size))
  clear hb1 HC
  go_wp2_with fail
  have HC := Lib.hid (eSigD W.sg As ns cs w5 (HSG.out.keep HB.out) HLO.out.sg HZ.out.sg HI1.out HE1.out)
  refine HC.out.mono ?_
  rintro e w6 ⟨rfl, hb1⟩
  replace HB := Lib.hid (HB.out.trans (hb1.mono HB.out.size))
  clear hb1 HC
  go_wp2_with fail
  have HC := Lib.hid (eConformsC sc cx A2 n2 c2 Ac nc cc w6 (HSC.out.keep HB.out) (HX.out.keep HB.out))
  rw [HRC.out] at HC
  refine HC.out.mono ?_
  rintro e w7 ⟨rfl, hb1⟩
  replace HB := Lib.hid (HB.out.trans (hb1.mono HB.out.size))
  clear hb1 HC
  go_wp2_with fail
  have HC := Lib.hid (yCtxC W ar cx As ns cs Am nm cm A1 n1 c1 Ac nc cc w7 ⟨HSG.out.keep HB.out, HMS.out.keep HB.out, HAR.out.keep HB.out⟩ (HX.out.keep HB.out) HLC.out (by omega))
  rw [HR3.out] at HC
  refine HC.out.mono ?_
  rintro e w8 ⟨rfl, hb1⟩
  replace HB := Lib.hid (HB.out.trans (hb1.mono HB.out.size))
  clear hb1 HC
  go_wp2_with fail
  have HC := Lib.hid (eCtxC W ar cx As ns cs Am nm cm A1 n1 c1 Ac nc cc w8 ⟨HSG.out.keep HB.out, HMS.out.keep HB.out, HAR.out.keep HB.out⟩ (HX.out.keep HB.out) HLC.out HZC.out (by omega))
  rw [HR3.out] at HC
  refine HC.out.mono ?_
  rintro e w9 ⟨rfl, hb1⟩
  replace HB := Lib.hid (HB.out.trans (hb1.mono HB.out.size))
  clear hb1 HC
  go_wp2_with fail
  have HC := Lib.hid (ySchemaC W.sg sc As ns cs A2 n2 c2 w9 (HSG.out.keep HB.out) (HSC.out.keep HB.out) HLO.out.sg HLS.out)
  rw [HR4.out] at HC
  refine HC.out.mono ?_
  rintro e w10 ⟨rfl, hb1⟩
  replace HB := Lib.hid (HB.out.trans (hb1.mono HB.out.size))
  clear hb1 HC
  go_wp2_with fail
  have HC := Lib.hid (eSchemaC W.sg sc As ns cs A2 n2 c2 w10 (HSG.out.keep HB.out) (HSC.out.keep HB.out) HLO.out.sg HLS.out HZ.out.sg HZS.out)
  rw [HR4.out] at HC
  refine HC.out.mono ?_
  rintro e w11 ⟨rfl, hb1⟩
  replace HB := Lib.hid (HB.out.trans (hb1.mono HB.out.size))
  clear hb1 HC
  go_wp2_with fail
  have HC := Lib.hid (yConformsC sc cx A2 Ac n2 c2 nc cc w11 (HSC.out.keep HB.out) (HX.out.keep HB.out))
  rw [HRC.out] at HC
  refine HC.out.mono ?_
  rintro e w12 ⟨rfl, hb1⟩
  replace HB := Lib.hid (HB.out.trans (hb1.mono HB.out.size))
  clear hb1 HC
  go_wp2_with fail
  go_ret
  exact ⟨by simp, HB.out⟩
end Go.Proofs.YtloeainlpcnhnaaGreat

/-
  The law WorldTells: what is wrong with any signature, context and schema is what the document says. Proved where the bulk of what it reads is bounded.
-/
namespace Go.Proofs.YtloeainlpcnhnaaGreat.worldTells
open Go.ChangeShapes Go.WideShapes Go.ChangeAt Go.RowKit
set_option linter.unusedVariables false

/-- a word -/
def isWord (w : List Char) : Bool := w.all fun c => !(c == Char.ofNat 32)
theorem words_word : ∀ (w r : List Char), isWord w = true → wordsSigns (w ++ Char.ofNat 32 :: r) = w :: wordsSigns r
  | [], r, _ => rfl
  | c :: w, r, h => by
    rw [isWord, List.all_cons, Bool.and_eq_true] at h
    have ih := words_word w r h.2
    have hc : c ≠ Char.ofNat 32 := by simpa using h.1
    rw [List.cons_append]
    conv => lhs; unfold wordsSigns
    split
    · rename_i e; cases e
    · rename_i e
      injection e with e1 e2
      exact absurd e1 hc
    · rename_i c' r' _ e
      injection e with e1 e2
      subst e1; subst e2
      rw [ih]
theorem toList_of {s : String} {l : List Char} (h : s = String.ofList l) : s.toList = l := by rw [h]; exact String.toList_ofList
def sign0 : List Char := ([104,97,114,110,101,115,115] : List Nat).map Char.ofNat
def sign1 : List Char := ([49,99,98,100,57,99,99,56,98,49,55,101,54,97,56,102,101,101,99,52,101,55,56,97,51,50,48,101,52,101,52,51,102,98,50,99,49,56,101,102,54,55,50,97,50,49,98,50,49,56,98,51,53,56,101,97,56,98,56,48,54,98,101,101] : List Nat).map Char.ofNat
def sign2 : List Char := ([99,117,116] : List Nat).map Char.ofNat
def signs : List Char := ([97,116,32,97,109,97,110,117,101,110,115,105,115,47,97,109,97,110,117,101,110,115,105,115,108,97,119,49,49,46,87,111,114,108,100,84,101,108,108,115,32,97,109,97,110,117,101,110,115,105,115,47,97,109,97,110,117,101,110,115,105,115,108,97,119,49,50,46,77,101,116,97,115,84,101,108,108,32,97,109,97,110,117,101,110,115,105,115,47,97,109,97,110,117,101,110,115,105,115,108,97,119,49,50,46,77,101,116,97,115,67,111,117,110,116] : List Nat).map Char.ofNat
set_option maxRecDepth 100000 in
theorem headLine : Tryz.prog.initOrder.toList = sign0 ++ Char.ofNat 32 :: (sign1 ++ Char.ofNat 32 :: (sign2 ++ Char.ofNat 32 :: signs)) := toList_of (by kernel_rfl)
theorem headWords : ∃ R, behindMainWord (wordsSigns Tryz.prog.initOrder.toList) = "cut".toList :: R := by
  refine ⟨wordsSigns signs, ?_⟩
  rw [headLine, words_word _ _ (by kernel_rfl), words_word _ _ (by kernel_rfl), words_word _ _ (by kernel_rfl)]
  generalize wordsSigns signs = R
  kernel_rfl
theorem strip_cut (R : List (List Char)) : stripLifts liftWords ("cut".toList :: R) = ([], "cut".toList :: R) := by kernel_rfl
theorem lifts_gen {P : Program} {R : List (List Char)} (h : behindMainWord (wordsSigns P.initOrder.toList) = "cut".toList :: R) : P.headLifts = [] := by
  unfold Program.headLifts
  rw [h, strip_cut]
  kernel_rfl
theorem make_gen {P : Program} {R : List (List Char)} (h : behindMainWord (wordsSigns P.initOrder.toList) = "cut".toList :: R) : P.make = some Make.cut := by
  unfold Program.make
  rw [h]
  kernel_rfl
theorem final_gen {P : Program} {R : List (List Char)} (h : behindMainWord (wordsSigns P.initOrder.toList) = "cut".toList :: R) : P.liftsFinal = false := by
  unfold Program.liftsFinal
  rw [lifts_gen h, h]
  kernel_rfl
theorem enter_gen {P : Program} {R : List (List Char)} (h : behindMainWord (wordsSigns P.initOrder.toList) = "cut".toList :: R) (h2 : P.laysLater = false) (h3 : P.bearsReflect = false) (h4 : P.doorFits [] = true) : P.mayEnter = true := by
  unfold Program.mayEnter
  rw [h]
  dsimp only
  rw [strip_cut, h2, h3]
  dsimp only
  rw [h4]
  kernel_rfl
theorem isLays : Tryz.prog.laysLater = false := by kernel_rfl
theorem isBears : Tryz.prog.bearsReflect = false := by kernel_rfl
theorem isDoor : Tryz.prog.doorFits [] = true := by kernel_rfl
theorem isMake : Tryz.prog.make = some Make.cut := by
  obtain ⟨R, h⟩ := headWords
  exact make_gen h
theorem isFinal : Tryz.prog.liftsFinal = false := by
  obtain ⟨R, h⟩ := headWords
  exact final_gen h
theorem isEnter : Tryz.prog.mayEnter = true := by
  obtain ⟨R, h⟩ := headWords
  exact enter_gen h isLays isBears isDoor

theorem own : ownKnob Tryz.prog.godebug = none := by kernel_rfl
theorem laidOut : laidOutB Tryz.prog = true := by kernel_rfl

set_option maxRecDepth 100000 in
theorem contract (H : Type) (enc : TypeId × Value → H) (W : World) (base : Nat) (args : Array Value) (ds gs : List (DataW H)) (before : List MemPlace)
    (hval : ∀ (j : Nat) t v, Tryz.f3.params[j]? = some t → args[j]? = some v → Value.okWide Tryz.prog W .any base t v)
    (hW : DataW.Whole enc Tryz.prog Tryz.f3.params.toList Rows.worldTellsSpec.vars false W args.toList ds gs before) (hk : Rows.uptoSmall H (ds ++ gs) = true) :
    Calls Tryz.prog 3 args W fun e W' => ∃ v, e = .returned v ∧ Rows.worldTellsSpec.post enc Tryz.prog Tryz.f3 false true false false W args v W' := by
  have hW' := hW
  obtain ⟨p, q, hA0, hV, rfl, hfz, hnd⟩ := hW
  have hA : DataW.TrodAll enc Tryz.prog W 0 (fun _ => true) true Tryz.f3.params.toList args.toList ds p := hA0
  rw [Tryz.params3] at hA hval
  obtain ⟨v0, v1, v2, v3, v4, d0, d1, d2, d3, d4, p0, p1, p2, p3, p4, rfl, rfl, rfl, h0, h1, h2, h3, h4⟩ := trodAll_five hA
  obtain ⟨rfl, rfl⟩ := trodVars_none hV
  obtain ⟨t0, A0, n0, c0, rfl, r0, b0⟩ := open_decls (hval 0 22 v0 rfl rfl) h0
  obtain ⟨t1, A1, n1, c1, rfl, r1, b1⟩ := open_metas (hval 1 23 v1 rfl rfl) h1
  obtain ⟨t2, A2, n2, c2, rfl, r2, b2⟩ := open_clv (hval 2 24 v2 rfl rfl) h2
  obtain ⟨t3, A3, n3, c3, rfl, r3, b3⟩ := open_clv (hval 3 24 v3 rfl rfl) h3
  obtain ⟨t4, A4, n4, c4, rfl, r4, b4⟩ := open_clv (hval 4 24 v4 rfl rfl) h4
  have hk' : Rows.uptoBulkAll ([d0, d1, d2, d3, d4] ++ []) ≤ 1048576 := of_decide_eq_true hk
  simp only [List.append_nil, Rows.uptoBulkAll] at hk'
  have s0 : ∀ x ∈ t0, nd x ≤ 1048576 := fun x hx => by have := b0 x hx; omega
  have s1 : ∀ x ∈ t1, (∀ z ∈ x.1, nd z ≤ 1048576) ∧ nd x.2 ≤ 1048576 := fun x hx => ⟨fun z hz => by have := (b1 x hx).1 z hz; omega, by have := (b1 x hx).2; omega⟩
  have s2 : ∀ x ∈ t2, nd x ≤ 1048576 := fun x hx => by have := b2 x hx; omega
  have s3 : ∀ x ∈ t3, nd x ≤ 1048576 := fun x hx => by have := b3 x hx; omega
  have s4 : ∀ x ∈ t4, nd x ≤ 1048576 := fun x hx => by have := b4 x hx; omega
  clear hA0 hk
  simp only [List.append_nil] at hW'
  have lt0 : ∀ x ∈ p0, x.block < W.heap.size := fun x hx => by simpa using hW'.lt x (by simp [hx])
  have lt1 : ∀ x ∈ p1, x.block < W.heap.size := fun x hx => by simpa using hW'.lt x (by simp [hx])
  have lt2 : ∀ x ∈ p2, x.block < W.heap.size := fun x hx => by simpa using hW'.lt x (by simp [hx])
  have lt3 : ∀ x ∈ p3, x.block < W.heap.size := fun x hx => by simpa using hW'.lt x (by simp [hx])
  have lt4 : ∀ x ∈ p4, x.block < W.heap.size := fun x hx => by simpa using hW'.lt x (by simp [hx])
  refine (worldTellsC ⟨t0, t1⟩ t2 t3 t4 A0 n0 c0 A1 n1 c1 A2 n2 c2 A3 n3 c3 A4 n4 c4 _ r0 r1 r2 r3 r4 ⟨s0, s1, s3⟩ s2 s4).mono fun e W' ⟨he, hb⟩ => ?_
  subst he
  exact ⟨_, rfl, _, _, _, [], _, [], hW', trodAll_cons_mk (shut_bool Tryz.underlying4 _) trodAll_mk0,
    trodAll_mk5 (Below.trod laidOut (by kernel_rfl) (of_decide_eq_true (by kernel_rfl)) h0 hb lt0) (Below.trod laidOut (by kernel_rfl) (of_decide_eq_true (by kernel_rfl)) h1 hb lt1) (Below.trod laidOut (by kernel_rfl) (of_decide_eq_true (by kernel_rfl)) h2 hb lt2) (Below.trod laidOut (by kernel_rfl) (of_decide_eq_true (by kernel_rfl)) h3 hb lt3) (Below.trod laidOut (by kernel_rfl) (of_decide_eq_true (by kernel_rfl)) h4 hb lt4), rfl, hb.frame _, fun h => by cases h⟩

set_option maxRecDepth 100000 in
theorem lifted (os : Os) (started : os.Started) (H : Type) (enc : TypeId × Value → H) (F : Stop.Interp) :
    ReturnsInHanded {} Tryz.checked os 3 .any ((Rows.OpenSpec.upto Rows.worldTellsSpec).pre6 enc Tryz.prog Tryz.f3 Rows.worldTellsUptoRow.domain false) (((Rows.OpenSpec.upto Rows.worldTellsSpec).at F).post enc Tryz.prog Tryz.f3 false true false false) := by
  refine returnsInHanded_of_cond (C := Tryz.checked) (s := Rows.OpenSpec.upto Rows.worldTellsSpec) (k := Rows.uptoSmall) rfl own started (by kernel_rfl) Tryz.func3
    (OpenSpec.witness (enc := enc) (C := Tryz.checked) (s := Rows.OpenSpec.upto Rows.worldTellsSpec) (k := Rows.uptoSmall) rfl false ⟨#[], #[.slice none 0 0, .slice none 0 0, .slice none 0 0, .slice none 0 0, .slice none 0 0], []⟩ 8 (by kernel_rfl) (by kernel_rfl) (by kernel_rfl)
      (x := ([.nil, .nil, .nil, .nil, .nil], [], [])) (by kernel_rfl) rfl (by kernel_rfl)) ?_
  intro W base args ds gs before hval hW _ hk _
  exact contract H enc W base args ds gs before hval hW hk

theorem closed : joinedFacts Tryz.prog 3 Tryz.f3 (Rows.OpenSpec.upto Rows.worldTellsSpec).bare Rows.worldTellsUptoRow = true := by
  unfold joinedFacts
  rw [isEnter, isFinal, isMake]
  kernel_rfl

theorem over : Rows.worldTellsUptoRow.holds Tryz.pinned (Rows.OpenSpec.upto Rows.worldTellsSpec) :=
  OpenClaim.holds_of_cond 3 Tryz.f3 rfl rfl rfl rfl rfl rfl rfl ⟨rfl, rfl, rfl, rfl, rfl⟩ rfl rfl rfl rfl rfl (by kernel_rfl) Tryz.func3 closed
    (of_decide_eq_true (by kernel_rfl)) (by unfold Func.isWrapper; first | (rw [if_pos (by decide +kernel)]; kernel_rfl) | (rw [if_neg (by decide +kernel)]; exact ⟨rfl, rfl⟩))
    (fun os started H enc _ F => lifted os started H enc F)

theorem proved : Rows.WorldTellsUptoSaid :=
  over
#print axioms proved
end Go.Proofs.YtloeainlpcnhnaaGreat.worldTells
