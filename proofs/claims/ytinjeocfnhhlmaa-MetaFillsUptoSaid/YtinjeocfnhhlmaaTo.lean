/-
  Contract of the document's own Spine of layer 3. No statement is proved here.
-/
import Derived.Test.YtinjeocfnhhlmaaTn
namespace Go.Proofs.Ytinjeocfnhhlmaa
open Go.ChangeShapes Go.WideShapes Go.ChangeAt Go.RowKit
set_option linter.unusedVariables false

abbrev XB (w w2 : World) (b : Nat) : Prop := b = w2.heap.size ∨ b = w.heap.size + 1
set_option maxRecDepth 100000 in
set_option maxHeartbeats 4000000 in
theorem rSpineC {t : T} {L : List T} {A : Option Addr} {n c : Nat} {v : Value} {w : World} (hv : Rd w t v) (hn : L.length = n) (hc : n ≤ c) (hm : c ≤ maxLen) (hx : ∀ i t, L[i]? = some t → RdAt w A i t) (hnt : nd t ≤ 1099511627776) (hnL : ndL L ≤ 200000000) (hlo : myB t = true → LoT t) (hlL : ∀ x ∈ L, myB x = true → LoT x) :
    Calls Try.prog 54 #[v, .slice A n c] w (REn (spT t L) (spE t L) w) := by
  obtain ⟨k, h, At, nt, ct, rfl⟩ := hv.full
  have hm' := hm
  unfold maxLen at hm'
  obtain ⟨W, hW⟩ : ∃ W, (w.alloc (.cells #[.int .i64 k, .int .i64 h, .slice At nt ct] 24)).alloc (.cells #[.int .i64 0, .int .i64 0, .slice none 0 0] 24) = W := ⟨_, rfl⟩
  have hb : Below w.heap.size w W := by rw [← hW]; exact ((Below.refl _ _).alloc (Nat.le_refl _) _).alloc (by simp) _
  have x0 : Box W w.heap.size 24 #[.int .i64 k, .int .i64 h, .slice At nt ct] := by rw [← hW]; exact (Box.new _ _ _).alloc _
  have x2 : Box W (w.heap.size + 1) 24 #[.int .i64 0, .int .i64 0, .slice none 0 0] := by rw [← hW]; exact (Box.new (w.alloc _) _ _).at (by simp)
  have HW := Lib.hid hW; clear hW
  have HV := Lib.hid hv; clear hv
  have HN := Lib.hid hn; clear hn
  have HX := Lib.hid hx; clear hx
  have HNL := Lib.hid hnL; clear hnL
  have HLO := Lib.hid hlo; clear hlo
  have HLL := Lib.hid hlL; clear hlL
  have HMM := Lib.hid hm; clear hm
  go_enter Try.func54, Try.ntmps54
  go_wp2_with fail
  rw [HW.out]
  clear HW
  refine (refMay t _ _ (Rd.keep hb _ _ HV.out)).mono ?_
  rw [mayB_big hnt]
  rintro e w1 ⟨rfl, hb1⟩
  replace x0 := x0.keep hb1 x0.lt
  replace x2 := x2.keep hb1 x2.lt
  replace hb := hb.trans (hb1.mono hb.size)
  clear hb1
  cases hmt : myB t
  · have HR : Hid (spT t L = .node 0 0 [] ∧ spE t L = 1) := Lib.hid (by unfold spT spE; rw [hmt]; exact ⟨rfl, rfl⟩)
    clear hmt
    obtain ⟨r0, r1, r2⟩ := x2.three
    have f0 := x2.frozen 0
    have f1 := x2.frozen 1
    have f2 := x2.frozen 2
    have l2 := x2.lt
    go_wp2_with fail
    refine bodyPost_ret (v := .tuple #[.agg #[.int .i64 0, .int .i64 0, .slice none 0 0], .int .i64 1]) (by simp [results, Try.results54, go_sem, r0, r1, r2]) rfl ?_
    refine ⟨_, _, _, _, _, by rw [HR.out.2], ?_, below_set3 hb (by omega) _ _ _⟩
    rw [HR.out.1]
    exact rd_leaf (by decide) (by decide)
  have HMT := Lib.hid hmt; clear hmt
  go_wp2_with fail
  go_loopw [7] (fun i wr => ∃ (j : Nat), j ≤ n ∧ i = .int .i64 j ∧ Hid ((L.drop j).all myB = L.all myB) ∧ Box wr w.heap.size 24 #[.int .i64 k, .int .i64 h, .slice At nt ct] ∧ Box wr (w.heap.size + 1) 24 #[.int .i64 0, .int .i64 0, .slice none 0 0] ∧ Below w.heap.size w wr) (fun i _ => n - (intOf i).toNat)
  case atStart => exact ⟨0, Nat.zero_le _, rfl, Lib.hid (by simp), x0, x2, hb⟩
  case round =>
    clear x0 x2 hb
    obtain ⟨j, hj, rfl, HS, x0, x2, hb⟩ := hrel
    obtain ⟨r0, r1, r2⟩ := x2.three
    have l2 := x2.lt
    by_cases hlt : j < n
    · obtain ⟨u, ht⟩ := at_of HN.out hlt
      obtain ⟨b, o, k2, h2, A2, n2, c2', rfl, c0, c1, c2, hr⟩ := (RdAt.keep hb (HX.out j u ht)).full
      have HT := Lib.hid ht; clear ht
      have hi0 : (0 : Int) ≤ j := by omega
      have hi1 : (j : Int) < n := by omega
      clear r0 r1 r2
      go_wp2_with fail
      refine (refMay u _ _ hr).mono ?_
      rw [mayB_big (by have := nd_mem (List.mem_of_getElem? HT.out); have := HNL.out; omega)]
      have HS' := HS.out
      rw [drop_at HT.out, List.all_cons] at HS'
      have HS := Lib.hid HS'; clear HS'
      generalize myB u = q at *
      rintro e w3 ⟨rfl, hb1⟩
      clear c0 c1 c2
      replace x0 := x0.keep hb1 x0.lt
      replace x2 := x2.keep hb1 x2.lt
      replace hb := hb.trans (hb1.mono hb.size)
      clear hb1 l2
      cases q
      · have HR : Hid (spT t L = .node 0 0 [] ∧ spE t L = 1) := Lib.hid (by
          have h9 : L.all myB = false := by simpa using HS.out.symm
          unfold spT spE
          rw [HMT.out, h9]
          exact ⟨rfl, rfl⟩)
        obtain ⟨r0, r1, r2⟩ := x2.three
        have f0 := x2.frozen 0
        have f1 := x2.frozen 1
        have f2 := x2.frozen 2
        have l2 := x2.lt
        go_wp2_with fail
        refine bodyPost_ret (v := .tuple #[.agg #[.int .i64 0, .int .i64 0, .slice none 0 0], .int .i64 1]) (by simp [results, Try.results54, go_sem, r0, r1, r2]) rfl ?_
        refine ⟨_, _, _, _, _, by rw [HR.out.2], ?_, below_set3 hb (by omega) _ _ _⟩
        rw [HR.out.1]
        exact rd_leaf (by decide) (by decide)
      · go_wp2_with fail
        go_roundw
        case rel => exact ⟨j + 1, by omega, by go_num, Lib.hid (by simpa using HS.out), x0, x2, hb⟩
        case measure => simp [intOf]; omega
    · obtain ⟨w2, hw2⟩ : ∃ w2, w2 = wr := ⟨_, rfl⟩
      have hall : L.all myB = true := by
        have := HS.out
        rw [drop_all HN.out (by omega)] at this
        exact this.symm
      have HR : Hid (spT t L = anT (spR t L) ∧ spE t L = anE (spR t L)) := Lib.hid (by unfold spT spE; rw [HMT.out, hall]; exact ⟨rfl, rfl⟩)
      have p3 : ∀ x ∈ L, myB x = true := List.all_eq_true.1 hall
      have hway : Way (bt 0) t := way_of HMT.out (HLO.out HMT.out) (by rw [bt0]; omega)
      have hwl : WayL (bt 0) L := fun x hx => way_of (p3 x hx) (HLL.out x hx (p3 x hx)) (by rw [bt0]; omega)
      have hnt4 := ((myB_iff t).1 HMT.out).2.1
      have hnl := HNL.out
      have hgood := spL_good (B := 562949953421312) (A := fun a x m => ap fl [a] 0 0 x m) (fun a x m hm ha hoa hx => ap_good (B := 562949953421312) fl [a] 0 0 x m (Nat.zero_le _) hm
            ⟨fun t ht => by rw [List.mem_singleton.1 ht]; exact ha, fun t ht => by rw [List.mem_singleton.1 ht]; exact hoa, by omega, by omega⟩ (by rw [Int.sub_zero]; exact hx)) L t 0 (by omega) hway hwl
      have HG := Lib.hid (show ∀ t' m, spR t L = .ok (t', m) → nd t' ≤ 1099511627776 from fun t' m e => by have := hgood t' m e; omega); clear hgood
      have HWY := Lib.hid hway; clear hway
      have HWL := Lib.hid hwl; clear hwl p3 hall
      have szb := hb.size
      have hl2 : w.heap.size + 1 < wr.heap.size := l2
      have l0 := x0.lt
      have hbp : Below wr.heap.size wr (wr.alloc (.cells #[.int .i64 0, .int .i64 0] 105)) := (Below.refl _ _).alloc (Nat.le_refl _) _
      have hrt : RX (XB w wr) (wr.alloc (.cells #[.int .i64 0, .int .i64 0] 105)) t (.agg #[.int .i64 k, .int .i64 h, .slice At nt ct]) := RX.adv (rd_fx (fun b e => by rcases e with e | e <;> omega) t _ HV.out) (Adv.below (hb.trans (hbp.mono szb)))
      have hrL : RXL (XB w wr) (wr.alloc (.cells #[.int .i64 0, .int .i64 0] 105)) L A n c :=
        (rd_rowx (fun b e => by rcases e with e | e <;> omega) HN.out hc HMM.out HX.out).adv (Adv.below (hb.trans (hbp.mono szb)))
      have hwk : wk2 (wr.alloc (.cells #[.int .i64 0, .int .i64 0] 105)) wr.heap.size 0 0 := Box.new wr _ _
      have hA := qsC fl t L 0 (.agg #[.int .i64 k, .int .i64 h, .slice At nt ct]) A n c (wr.alloc (.cells #[.int .i64 0, .int .i64 0] 105)) wr.heap.size (XB w wr) (by rw [fl_eq]; omega) (by omega) HWY.out HWL.out (by omega) hnl (.inl rfl) (fun b e => by have := hwk.lt; rcases e with e | e <;> omega) hwk hrt hrL
      rw [show sp fl t L 0 = spR t L from rfl] at hA
      have HA := Lib.hid hA; clear hA hrt hrL hwk hw2
      obtain ⟨c0, c1, c2⟩ := x0.three
      clear r0 r1 r2
      go_wp2_with fail
      refine HA.out.mono ?_
      clear HA
      rintro e w5 ⟨k5, h5, A5, n5, c5, rfl, hfr, hcs⟩
      have hfr5 : Fr (fun b => b = wr.heap.size) wr w5 := (Fr.below (X := fun b => b = wr.heap.size) hbp).trans hfr fun i _ e => e
      have y2 := x2.fr hfr5 (by omega)
      have hq : QR wr.heap.size (XB w wr) w5 k5 h5 A5 n5 c5 (spR t L) := hcs
      have hbq : Below w5.heap.size w5 (w5.alloc (.cells #[.int .i64 k5, .int .i64 h5, .slice A5 n5 c5] 24)) := (Below.refl _ _).alloc (Nat.le_refl _) _
      have hq6 := hq.keep hbq
      have y6 := y2.keep hbq y2.lt
      have HFR5 := Lib.hid (hfr5.then hbq)
      clear hq hcs hfr hfr5 hbp c0 c1 c2 x0 x2 l2 y2
      go_wp2_with fail
      refine (rdoneC _ hq6 HG.out).mono ?_
      clear hq6
      rintro e w6 ⟨k6, h6, A6, n6, c6, rfl, hrd6, hfr6⟩
      have z2 := y6.fr hfr6 (by omega)
      have HFR6 := Lib.hid (HFR5.out.trans hfr6 fun i _ e => e)
      have HRD := Lib.hid hrd6; clear hrd6 hfr6 hbq y6
      obtain ⟨r0, r1, r2⟩ := z2.three
      have f0 := z2.frozen 0
      have f1 := z2.frozen 1
      have f2 := z2.frozen 2
      have l2 := z2.lt
      go_wp2_with fail
      refine bodyPost_ret (v := .tuple #[.agg #[.int .i64 k6, .int .i64 h6, .slice A6 n6 c6], .int .i64 (anE (spR t L))]) (by simp [results, Try.results54, go_sem, r0, r1, r2, l2]) rfl ?_
      refine ⟨_, _, _, _, _, by rw [HR.out.2], ?_, ?_⟩
      · rw [HR.out.1]
        exact RX.rd (RX.adv (RX.adv HRD.out (Adv.set3 (X := XB w wr) (a := w.heap.size + 1) (.inr rfl) _ _ _)) (Adv.below ((Below.refl _ _).alloc (Nat.le_refl _) _)))
      · exact (below_set3 (hb.trans (HFR6.out.to_below (B := w.heap.size) (fun i e => by omega) (by omega))) (a := w.heap.size + 1) (by omega) _ _ _).alloc (by simp [World.setCell]; have := HFR6.out.size; omega) _

/-! ### List -/
set_option maxRecDepth 100000 in
set_option maxHeartbeats 2000000 in
theorem rlistC (xs : List T) (A B : Option Addr) (n c d : Nat) (w : World) (hn : xs.length = n) (hc : n ≤ c) (hm : c ≤ maxLen) (hd : n ≤ d) (hx : ∀ i t, xs[i]? = some t → RdAt w A i t) (hy : ∀ i t, xs[i]? = some t → RdAt w B i t) :
    Calls Try.prog 43 #[.slice A n c, .slice B n d] w fun e w' => e = .returned (.bool true) ∧ Below w.heap.size w w' := by
  unfold maxLen at hm
  have HN := Lib.hid hn; clear hn
  have HX := Lib.hid hx; clear hx
  have HY := Lib.hid hy; clear hy
  go_enter Try.func43, Try.ntmps43
  go_wp2_with fail
  go_loopw [5] (fun i wr => ∃ (j : Nat), j ≤ n ∧ i = .int .i64 j ∧ Below w.heap.size w wr) (fun i _ => n - (intOf i).toNat)
  case atStart => exact ⟨0, Nat.zero_le _, rfl, Below.refl _ _⟩
  case round =>
    obtain ⟨j, hj, rfl, hb⟩ := hrel
    by_cases hlt : j < n
    · obtain ⟨t, ht⟩ := at_of HN.out hlt
      obtain ⟨b, o, k2, h2, A2, n2, c2', rfl, c0, c1, c2, hr⟩ := (RdAt.keep hb (HX.out j t ht)).full
      obtain ⟨b3, o3, k3, h3, A3, n3, c3', rfl, d0, d1, d2, hr3⟩ := (RdAt.keep hb (HY.out j t ht)).full
      have HR := Lib.hid (And.intro hr hr3); clear ht hr hr3
      have hi0 : (0 : Int) ≤ j := by omega
      have hi1 : (j : Int) < n := by omega
      have HCA : Hid (Calls Try.prog 27 #[.agg #[.int .i64 k2, .int .i64 h2, .slice A2 n2 c2'], .agg #[.int .i64 k3, .int .i64 h3, .slice A3 n3 c3']] wr.drew fun e w' => e = .returned (.bool true) ∧ Hid (Below wr.heap.size wr w')) := Lib.hid (by
        have := refSame t t _ _ wr.drew (Rd.keep (Below.refl _ wr).drew _ _ HR.out.1) (Rd.keep (Below.refl _ wr).drew _ _ HR.out.2)
        rw [sam_refl] at this
        exact this.mono fun e w' h => ⟨h.1, Lib.hid ((Below.refl _ wr).drew.trans h.2)⟩)
      have HK : Hid (∀ w', Below wr.heap.size wr w' → (w'.cell? ⟨b, o + j * 3, none⟩ = some (.int .i64 k2) ∧ w'.cell? ⟨b, o + j * 3 + 1, none⟩ = some (.int .i64 h2) ∧ w'.cell? ⟨b, o + j * 3 + 2, none⟩ = some (.slice A2 n2 c2') ∧ w'.cell? ⟨b3, o3 + j * 3, none⟩ = some (.int .i64 k3) ∧ w'.cell? ⟨b3, o3 + j * 3 + 1, none⟩ = some (.int .i64 h3) ∧ w'.cell? ⟨b3, o3 + j * 3 + 2, none⟩ = some (.slice A3 n3 c3'))) := Lib.hid fun w' h =>
        ⟨(h.cell (cell_lt c0)).trans c0, (h.cell (cell_lt c1)).trans c1, (h.cell (cell_lt c2)).trans c2, (h.cell (cell_lt d0)).trans d0, (h.cell (cell_lt d1)).trans d1, (h.cell (cell_lt d2)).trans d2⟩
      have hcur : Below wr.heap.size wr wr.drew := (Below.refl _ _).drew
      go_wp2_with fail
      go_region_held3 (fun w' => w'.cell? ⟨b, o + j * 3, none⟩ = some (.int .i64 k2) ∧ w'.cell? ⟨b, o + j * 3 + 1, none⟩ = some (.int .i64 h2) ∧ w'.cell? ⟨b, o + j * 3 + 2, none⟩ = some (.slice A2 n2 c2') ∧ w'.cell? ⟨b3, o3 + j * 3, none⟩ = some (.int .i64 k3) ∧ w'.cell? ⟨b3, o3 + j * 3 + 1, none⟩ = some (.int .i64 h3) ∧ w'.cell? ⟨b3, o3 + j * 3 + 2, none⟩ = some (.slice A3 n3 c3'))
        (first | exact HK.out _ hcur | exact HK.out _ (Hid.out hcur2))
        (first
          | (go_at_call 27
             with_reducible refine HCA.out.mono ?_
             rintro e w3 ⟨rfl, hcur2⟩))
      all_goals
        go_wp2_with fail
        go_roundw
        case rel => exact ⟨j + 1, by omega, by go_num, hb.trans (hcur2.out.mono hb.size)⟩
        case measure => simp [intOf]; omega
    · go_wp2_with fail
      go_ret
      exact ⟨rfl, hb⟩
end Go.Proofs.Ytinjeocfnhhlmaa
