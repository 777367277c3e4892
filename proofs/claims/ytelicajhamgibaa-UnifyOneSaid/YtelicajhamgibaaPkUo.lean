/-
  The walk of the law UnifyOne.
-/
import Derived.Test.YtelicajhamgibaaPkB
import Derived.Test.YtelicajhamgibaaPkJt
import Derived.Test.YtelicajhamgibaaPkGb
namespace Go.Proofs.Ytelicajhamgibaa
open Go.ChangeShapes Go.WideShapes Go.ChangeAt Go.RowKit
set_option linter.unusedVariables false

/-- what holds at the head of the loop -/
structure UoI (m : Nat) (w : World) (j : Nat) (wr : World) (Av : Option Addr) (cv : Nat) (cs : List Value) : Prop where
  out : Box wr w.heap.size 31 #[.int .i64 6, .int .i64 0, .slice Av j cv]
  row : GRow (fun b => b < w.heap.size + 1) wr (w.heap.size + 1) (.slice Av j cv) j cs ((vsL m).take j)
  below : Below w.heap.size w wr
theorem vs_takeU (m j : Nat) (h : j < m) : (vsL m).take j ++ [T.node 4 ((m : Int) - 1 - (j : Int)) []] = (vsL m).take (j + 1) := by
  have hl : j < (vsL m).length := by rw [vsL_len]; exact h
  rw [List.take_succ_eq_append_getElem hl]
  obtain ⟨_, e⟩ := vsL_at _ _ _ (List.getElem?_eq_getElem hl)
  rw [e]
theorem rx_leafU {X : Nat → Prop} {w : World} {k h : Int} (hk : (Lit.int .i64 k).wf = true) (hh : (Lit.int .i64 h).wf = true) : RdF X w (.node k h []) (.agg #[.int .i64 k, .int .i64 h, .slice none 0 0]) :=
  RdF_node.2 ⟨none, 0, 0, rfl, hk, hh, rfl, Nat.le_refl _, Nat.zero_le _, fun i t ht => by simp at ht⟩
theorem wf_ofU {x : Int} (h : 0 ≤ x) (h' : x ≤ 1000) : (Lit.int .i64 x).wf = true := by
  simp [Lit.wf, IntKind.min, IntKind.max, IntKind.signed, IntKind.bits]; omega
theorem same_oneU (t : T) : sameB [(true, t)] [(true, t)] = true := by simp [sameB, sameL, samB_refl]
set_option maxRecDepth 100000 in
set_option maxHeartbeats 8000000 in
theorem unifyOneC (t : T) (n : Int) (v : Value) (w : World) (hvt : Rd w t v) :
    Calls Try.prog 6 #[v, .int .i64 n] w fun e w' => e = .returned (.bool true) ∧ Below w.heap.size w w' := by
  obtain ⟨kt, ht, At, nt, ct, rfl⟩ := hvt.full
  have HVt := Lib.hid hvt; clear hvt
  obtain ⟨W0, hW0⟩ : ∃ W0, (w.alloc (.cells #[.int .i64 kt, .int .i64 ht, .slice At nt ct] 31)) = W0 := ⟨_, rfl⟩
  have hb : Below w.heap.size w W0 := by rw [← hW0]; exact ((Below.refl _ _).alloc (Nat.le_refl _) _)
  have bxt : Box W0 (w.heap.size) 31 #[.int .i64 kt, .int .i64 ht, .slice At nt ct] := by rw [← hW0]; exact (Box.new w _ _)
  replace HVt := Lib.hid (Rd.keep hb _ _ HVt.out)
  have HW0 := Lib.hid hW0; clear hW0
  go_enter Try.func6, Try.ntmps6
  go_wp2_with fail
  rw [HW0.out]
  clear HW0
  refine (awakeN _).mono ?_
  rintro e w1 ⟨rfl, hb1⟩
  replace bxt := bxt.keep hb1 bxt.lt
  replace HVt := Lib.hid (Rd.keep hb1 _ _ HVt.out)
  replace hb := hb.trans (hb1.mono hb.size)
  clear hb1
  obtain ⟨bxt0, bxt1, bxt2⟩ := bxt.three
  have bxtl := bxt.lt
  go_wp2_with fail
  refine (refLight t 300 60 _ _ HVt.out).mono ?_
  have HLt : Hid (ltB t 300 60 = true → ltB t 300 60 = true) := Lib.hid fun e => e
  generalize hqt : ltB t 300 60 = Rt at *
  rintro e w2t ⟨rfl, hb1⟩
  have HQt := Lib.hid hqt; clear hqt HLt
  clear bxt0 bxt1 bxt2 bxtl
  replace bxt := bxt.keep hb1 bxt.lt
  replace HVt := Lib.hid (Rd.keep hb1 _ _ HVt.out)
  replace hb := hb.trans (hb1.mono hb.size)
  clear hb1
  obtain ⟨bxt0, bxt1, bxt2⟩ := bxt.three
  have bxtl := bxt.lt
  cases Rt
  · go_wp2_with fail
    go_ret
    exact ⟨rfl, hb⟩
  go_wp2_with fail
  refine (myC t _ _ HVt.out).mono ?_
  generalize hqt : myB t = Mt at *
  rintro e w3t ⟨rfl, hb1⟩
  have HMt := Lib.hid hqt; clear hqt
  clear bxt0 bxt1 bxt2 bxtl
  replace bxt := bxt.keep hb1 bxt.lt
  replace HVt := Lib.hid (Rd.keep hb1 _ _ HVt.out)
  replace hb := hb.trans (hb1.mono hb.size)
  clear hb1
  obtain ⟨bxt0, bxt1, bxt2⟩ := bxt.three
  have bxtl := bxt.lt
  cases Mt
  · go_wp2_with fail
    go_ret
    exact ⟨rfl, hb⟩
  have KNt : Hid (Kn 300 60 t) := Lib.hid (kn_of HQt.out HMt.out); clear HQt HMt
  by_cases x1 : n < 0
  · have dx1 : decide (n < 0) = true := by simpa using x1
    go_wp2_with fail
    go_ret
    exact ⟨rfl, hb⟩
  have dx1 : decide (n < 0) = false := by simpa using x1
  by_cases x2 : 100 < n
  · have dx2 : decide (100 < n) = true := by simpa using x2
    go_wp2_with fail
    go_ret
    exact ⟨rfl, hb⟩
  have dx2 : decide (100 < n) = false := by simpa using x2
  obtain ⟨m, rfl⟩ : ∃ m : Nat, n = m := ⟨n.toNat, by omega⟩
  have hm100 : m ≤ 100 := by omega
  have hw1 : IntKind.i64.wrap ((m : Int) - 1) = (m : Int) - 1 := by rw [wrapEq]; exact wrap_small (by omega) (by omega)
  obtain ⟨W1, hW1⟩ : ∃ W1, w3t.alloc (.cells #[.int .i64 6, .int .i64 0, .slice none 0 0] 31) = W1 := ⟨_, rfl⟩
  have hbA : Below w3t.heap.size w3t W1 := by rw [← hW1]; exact (Below.refl _ _).alloc (Nat.le_refl _) _
  have HI : Hid (UoI m w3t 0 W1 none 0 []) := Lib.hid ⟨by rw [← hW1]; exact Box.new _ _ _, GRow.nil _ _ _, hbA⟩
  clear hbA
  have HW1 := Lib.hid hW1; clear hW1
  clear bxt0 bxt1 bxt2 bxtl
  go_wp2_with fail
  rw [HW1.out]
  clear HW1
  go_loopw [8] (fun i wr => ∃ (j : Nat) (I : Int) (Av : Option Addr) (cv : Nat) (cs : List Value), j ≤ m ∧ i = .int .i64 I ∧ Hid (I = (m : Int) - 1 - j) ∧ Hid (UoI m w3t j wr Av cv cs)) (fun i _ => (Go.RowKit.intOf i + 1).toNat)
  case atStart => exact ⟨0, _, none, 0, [], Nat.zero_le _, rfl, Lib.hid (by omega), HI⟩
  case round =>
    clear HI
    obtain ⟨j, I, Av, cv, cs, hj, rfl, HII, HI⟩ := hrel
    obtain ⟨o0, o1, o2⟩ := HI.out.out.three
    by_cases hlt : j < m
    · have hi0 : 0 ≤ I := by have := HII.out; omega
      have hi2 : I ≤ 200 := by have := HII.out; omega
      have hge : decide (0 ≤ I) = true := by simpa using hi0
      have hw2 : IntKind.i64.wrap (I - 1) = I - 1 := by rw [wrapEq]; exact wrap_small (by omega) (by omega)
      have lout := HI.out.out.lt
      have lsz := HI.out.below.size
      obtain ⟨g, cap, w4, hrun, hrow, hold, hb4⟩ := HI.out.row.push (t := .node 4 I []) (k := 4) (h := I) (A := none) (m := 0) (c := 0) (rx_leafU (by decide) (wf_ofU hi0 (by omega))) (by omega) (by omega)
      have nb : ∀ q, q < w3t.heap.size + 1 → some q ≠ Value.ownBlock (.slice Av j cv) := fun q hq e => by have := (HI.out.row.lt e.symm).1; omega
      have z2 : Box w4 w3t.heap.size _ _ := (hold _ HI.out.out.lt (nb _ (by omega))).trans HI.out.out
      have hrow2 : GRow (fun b => b < w3t.heap.size + 1) (w4.setCell ⟨w3t.heap.size, 2, none⟩ (.slice (some ⟨g, 0, none⟩) (j + 1) cap)) (w3t.heap.size + 1) (.slice (some ⟨g, 0, none⟩) (j + 1) cap) (j + 1) (cs ++ [.int .i64 4, .int .i64 I, .slice none 0 0]) ((vsL m).take (j + 1)) := by
        rw [← vs_takeU m j hlt, ← HII.out]
        exact hrow.move (fun b _ hb => Below.heap_setCell _ _ _ _ (fun e => hb (by show b < w3t.heap.size + 1; have : b = w3t.heap.size := e; omega))) (fun g' hg' => by have := (hrow.lt hg').1; show ¬ g' < w3t.heap.size + 1; omega)
      have HJ : Hid (UoI m w3t (j + 1) (w4.setCell ⟨w3t.heap.size, 2, none⟩ (.slice (some ⟨g, 0, none⟩) (j + 1) cap)) (some ⟨g, 0, none⟩) cap (cs ++ [.int .i64 4, .int .i64 I, .slice none 0 0])) := Lib.hid
        ⟨by simpa using z2.setAt 2 (.slice (some ⟨g, 0, none⟩) (j + 1) cap), hrow2, (HI.out.below.trans (hb4.mono (by omega))).setCell (Nat.le_refl _) _⟩
      have lout4 := z2.lt
      obtain ⟨p0, p1, p2⟩ := z2.three
      have f0 := z2.frozen 2
      clear hrow hrow2 hold hb4 nb z2
      go_wp2_with (at_builtin; refine Lib.wpList_append_run _ rfl _ _ _ _ rfl _ _ rfl rfl _ _ hrun ?_)
      go_roundw
      case rel => exact ⟨j + 1, I - 1, some ⟨g, 0, none⟩, cap, _, by omega, by go_num, Lib.hid (by have := HII.out; omega), HJ⟩
      case measure => simp [Go.RowKit.intOf]; omega
    have hge : decide (0 ≤ I) = false := by have := HII.out; simp; omega
    obtain rfl : m = j := by omega
    have hrow := HI.out.row
    rw [List.take_of_length_le (by rw [vsL_len]; exact Nat.le_refl _)] at hrow
    have hrl := hrow.rxl (fun b hb => hb)
    have HRU : Hid (Rd wr (mU m) (.agg #[.int .i64 6, .int .i64 0, .slice Av m cv])) := Lib.hid (Rd_node.2 ⟨Av, m, cv, rfl, by decide, by decide, hrl.len, hrl.le, hrl.cap, fun i x hx => rdFAt_rd (hrl.at_ i x hx)⟩)
    have hbz := HI.out.below
    clear hrow hrl HI hlt hj
    replace bxt := bxt.keep hbz bxt.lt
    replace HVt := Lib.hid (Rd.keep hbz _ _ HVt.out)
    replace hb := hb.trans (hbz.mono hb.size)
    clear hbz
    obtain ⟨t0, t1, t2⟩ := bxt.three
    obtain ⟨W5, hW5⟩ : ∃ W5, wr.alloc (.cells #[.int .i64 m] 3) = W5 := ⟨_, rfl⟩
    have hb5 : Below wr.heap.size wr W5 := by rw [← hW5]; exact (Below.refl _ _).alloc (Nat.le_refl _) _
    have xN : Box W5 wr.heap.size 3 #[.int .i64 m] := by rw [← hW5]; exact Box.new _ _ _
    obtain ⟨R, hR⟩ : ∃ R, unR (mU m) t m [(m : Int)] = R := ⟨_, rfl⟩
    have hU := UnifyC (mU m) t m [(m : Int)] (some ⟨wr.heap.size, 0, none⟩) 1 6 0 Av m cv kt ht At nt ct W5 (Rd.keep hb5 _ _ HRU.out) (Rd.keep hb5 _ _ HVt.out) (fun _ => mU_ok hm100) (fun _ => okT_of t KNt.out.nod KNt.out.lo) (Nat.le_refl _) (by unfold maxLen; omega) (one_nu xN)
    rw [hR] at hU
    have HU := Lib.hid hU
    have HON := Lib.hid (un_one KNt.out hm100 (by omega))
    rw [hR] at HON
    have HB5 := Lib.hid hb5
    clear hR hU xN hb5
    go_wp2_with fail
    try rw [hW5]
    clear hW5
    refine HU.out.mono ?_
    intro e w6 hE
    obtain ⟨A6, n6, c6, ec, rfl, hb6, hE⟩ := hE
    have HE := Lib.hid hE
    have hbz := HB5.out.trans (hb6.mono HB5.out.size)
    clear hb6 hE HU HB5 t0 t1 t2 o0 o1 o2
    replace bxt := bxt.keep hbz bxt.lt
    replace HVt := Lib.hid (Rd.keep hbz _ _ HVt.out)
    replace hb := hb.trans (hbz.mono hb.size)
    clear hbz
    obtain ⟨t0, t1, t2⟩ := bxt.three
    have hndt : nd t ≤ 1048576 := by have := KNt.out.nd; omega
    have HME := Lib.hid (oMetasC t _ _ HVt.out hndt)
    go_wp2_with fail
    refine HME.out.mono ?_
    rintro e w7 ⟨ut, rfl, hns, hb1⟩
    rw [mtO_eq] at hns
    obtain ⟨Am, cm, rfl, _⟩ := hns
    have HBE := Lib.hid hb1
    replace bxt := bxt.keep hb1 bxt.lt
    replace HVt := Lib.hid (Rd.keep hb1 _ _ HVt.out)
    replace hb := hb.trans (hb1.mono hb.size)
    clear hb1 HME t0 t1 t2
    obtain ⟨Lm, hLm⟩ : ∃ L, (mtO t).length = L := ⟨_, rfl⟩
    rw [hLm]
    have HLM := Lib.hid hLm; clear hLm
    by_cases hL0 : 0 < Lm
    · have dM : decide ((0 : Int) < (Lm : Int)) = true := decide_eq_true (by omega)
      have dM2 : decide (0 < Lm) = true := decide_eq_true hL0
      have hec : ec = 0 ∨ ec = 5 ∨ ec = 2 := by
        rcases HON.out.2 with ⟨bs, h⟩ | h | h
        · have := HE.out; rw [h] at this; exact .inl this.1
        · have := HE.out; rw [h] at this; exact .inr (.inl this.1)
        · have := HE.out; rw [h] at this; exact .inr (.inr this.1)
      clear hL0 HON HE
      by_cases e0 : ec = 0
      · have g0 : (ec == 0) = true := by simpa using e0
        clear e0 hec
        go_wp2_with fail
        go_ret
        exact ⟨rfl, hb⟩
      have g0 : (ec == 0) = false := by simpa using e0
      by_cases e5 : ec = 5
      · have g5 : (ec == 5) = true := by simpa using e5
        clear e0 e5 hec
        go_wp2_with fail
        go_ret
        exact ⟨rfl, hb⟩
      have g5 : (ec == 5) = false := by simpa using e5
      have g2 : (ec == 2) = true := by rw [beq_iff_eq]; omega
      clear e0 e5 hec
      go_wp2_with fail
      go_ret
      exact ⟨rfl, hb⟩
    have dM : decide ((0 : Int) < (Lm : Int)) = false := decide_eq_false (by omega)
    have dM2 : decide (0 < Lm) = false := decide_eq_false hL0
    have hmt : mts t = [] := mtO_nilU.1 (List.length_eq_zero_iff.1 (by rw [HLM.out]; omega))
    have hE := HE.out
    rw [HON.out.1 hmt] at hE
    obtain ⟨rfl, hbl⟩ := hE
    have hbl7 := hbl.keep HBE.out
    have HBL := Lib.hid hbl7
    clear hbl hbl7 hmt hL0 HON HE HBE
    obtain ⟨t0, t1, t2⟩ := bxt.three
    obtain ⟨W8, hW8⟩ : ∃ W8, w7.alloc (.cells #[.bool true, .int .i64 kt, .int .i64 ht, .slice At nt ct] 38) = W8 := ⟨_, rfl⟩
    have hb8 : Below w7.heap.size w7 W8 := by rw [← hW8]; exact (Below.refl _ _).alloc (Nat.le_refl _) _
    have xW : Box W8 w7.heap.size 38 #[.bool true, .int .i64 kt, .int .i64 ht, .slice At nt ct] := by rw [← hW8]; exact Box.new _ _ _
    have hwant : BL (fun _ => True) W8 [(true, t)] (some ⟨w7.heap.size, 0, none⟩) 1 1 := ⟨rfl, Nat.le_refl _, by unfold maxLen; omega, fun i x hx => by
      match i, hx with
      | 0, hx => cases hx; exact ⟨w7.heap.size, 0, kt, ht, At, nt, ct, rfl, xW.cell 0, xW.cell 1, xW.cell 2, xW.cell 3, rdF_any _ _ (Rd.keep hb8 _ _ HVt.out)⟩⟩
    have hsb := refSbC _ _ _ _ _ _ _ _ _ _ W8 (HBL.out.keep hb8) hwant
    rw [same_oneU] at hsb
    have HSB := Lib.hid hsb
    have HB8 := Lib.hid (hb.trans (hb8.mono hb.size))
    clear hsb hwant xW hb8 HBL
    go_wp2_with fail
    try rw [hW8]
    clear hW8
    refine HSB.out.mono ?_
    rintro e w9 ⟨rfl, hb9⟩
    have HB9 := Lib.hid (HB8.out.trans (hb9.mono HB8.out.size))
    clear hb9 HSB t0 t1 t2
    go_wp2_with fail
    go_ret
    exact ⟨rfl, HB9.out⟩
end Go.Proofs.Ytelicajhamgibaa
