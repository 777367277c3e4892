/-
  Contracts of slices.Equal at lists of tokens, and of package parse's Name. No statement is proved here.
-/
import Derived.Test.YtmkahbbcagfbhaaGreatDoorBeC
import Derived.Test.YtmkahbbcagfbhaaGreatDoorXnC
import Derived.Lib.ConvBytes
namespace Go.Proofs.YtmkahbbcagfbhaaGreatDoor
open Go.ChangeShapes Go.WideShapes Go.ChangeAt Go.RowKit
set_option linter.unusedVariables false
theorem ty_listB : tyN.toList = [116, 121, 112, 101] := by kernel_rfl
theorem eq_TB (s : ByteArray) : (s.toList == [116, 121, 112, 101]) = decide (s = tyN) := by rw [← ty_listB]; exact bytes_eqB s _
set_option maxRecDepth 100000 in
set_option maxHeartbeats 4000000 in
theorem pEqualC (x y : List Tk) (A B : Option Addr) (n c m d : Nat) (w : World) (hx : TL w x A n c) (hy : TL w y B m d) :
    Calls Tryz.prog 44 #[.slice A n c, .slice B m d] w fun e w' => e = .returned (.bool (decide (x = y))) ∧ Below w.heap.size w w' := by
  have hm := hx.cap
  have hc := hx.le
  have hm' := hy.cap
  have hc' := hy.le
  have hlx := hx.len
  have hly := hy.len
  subst hlx
  unfold maxLen at hm hm'
  by_cases hne : x.length = m
  · subst hne
    have HL := Lib.hid hly
    have HX := Lib.hid hx
    have HY := Lib.hid hy
    clear hx hy hly
    go_enter Tryz.func44, Tryz.ntmps44
    go_wp2_with fail
    go_loopw [13] (fun i wr => ∃ (j : Nat), j ≤ x.length ∧ i = .int .i64 j ∧ Hid (x.take j = y.take j) ∧ Below w.heap.size w wr) (fun i _ => x.length - (Go.RowKit.intOf i).toNat)
    case atStart => exact ⟨0, Nat.zero_le _, rfl, Lib.hid rfl, Below.refl _ _⟩
    case round =>
      obtain ⟨j, hj, rfl, HT, hb⟩ := hrel
      by_cases hlt : j < x.length
      · obtain ⟨t, ht⟩ := at_ofX (l := x) rfl hlt
        obtain ⟨u, hu⟩ := at_ofX (l := y) HL.out hlt
        obtain ⟨b1, o1, rfl, c0, c1⟩ := (HX.out.keep hb).at_ j t ht
        obtain ⟨b2, o2, rfl, e0, e1⟩ := (HY.out.keep hb).at_ j u hu
        obtain ⟨k1, s1⟩ := t
        obtain ⟨k2, s2⟩ := u
        simp only at c0 c1 e0 e1
        have hi0 : (0 : Int) ≤ j := by omega
        have hi1 : (j : Int) < x.length := by omega
        have HU := Lib.hid hu
        have HTT := Lib.hid ht
        clear hu ht
        obtain ⟨q, hq⟩ : ∃ q, decide (((k1, s1) : Tk) = (k2, s2)) = q := ⟨_, rfl⟩
        have hE : ∀ W, (Op.equalIn 10000 79 (.agg #[.int .i64 k1, .string s1]) (.agg #[.int .i64 k2, .string s2])).run Tryz.prog W = .ok q W := fun W => by rw [run_eqB, hq]
        have HQ := Lib.hid hq
        clear hq
        go_wp2_with fail
        go_quiet (fail)
        cases q with
        | false =>
          have HD := Lib.hid (show decide (x = y) = false by
            have h1 := of_decide_eq_false HQ.out
            refine decide_eq_false fun e => h1 ?_
            have h2 := HTT.out
            rw [e, HU.out] at h2
            cases h2; rfl)
          go_wp2_with fail
          go_ret
          exact ⟨ret_boolX HD.out.symm, hb.drewX _⟩
        | true =>
          have HN : Hid (x.take (j + 1) = y.take (j + 1)) := Lib.hid (by
            rw [List.take_add_one, List.take_add_one, HT.out, HTT.out, HU.out, of_decide_eq_true HQ.out])
          go_wp2_with fail
          go_roundw
          case rel => exact ⟨j + 1, by omega, by go_num, HN, hb.drewX _⟩
          case measure => simp [Go.RowKit.intOf]; omega
      · have HE := Lib.hid (show x = y by have := HT.out; rwa [List.take_of_length_le (by omega), List.take_of_length_le (by have := HL.out; omega)] at this)
        go_wp2_with fail
        go_ret
        exact ⟨ret_boolX (decide_eq_true HE.out).symm, hb⟩
  · have hd : decide (x = y) = false := decide_eq_false fun e => hne (by rw [e]; exact hly)
    have hne' : (((x.length : Nat) : Int) == (m : Int)) = false := by simp; omega
    rw [hd]
    clear hx hy hd
    go_enter Tryz.func44, Tryz.ntmps44
    go_wp2_with fail
    go_ret
    exact ⟨rfl, Below.refl _ _⟩
/-- what may be declared -/
def nmB (s : ByteArray) : Bool := decide (s.size ≤ 40) && (decide (s ≠ tyN) && (decide (lexE s.data.toList = 0) && (decide (lexT s.data.toList = [(0, s)]) && decide (s.data.toList.head? ≠ some 95))))
theorem TL.one {w : World} {G : Nat} {k : Int} {s : ByteArray} {ty : TypeId} {z : Nat × Nat} (hG : w.heap[G]? = some (.cells #[.int .i64 k, .string s] ty z)) : TL w [(k, s)] (some ⟨G, 0, none⟩) 1 1 := by
  refine ⟨rfl, Nat.le_refl _, by unfold maxLen; omega, fun i t ht => ?_⟩
  have hc : ∀ j, w.cell? ⟨G, j, none⟩ = #[.int .i64 k, .string s][j]? := fun j => by simp [World.cell?, hG]
  match i, ht with
  | 0, ht =>
    obtain rfl : (k, s) = t := by simpa using ht
    exact ⟨G, 0, rfl, hc 0, hc 1⟩
  | i + 1, ht => simp at ht
theorem YL.conv (w : World) (s : ByteArray) (hs : s.size ≤ maxLen) : YL (Lib.bytesWorld w 5 s) s.data.toList (some ⟨w.heap.size, 0, none⟩) s.size (grownCap w s.size 0 5) := by
  refine ⟨by rw [Array.length_toList]; rfl, grownCap_ge _ _ _ _, grownCap_le_maxLen _ _ _ _ hs, fun i u hu => ⟨_, 0, rfl, ?_⟩⟩
  have hi : i < s.size := by have := (List.getElem?_eq_some_iff.1 hu).1; rw [Array.length_toList] at this; exact this
  rw [Nat.zero_add, Lib.bytesWorld_cell w _ s i hi, List.getD_eq_getElem?_getD, hu]
  rfl
theorem below_conv (w : World) (s : ByteArray) : Below w.heap.size w (Lib.bytesWorld w 5 s) :=
  ⟨rfl, rfl, rfl, by rw [Lib.bytesWorld_size]; omega, fun k hk => Lib.bytesWorld_at_old w _ s k hk⟩
set_option maxRecDepth 100000 in
set_option maxHeartbeats 2000000 in
theorem pNameC (s : ByteArray) (hs : s.size ≤ maxLen) (w : World) : Calls Tryz.prog 23 #[.string s] w fun e w' => e = .returned (.bool (nmB s)) ∧ Below w.heap.size w w' := by
  obtain ⟨r, hr⟩ : ∃ r, nmB s = r := ⟨_, rfl⟩
  rw [hr]
  have HR := Lib.hid hr
  clear hr
  by_cases h1 : 40 < s.size
  · have d1 : decide ((40 : Int) < (s.size : Int)) = true := by simp; omega
    have hr : r = false := by rw [← HR.out, nmB, decide_eq_false (by omega)]; rfl
    subst hr
    clear h1 HR
    go_enter Tryz.func23, Tryz.ntmps23
    go_wp2_with fail
    go_ret
    exact ⟨rfl, Below.refl _ _⟩
  have d1 : decide ((40 : Int) < (s.size : Int)) = false := by simp; omega
  by_cases h2 : s = tyN
  · have heq : (s.toList == [116, 121, 112, 101]) = true := (eq_TB s).trans (decide_eq_true h2)
    have hr : r = false := by rw [← HR.out, nmB, decide_eq_true (show s.size ≤ 40 by omega), decide_eq_false (fun h => h h2)]; rfl
    subst hr
    clear h1 h2 HR
    go_enter Tryz.func23, Tryz.ntmps23
    go_wp2_with fail
    go_ret
    exact ⟨rfl, Below.refl _ _⟩
  have heq : (s.toList == [116, 121, 112, 101]) = false := (eq_TB s).trans (decide_eq_false h2)
  have hnm : nmB s = (decide (lexE s.data.toList = 0) && (decide (lexT s.data.toList = [(0, s)]) && decide (s.data.toList.head? ≠ some 95))) := by
    rw [nmB, decide_eq_true (show s.size ≤ 40 by omega), decide_eq_true h2]; rfl
  rw [hnm] at HR
  have H40 := Lib.hid h1
  have hcv := Lib.run_convert_string_bytes (P := Tryz.prog) w 9 28 5 s Tryz.underlying9 Tryz.underlying28 Tryz.underlying5
  have HT := Lib.hid (xTokensC _ _ _ _ _ (YL.conv w s hs))
  have HB := Lib.hid (below_conv w s)
  clear h1 h2 hnm
  go_enter Tryz.func23, Tryz.ntmps23
  go_wp2_with fail
  refine HT.out.mono ?_
  rintro e w1 ⟨A1, n1, c1, rfl, hrow, hb1⟩
  have HB1 := Lib.hid (HB.out.trans (hb1.mono HB.out.size))
  have HTL := Lib.hid hrow.tl
  clear hrow hb1 HT HB hcv
  by_cases he : lexE s.data.toList = 0
  rotate_left
  · have d9 : (lexE s.data.toList == 0) = false := by simpa using he
    have hr : r = false := by rw [← HR.out, decide_eq_false he]; rfl
    subst hr
    clear HR
    go_wp2_with fail
    go_ret
    exact ⟨rfl, HB1.out⟩
  have hr2 : r = (decide (lexT s.data.toList = [(0, s)]) && decide (s.data.toList.head? ≠ some 95)) := by rw [← HR.out, decide_eq_true he]; rfl
  rw [he]
  have HR2 := Lib.hid hr2
  have hbA : Below w1.heap.size w1 (w1.alloc (.cells #[.int .i64 0, .string s] 79)) := (Below.refl _ _).alloc (Nat.le_refl _) _
  have hQ := pEqualC _ [(0, s)] A1 (some ⟨w1.heap.size, 0, none⟩) n1 c1 1 1 _ (HTL.out.keep hbA) (TL.one (heap_alloc_new w1 _))
  obtain ⟨q, hq⟩ : ∃ q, decide (lexT s.data.toList = [(0, s)]) = q := ⟨_, rfl⟩
  rw [hq] at hQ HR2
  have HQ := Lib.hid hQ
  have HA := Lib.hid hbA
  have HQQ := Lib.hid hq
  clear hQ hbA hr2 HR hq
  go_wp2_with fail
  refine HQ.out.mono ?_
  rintro e w2 ⟨rfl, hb2⟩
  have HB2 := Lib.hid (HB1.out.trans ((HA.out.trans (hb2.mono HA.out.size)).mono HB1.out.size))
  clear hb2 HQ HA
  cases q with
  | false =>
    have hr : r = false := HR2.out
    subst hr
    go_wp2_with fail
    go_ret
    exact ⟨rfl, HB2.out⟩
  | true =>
    have hx : lexT s.data.toList = [(0, s)] := of_decide_eq_true HQQ.out
    have h0 : 0 < s.size := by
      rcases lexE_cases s.data.toList (by rw [Array.length_toList]; show s.size ≤ _; have := H40.out; omega) with ⟨_, hx2⟩ | ⟨h8, _, _⟩
      · have hg := toks_good hx2 (0, s) (by rw [hx]; exact List.mem_singleton.2 rfl)
        rcases hg with ⟨h1, _⟩ | ⟨_, h1, _⟩
        · cases h1
        · have := List.length_pos_iff.2 h1
          rw [Array.length_toList] at this
          exact this
      · rw [he] at h8; cases h8
    have hr : r = ((s[0].toNat : Int) != 95) := by
      rw [HR2.out, Bool.true_and]
      have hh : s.data.toList.head? = some s[0] := by
        rw [List.head?_eq_getElem?, Array.getElem?_toList, Array.getElem?_eq_getElem (show 0 < s.data.size from h0)]
        rfl
      rw [hh, Bool.eq_iff_iff, decide_eq_true_eq, bne_iff_ne]
      constructor
      · intro h e; exact h (congrArg some (UInt8.toNat_inj.1 (by simpa using (by omega : s[0].toNat = 95))))
      · intro h e; exact h (by rw [Option.some.inj e]; rfl)
    have HRR := Lib.hid hr
    clear hr HR2 HQQ hx
    go_wp2_with fail
    go_ret
    exact ⟨ret_boolX HRR.out.symm, HB2.out⟩
end Go.Proofs.YtmkahbbcagfbhaaGreatDoor
