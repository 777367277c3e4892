/-
  Texts of one proof, put together. No statement is proved here.
-/
import Derived.Test.YtmkahbbcagfbhaaDoorXh
import Derived.Test.YtmkahbbcagfbhaaDoorRt
import Derived.Test.YtmkahbbcagfbhaaDoorPkA
import Derived.Test.YtmkahbbcagfbhaaDoorXn

/-
  Contracts of the document's Same and Tokens of package lex's layer. No statement is proved here.
-/
namespace Go.Proofs.YtmkahbbcagfbhaaDoor
open Go.ChangeShapes Go.WideShapes Go.ChangeAt Go.RowKit
set_option linter.unusedVariables false

theorem bytes_eq (a b : ByteArray) : (a.toList == b.toList) = decide (a = b) := by
  rw [← beq_toListBytes, Bool.eq_iff_iff, decide_eq_true_eq]
  obtain ⟨⟨x⟩⟩ := a
  obtain ⟨⟨y⟩⟩ := b
  show ((⟨x⟩ : Array UInt8) == ⟨y⟩) = true ↔ _
  rw [beq_iff_eq]
  simp
theorem run_eqT (w : World) (k1 k2 : Int) (s1 s2 : ByteArray) :
    (Op.equalIn 10000 64 (.agg #[.int .i64 k1, .string s1]) (.agg #[.int .i64 k2, .string s2])).run Tryd.prog w = .ok (decide (((k1, s1) : Tk) = (k2, s2))) w := by
  rw [run_equalIn_struct w 9999 _ _ _ (by kernel_rfl) (by kernel_rfl)]
  have hf : (Tryd.prog.fieldsOf 64).toList.map (fun f => (f.name, f.type, f.offset)) = [("Kind", 3, 0), ("Text", 9, 1)] := by kernel_rfl
  have hs : s1.toList = s2.toList ↔ s1 = s2 := by
    have := bytes_eq s1 s2
    rw [Bool.eq_iff_iff, decide_eq_true_eq, beq_iff_eq] at this
    exact this
  cases hl : (Tryd.prog.fieldsOf 64).toList with
  | nil => rw [hl] at hf; cases hf
  | cons f l =>
    cases l with
    | nil => rw [hl] at hf; simp at hf
    | cons g l =>
      cases l with
      | cons g' l => rw [hl] at hf; simp at hf
      | nil =>
        rw [hl] at hf
        simp at hf
        obtain ⟨⟨h1, h2, h3⟩, h4, h5, h6⟩ := hf
        simp [Op.eqFields, h1, h2, h3, h4, h5, h6, part, go_sem, Tryd.underlying3, Tryd.underlying9, Tryd.sizeOf3, Tryd.isAgg3, Tryd.sizeOf9, Tryd.isAgg9]
        by_cases e1 : k1 = k2 <;> by_cases e2 : s1 = s2 <;> simp [e1, hs, e2]
end Go.Proofs.YtmkahbbcagfbhaaDoor

/-
  Contract of the document's Tokens. No statement is proved here.
-/
namespace Go.Proofs.YtmkahbbcagfbhaaDoor
open Go.ChangeShapes Go.WideShapes Go.ChangeAt Go.RowKit
set_option linter.unusedVariables false

/-- where the reading stands: between tokens, in a note, in a name that began at j -/
def RkX (l : List UInt8) (o : List Tk) (i : Nat) : Prop := (runL ⟨o, [], false⟩ (l.drop i)).map fin = toksL l
def RnX (l : List UInt8) (o : List Tk) (i : Nat) : Prop := (runL ⟨o, [], true⟩ (l.drop i)).map fin = toksL l
def RmX (l : List UInt8) (o : List Tk) (j k : Nat) : Prop := (runL ⟨o, (l.drop j).take (k - j), false⟩ (l.drop k)).map fin = toksL l
theorem RkX.blank {l : List UInt8} {o : List Tk} {i : Nat} {u : UInt8} (h : RkX l o i) (hu : l[i]? = some u) (hb : blI (bI u) = true) : RkX l o (i + 1) := by
  unfold RkX at *
  rw [drop_atX hu, runL] at h
  obtain ⟨h1, h2, h3⟩ := bl_notnm hb
  rw [show stp ⟨o, [], false⟩ u = some ⟨o, [], false⟩ by unfold stp; simp [h1, h2, h3, hb, flu_nil]] at h
  exact h
theorem RkX.note {l : List UInt8} {o : List Tk} {i : Nat} {u : UInt8} (h : RkX l o i) (hu : l[i]? = some u) (hb : bI u = 37) : RnX l o i := by
  unfold RkX at h
  unfold RnX
  rw [drop_atX hu, runL] at h ⊢
  rw [show stp ⟨o, [], false⟩ u = some ⟨o, [], true⟩ by unfold stp; simp [hb, flu_nil, show nmI 37 = false from rfl]] at h
  rw [show stp ⟨o, [], true⟩ u = some ⟨o, [], true⟩ by unfold stp; simp [hb]]
  exact h
theorem RnX.step {l : List UInt8} {o : List Tk} {i : Nat} {u : UInt8} (h : RnX l o i) (hu : l[i]? = some u) (hb : bI u ≠ 10) : RnX l o (i + 1) := by
  unfold RnX at *
  rw [drop_atX hu, runL] at h
  rw [show stp ⟨o, [], true⟩ u = some ⟨o, [], true⟩ by unfold stp; simp [hb]] at h
  exact h
theorem RnX.feed {l : List UInt8} {o : List Tk} {i : Nat} {u : UInt8} (h : RnX l o i) (hu : l[i]? = some u) (hb : bI u = 10) : RkX l o i := by
  unfold RnX at h
  unfold RkX
  rw [drop_atX hu, runL] at h ⊢
  rw [show stp ⟨o, [], true⟩ u = some ⟨o, [], false⟩ by unfold stp; simp [hb]] at h
  rw [show stp ⟨o, [], false⟩ u = some ⟨o, [], false⟩ by unfold stp; simp [hb, flu_nil, show nmI 10 = false from rfl, show mkI 10 = false from rfl, show blI 10 = true from rfl]]
  exact h
theorem RnX.done {l : List UInt8} {o : List Tk} {i : Nat} (h : RnX l o i) (hi : l.length ≤ i) : RkX l o i := by
  unfold RnX at h
  unfold RkX
  rw [List.drop_of_length_le hi] at h ⊢
  exact h
theorem RkX.mark {l : List UInt8} {o : List Tk} {i : Nat} {u : UInt8} (h : RkX l o i) (hu : l[i]? = some u) (hb : mkI (bI u) = true) : RkX l (o ++ [(1, ⟨#[u]⟩)]) (i + 1) := by
  unfold RkX at *
  rw [drop_atX hu, runL] at h
  obtain ⟨h1, h2, h3, h4⟩ := mk_notnm hb
  rw [show stp ⟨o, [], false⟩ u = some ⟨o ++ [(1, ⟨#[u]⟩)], [], false⟩ by unfold stp; simp [h1, h2, hb, flu_nil]] at h
  exact h
theorem RkX.bad {l : List UInt8} {o : List Tk} {i : Nat} {u : UInt8} (h : RkX l o i) (hu : l[i]? = some u) (h1 : nmI (bI u) = false) (h2 : bI u ≠ 37) (h3 : mkI (bI u) = false) (h4 : blI (bI u) = false) : toksL l = none := by
  unfold RkX at h
  rw [drop_atX hu, runL, stp_bad h1 h2 h3 h4] at h
  exact h.symm
theorem RkX.done {l : List UInt8} {o : List Tk} {i : Nat} (h : RkX l o i) (hi : l.length ≤ i) : toksL l = some o := by
  unfold RkX at h
  rw [List.drop_of_length_le hi] at h
  exact h.symm
theorem RkX.name {l : List UInt8} {o : List Tk} {i : Nat} (h : RkX l o i) : RmX l o i i := by
  unfold RmX
  rw [Nat.sub_self, List.take_zero]
  exact h
theorem RmX.step {l : List UInt8} {o : List Tk} {j k : Nat} {u : UInt8} (h : RmX l o j k) (hjk : j ≤ k) (hu : l[k]? = some u) (hb : nmI (bI u) = true) : RmX l o j (k + 1) := by
  unfold RmX at *
  rw [drop_atX hu, runL] at h
  rw [take_snoc hu hjk]
  rw [show stp ⟨o, (l.drop j).take (k - j), false⟩ u = some ⟨o, (l.drop j).take (k - j) ++ [u], false⟩ by unfold stp; simp [hb]] at h
  exact h
theorem RmX.stop {l : List UInt8} {o : List Tk} {j k : Nat} (h : RmX l o j k) (hjk : j < k) (hk : k ≤ l.length) (hb : ∀ u, l[k]? = some u → nmI (bI u) = false) : RkX l (o ++ [(0, ⟨((l.drop j).take (k - j)).toArray⟩)]) k := by
  unfold RmX at h
  unfold RkX
  have hne : (l.drop j).take (k - j) ≠ [] := fun e => by
    have := congrArg List.length e
    simp at this
    omega
  have hf := flu_cons o hne
  generalize (l.drop j).take (k - j) = cur at *
  rw [← hf]
  cases hu : l[k]? with
  | none =>
    have : l.length ≤ k := by rwa [List.getElem?_eq_none_iff] at hu
    rw [List.drop_of_length_le this] at h ⊢
    exact h
  | some u =>
    have h1 := hb u hu
    rw [drop_atX hu, runL] at h ⊢
    rw [← h]
    have e : stp ⟨flu o cur, [], false⟩ u = stp ⟨o, cur, false⟩ u := by unfold stp; simp [h1, flu_nil]
    rw [e]
theorem YL.sub {w : World} {l : List UInt8} {b o n c : Nat} (h : YL w l (some ⟨b, o, none⟩) n c) (j k : Nat) (hjk : j ≤ k) (hk : k ≤ n) : YL w ((l.drop j).take (k - j)) (some ⟨b, o + j, none⟩) (k - j) (c - j) := by
  have hl := h.len
  have hc := h.le
  have hm := h.cap
  refine ⟨by simp; omega, by omega, by omega, fun i u hu => ?_⟩
  rw [List.getElem?_take] at hu
  split at hu
  · rw [List.getElem?_drop] at hu
    obtain ⟨b', o', e, c0⟩ := h.at_ (j + i) u hu
    cases e
    exact ⟨b, o + j, rfl, by rw [Nat.add_assoc]; exact c0⟩
  · cases hu
/-- what holds at the head of its loop -/
structure RtI (l : List UInt8) (w : World) (j : Nat) (A : Option Addr) (n c : Nat) (o : List Tk) (wx : World) : Prop where
  below : Below w.heap.size w wx
  row : TRow wx w.heap.size (.slice A n c) n o
  le : j ≤ l.length
  few : o.length ≤ j
theorem RtI.push {l : List UInt8} {w : World} {j : Nat} {A : Option Addr} {n c : Nat} {o : List Tk} {wx : World} (h : RtI l w j A n c o wx) (k : Int) (s : ByteArray) (hn : l.length ≤ 20000) {j' : Nat} (hj : j < j') (hj' : j' ≤ l.length) :
    ∃ g cap w3, (Builtin.append_ #[47, 47] 47 #[.slice A n c, .slice (some ⟨wx.heap.size, 0, none⟩) 1 1]).run Tryd.prog (wx.alloc (.cells #[.int .i64 k, .string s] 64)) = .ok (.slice (some ⟨g, 0, none⟩) (n + 1) cap) w3 ∧
      RtI l w j' (some ⟨g, 0, none⟩) (n + 1) cap (o ++ [(k, s)]) w3 := by
  have hb1 : Below w.heap.size w (wx.alloc (.cells #[.int .i64 k, .string s] 64)) := h.below.alloc h.below.size _
  have hr1 := h.row.keep (show Below wx.heap.size wx (wx.alloc (.cells #[.int .i64 k, .string s] 64)) from (Below.refl _ _).alloc (Nat.le_refl _) _)
  have hl := h.row.len
  have hf := h.few
  have hle := h.le
  obtain ⟨g, cap, w3, hrun, hrow, hgr, _⟩ := hr1.app (heap_alloc_new wx _) hb1.size (by omega)
  exact ⟨g, cap, w3, hrun, hb1.grown hgr hb1.size (fun r hr => (hr1.lt hr).1), hrow, hj', by rw [List.length_append, List.length_singleton]; omega⟩
set_option maxRecDepth 100000 in
set_option maxHeartbeats 4000000 in
theorem xRTokensC (l : List UInt8) (A : Option Addr) (n c : Nat) (w : World) (h : YL w l A n c) : Calls Tryd.prog 53 #[.slice A n c] w (TkE l w) := by
  have hm := h.cap
  have hc := h.le
  have hlen := h.len
  subst hlen
  unfold maxLen at hm
  by_cases hgt : 20000 < l.length
  · have hgt' : (20000 : Int) < (l.length : Int) := by omega
    have HE := Lib.hid (show lexE l = 4 from if_pos hgt)
    have HT := Lib.hid (show lexT l = [] from if_pos hgt)
    clear h hgt
    go_enter Tryd.func53, Tryd.ntmps53
    go_wp2_with fail
    go_ret2
    exact ⟨none, 0, 0, by rw [HE.out]; rfl, by rw [HT.out]; exact TRow.nil _ _, Below.refl _ _⟩
  · have hle' : (l.length : Int) ≤ 20000 := by omega
    have hle2 : l.length ≤ 20000 := by omega
    have HY := Lib.hid h
    have HE : Hid (lexE l = if (toksL l).isSome = true then 0 else 8) := Lib.hid (if_neg hgt)
    have HT : Hid (lexT l = (toksL l).getD []) := Lib.hid (if_neg hgt)
    clear h hgt
    go_enter Tryd.func53, Tryd.ntmps53
    go_wp2_with fail
    go_loopw [4, 5] (fun v i wr => ∃ (j : Nat) (A' : Option Addr) (n' c' : Nat) (o : List Tk), i = .int .i64 j ∧ v = .slice A' n' c' ∧ RtI l w j A' n' c' o wr ∧ Hid (RkX l o j)) (fun _ i _ => l.length - (Go.RowKit.intOf i).toNat)
    case atStart => exact ⟨0, none, 0, 0, [], rfl, rfl, ⟨Below.refl _ _, TRow.nil _ _, Nat.zero_le _, Nat.zero_le _⟩, Lib.hid rfl⟩
    case round =>
      obtain ⟨j, A', n', c', o, rfl, rfl, hI, HK⟩ := hrel
      by_cases hlt : j < l.length
      · obtain ⟨u, hu⟩ := at_ofX (l := l) rfl hlt
        obtain ⟨b, oo, rfl, c0⟩ := (HY.out.keep hI.below).at_ j u hu
        have hi0 : (0 : Int) ≤ j := by omega
        have hi1 : (j : Int) < l.length := by omega
        have HU := Lib.hid hu
        have hbu := bI_lt u
        rw [show bV u = .int .u8 (bI u) from rfl] at c0
        obtain ⟨z, hz⟩ : ∃ z, bI u = z := ⟨_, rfl⟩
        have HZ := Lib.hid hz
        rw [hz] at c0 hbu
        obtain ⟨bm, hbm⟩ : ∃ q, mkI z = q := ⟨_, rfl⟩
        obtain ⟨bn, hbn⟩ : ∃ q, nmI z = q := ⟨_, rfl⟩
        have HM : Hid (∀ W, Calls Tryd.prog 64 #[.int .u8 z] W fun e w' => e = .returned (.bool bm) ∧ w' = W) := Lib.hid fun W => by rw [← hbm]; exact xMarkC z W
        have HN : Hid (∀ W, Calls Tryd.prog 65 #[.int .u8 z] W fun e w' => e = .returned (.bool bn) ∧ w' = W) := Lib.hid fun W => by rw [← hbn]; exact xNamedC z W
        have HBM := Lib.hid hbm
        have HBN := Lib.hid hbn
        have HI := Lib.hid hI
        clear hu hz hbm hbn hI
        by_cases hbl : blI z = true
        · have HIn : Hid (RtI l w (j + 1) A' n' c' o wr) := Lib.hid ⟨HI.out.below, HI.out.row, hlt, Nat.le_succ_of_le HI.out.few⟩
          have HKn : Hid (RkX l o (j + 1)) := Lib.hid (HK.out.blank HU.out (by rw [HZ.out]; exact hbl))
          have hz3 : z = 32 ∨ z = 9 ∨ z = 10 := by
            unfold blI at hbl
            simp only [Bool.or_eq_true, decide_eq_true_eq] at hbl
            rcases hbl with (h | h) | h
            · exact .inl h
            · exact .inr (.inl h)
            · exact .inr (.inr h)
          clear hbl HBM HBN
          have HZ3 := Lib.hid hz3
          clear hz3
          go_wp2_with fail
          refine (HM.out _).mono ?_
          rintro e w1 ⟨rfl, hw1⟩
          rw [hw1]
          clear hw1
          go_wp2_with fail
          refine (HN.out _).mono ?_
          rintro e w1 ⟨rfl, hw1⟩
          rw [hw1]
          clear hw1
          rcases HZ3.out with h3 | h3 | h3 <;> subst h3
          all_goals go_wp2_with fail
          all_goals go_roundw
          all_goals first | exact ⟨j + 1, _, _, _, _, by go_num, rfl, HIn.out, HKn⟩ | (simp [Go.RowKit.intOf]; omega)
        · have hblf : blI z = false := by simpa using hbl
          have hz3 : (z == 32) = false ∧ (z == 9) = false ∧ (z == 10) = false := by
            unfold blI at hblf
            simp only [Bool.or_eq_false_iff, decide_eq_false_iff_not] at hblf
            exact ⟨by simpa using hblf.1.1, by simpa using hblf.1.2, by simpa using hblf.2⟩
          obtain ⟨e32, e9, e10⟩ := hz3
          have HBL := Lib.hid hblf
          clear hbl hblf
          by_cases h37 : z = 37
          · subst h37
            clear HBM HBN HBL
            have HKn : Hid (RnX l o j) := Lib.hid (HK.out.note HU.out HZ.out)
            go_wp2_with fail
            refine (HM.out _).mono ?_
            rintro e w1 ⟨rfl, hw1⟩
            rw [hw1]
            clear hw1
            go_wp2_with fail
            refine (HN.out _).mono ?_
            rintro e w1 ⟨rfl, hw1⟩
            rw [hw1]
            clear hw1 HM HN
            go_wp2_with fail
            go_loopw [5] (fun i w9 => ∃ k : Nat, i = .int .i64 k ∧ j ≤ k ∧ k ≤ l.length ∧ (0 < k - j ∨ k = j) ∧ w9 = wr ∧ Hid (RnX l o k)) (fun i _ => l.length - (Go.RowKit.intOf i).toNat)
            case atStart => exact ⟨j, rfl, Nat.le_refl _, Nat.le_of_lt hlt, .inr rfl, rfl, HKn⟩
            case round =>
              clear HKn HK
              obtain ⟨k, rfl, hjk, hkl, hpr, rfl, HRN⟩ := hrel
              by_cases hk : k < l.length
              · obtain ⟨u2, hu2⟩ := at_ofX (l := l) rfl hk
                obtain ⟨b', o', e, c2⟩ := (HY.out.keep HI.out.below).at_ k u2 hu2
                cases e
                rw [show bV u2 = .int .u8 (bI u2) from rfl] at c2
                have hk0 : (0 : Int) ≤ k := by omega
                have hk1 : (k : Int) < l.length := by omega
                by_cases h10 : bI u2 = 10
                · have HKn : Hid (RkX l o k) := Lib.hid (HRN.out.feed hu2 h10)
                  have hne : j < k := by
                    rcases hpr with h | h
                    · omega
                    · subst h
                      have h1 := HU.out
                      rw [hu2] at h1
                      cases h1
                      have h2 := HZ.out
                      omega
                  have HIn : Hid (RtI l w k A' n' c' o wr) := Lib.hid ⟨HI.out.below, HI.out.row, hkl, by have := HI.out.few; omega⟩
                  rw [h10] at c2
                  clear hu2
                  go_wp2_with fail
                  go_roundw
                  case rel => exact ⟨k, _, _, _, _, rfl, rfl, HIn.out, HKn⟩
                  case measure => simp [Go.RowKit.intOf]; omega
                · have HRNn : Hid (RnX l o (k + 1)) := Lib.hid (HRN.out.step hu2 h10)
                  have h10' : (bI u2 == 10) = false := by simpa using h10
                  have h10n : (bI u2 != 10) = true := by simpa using h10
                  clear hu2
                  go_wp2_with fail
                  go_roundw
                  case rel => exact ⟨k + 1, by go_num, by omega, hk, .inl (by omega), by simp, HRNn⟩
                  case measure => simp [Go.RowKit.intOf]; omega
              · have HKn : Hid (RkX l o k) := Lib.hid (HRN.out.done (by omega))
                have HIn : Hid (RtI l w k A' n' c' o wr) := Lib.hid ⟨HI.out.below, HI.out.row, hkl, by have := HI.out.few; omega⟩
                go_wp2_with fail
                go_roundw
                case rel => exact ⟨k, _, _, _, _, rfl, rfl, HIn.out, HKn⟩
                case measure => simp [Go.RowKit.intOf]; omega
          · have e37 : (z == 37) = false := by simpa using h37
            cases bm with
            | true =>
              have hmk : mkI (bI u) = true := by rw [HZ.out]; exact HBM.out
              obtain ⟨g7, cap7, w7, hrun7, hI7⟩ := HI.out.push 1 ⟨#[u]⟩ hle2 (Nat.lt_succ_self j) hlt
              have HKn : Hid (RkX l (o ++ [(1, ⟨#[u]⟩)]) (j + 1)) := Lib.hid (HK.out.mark HU.out hmk)
              have HIn := Lib.hid hI7
              have hcv := run_string ((HY.out.keep HI.out.below).sub j (j + 1) (by omega) hlt)
              rw [show (l.drop j).take (j + 1 - j) = [u] by rw [take_snoc HU.out (Nat.le_refl _), Nat.sub_self]; rfl, show j + 1 - j = 1 by omega] at hcv
              have n4 : ¬ c = j := by omega
              have hj1 : (0 : Int) ≤ (j : Int) + 1 := by omega
              clear hI7 HBM HBN HBL hmk
              obtain ⟨su, hsu⟩ : ∃ su, (ByteArray.mk [u].toArray) = su := ⟨_, rfl⟩
              have hsu' : (⟨#[u]⟩ : ByteArray) = su := hsu
              rw [hsu'] at hrun7
              rw [hsu] at hcv
              have HSU := Lib.hid hsu
              clear hsu hsu'
              go_wp2_with fail
              refine (HM.out _).mono ?_
              rintro e w1 ⟨rfl, hw1⟩
              rw [hw1]
              clear hw1
              go_wp2_with fail
              refine (HN.out _).mono ?_
              rintro e w1 ⟨rfl, hw1⟩
              rw [hw1]
              clear hw1 HM HN
              go_wp2_with (at_builtin; first | (refine Lib.wpList_append_run _ rfl _ _ _ _ rfl _ _ rfl rfl _ _ hrun7 ?_; clear hrun7))
              go_roundw
              case rel => exact ⟨j + 1, _, _, _, _, by go_num, rfl, HIn.out, HKn⟩
              case measure => simp [Go.RowKit.intOf]; omega
            | false =>
              cases bn with
              | false =>
                have hnone := HK.out.bad HU.out (by rw [HZ.out]; exact HBN.out) (by rw [HZ.out]; exact h37) (by rw [HZ.out]; exact HBM.out) (by rw [HZ.out]; exact HBL.out)
                have HE1 := Lib.hid (show lexE l = 8 by rw [HE.out, hnone]; rfl)
                have HT1 := Lib.hid (show lexT l = [] by rw [HT.out, hnone]; rfl)
                clear hnone HBM HBN HBL
                go_wp2_with fail
                refine (HM.out _).mono ?_
                rintro e w1 ⟨rfl, hw1⟩
                rw [hw1]
                clear hw1
                go_wp2_with fail
                refine (HN.out _).mono ?_
                rintro e w1 ⟨rfl, hw1⟩
                rw [hw1]
                clear hw1 HM HN
                go_wp2_with fail
                go_ret2
                exact ⟨none, 0, 0, by rw [HE1.out]; rfl, by rw [HT1.out]; exact TRow.nil _ _, HI.out.below⟩
              | true =>
                have HKm : Hid (RmX l o j j) := Lib.hid HK.out.name
                have HNU : Hid (nmI (bI u) = true) := Lib.hid (by rw [HZ.out]; exact HBN.out)
                clear HBM HBN HBL
                go_wp2_with fail
                refine (HM.out _).mono ?_
                rintro e w1 ⟨rfl, hw1⟩
                rw [hw1]
                clear hw1
                go_wp2_with fail
                refine (HN.out _).mono ?_
                rintro e w1 ⟨rfl, hw1⟩
                rw [hw1]
                clear hw1 HM HN
                go_wp2_with fail
                go_loopw [8, 9] (fun q i w9 => ∃ (k : Nat) (r : Bool), q = .bool r ∧ i = .int .i64 k ∧ j ≤ k ∧ k ≤ l.length ∧ w9 = wr ∧ Hid (RmX l o j k) ∧ Hid (r = true → ∃ u, l[k]? = some u ∧ nmI (bI u) = true) ∧ Hid (r = false → j < k ∧ ∀ u, l[k]? = some u → nmI (bI u) = false)) (fun _ i _ => l.length - (Go.RowKit.intOf i).toNat)
                case atStart => exact ⟨j, true, rfl, rfl, Nat.le_refl _, Nat.le_of_lt hlt, rfl, HKm, Lib.hid (fun _ => ⟨u, HU.out, HNU.out⟩), Lib.hid (fun e => by cases e)⟩
                case round =>
                  clear HKm HK
                  obtain ⟨k, r, rfl, rfl, hjk, hkl, rfl, HRM, HT1, HF1⟩ := hrel
                  cases r with
                  | true =>
                    obtain ⟨u1, hu1, hn1⟩ := HT1.out rfl
                    have hk : k < l.length := (List.getElem?_eq_some_iff.1 hu1).1
                    have HRMn : Hid (RmX l o j (k + 1)) := Lib.hid (HRM.out.step hjk hu1 hn1)
                    clear HT1 HF1 hu1 hn1
                    by_cases hk2 : k + 1 < l.length
                    · obtain ⟨u2, hu2⟩ := at_ofX (l := l) rfl hk2
                      obtain ⟨b', o', e, c2⟩ := (HY.out.keep HI.out.below).at_ (k + 1) u2 hu2
                      cases e
                      rw [show bV u2 = .int .u8 (bI u2) from rfl] at c2
                      have hk0 : (0 : Int) ≤ (k : Int) + 1 := by omega
                      have hk1 : (k : Int) + 1 < l.length := by omega
                      have HU2 := Lib.hid hu2
                      clear hu2
                      go_wp2_with (refine (xNamedC _ _).mono ?_; rintro e w2 ⟨rfl, hw2⟩; rw [hw2]; clear hw2)
                      go_roundw
                      case rel => exact ⟨k + 1, _, rfl, by go_num, by omega, hk, by simp, HRMn, Lib.hid fun e => ⟨u2, HU2.out, e⟩, Lib.hid fun e => ⟨by omega, fun u3 h3 => by rw [HU2.out] at h3; cases h3; exact e⟩⟩
                      case measure => simp [Go.RowKit.intOf]; omega
                    · have hk1 : ¬ ((k : Int) + 1 < l.length) := by omega
                      have hk2' : ¬ (k + 1 < l.length) := hk2
                      go_wp2_with fail
                      go_roundw
                      case rel => exact ⟨k + 1, false, (by first | rfl | (simp; omega)), by go_num, by omega, hk, by simp, HRMn, Lib.hid (fun e => by cases e), Lib.hid fun e => ⟨by omega, fun u3 h3 => by rw [List.getElem?_eq_none (by omega)] at h3; cases h3⟩⟩
                      case measure => simp [Go.RowKit.intOf]; omega
                  | false =>
                    obtain ⟨hjk', hstop⟩ := HF1.out rfl
                    obtain ⟨g7, cap7, w7, hrun7, hI7⟩ := HI.out.push 0 ⟨((l.drop j).take (k - j)).toArray⟩ hle2 hjk' hkl
                    have HKn : Hid (RkX l (o ++ [(0, ⟨((l.drop j).take (k - j)).toArray⟩)]) k) := Lib.hid (HRM.out.stop hjk' hkl hstop)
                    have HIn := Lib.hid hI7
                    have hcv := run_string ((HY.out.keep HI.out.below).sub j k hjk hkl)
                    have n4 : ¬ c = j := by omega
                    have hj1 : (0 : Int) ≤ (k : Int) := by omega
                    have hj2 : (j : Int) ≤ (k : Int) := by omega
                    have hj3 : (k : Int) ≤ (c : Int) := by omega
                    have hj4 : ((k : Int) - (j : Int)).toNat = k - j := by omega
                    clear hI7 hstop HF1 HT1
                    obtain ⟨su, hsu⟩ : ∃ su, (ByteArray.mk ((l.drop j).take (k - j)).toArray) = su := ⟨_, rfl⟩
                    rw [hsu] at hrun7 hcv HKn HIn
                    clear hsu
                    go_wp2_with (at_builtin; first | (refine Lib.wpList_append_run _ rfl _ _ _ _ rfl _ _ rfl rfl _ _ hrun7 ?_; clear hrun7))
                    go_roundw
                    case rel => exact ⟨k, _, _, _, _, rfl, rfl, HIn.out, HKn⟩
                    case measure => simp [Go.RowKit.intOf]; omega
      · have HF := Lib.hid (HK.out.done (by omega))
        have HE1 := Lib.hid (show lexE l = 0 by rw [HE.out, HF.out]; rfl)
        have HT1 := Lib.hid (show lexT l = o by rw [HT.out, HF.out]; rfl)
        have HI := Lib.hid hI
        clear hI
        go_wp2_with fail
        go_ret2
        exact ⟨A', n', c', by rw [HE1.out]; rfl, by rw [HT1.out]; exact HI.out.row, HI.out.below⟩
end Go.Proofs.YtmkahbbcagfbhaaDoor

/-
  Contract of the document's own Scoped.
-/
namespace Go.Proofs.YtmkahbbcagfbhaaDoor
open Go.ChangeShapes Go.WideShapes Go.ChangeAt Go.RowKit
set_option linter.unusedVariables false

set_option maxHeartbeats 2000000 in
theorem refScoped (t : T) : ∀ (vars metas : Int) (v : Value) (w : World), Rd w t v →
    Calls Tryd.prog 29 #[v, .int .i64 vars, .int .i64 metas] w fun e w' => e = .returned (.bool (scB t vars metas)) ∧ Below w.heap.size w w' := by
  induction t using T.ind with
  | step k h xs ih =>
    intro vars metas v w hv
    obtain ⟨A, n, c, rfl, hk, hh, hn, hc, hm, hx⟩ := Rd_node.1 hv
    clear hv
    have HM := Lib.hid hm
    unfold maxLen at hm
    have HN := Lib.hid hn; clear hn
    have HX := Lib.hid hx; clear hx
    have IH := Lib.hid ih; clear ih
    by_cases hin : headIn k h vars metas = true
    · have HI := Lib.hid hin; clear hin
      have tests : (k = 4 ∧ h < vars) ∨ (k = 6 ∧ h < metas) ∨ (k ≠ 4 ∧ k ≠ 6) := by
        have := HI.out
        simp only [headIn, Bool.not_eq_true', Bool.or_eq_false_iff, Bool.and_eq_false_iff, beq_eq_false_iff_ne, decide_eq_false_iff_not] at this
        omega
      rcases tests with ⟨rfl, t2⟩ | ⟨rfl, t2⟩ | ⟨t1, t2⟩
      case' inl => (have e1 : decide (vars ≤ h) = false := by simpa using t2)
      case' inr.inl => (have e1 : decide (metas ≤ h) = false := by simpa using t2)
      case' inr.inr => (have e1 : (k == 4) = false := by simpa using t1); (have e2 : (k == 6) = false := by simpa using t2)
      all_goals
        go_enter Tryd.func29, Tryd.ntmps29
        go_wp2_with fail
        go_loopw [7] (fun i wr => ∃ (j : Nat), j ≤ n ∧ i = .int .i64 j ∧ Hid (scL _ n (xs.drop j) j vars metas = scB (.node _ h xs) vars metas) ∧ Box wr w.heap.size 24 #[.int .i64 _, .int .i64 h, .slice A n c] ∧ Below w.heap.size w wr) (fun i _ => n - (intOf i).toNat)
        case atStart => exact ⟨0, Nat.zero_le _, rfl, Lib.hid (by have := HI.out; rw [headIn] at this; rw [scB, this, HN.out]; rfl), Box.new _ _ _, (Below.refl _ _).alloc (Nat.le_refl _) _⟩
        case round =>
          obtain ⟨j, hj, rfl, HS, hbox, hb⟩ := hrel
          obtain ⟨b0, b1, b2⟩ := hbox.three
          by_cases hlt : j < n
          · obtain ⟨t, ht⟩ := at_of HN.out hlt
            obtain ⟨b, o, v0, v1, v2, rfl, c0, c1, c2, hr⟩ := RdAt.keep hb (HX.out j t ht)
            have HT := Lib.hid ht; clear ht
            go_wp2_with fail
            have HS' := HS.out
            rw [drop_at HT.out, scL] at HS'
            have HS := Lib.hid HS'; clear HS'
            have pb0 := Past.cell b0
            have pb1 := Past.cell b1
            have pb2 := Past.cell b2
            have p0 := Past.cell c0
            have p1 := Past.cell c1
            have p2 := Past.cell c2
            have hi0 : (0 : Int) ≤ j := by omega
            have hi1 : (j : Int) < n := by omega
            refine wp_region_past (by kernel_rfl) (by kernel_rfl) ?_
            repeat (go_big_quiet_step ((first
              | (go_at_call 48; exact calls_past (refBinds _ _ _ _ _ hc HM.out j (by unfold maxLen; omega) _))
              | (go_at_call 29; exact calls_past (IH.out t (List.mem_of_getElem? HT.out) _ _ _ _ (Rd.keep (Past.h _) _ _ hr))))))
            refine wpQuiet_nil ?_
            rintro _ ⟨z, rfl⟩
            clear pb0 pb1 pb2 p0 p1 p2
            obtain ⟨w1, hb1⟩ := z
            dsimp only
            generalize scB t _ metas = r at *
            cases r
            · go_wp2_with fail
              go_ret
              exact ⟨ret_bool (by simpa using HS.out), hb.trans (hb1.mono hb.size)⟩
            · go_wp2_with fail
              go_roundw
              case rel => exact ⟨j + 1, by omega, by go_num, Lib.hid (by simpa using HS.out), hbox.keep hb1 hbox.lt, hb.trans (hb1.mono hb.size)⟩
              case measure => simp [intOf]; omega
          · go_wp2_with fail
            go_ret
            exact ⟨ret_bool (by have := HS.out; rw [drop_all HN.out (by omega), scL] at this; exact this), hb⟩
    · have HI := Lib.hid hin; clear hin
      have tests : (k = 4 ∧ vars ≤ h) ∨ (k = 6 ∧ metas ≤ h) := by
        have := HI.out
        simp only [headIn, Bool.not_eq_true', Bool.or_eq_false_iff, Bool.and_eq_false_iff, beq_eq_false_iff_ne, decide_eq_false_iff_not] at this
        omega
      have hb : Below w.heap.size w (w.alloc (.cells #[.int .i64 k, .int .i64 h, .slice A n c] 24)) := (Below.refl _ _).alloc (Nat.le_refl _) _
      have E : scB (.node k h xs) vars metas = false := by
        rw [scB]
        have := HI.out
        simp only [headIn, Bool.not_eq_true] at this
        rw [this]; rfl
      rcases tests with ⟨rfl, t2⟩ | ⟨rfl, t2⟩
      case' inl => (have e1 : decide (vars ≤ h) = true := by simpa using t2)
      case' inr => (have e1 : decide (metas ≤ h) = true := by simpa using t2)
      all_goals
        have E := Lib.hid E
        go_enter Tryd.func29, Tryd.ntmps29
        go_wp2_with fail
        go_ret
        exact ⟨ret_bool E.out.symm, hb⟩
end Go.Proofs.YtmkahbbcagfbhaaDoor

/-
  Contracts of the document's own small functions of layer 15. No statement is proved here.
-/
namespace Go.Proofs.YtmkahbbcagfbhaaDoor
open Go.ChangeShapes Go.WideShapes Go.ChangeAt Go.RowKit
set_option linter.unusedVariables false

theorem dig_row (w : World) (m : Nat) (hm : m < 10) (x : Int) (hx : x = 48 + (m : Int)) : YL (w.alloc (.cells #[.int .u8 x] 5)) [dig m] (some ⟨w.heap.size, 0, none⟩) 1 1 :=
  ⟨rfl, Nat.le_refl _, by unfold maxLen; omega, fun i u hu => by
    match i, hu with
    | 0, hu =>
      have e : dig m = u := by simpa using hu
      subst e
      refine ⟨w.heap.size, 0, rfl, ?_⟩
      have h := (BoxX.new w 5 #[.int .u8 x]).cell 0
      rw [Nat.zero_add, h, bV, dig_nat hm, hx]
      simp
    | i + 1, hu => simp at hu⟩
set_option maxRecDepth 100000 in
set_option maxHeartbeats 1000000 in
theorem rDigitsC (d : Nat) (hd : d < 100) (w : World) : Calls Tryd.prog 63 #[.int .i64 d] w fun e w' => e = .returned (.string ⟨(dgL d).toArray⟩) ∧ Below w.heap.size w w' := by
  go_enter Tryd.func63, Tryd.ntmps63
  go_wp2_with fail
  go_loopw [0, 3] (fun n s wr => ∃ (m : Nat) (z : ByteArray), n = .int .i64 (m : Nat) ∧ s = .string z ∧ Hid (Below w.heap.size w wr) ∧ m < 100 ∧ z.size ≤ 1 ∧ ((m = d ∧ z = ⟨#[]⟩) ∨ (10 ≤ d ∧ m = d / 10 ∧ z = ⟨#[dig (d % 10)]⟩))) (fun n _ _ => (Go.RowKit.intOf n).toNat)
  case atStart => exact ⟨d, _, rfl, rfl, Lib.hid (Below.refl _ _), hd, by show 0 ≤ 1; omega, .inl ⟨rfl, rfl⟩⟩
  case round =>
    obtain ⟨m, z, rfl, rfl, HB, hm, hz, hcase⟩ := hrel
    have HC := Lib.hid hcase
    obtain ⟨W1, hW1⟩ : ∃ W1, wr.alloc (.cells #[.int .u8 (48 + (m : Int) % 10)] 5) = W1 := ⟨_, rfl⟩
    have hcv := run_string (dig_row wr (m % 10) (by omega) (48 + (m : Int) % 10) (by omega))
    have hb1 : Below wr.heap.size wr W1 := by rw [← hW1]; exact (Below.refl _ _).alloc (Nat.le_refl _) _
    rw [hW1] at hcv
    have HB1 := Lib.hid (HB.out.trans (hb1.mono HB.out.size))
    obtain ⟨s1, hs1⟩ : ∃ s1 : ByteArray, (⟨[dig (m % 10)].toArray⟩ : ByteArray) = s1 := ⟨_, rfl⟩
    have hz1 : s1.size ≤ 1 := by rw [← hs1]; show 1 ≤ 1; omega
    have hz2 : (s1 ++ z).size ≤ 2 := by rw [ByteArray.size_append]; omega
    rw [hs1] at hcv
    have HS1 := Lib.hid hs1
    clear hs1 hcase hb1
    by_cases h10 : m < 10
    · have dq : ((m : Int) / 10 == 0) = true := by simp; omega
      go_wp2_with fail
      go_ret
      refine ⟨?_, HB1.out⟩
      rw [← HS1.out]
      rcases HC.out with ⟨rfl, rfl⟩ | ⟨h1, rfl, rfl⟩
      · rw [dgL, if_pos h10, Nat.mod_eq_of_lt h10]
        rfl
      · rw [dgL, if_neg (by omega), Nat.mod_eq_of_lt h10]
        rfl
    · have dq : ((m : Int) / 10 == 0) = false := by simp; omega
      have hmd : m = d ∧ z = ⟨#[]⟩ := by
        rcases HC.out with h | ⟨_, h, _⟩
        · exact h
        · omega
      have hsz : s1 ++ z = ⟨#[dig (d % 10)]⟩ := by rw [← HS1.out, hmd.1, hmd.2]; rfl
      have HZ := Lib.hid (And.intro hmd hsz)
      clear hmd hsz
      go_wp2_with fail
      go_roundw
      case rel => exact ⟨m / 10, s1 ++ z, by go_num, rfl, HB1, by omega, by rw [HZ.out.2]; show 1 ≤ 1; omega, .inr ⟨by have := HZ.out.1.1; omega, by rw [HZ.out.1.1], HZ.out.2⟩⟩
      case measure => simp [Go.RowKit.intOf]; omega
set_option maxRecDepth 100000 in
theorem rName15C (s : ByteArray) (w : World) : Calls Tryd.prog 49 #[.string s] w fun e w' => e = .returned (.agg #[.int .i64 0, .string s]) ∧ Below w.heap.size w w' := by
  have hb : Below w.heap.size w (w.alloc (.cells #[.int .i64 0, .string ⟨#[]⟩] 64)) := (Below.refl _ _).alloc (Nat.le_refl _) _
  have x0 := (((BoxX.new w 64 #[.int .i64 0, .string ⟨#[]⟩]).put 0 (.int .i64 0)).put 1 (.string s))
  have c0 := x0.cell 0
  have c1 := x0.cell 1
  simp only [List.setIfInBounds_toArray, List.set_cons_zero, List.set_cons_succ, List.getElem?_toArray, List.getElem?_cons_zero, List.getElem?_cons_succ] at c0 c1
  go_enter Tryd.func49, Tryd.ntmps49
  go_wp2_with fail
  refine bodyPost_ret (v := .agg #[.int .i64 0, .string s]) (by simp [results, Tryd.results49, go_sem]) rfl ?_
  exact ⟨rfl, (Below.refl _ _).alloc (Nat.le_refl _) _⟩
set_option maxRecDepth 100000 in
theorem rMark15C (s : ByteArray) (w : World) : Calls Tryd.prog 50 #[.string s] w fun e w' => e = .returned (.agg #[.int .i64 1, .string s]) ∧ Below w.heap.size w w' := by
  have hb : Below w.heap.size w (w.alloc (.cells #[.int .i64 0, .string ⟨#[]⟩] 64)) := (Below.refl _ _).alloc (Nat.le_refl _) _
  have x0 := (((BoxX.new w 64 #[.int .i64 0, .string ⟨#[]⟩]).put 0 (.int .i64 1)).put 1 (.string s))
  have c0 := x0.cell 0
  have c1 := x0.cell 1
  simp only [List.setIfInBounds_toArray, List.set_cons_zero, List.set_cons_succ, List.getElem?_toArray, List.getElem?_cons_zero, List.getElem?_cons_succ] at c0 c1
  go_enter Tryd.func50, Tryd.ntmps50
  go_wp2_with fail
  refine bodyPost_ret (v := .agg #[.int .i64 1, .string s]) (by simp [results, Tryd.results50, go_sem]) rfl ?_
  exact ⟨rfl, (Below.refl _ _).alloc (Nat.le_refl _) _⟩
set_option maxRecDepth 100000 in
theorem rBound15C (d : Nat) (hd : d < 100) (w : World) : Calls Tryd.prog 51 #[.int .i64 d] w fun e w' => e = .returned (.agg #[.int .i64 0, .string (bnm d)]) ∧ Below w.heap.size w w' := by
  obtain ⟨W, hW⟩ : ∃ W, w.alloc (.cells #[.int .i64 0, .string ⟨#[]⟩] 64) = W := ⟨_, rfl⟩
  have hbW : Below w.heap.size w W := by rw [← hW]; exact (Below.refl _ _).alloc (Nat.le_refl _) _
  have x0 : BoxX W w.heap.size 64 #[.int .i64 0, .string ⟨#[]⟩] := by rw [← hW]; exact BoxX.new _ _ _
  have HC := Lib.hid (rDigitsC d hd W)
  obtain ⟨r, hr⟩ : ∃ r, (⟨(dgL d).toArray⟩ : ByteArray) = r := ⟨_, rfl⟩
  have HR := Lib.hid (show (⟨#[95]⟩ : ByteArray) ++ r = bnm d by rw [← hr]; exact bnm_add d)
  have hsz : r.size ≤ 2 := by
    rw [← hr]
    show (dgL d).toArray.size ≤ 2
    unfold dgL
    split <;> simp
  have hsz2 : ((⟨#[95]⟩ : ByteArray) ++ r).size ≤ 3 := by rw [ByteArray.size_append]; show 1 + r.size ≤ 3; omega
  rw [hr] at HC
  clear hr
  subst hW
  go_enter Tryd.func51, Tryd.ntmps51
  go_wp2_with fail
  refine HC.out.mono ?_
  rintro e w1 ⟨rfl, hb1⟩
  have y0 := x0.keep hb1 x0.lt
  have HB1 := Lib.hid (hbW.trans (hb1.mono hbW.size))
  clear HC x0 hbW hb1
  go_wp2_with fail
  refine (rName15C _ w1).mono ?_
  rintro e w2 ⟨rfl, hb2⟩
  rw [HR.out]
  have HB2 := Lib.hid (HB1.out.trans (hb2.mono HB1.out.size))
  have y2 := y0.keep hb2 y0.lt
  have z9 := (y2.put 0 (.int .i64 0)).put 1 (.string (bnm d))
  have e0 := z9.cell 0
  have e1 := z9.cell 1
  have r0 := y2.cell 0
  have r1 := y2.cell 1
  have fz0 := y2.frozen 0
  have fz1 := y2.frozen 1
  have lz := y2.lt
  simp only [List.setIfInBounds_toArray, List.set_cons_zero, List.set_cons_succ, List.getElem?_toArray, List.getElem?_cons_zero, List.getElem?_cons_succ] at e0 e1 r0 r1
  clear z9 y2 y0 HB1 hb2 hsz hsz2
  go_wp2_with fail
  refine bodyPost_ret (v := .agg #[.int .i64 0, .string (bnm d)]) (by simp [results, Tryd.results51, go_sem, e0, e1]) rfl ?_
  exact ⟨rfl, (HB2.out.setCell (p := ⟨w.heap.size, 0, none⟩) (by dsimp only; omega) (.int .i64 0)).setCell (p := ⟨w.heap.size, 1, none⟩) (by dsimp only; omega) (.string (bnm d))⟩
set_option maxRecDepth 100000 in
theorem rPlainC (k h : Int) (A : Option Addr) (n c : Nat) (w : World) : Calls Tryd.prog 52 #[.agg #[.int .i64 k, .int .i64 h, .slice A n c]] w fun e w' => e = .returned (.bool (k == 4 || (k == 2 || k == 5))) ∧ Below w.heap.size w w' := by
  have hb : Below w.heap.size w (w.alloc (.cells #[.int .i64 k, .int .i64 h, .slice A n c] 24)) := (Below.refl _ _).alloc (Nat.le_refl _) _
  by_cases h4 : k = 4
  · subst h4
    go_enter Tryd.func52, Tryd.ntmps52
    go_wp2_with fail
    go_ret
    exact ⟨rfl, hb⟩
  have d4 : (k == 4) = false := by simpa using h4
  by_cases h2 : k = 2
  · subst h2
    go_enter Tryd.func52, Tryd.ntmps52
    go_wp2_with fail
    go_ret
    exact ⟨rfl, hb⟩
  have d2 : (k == 2) = false := by simpa using h2
  go_enter Tryd.func52, Tryd.ntmps52
  go_wp2_with fail
  go_ret
  exact ⟨ret_bool (by rw [d4, d2]; rfl), hb⟩
set_option maxRecDepth 100000 in
set_option maxHeartbeats 1000000 in
/-- the document's heads, whatever the term -/
theorem rHeadsC (sn : Nat) (hsn : sn ≤ maxLen) (t : T) : ∀ (v : Value) (w : World), Rd w t v → Calls Tryd.prog 30 #[v, .int .i64 (sn : Nat)] w fun e w' => e = .returned (.bool (hasB sn t)) ∧ Below w.heap.size w w' := by
  refine T.ind (M := fun t => ∀ (v : Value) (w : World), Rd w t v → Calls Tryd.prog 30 #[v, .int .i64 (sn : Nat)] w fun e w' => e = .returned (.bool (hasB sn t)) ∧ Below w.heap.size w w') ?_ t
  intro k h xs ih v w hv
  obtain ⟨A, n, c, rfl, hk, hh, hn, hc, hm, hx⟩ := Rd_node.1 hv
  clear hv hk
  unfold maxLen at hm hsn
  obtain ⟨W, hW⟩ : ∃ W, w.alloc (.cells #[.int .i64 k, .int .i64 h, .slice A n c] 24) = W := ⟨_, rfl⟩
  have hb : Below w.heap.size w W := by rw [← hW]; exact (Below.refl _ _).alloc (Nat.le_refl _) _
  have x0 : BoxX W w.heap.size 24 #[.int .i64 k, .int .i64 h, .slice A n c] := by rw [← hW]; exact BoxX.new _ _ _
  have c0 := x0.cell 0
  have c1 := x0.cell 1
  have c2 := x0.cell 2
  simp only [List.getElem?_toArray, List.getElem?_cons_zero, List.getElem?_cons_succ] at c0 c1 c2
  have HN := Lib.hid hn
  have HX := Lib.hid hx
  have HI := Lib.hid ih
  have HB := Lib.hid hb
  have HX0 := Lib.hid x0
  have e : hasB sn (.node k h xs) = (!((k == 2 || k == 5) && decide ((sn : Int) ≤ h)) && xs.all (hasB sn)) := by rw [hasB, hasL_all]
  rw [e]
  clear hn hx ih hb x0 e
  by_cases hbad : (k = 2 ∨ k = 5) ∧ (sn : Int) ≤ h
  · have d1 : decide ((sn : Int) ≤ h) = true := by simpa using hbad.2
    rcases hbad.1 with rfl | rfl
    all_goals (clear hbad; go_enter Tryd.func30, Tryd.ntmps30; go_wp2_with fail; go_ret; exact ⟨ret_bool (by simp [d1]), HB.out⟩)
  · have hr : (!((k == 2 || k == 5) && decide ((sn : Int) ≤ h)) && xs.all (hasB sn)) = xs.all (hasB sn) := by
      have : ((k == 2 || k == 5) && decide ((sn : Int) ≤ h)) = false := by
        rw [Bool.eq_false_iff]
        intro hh
        simp only [Bool.and_eq_true, Bool.or_eq_true, beq_iff_eq, decide_eq_true_eq] at hh
        exact hbad hh
      rw [this]; rfl
    rw [hr]
    clear hr
    have key : (k = 2 ∧ decide ((sn : Int) ≤ h) = false) ∨ (k = 5 ∧ decide ((sn : Int) ≤ h) = false) ∨ ((k == 2) = false ∧ (k == 5) = false) := by
      by_cases h2 : k = 2
      · exact .inl ⟨h2, by simp; have := fun hh => hbad ⟨.inl h2, hh⟩; omega⟩
      · by_cases h5 : k = 5
        · exact .inr (.inl ⟨h5, by simp; have := fun hh => hbad ⟨.inr h5, hh⟩; omega⟩)
        · exact .inr (.inr ⟨by simpa using h2, by simpa using h5⟩)
    clear hbad
    rcases key with ⟨rfl, d1⟩ | ⟨rfl, d1⟩ | ⟨d1, d2⟩
    · go_enter Tryd.func30, Tryd.ntmps30
      go_wp2_with fail
      try rw [hW]
      clear hW
      go_loopw [5] (fun i wr => ∃ (j : Nat), j ≤ n ∧ i = .int .i64 j ∧ Hid ((xs.drop j).all (hasB sn) = xs.all (hasB sn)) ∧ Hid (Below W.heap.size W wr)) (fun i _ => n - (intOf i).toNat)
      case atStart => exact ⟨0, Nat.zero_le _, rfl, Lib.hid (by simp), Lib.hid (Below.refl _ _)⟩
      case round =>
        clear c0 c1 c2
        obtain ⟨j, hj, rfl, HS, HBr⟩ := hrel
        have x1 := HX0.out.keep HBr.out HX0.out.lt
        have c0 := x1.cell 0
        have c1 := x1.cell 1
        have c2 := x1.cell 2
        simp only [List.getElem?_toArray, List.getElem?_cons_zero, List.getElem?_cons_succ] at c0 c1 c2
        clear x1
        by_cases hlt : j < n
        · obtain ⟨t, ht⟩ := at_of HN.out hlt
          obtain ⟨b, o, k2, h2, A2, n2, c2', rfl, p0, p1, p2, hr⟩ := (RdAt.keep (HB.out.trans (HBr.out.mono HB.out.size)) (HX.out j t ht)).full
          have HT := Lib.hid ht
          have hi0 : (0 : Int) ≤ j := by omega
          have hi1 : (j : Int) < n := by omega
          have HM := Lib.hid (HI.out t (List.mem_of_getElem? ht) _ wr hr)
          have HS' := HS.out
          rw [drop_at ht, List.all_cons] at HS'
          have HS2 := Lib.hid HS'
          clear HS' HS ht hr
          generalize hasB sn t = r at *
          go_wp2_with fail
          refine HM.out.mono ?_
          rintro e w1 ⟨rfl, hb1⟩
          have HB1 := Lib.hid (HBr.out.trans (hb1.mono HBr.out.size))
          clear hb1 HM c0 c1 c2 p0 p1 p2
          cases r
          · go_wp2_with fail
            go_ret
            exact ⟨ret_bool (by rw [← HS2.out]; rfl), HB.out.trans (HB1.out.mono HB.out.size)⟩
          · go_wp2_with fail
            go_roundw
            case rel => exact ⟨j + 1, by omega, by go_num, Lib.hid (by simpa using HS2.out), HB1⟩
            case measure => simp [intOf]; omega
        · go_wp2_with fail
          go_ret
          exact ⟨ret_bool (by have := HS.out; rw [drop_all HN.out (by omega)] at this; exact this), HB.out.trans (HBr.out.mono HB.out.size)⟩
    · go_enter Tryd.func30, Tryd.ntmps30
      go_wp2_with fail
      try rw [hW]
      clear hW
      go_loopw [5] (fun i wr => ∃ (j : Nat), j ≤ n ∧ i = .int .i64 j ∧ Hid ((xs.drop j).all (hasB sn) = xs.all (hasB sn)) ∧ Hid (Below W.heap.size W wr)) (fun i _ => n - (intOf i).toNat)
      case atStart => exact ⟨0, Nat.zero_le _, rfl, Lib.hid (by simp), Lib.hid (Below.refl _ _)⟩
      case round =>
        clear c0 c1 c2
        obtain ⟨j, hj, rfl, HS, HBr⟩ := hrel
        have x1 := HX0.out.keep HBr.out HX0.out.lt
        have c0 := x1.cell 0
        have c1 := x1.cell 1
        have c2 := x1.cell 2
        simp only [List.getElem?_toArray, List.getElem?_cons_zero, List.getElem?_cons_succ] at c0 c1 c2
        clear x1
        by_cases hlt : j < n
        · obtain ⟨t, ht⟩ := at_of HN.out hlt
          obtain ⟨b, o, k2, h2, A2, n2, c2', rfl, p0, p1, p2, hr⟩ := (RdAt.keep (HB.out.trans (HBr.out.mono HB.out.size)) (HX.out j t ht)).full
          have HT := Lib.hid ht
          have hi0 : (0 : Int) ≤ j := by omega
          have hi1 : (j : Int) < n := by omega
          have HM := Lib.hid (HI.out t (List.mem_of_getElem? ht) _ wr hr)
          have HS' := HS.out
          rw [drop_at ht, List.all_cons] at HS'
          have HS2 := Lib.hid HS'
          clear HS' HS ht hr
          generalize hasB sn t = r at *
          go_wp2_with fail
          refine HM.out.mono ?_
          rintro e w1 ⟨rfl, hb1⟩
          have HB1 := Lib.hid (HBr.out.trans (hb1.mono HBr.out.size))
          clear hb1 HM c0 c1 c2 p0 p1 p2
          cases r
          · go_wp2_with fail
            go_ret
            exact ⟨ret_bool (by rw [← HS2.out]; rfl), HB.out.trans (HB1.out.mono HB.out.size)⟩
          · go_wp2_with fail
            go_roundw
            case rel => exact ⟨j + 1, by omega, by go_num, Lib.hid (by simpa using HS2.out), HB1⟩
            case measure => simp [intOf]; omega
        · go_wp2_with fail
          go_ret
          exact ⟨ret_bool (by have := HS.out; rw [drop_all HN.out (by omega)] at this; exact this), HB.out.trans (HBr.out.mono HB.out.size)⟩
    · go_enter Tryd.func30, Tryd.ntmps30
      go_wp2_with fail
      try rw [hW]
      clear hW
      go_loopw [5] (fun i wr => ∃ (j : Nat), j ≤ n ∧ i = .int .i64 j ∧ Hid ((xs.drop j).all (hasB sn) = xs.all (hasB sn)) ∧ Hid (Below W.heap.size W wr)) (fun i _ => n - (intOf i).toNat)
      case atStart => exact ⟨0, Nat.zero_le _, rfl, Lib.hid (by simp), Lib.hid (Below.refl _ _)⟩
      case round =>
        clear c0 c1 c2
        obtain ⟨j, hj, rfl, HS, HBr⟩ := hrel
        have x1 := HX0.out.keep HBr.out HX0.out.lt
        have c0 := x1.cell 0
        have c1 := x1.cell 1
        have c2 := x1.cell 2
        simp only [List.getElem?_toArray, List.getElem?_cons_zero, List.getElem?_cons_succ] at c0 c1 c2
        clear x1
        by_cases hlt : j < n
        · obtain ⟨t, ht⟩ := at_of HN.out hlt
          obtain ⟨b, o, k2, h2, A2, n2, c2', rfl, p0, p1, p2, hr⟩ := (RdAt.keep (HB.out.trans (HBr.out.mono HB.out.size)) (HX.out j t ht)).full
          have HT := Lib.hid ht
          have hi0 : (0 : Int) ≤ j := by omega
          have hi1 : (j : Int) < n := by omega
          have HM := Lib.hid (HI.out t (List.mem_of_getElem? ht) _ wr hr)
          have HS' := HS.out
          rw [drop_at ht, List.all_cons] at HS'
          have HS2 := Lib.hid HS'
          clear HS' HS ht hr
          generalize hasB sn t = r at *
          go_wp2_with fail
          refine HM.out.mono ?_
          rintro e w1 ⟨rfl, hb1⟩
          have HB1 := Lib.hid (HBr.out.trans (hb1.mono HBr.out.size))
          clear hb1 HM c0 c1 c2 p0 p1 p2
          cases r
          · go_wp2_with fail
            go_ret
            exact ⟨ret_bool (by rw [← HS2.out]; rfl), HB.out.trans (HB1.out.mono HB.out.size)⟩
          · go_wp2_with fail
            go_roundw
            case rel => exact ⟨j + 1, by omega, by go_num, Lib.hid (by simpa using HS2.out), HB1⟩
            case measure => simp [intOf]; omega
        · go_wp2_with fail
          go_ret
          exact ⟨ret_bool (by have := HS.out; rw [drop_all HN.out (by omega)] at this; exact this), HB.out.trans (HBr.out.mono HB.out.size)⟩
end Go.Proofs.YtmkahbbcagfbhaaDoor

/-
  Contract of the document's tokens. No statement is proved here.
-/
namespace Go.Proofs.YtmkahbbcagfbhaaDoor
open Go.ChangeShapes Go.WideShapes Go.ChangeAt Go.RowKit
set_option linter.unusedVariables false

/-- a list that was written out is a row of the call's own -/
theorem TRow.of_block {w : World} {base P : Nat} {ys : List Tk} {k : Nat} (hk : ys.length = k) (hP : w.heap[P]? = some (.cells (cellsT ys).toArray 64 (0, 0))) (hb : base ≤ P) (hm : k ≤ 1000000) : TRow w base (.slice (some ⟨P, 0, none⟩) k k) k ys := by
  subst hk
  refine ⟨⟨cellsT_len ys, .inr ⟨P, ys.length, (cellsT ys).toArray, rfl, hb, hP, Nat.le_refl _, by unfold maxLen; omega, by simp [cellsT_len], List.take_of_length_le (by simp [cellsT_len])⟩⟩, rfl⟩
theorem TL.cellsX {w : World} {x : List Tk} {b o n c : Nat} (h : TL w x (some ⟨b, o, none⟩) n c) : ∀ j u, (cellsT x)[j]? = some u → w.cell? ((⟨b, o, none⟩ : Addr).add j) = some u := by
  intro j u hu
  have hj : j < x.length * 2 := by have := (List.getElem?_eq_some_iff.1 hu).1; rwa [cellsT_len] at this
  obtain ⟨t, ht⟩ := at_ofX (l := x) (k := j / 2) rfl (by omega)
  obtain ⟨b', o', e, c0, c1⟩ := h.at_ _ t ht
  cases e
  obtain ⟨e0, e1⟩ := cellsT_at x _ t ht
  rw [addr_addX]
  rcases Nat.mod_two_eq_zero_or_one j with h2 | h2
  · rw [show j / 2 * 2 = j by omega] at e0 c0
    rw [hu] at e0
    cases e0
    exact c0
  · rw [show j / 2 * 2 + 1 = j by omega] at e1
    rw [show o + j / 2 * 2 + 1 = o + j by omega] at c1
    rw [hu] at e1
    cases e1
    exact c1
theorem TRow.appTL {w2 : World} {base : Nat} {v : Value} {n : Nat} {x ys : List Tk} (h : TRow w2 base v n x) {A : Option Addr} {m c : Nat} (hy : TL w2 ys A m c) (hm : 0 < m)
    (hbase : base ≤ w2.heap.size) (hn : n + m ≤ 1000000) :
    ∃ g cap w3, (Builtin.append_ #[47, 47] 47 #[v, .slice A m c]).run Tryd.prog w2 = .ok (.slice (some ⟨g, 0, none⟩) (n + m) cap) w3 ∧
      TRow w3 base (.slice (some ⟨g, 0, none⟩) (n + m) cap) (n + m) (x ++ ys) ∧ w2.grownBy w3 v.ownBlock := by
  obtain ⟨i0, hi, hz0, hz1, hz2⟩ : ∃ i, Tryd.prog.info? 64 = some i ∧ i.zero = some (.agg #[.int .i64 0, .string ⟨#[]⟩]) ∧ i.size = 2 ∧ i.bytes = 24 := by
    have hh := infoX
    cases hi : Tryd.prog.info? 64 with
    | none => rw [hi] at hh; cases hh
    | some i =>
      rw [hi] at hh
      simp at hh
      exact ⟨i, rfl, hh.1, hh.2.1, hh.2.2⟩
  obtain ⟨t, ht⟩ := at_ofX (l := ys) (k := 0) hy.len hm
  obtain ⟨b, o, rfl, _⟩ := hy.at_ 0 t ht
  obtain ⟨g, cap, w4, hrun, how4, hgr, hg4, _⟩ := run_append_lies (P := Tryd.prog) w2 47 47 base 64 i0 _ 2 24 Tryd.underlying47 hi hz0 hz1 hz2 rfl (by omega) v n _
    h.own ⟨b, o, none⟩ m c (cellsT ys) (by rw [cellsT_len, hy.len]) hy.cellsX (cellsT_one ys) hm (by unfold maxLen; omega) (by omega) hbase _ rfl
  refine ⟨g, cap, w4, hrun, ⟨?_, by rw [List.length_append, h.len, hy.len]⟩, hgr⟩
  have e : cellsT (x ++ ys) = cellsT x ++ cellsT ys := by simp [cellsT]
  rw [e]; exact how4
/-- a walk that gathers in a row of its own, with a variable of its own -/
structure RS (w : World) (c4 : Array Value) (x : List Tk) (w' : World) (v' : Value) : Prop where
  below : Below w.heap.size w w'
  box : BoxX w' w.heap.size 24 c4
  row : TRow w' (w.heap.size + 1) v' x.length x
section
variable {w w1 w2 : World} {c4 : Array Value} {x ys : List Tk} {v : Value}
theorem RS.keep (h : RS w c4 x w1 v) (hb : Below w1.heap.size w1 w2) : RS w c4 x w2 v := ⟨h.below.trans (hb.mono h.below.size), h.box.keep hb h.box.lt, h.row.keep hb⟩
theorem RS.size (h : RS w c4 x w1 v) : w.heap.size + 1 ≤ w1.heap.size := h.box.lt
theorem RS.grow (h : RS w c4 x w1 v) {v2 : Value} (hr : TRow w2 (w.heap.size + 1) v2 (x.length + ys.length) (x ++ ys)) (hg : w1.grownBy w2 v.ownBlock) : RS w c4 (x ++ ys) w2 v2 :=
  ⟨Below.grown h.below hg h.below.size fun g hg' => by have := (h.row.lt hg').1; omega, (hg.block _ h.box.lt fun e => by have := (h.row.lt e.symm).1; omega).trans h.box, by rw [List.length_append]; exact hr⟩
theorem RS.start (w : World) (c4 : Array Value) : RS w c4 [] (w.alloc (.cells c4 24)) (.slice none 0 0) := ⟨(Below.refl _ _).alloc (Nat.le_refl _) _, BoxX.new _ _ _, TRow.nil _ _⟩
theorem RS.first (h : RS w c4 [] w1 v) (ys : List Tk) (k : Nat) (hk : ys.length = k) (hm : k ≤ 1000000) : RS w c4 ys (w1.alloc (.cells (cellsT ys).toArray 64)) (.slice (some ⟨w1.heap.size, 0, none⟩) k k) := by
  have hb : Below w1.heap.size w1 (w1.alloc (.cells (cellsT ys).toArray 64)) := (Below.refl _ _).alloc (Nat.le_refl _) _
  have h2 := h.keep hb
  refine ⟨h2.below, h2.box, ?_⟩
  rw [hk]
  exact TRow.of_block hk (heap_alloc_new w1 _) h.size hm
theorem RS.lit (h : RS w c4 x w1 v) (ys : List Tk) (k : Nat) (hk : ys.length = k) (h0 : 0 < k) (hn : x.length + ys.length ≤ 1000000) :
    ∃ g cap w3, (Builtin.append_ #[47, 47] 47 #[v, .slice (some ⟨w1.heap.size, 0, none⟩) k k]).run Tryd.prog (w1.alloc (.cells (cellsT ys).toArray 64)) = .ok (.slice (some ⟨g, 0, none⟩) (x.length + k) cap) w3 ∧
      RS w c4 (x ++ ys) w3 (.slice (some ⟨g, 0, none⟩) (x.length + k) cap) := by
  subst hk
  have hb : Below w1.heap.size w1 (w1.alloc (.cells (cellsT ys).toArray 64)) := (Below.refl _ _).alloc (Nat.le_refl _) _
  have h2 := h.keep hb
  obtain ⟨g, cap, w3, hrun, hrow, hgr, _⟩ := h2.row.appL (P := w1.heap.size) (ys := ys) (heap_alloc_new w1 _) h0 h2.size hn
  exact ⟨g, cap, w3, hrun, h2.grow hrow hgr⟩
theorem RS.list (h : RS w c4 x w1 v) {A : Option Addr} {m c : Nat} (hy : TL w1 ys A m c) (hm : 0 < m) (hn : x.length + m ≤ 1000000) :
    ∃ g cap w3, (Builtin.append_ #[47, 47] 47 #[v, .slice A m c]).run Tryd.prog w1 = .ok (.slice (some ⟨g, 0, none⟩) (x.length + m) cap) w3 ∧ RS w c4 (x ++ ys) w3 (.slice (some ⟨g, 0, none⟩) (x.length + m) cap) := by
  obtain ⟨g, cap, w3, hrun, hrow, hgr⟩ := h.row.appTL hy hm h.size hn
  exact ⟨g, cap, w3, hrun, h.grow (by rw [hy.len]; exact hrow) hgr⟩
end
theorem TRow.less {w : World} {a b : Nat} {v : Value} {n : Nat} {x : List Tk} (h : TRow w b v n x) (hab : a ≤ b) : TRow w a v n x := by
  refine ⟨⟨h.own.1, ?_⟩, h.len⟩
  rcases h.own.2 with h1 | ⟨g, cap, cur, e, h1, h2⟩
  · exact .inl h1
  · exact .inr ⟨g, cap, cur, e, by omega, h2⟩
/-- what the document's tokens tells -/
def RTk (x : List Tk) (w : World) (e : Ending) (w' : World) : Prop := Below w.heap.size w w' ∧ ∃ (A : Option Addr) (n c : Nat), e = .returned (.slice A n c) ∧ TRow w' w.heap.size (.slice A n c) n x
theorem RS.fin {w w1 : World} {c4 : Array Value} {x y : List Tk} {A : Option Addr} {n c : Nat} (h : RS w c4 x w1 (.slice A n c)) (e : x = y) : RTk y w (.returned (.slice A n c)) w1 := by
  subst e
  obtain ⟨A', c', e2, _⟩ := h.row.full
  cases e2
  exact ⟨h.below, A, _, c, rfl, h.row.less (by omega)⟩
theorem sh_pos (nm : Int → ByteArray) {n d : Nat} {t : T} (hw : Wr_ n d t) : 0 < (shT nm t d).length := by
  obtain ⟨k, h, xs⟩ := t
  rcases hw.cases with ⟨rfl, rfl, rfl⟩ | ⟨rfl, rfl, a, b, rfl⟩ | ⟨rfl, rfl, a, rfl⟩ | hc
  · rw [sh_sort]; simp
  · rw [sh_pi]; simp
  · rw [sh_lam]; simp
  · rw [sh_head nm h xs d (by omega) (by omega) (by omega)]; simp
section
variable (ds : List (ByteArray × T)) (SA : Option Addr) (sn sc : Nat)
/-- what the document's tokens does -/
def TkS (t : T) : Prop := ∀ (d : Nat) (tv : Value) (w : World), Wr_ ds.length d t → DS w ds SA sn sc → Rd w t tv → (shT (nmD ds) t d).length ≤ 1000000 → Calls Tryd.prog 32 #[tv, .slice SA sn sc, .int .i64 (d : Nat)] w (RTk (shT (nmD ds) t d) w)
end
variable {ds : List (ByteArray × T)} {SA : Option Addr} {sn sc : Nat}
set_option maxRecDepth 100000 in
set_option maxHeartbeats 4000000 in
theorem rTokSort (A : Option Addr) (n c : Nat) (d : Nat) (w : World) :
    Calls Tryd.prog 32 #[.agg #[.int .i64 0, .int .i64 0, .slice A n c], .slice SA sn sc, .int .i64 (d : Nat)] w (RTk (shT (nmD ds) (.node 0 0 []) d) w) := by
  obtain ⟨W, hW⟩ : ∃ W, w.alloc (.cells #[.int .i64 0, .int .i64 0, .slice A n c] 24) = W := ⟨_, rfl⟩
  have HS0 := Lib.hid (show RS w #[.int .i64 0, .int .i64 0, .slice A n c] [] W (.slice none 0 0) by rw [← hW]; exact RS.start _ _)
  have b0 : W.cell? ⟨w.heap.size, 0, none⟩ = some (.int .i64 0) := HS0.out.box.cell 0
  have b1 : W.cell? ⟨w.heap.size, 1, none⟩ = some (.int .i64 0) := HS0.out.box.cell 1
  have b2 : W.cell? ⟨w.heap.size, 2, none⟩ = some (.slice A n c) := HS0.out.box.cell 2
  go_enter Tryd.func32, Tryd.ntmps32
  have HC := Lib.hid (rName15C tyN W)
  go_wp2_with fail
  refine HC.out.mono ?_
  rintro e w1 ⟨rfl, hb⟩
  have H1 := Lib.hid (HS0.out.keep hb)
  clear HC hb HS0 b0 b1 b2
  have b0w1 : w1.cell? ⟨w.heap.size, 0, none⟩ = some (.int .i64 0) := H1.out.box.cell 0
  have b1w1 : w1.cell? ⟨w.heap.size, 1, none⟩ = some (.int .i64 0) := H1.out.box.cell 1
  have b2w1 : w1.cell? ⟨w.heap.size, 2, none⟩ = some (.slice A n c) := H1.out.box.cell 2
  obtain ⟨w2, hW2⟩ : ∃ z, w1.alloc (.cells #[.int .i64 0, .string (tyN)] 64) = z := ⟨_, rfl⟩
  have H2 := Lib.hid (show RS w #[.int .i64 0, .int .i64 0, .slice A n c] [(0, tyN)] w2 (.slice (some ⟨w1.heap.size, 0, none⟩) 1 1) by rw [← hW2]; exact H1.out.first [(0, tyN)] 1 rfl (by omega))
  clear b0w1 b1w1 b2w1 H1
  have b0w2 : w2.cell? ⟨w.heap.size, 0, none⟩ = some (.int .i64 0) := H2.out.box.cell 0
  have b1w2 : w2.cell? ⟨w.heap.size, 1, none⟩ = some (.int .i64 0) := H2.out.box.cell 1
  have b2w2 : w2.cell? ⟨w.heap.size, 2, none⟩ = some (.slice A n c) := H2.out.box.cell 2
  go_wp2_with fail
  go_ret
  exact H2.out.fin (by rw [sh_sort])
set_option maxRecDepth 100000 in
set_option maxHeartbeats 4000000 in
theorem rTokPi {a b0_ : T} (iha : TkS ds SA sn sc a) (ihb : TkS ds SA sn sc b0_) (d : Nat) (tv : Value) (w : World) (hw : Wr_ ds.length d (.node 1 0 [a, b0_])) (hD : DS w ds SA sn sc) (hv : Rd w (.node 1 0 [a, b0_]) tv) (hl : (shT (nmD ds) (.node 1 0 [a, b0_]) d).length ≤ 1000000) :
    Calls Tryd.prog 32 #[tv, .slice SA sn sc, .int .i64 (d : Nat)] w (RTk (shT (nmD ds) (.node 1 0 [a, b0_]) d) w) := by
  rw [sh_pi] at hl
  have HL := Lib.hid hl
  have HD := Lib.hid hD
  obtain ⟨hwa, hwb⟩ := hw.pi
  have hd : d < 100 := by have := hw.deep; omega
  obtain ⟨A, n, c, rfl, _, _, hn, hc, hcm, hx⟩ := Rd_node.1 hv
  obtain rfl : n = 2 := by simpa using hn.symm
  unfold maxLen at hcm
  obtain ⟨b, o, ky, gy, Ay, ny, cy, rfl, y0, y1, y2, yr⟩ := (hx 0 a rfl).full
  simp only [Nat.zero_mul, Nat.add_zero] at y0 y1 y2
  obtain ⟨b', o', kz, gz, Az, nz, cz, eb, z0, z1, z2, zr⟩ := (hx 1 b0_ rfl).full
  obtain ⟨rfl, rfl⟩ : b = b' ∧ o = o' := by simpa using eb
  simp only [Nat.one_mul] at z0 z1 z2
  have hwr : IntKind.i64.wrap ((d : Int) + 1) = (d : Int) + 1 := by rw [wrapEq, wrap_small (by omega) (by omega)]
  clear hl hv hx hn hw eb hD
  obtain ⟨W, hW⟩ : ∃ W, w.alloc (.cells #[.int .i64 1, .int .i64 0, .slice (some ⟨b, o, none⟩) 2 c] 24) = W := ⟨_, rfl⟩
  have HS0 := Lib.hid (show RS w #[.int .i64 1, .int .i64 0, .slice (some ⟨b, o, none⟩) 2 c] [] W (.slice none 0 0) by rw [← hW]; exact RS.start _ _)
  have b0 : W.cell? ⟨w.heap.size, 0, none⟩ = some (.int .i64 1) := HS0.out.box.cell 0
  have b1 : W.cell? ⟨w.heap.size, 1, none⟩ = some (.int .i64 0) := HS0.out.box.cell 1
  have b2 : W.cell? ⟨w.heap.size, 2, none⟩ = some (.slice (some ⟨b, o, none⟩) 2 c) := HS0.out.box.cell 2
  go_enter Tryd.func32, Tryd.ntmps32
  have HC := Lib.hid (rMark15C ⟨#[123]⟩ W)
  go_wp2_with fail
  refine HC.out.mono ?_
  rintro e w1 ⟨rfl, hb⟩
  have H1 := Lib.hid (HS0.out.keep hb)
  clear HC hb HS0 b0 b1 b2
  have b0w1 : w1.cell? ⟨w.heap.size, 0, none⟩ = some (.int .i64 1) := H1.out.box.cell 0
  have b1w1 : w1.cell? ⟨w.heap.size, 1, none⟩ = some (.int .i64 0) := H1.out.box.cell 1
  have b2w1 : w1.cell? ⟨w.heap.size, 2, none⟩ = some (.slice (some ⟨b, o, none⟩) 2 c) := H1.out.box.cell 2
  have HC := Lib.hid (rBound15C d hd w1)
  go_wp2_with fail
  refine HC.out.mono ?_
  rintro e w2 ⟨rfl, hb⟩
  have H2 := Lib.hid (H1.out.keep hb)
  clear HC hb H1 b0w1 b1w1 b2w1
  have b0w2 : w2.cell? ⟨w.heap.size, 0, none⟩ = some (.int .i64 1) := H2.out.box.cell 0
  have b1w2 : w2.cell? ⟨w.heap.size, 1, none⟩ = some (.int .i64 0) := H2.out.box.cell 1
  have b2w2 : w2.cell? ⟨w.heap.size, 2, none⟩ = some (.slice (some ⟨b, o, none⟩) 2 c) := H2.out.box.cell 2
  have HC := Lib.hid (rMark15C ⟨#[58]⟩ w2)
  go_wp2_with fail
  refine HC.out.mono ?_
  rintro e w3 ⟨rfl, hb⟩
  have H3 := Lib.hid (H2.out.keep hb)
  clear HC hb H2 b0w2 b1w2 b2w2
  have b0w3 : w3.cell? ⟨w.heap.size, 0, none⟩ = some (.int .i64 1) := H3.out.box.cell 0
  have b1w3 : w3.cell? ⟨w.heap.size, 1, none⟩ = some (.int .i64 0) := H3.out.box.cell 1
  have b2w3 : w3.cell? ⟨w.heap.size, 2, none⟩ = some (.slice (some ⟨b, o, none⟩) 2 c) := H3.out.box.cell 2
  obtain ⟨w4, hW4⟩ : ∃ z, w3.alloc (.cells #[.int .i64 1, .string ⟨#[123]⟩, .int .i64 0, .string (bnm d), .int .i64 1, .string ⟨#[58]⟩] 64) = z := ⟨_, rfl⟩
  have H4 := Lib.hid (show RS w #[.int .i64 1, .int .i64 0, .slice (some ⟨b, o, none⟩) 2 c] [mP, (0, bnm d), mK] w4 (.slice (some ⟨w3.heap.size, 0, none⟩) 3 3) by rw [← hW4]; exact H3.out.first [mP, (0, bnm d), mK] 3 rfl (by omega))
  clear b0w3 b1w3 b2w3 H3
  have b0w4 : w4.cell? ⟨w.heap.size, 0, none⟩ = some (.int .i64 1) := H4.out.box.cell 0
  have b1w4 : w4.cell? ⟨w.heap.size, 1, none⟩ = some (.int .i64 0) := H4.out.box.cell 1
  have b2w4 : w4.cell? ⟨w.heap.size, 2, none⟩ = some (.slice (some ⟨b, o, none⟩) 2 c) := H4.out.box.cell 2
  have p0 := (H4.out.below.cell (cell_lt y0)).trans y0
  have p1 := (H4.out.below.cell (cell_lt y1)).trans y1
  have p2 := (H4.out.below.cell (cell_lt y2)).trans y2
  have hG := iha d _ w4 hwa (HD.out.keep H4.out.below) (Rd.keep H4.out.below _ _ yr) (by have := HL.out; simp only [List.length_append, List.length_cons] at this ⊢; omega)
  have HG := Lib.hid hG
  clear hG
  go_wp2_with fail
  refine HG.out.mono ?_
  rintro e w5 ⟨hb, A5, n5, c5, rfl, hrow⟩
  obtain ⟨g5, z5, v5, hrun, h5⟩ := (H4.out.keep hb).list hrow.tl (by have := hrow.len; have := sh_pos (nmD ds) hwa; omega) (by have := hrow.len; have := HL.out; simp only [List.length_append, List.length_cons, List.length_nil] at this ⊢; omega)
  obtain ⟨m5, hm5⟩ : ∃ m, List.length ([mP, (0, bnm d), mK]) + n5 = m := ⟨_, rfl⟩
  rw [hm5] at hrun h5
  have H5 := Lib.hid h5
  clear h5 hm5 H4 HG hb hrow p0 p1 p2
  have b0v5 : v5.cell? ⟨w.heap.size, 0, none⟩ = some (.int .i64 1) := H5.out.box.cell 0
  have b1v5 : v5.cell? ⟨w.heap.size, 1, none⟩ = some (.int .i64 0) := H5.out.box.cell 1
  have b2v5 : v5.cell? ⟨w.heap.size, 2, none⟩ = some (.slice (some ⟨b, o, none⟩) 2 c) := H5.out.box.cell 2
  go_wp2_with (at_builtin; first | (refine Lib.wpList_append_run _ rfl _ _ _ _ rfl _ _ rfl rfl _ _ hrun ?_; clear hrun))
  clear b0w4 b1w4 b2w4
  have HC := Lib.hid (rMark15C ⟨#[125]⟩ v5)
  go_wp2_with fail
  refine HC.out.mono ?_
  rintro e w6 ⟨rfl, hb⟩
  have H6 := Lib.hid (H5.out.keep hb)
  clear HC hb H5 b0v5 b1v5 b2v5
  have b0w6 : w6.cell? ⟨w.heap.size, 0, none⟩ = some (.int .i64 1) := H6.out.box.cell 0
  have b1w6 : w6.cell? ⟨w.heap.size, 1, none⟩ = some (.int .i64 0) := H6.out.box.cell 1
  have b2w6 : w6.cell? ⟨w.heap.size, 2, none⟩ = some (.slice (some ⟨b, o, none⟩) 2 c) := H6.out.box.cell 2
  obtain ⟨g7, z7, w7, hrun, h7⟩ := H6.out.lit [mQ] 1 rfl (by omega) (by have := HL.out; simp only [List.length_append, List.length_cons, List.length_nil] at this ⊢; omega)
  rw [show (cellsT [mQ]).toArray = #[.int .i64 1, .string ⟨#[125]⟩] from rfl] at hrun
  obtain ⟨m7, hm7⟩ : ∃ m, List.length ([mP, (0, bnm d), mK] ++ shT (nmD ds) a d) + 1 = m := ⟨_, rfl⟩
  rw [hm7] at hrun h7
  have H7 := Lib.hid h7
  clear h7 hm7 H6
  have b0w7 : w7.cell? ⟨w.heap.size, 0, none⟩ = some (.int .i64 1) := H7.out.box.cell 0
  have b1w7 : w7.cell? ⟨w.heap.size, 1, none⟩ = some (.int .i64 0) := H7.out.box.cell 1
  have b2w7 : w7.cell? ⟨w.heap.size, 2, none⟩ = some (.slice (some ⟨b, o, none⟩) 2 c) := H7.out.box.cell 2
  have p0 := (H7.out.below.cell (cell_lt z0)).trans z0
  have p1 := (H7.out.below.cell (cell_lt z1)).trans z1
  have p2 := (H7.out.below.cell (cell_lt z2)).trans z2
  go_wp2_with (at_builtin; first | (refine Lib.wpList_append_run _ rfl _ _ _ _ rfl _ _ rfl rfl _ _ hrun ?_; clear hrun))
  clear b0w6 b1w6 b2w6
  have hG := ihb (d + 1) _ w7 hwb (HD.out.keep H7.out.below) (Rd.keep H7.out.below _ _ zr) (by have := HL.out; simp only [List.length_append, List.length_cons] at this ⊢; omega)
  rw [show ((d + 1 : Nat) : Int) = (d : Int) + 1 by omega] at hG
  have HG := Lib.hid hG
  clear hG
  go_wp2_with fail
  refine HG.out.mono ?_
  rintro e w8 ⟨hb, A8, n8, c8, rfl, hrow⟩
  obtain ⟨g8, z8, v8, hrun, h8⟩ := (H7.out.keep hb).list hrow.tl (by have := hrow.len; have := sh_pos (nmD ds) hwb; omega) (by have := hrow.len; have := HL.out; simp only [List.length_append, List.length_cons, List.length_nil] at this ⊢; omega)
  obtain ⟨m8, hm8⟩ : ∃ m, List.length ([mP, (0, bnm d), mK] ++ shT (nmD ds) a d ++ [mQ]) + n8 = m := ⟨_, rfl⟩
  rw [hm8] at hrun h8
  have H8 := Lib.hid h8
  clear h8 hm8 H7 HG hb hrow p0 p1 p2
  have b0v8 : v8.cell? ⟨w.heap.size, 0, none⟩ = some (.int .i64 1) := H8.out.box.cell 0
  have b1v8 : v8.cell? ⟨w.heap.size, 1, none⟩ = some (.int .i64 0) := H8.out.box.cell 1
  have b2v8 : v8.cell? ⟨w.heap.size, 2, none⟩ = some (.slice (some ⟨b, o, none⟩) 2 c) := H8.out.box.cell 2
  go_wp2_with (at_builtin; first | (refine Lib.wpList_append_run _ rfl _ _ _ _ rfl _ _ rfl rfl _ _ hrun ?_; clear hrun))
  clear b0w7 b1w7 b2w7
  go_wp2_with fail
  go_ret
  exact H8.out.fin (by rw [sh_pi]; simp)
set_option maxRecDepth 100000 in
set_option maxHeartbeats 4000000 in
theorem rTokLam {a : T} (iha : TkS ds SA sn sc a) (d : Nat) (tv : Value) (w : World) (hw : Wr_ ds.length d (.node 3 0 [a])) (hD : DS w ds SA sn sc) (hv : Rd w (.node 3 0 [a]) tv) (hl : (shT (nmD ds) (.node 3 0 [a]) d).length ≤ 1000000) :
    Calls Tryd.prog 32 #[tv, .slice SA sn sc, .int .i64 (d : Nat)] w (RTk (shT (nmD ds) (.node 3 0 [a]) d) w) := by
  rw [sh_lam] at hl
  have HL := Lib.hid hl
  have HD := Lib.hid hD
  have hwa := hw.lam
  have hd : d < 100 := by have := hw.deep; omega
  obtain ⟨A, n, c, rfl, _, _, hn, hc, hcm, hx⟩ := Rd_node.1 hv
  obtain rfl : n = 1 := by simpa using hn.symm
  unfold maxLen at hcm
  obtain ⟨b, o, ky, gy, Ay, ny, cy, rfl, y0, y1, y2, yr⟩ := (hx 0 a rfl).full
  simp only [Nat.zero_mul, Nat.add_zero] at y0 y1 y2
  have hwr : IntKind.i64.wrap ((d : Int) + 1) = (d : Int) + 1 := by rw [wrapEq, wrap_small (by omega) (by omega)]
  clear hl hv hx hn hw hD
  obtain ⟨W, hW⟩ : ∃ W, w.alloc (.cells #[.int .i64 3, .int .i64 0, .slice (some ⟨b, o, none⟩) 1 c] 24) = W := ⟨_, rfl⟩
  have HS0 := Lib.hid (show RS w #[.int .i64 3, .int .i64 0, .slice (some ⟨b, o, none⟩) 1 c] [] W (.slice none 0 0) by rw [← hW]; exact RS.start _ _)
  have b0 : W.cell? ⟨w.heap.size, 0, none⟩ = some (.int .i64 3) := HS0.out.box.cell 0
  have b1 : W.cell? ⟨w.heap.size, 1, none⟩ = some (.int .i64 0) := HS0.out.box.cell 1
  have b2 : W.cell? ⟨w.heap.size, 2, none⟩ = some (.slice (some ⟨b, o, none⟩) 1 c) := HS0.out.box.cell 2
  go_enter Tryd.func32, Tryd.ntmps32
  have HC := Lib.hid (rMark15C ⟨#[91]⟩ W)
  go_wp2_with fail
  refine HC.out.mono ?_
  rintro e w1 ⟨rfl, hb⟩
  have H1 := Lib.hid (HS0.out.keep hb)
  clear HC hb HS0 b0 b1 b2
  have b0w1 : w1.cell? ⟨w.heap.size, 0, none⟩ = some (.int .i64 3) := H1.out.box.cell 0
  have b1w1 : w1.cell? ⟨w.heap.size, 1, none⟩ = some (.int .i64 0) := H1.out.box.cell 1
  have b2w1 : w1.cell? ⟨w.heap.size, 2, none⟩ = some (.slice (some ⟨b, o, none⟩) 1 c) := H1.out.box.cell 2
  have HC := Lib.hid (rBound15C d hd w1)
  go_wp2_with fail
  refine HC.out.mono ?_
  rintro e w2 ⟨rfl, hb⟩
  have H2 := Lib.hid (H1.out.keep hb)
  clear HC hb H1 b0w1 b1w1 b2w1
  have b0w2 : w2.cell? ⟨w.heap.size, 0, none⟩ = some (.int .i64 3) := H2.out.box.cell 0
  have b1w2 : w2.cell? ⟨w.heap.size, 1, none⟩ = some (.int .i64 0) := H2.out.box.cell 1
  have b2w2 : w2.cell? ⟨w.heap.size, 2, none⟩ = some (.slice (some ⟨b, o, none⟩) 1 c) := H2.out.box.cell 2
  have HC := Lib.hid (rMark15C ⟨#[93]⟩ w2)
  go_wp2_with fail
  refine HC.out.mono ?_
  rintro e w3 ⟨rfl, hb⟩
  have H3 := Lib.hid (H2.out.keep hb)
  clear HC hb H2 b0w2 b1w2 b2w2
  have b0w3 : w3.cell? ⟨w.heap.size, 0, none⟩ = some (.int .i64 3) := H3.out.box.cell 0
  have b1w3 : w3.cell? ⟨w.heap.size, 1, none⟩ = some (.int .i64 0) := H3.out.box.cell 1
  have b2w3 : w3.cell? ⟨w.heap.size, 2, none⟩ = some (.slice (some ⟨b, o, none⟩) 1 c) := H3.out.box.cell 2
  obtain ⟨w4, hW4⟩ : ∃ z, w3.alloc (.cells #[.int .i64 1, .string ⟨#[91]⟩, .int .i64 0, .string (bnm d), .int .i64 1, .string ⟨#[93]⟩] 64) = z := ⟨_, rfl⟩
  have H4 := Lib.hid (show RS w #[.int .i64 3, .int .i64 0, .slice (some ⟨b, o, none⟩) 1 c] [mL, (0, bnm d), mR] w4 (.slice (some ⟨w3.heap.size, 0, none⟩) 3 3) by rw [← hW4]; exact H3.out.first [mL, (0, bnm d), mR] 3 rfl (by omega))
  clear b0w3 b1w3 b2w3 H3
  have b0w4 : w4.cell? ⟨w.heap.size, 0, none⟩ = some (.int .i64 3) := H4.out.box.cell 0
  have b1w4 : w4.cell? ⟨w.heap.size, 1, none⟩ = some (.int .i64 0) := H4.out.box.cell 1
  have b2w4 : w4.cell? ⟨w.heap.size, 2, none⟩ = some (.slice (some ⟨b, o, none⟩) 1 c) := H4.out.box.cell 2
  have p0 := (H4.out.below.cell (cell_lt y0)).trans y0
  have p1 := (H4.out.below.cell (cell_lt y1)).trans y1
  have p2 := (H4.out.below.cell (cell_lt y2)).trans y2
  have hG := iha (d + 1) _ w4 hwa (HD.out.keep H4.out.below) (Rd.keep H4.out.below _ _ yr) (by have := HL.out; simp only [List.length_cons] at this ⊢; omega)
  rw [show ((d + 1 : Nat) : Int) = (d : Int) + 1 by omega] at hG
  have HG := Lib.hid hG
  clear hG
  go_wp2_with fail
  refine HG.out.mono ?_
  rintro e w5 ⟨hb, A5, n5, c5, rfl, hrow⟩
  obtain ⟨g5, z5, v5, hrun, h5⟩ := (H4.out.keep hb).list hrow.tl (by have := hrow.len; have := sh_pos (nmD ds) hwa; omega) (by have := hrow.len; have := HL.out; simp only [List.length_cons, List.length_nil] at this ⊢; omega)
  obtain ⟨m5, hm5⟩ : ∃ m, List.length ([mL, (0, bnm d), mR]) + n5 = m := ⟨_, rfl⟩
  rw [hm5] at hrun h5
  have H5 := Lib.hid h5
  clear h5 hm5 H4 HG hb hrow p0 p1 p2
  have b0v5 : v5.cell? ⟨w.heap.size, 0, none⟩ = some (.int .i64 3) := H5.out.box.cell 0
  have b1v5 : v5.cell? ⟨w.heap.size, 1, none⟩ = some (.int .i64 0) := H5.out.box.cell 1
  have b2v5 : v5.cell? ⟨w.heap.size, 2, none⟩ = some (.slice (some ⟨b, o, none⟩) 1 c) := H5.out.box.cell 2
  go_wp2_with (at_builtin; first | (refine Lib.wpList_append_run _ rfl _ _ _ _ rfl _ _ rfl rfl _ _ hrun ?_; clear hrun))
  clear b0w4 b1w4 b2w4
  go_wp2_with fail
  go_ret
  exact H5.out.fin (by rw [sh_lam]; simp)
end Go.Proofs.YtmkahbbcagfbhaaDoor

/-
  Contract of the document's tokens, of every term. No statement is proved here.
-/
namespace Go.Proofs.YtmkahbbcagfbhaaDoor
open Go.ChangeShapes Go.WideShapes Go.ChangeAt Go.RowKit
set_option linter.unusedVariables false

section
variable {w w1 : World} {c4 : Array Value} {x : List Tk} {v : Value}
/-- as lit, and another variable keeps what it holds -/
theorem RS.litK (h : RS w c4 x w1 v) (ys : List Tk) (k : Nat) (hk : ys.length = k) (h0 : 0 < k) (hn : x.length + ys.length ≤ 1000000) {B : Nat} {T7 : TypeId} {c7 : Array Value} (hB : BoxX w1 B T7 c7) (hne : v.ownBlock ≠ some B) :
    ∃ g cap w3, (Builtin.append_ #[47, 47] 47 #[v, .slice (some ⟨w1.heap.size, 0, none⟩) k k]).run Tryd.prog (w1.alloc (.cells (cellsT ys).toArray 64)) = .ok (.slice (some ⟨g, 0, none⟩) (x.length + k) cap) w3 ∧
      RS w c4 (x ++ ys) w3 (.slice (some ⟨g, 0, none⟩) (x.length + k) cap) ∧ BoxX w3 B T7 c7 := by
  subst hk
  have hb : Below w1.heap.size w1 (w1.alloc (.cells (cellsT ys).toArray 64)) := (Below.refl _ _).alloc (Nat.le_refl _) _
  have h2 := h.keep hb
  have hB2 := hB.keep hb hB.lt
  obtain ⟨g, cap, w3, hrun, hrow, hgr, _⟩ := h2.row.appL (P := w1.heap.size) (ys := ys) (heap_alloc_new w1 _) h0 h2.size hn
  exact ⟨g, cap, w3, hrun, h2.grow hrow hgr, (hgr.block _ hB2.lt fun e => hne e.symm).trans hB2⟩
end
variable {ds : List (ByteArray × T)} {SA : Option Addr} {sn sc : Nat}
set_option maxRecDepth 100000 in
set_option maxHeartbeats 4000000 in
theorem rTokVar {g : Nat} {xs : List T} (hI : ∀ t ∈ xs, TkS ds SA sn sc t) (d : Nat) (tv : Value) (w : World) (hw : Wr_ ds.length d (.node 4 (g : Int) xs)) (hg : g < d) (hD : DS w ds SA sn sc) (hv : Rd w (.node 4 (g : Int) xs) tv) (hl : (shT (nmD ds) (.node 4 (g : Int) xs) d).length ≤ 1000000) :
    Calls Tryd.prog 32 #[tv, .slice SA sn sc, .int .i64 (d : Nat)] w (RTk (shT (nmD ds) (.node 4 (g : Int) xs) d) w) := by
  obtain ⟨A, n, c, rfl, _, _, hn, hc, hcm, hx⟩ := Rd_node.1 hv
  rw [sh_head _ _ _ _ (by decide) (by decide) (by decide)] at hl
  have hl' : ((0, bnm (d - 1 - g)) :: xs.flatMap (argS (nmD ds) d)).length ≤ 1000000 := by simpa using hl
  have HL := Lib.hid hl'
  have HN := Lib.hid hn
  have HX := Lib.hid hx
  have HI := Lib.hid hI
  have HD := Lib.hid hD
  have HW := Lib.hid (hw.args (by decide) (by decide))
  have hd : d < 100 := by have := hw.deep; omega
  unfold maxLen at hcm
  clear hl hl' hn hx hI
  clear hv hD hw
  have hw1 : IntKind.i64.wrap ((d : Int) - 1) = (d : Int) - 1 := by rw [wrapEq, wrap_small (by omega) (by omega)]
  have hw2 : IntKind.i64.wrap ((d : Int) - 1 - (g : Int)) = ((d - 1 - g : Nat) : Int) := by rw [wrapEq, wrap_small (by omega) (by omega)]; omega
  have hw3 : ((d : Int) - 1 - (g : Int)) = ((d - 1 - g : Nat) : Int) := by omega
  obtain ⟨gj, hgj⟩ : ∃ gj, d - 1 - g = gj := ⟨_, rfl⟩
  rw [hgj] at hw2 hw3
  have hgj2 : gj < 100 := by omega
  have HJ := Lib.hid hgj
  clear hgj
  obtain ⟨W, hW⟩ : ∃ W, w.alloc (.cells #[.int .i64 4, .int .i64 (g : Nat), .slice A n c] 24) = W := ⟨_, rfl⟩
  have HS0 := Lib.hid (show RS w #[.int .i64 4, .int .i64 (g : Nat), .slice A n c] [] W (.slice none 0 0) by rw [← hW]; exact RS.start _ _)
  have b0 : W.cell? ⟨w.heap.size, 0, none⟩ = some (.int .i64 4) := HS0.out.box.cell 0
  have b1 : W.cell? ⟨w.heap.size, 1, none⟩ = some (.int .i64 (g : Nat)) := HS0.out.box.cell 1
  have b2 : W.cell? ⟨w.heap.size, 2, none⟩ = some (.slice A n c) := HS0.out.box.cell 2
  go_enter Tryd.func32, Tryd.ntmps32
  have HC := Lib.hid (rBound15C gj hgj2 W)
  go_wp2_with fail
  refine HC.out.mono ?_
  rintro e w0_ ⟨rfl, hb⟩
  have H0 := Lib.hid (HS0.out.keep hb)
  clear HC hb HS0 b0 b1 b2 

  obtain ⟨g1, z1, w1, hrun, h1_⟩ := H0.out.lit [(0, bnm gj)] 1 rfl (by omega) (by show 0 + 1 ≤ 1000000; omega)
  rw [show (cellsT [(0, bnm gj)]).toArray = #[.int .i64 0, .string (bnm gj)] from rfl, show List.length ([] : List Tk) + 1 = 1 from rfl] at hrun
  rw [show List.length ([] : List Tk) + 1 = 1 from rfl, List.nil_append] at h1_
  have H1 := Lib.hid h1_
  have b0w1 : w1.cell? ⟨w.heap.size, 0, none⟩ = some (.int .i64 4) := H1.out.box.cell 0
  have b1w1 : w1.cell? ⟨w.heap.size, 1, none⟩ = some (.int .i64 (g : Nat)) := H1.out.box.cell 1
  have b2w1 : w1.cell? ⟨w.heap.size, 2, none⟩ = some (.slice A n c) := H1.out.box.cell 2
  clear h1_ H0
  go_wp2_with (at_builtin; first | (refine Lib.wpList_append_run _ rfl _ _ _ _ rfl _ _ rfl rfl _ _ hrun ?_; clear hrun))
  go_loopw [9, 10] (fun ov i wr => ∃ (j : Nat) (vr : Value), j ≤ n ∧ i = .int .i64 j ∧ ov = vr ∧ Hid (RS w #[.int .i64 4, .int .i64 (g : Nat), .slice A n c] ([(0, bnm gj)] ++ (xs.take j).flatMap (argS (nmD ds) d)) wr vr)) (fun _ i _ => n - (intOf i).toNat)
  case atStart => exact ⟨0, _, Nat.zero_le _, rfl, rfl, Lib.hid (by simpa using H1.out)⟩
  case round =>
    clear H1 b0w1 b1w1 b2w1
    obtain ⟨j, vr, hj, rfl, hov, HS⟩ := hrel
    have hov2 := hov.symm
    clear hov
    subst hov2
    have b2wr : wr.cell? ⟨w.heap.size, 2, none⟩ = some (.slice A n c) := HS.out.box.cell 2
    by_cases hlt : j < n
    · obtain ⟨t, ht⟩ := at_of HN.out hlt
      obtain ⟨b, o, k2, h2, A2, n2, c2, rfl, y0, y1, y2, yr⟩ := (HX.out j t ht).full
      have hle := len_take (f := argS (nmD ds) d) ht
      have htk := take_one (f := argS (nmD ds) d) ht
      have HTK := Lib.hid (And.intro hle htk)
      have hmem := List.mem_of_getElem? ht
      have HG0 := Lib.hid (HI.out t hmem)
      have HW0 := Lib.hid (HW.out t hmem)
      clear hle htk hmem ht
      obtain ⟨k3, h3', x3⟩ := t
      obtain ⟨A3, n3, c3, e, _, _, hn3, hc3, hm3, _⟩ := Rd_node.1 yr
      obtain ⟨rfl, rfl, rfl, rfl, rfl⟩ : k2 = k3 ∧ h2 = h3' ∧ A2 = A3 ∧ n2 = n3 ∧ c2 = c3 := by simpa using e
      clear e
      have p0 := (HS.out.below.cell (cell_lt y0)).trans y0
      have p1 := (HS.out.below.cell (cell_lt y1)).trans y1
      have p2 := (HS.out.below.cell (cell_lt y2)).trans y2
      have hi0 : (0 : Int) ≤ j := by omega
      have hi1 : (j : Int) < n := by omega
      unfold maxLen at hm3
      obtain ⟨W7, hW7⟩ : ∃ W7, wr.alloc (.cells #[.int .i64 k2, .int .i64 h2, .slice A2 n2 c2] 24) = W7 := ⟨_, rfl⟩
      have hb7 : Below wr.heap.size wr W7 := by rw [← hW7]; exact (Below.refl _ _).alloc (Nat.le_refl _) _
      have x7 : BoxX W7 wr.heap.size 24 #[.int .i64 k2, .int .i64 h2, .slice A2 n2 c2] := by rw [← hW7]; exact BoxX.new _ _ _
      have q0 : W7.cell? ⟨wr.heap.size, 0, none⟩ = some (.int .i64 k2) := x7.cell 0
      have q1 : W7.cell? ⟨wr.heap.size, 1, none⟩ = some (.int .i64 h2) := x7.cell 1
      have q2 : W7.cell? ⟨wr.heap.size, 2, none⟩ = some (.slice A2 n2 c2) := x7.cell 2
      have HP := Lib.hid (rPlainC k2 h2 A2 n2 c2 W7)
      have HO := Lib.hid (show vr.ownBlock ≠ some wr.heap.size from fun e => by have := (HS.out.row.lt e).2; omega)
      have HS7 := Lib.hid (HS.out.keep hb7)
      have X7 := Lib.hid x7
      have YR := Lib.hid yr
      clear y0 y1 y2 yr x7 hb7 HS
      go_wp2_with fail
      refine HP.out.mono ?_
      rintro e w8 ⟨rfl, hb8⟩
      have HS8 := Lib.hid (HS7.out.keep hb8)
      have X8 := Lib.hid (X7.out.keep hb8 X7.out.lt)
      clear HP hb8 HS7 X7 q0 q1 q2 p0 p1 p2 hW7 b2wr
      have q0 : w8.cell? ⟨wr.heap.size, 0, none⟩ = some (.int .i64 k2) := X8.out.cell 0
      have q1 : w8.cell? ⟨wr.heap.size, 1, none⟩ = some (.int .i64 h2) := X8.out.cell 1
      have q2 : w8.cell? ⟨wr.heap.size, 2, none⟩ = some (.slice A2 n2 c2) := X8.out.cell 2
      have hcs := HW0.out.cases
      by_cases hal : aloB (.node k2 h2 x3) = true
      · have hpl : (k2 == 4 || (k2 == 2 || k2 == 5)) = true ∧ n2 = 0 := by
          have e0 := hal
          rw [aloB, Bool.and_eq_true, List.isEmpty_iff, Bool.not_eq_true', beq_eq_false_iff_ne] at e0
          obtain ⟨rfl, hz⟩ := e0
          refine ⟨?_, by simpa using hn3.symm⟩
          rcases hcs with ⟨e, _⟩ | ⟨_, _, _, _, e⟩ | ⟨_, _, _, e⟩ | ⟨e, _⟩ | ⟨e, _⟩
          · exact absurd e hz
          · cases e
          · cases e
          · rw [e]; rfl
          · rcases e with rfl | rfl <;> rfl
        obtain ⟨hpl, rfl⟩ := hpl
        rw [hpl]
        have HAL := Lib.hid hal
        clear hal hpl hcs
        have HG := Lib.hid (HG0.out d _ w8 HW0.out (HD.out.keep HS8.out.below) (Rd.keep HS8.out.below _ _ YR.out) (by
          have h5 := HL.out
          have h6 := HTK.out.1
          rw [argS_alone HAL.out] at h6
          simp only [List.length_cons] at h5 ⊢
          omega))
        go_wp2_with fail
        refine HG.out.mono ?_
        rintro e w9 ⟨hb, A9, n9, c9, rfl, hrow⟩
        obtain ⟨g9, z9, v9, hrun, h9⟩ := (HS8.out.keep hb).list hrow.tl (by have := hrow.len; have := sh_pos (nmD ds) HW0.out; omega) (by
          have := hrow.len
          have h5 := HL.out
          have h6 := HTK.out.1
          rw [argS_alone HAL.out] at h6
          simp only [List.length_append, List.length_cons, List.length_nil] at h5 ⊢
          omega)
        have H9 := Lib.hid h9
        clear h9 HG hb hrow HS8 X8 q0 q1 q2
        obtain ⟨m9, hm9⟩ : ∃ m, List.length ([(0, bnm gj)] ++ (xs.take j).flatMap (argS (nmD ds) d)) + n9 = m := ⟨_, rfl⟩
        rw [hm9] at hrun H9
        clear hm9
        go_wp2_with (at_builtin; first | (refine Lib.wpList_append_run _ rfl _ _ _ _ rfl _ _ rfl rfl _ _ hrun ?_; clear hrun))
        go_roundw
        case rel => exact ⟨j + 1, _, by omega, by go_num, rfl, Lib.hid (by rw [HTK.out.2, argS_alone HAL.out, ← List.append_assoc]; exact H9.out)⟩
        case measure => simp [intOf]; omega
      · have hal' : aloB (.node k2 h2 x3) = false := by simpa using hal
        have HAL := Lib.hid hal'
        have hpl : (k2 == 4 || (k2 == 2 || k2 == 5)) = false ∨ ((k2 == 4 || (k2 == 2 || k2 == 5)) = true ∧ ((n2 : Int) == 0) = false) := by
          cases hq : (k2 == 4 || (k2 == 2 || k2 == 5)) with
          | false => exact .inl rfl
          | true =>
            refine .inr ⟨rfl, ?_⟩
            rw [beq_eq_false_iff_ne]
            intro hz
            have hx : x3 = [] := List.length_eq_zero_iff.1 (by omega)
            subst hx
            refine hal ?_
            rw [aloB, Bool.and_eq_true, Bool.not_eq_true', beq_eq_false_iff_ne]
            refine ⟨rfl, ?_⟩
            rintro rfl
            cases hq
        clear hal hal' hcs
        have HC := Lib.hid (rMark15C ⟨#[40]⟩ w8)
        rcases hpl with hpl | ⟨hpl, dn⟩
        all_goals rw [hpl]; clear hpl
        · go_wp2_with fail
          refine HC.out.mono ?_
          rintro e wa ⟨rfl, hba⟩
          have HSa := Lib.hid (HS8.out.keep hba)
          have Xa := Lib.hid (X8.out.keep hba X8.out.lt)
          clear HC hba HS8 X8 q0 q1 q2
          have hlen := HL.out
          have h6 := HTK.out.1
          rw [argS_par HAL.out] at h6
          simp only [List.length_append, List.length_cons, List.length_nil] at hlen h6
          obtain ⟨L, hL⟩ : ∃ L, List.length ([(0, bnm gj)] ++ (xs.take j).flatMap (argS (nmD ds) d)) = L := ⟨_, rfl⟩
          have hLL : L + (1 + ((shT (nmD ds) (.node k2 h2 x3) d).length + 1)) ≤ 1000000 := by rw [← hL]; simp only [List.length_append, List.length_cons, List.length_nil]; omega
          clear hlen h6
          obtain ⟨gb, zb, wb, hrun, hb_, hbX⟩ := HSa.out.litK [mO] 1 rfl (by omega) (by rw [hL]; show L + 1 ≤ 1000000; omega) Xa.out HO.out
          rw [show (cellsT [mO]).toArray = #[.int .i64 1, .string ⟨#[40]⟩] from rfl, hL] at hrun
          rw [hL] at hb_
          obtain ⟨mb, hmb⟩ : ∃ m, L + 1 = m := ⟨_, rfl⟩
          rw [hmb] at hrun hb_
          have HSb := Lib.hid hb_
          have q0 : wb.cell? ⟨wr.heap.size, 0, none⟩ = some (.int .i64 k2) := hbX.cell 0
          have q1 : wb.cell? ⟨wr.heap.size, 1, none⟩ = some (.int .i64 h2) := hbX.cell 1
          have q2 : wb.cell? ⟨wr.heap.size, 2, none⟩ = some (.slice A2 n2 c2) := hbX.cell 2
          clear hb_ hbX HSa Xa
          go_wp2_with (at_builtin; first | (refine Lib.wpList_append_run _ rfl _ _ _ _ rfl _ _ rfl rfl _ _ hrun ?_; clear hrun))
          have HG := Lib.hid (HG0.out d _ wb HW0.out (HD.out.keep HSb.out.below) (Rd.keep HSb.out.below _ _ YR.out) (by omega))
          go_wp2_with fail
          refine HG.out.mono ?_
          rintro e wc ⟨hb, A9, n9, c9, rfl, hrow⟩
          have hn9 := hrow.len
          obtain ⟨gd, zd, wd, hrun, hd_⟩ := (HSb.out.keep hb).list hrow.tl (by have := sh_pos (nmD ds) HW0.out; omega) (by rw [List.length_append, hL]; show L + 1 + n9 ≤ 1000000; omega)
          rw [List.length_append, hL] at hrun hd_
          obtain ⟨md, hmd⟩ : ∃ m, L + [mO].length + n9 = m := ⟨_, rfl⟩
          rw [hmd] at hrun hd_
          have HSd := Lib.hid hd_
          have hmd2 : md + 1 ≤ 1000000 := by rw [← hmd]; show L + 1 + n9 + 1 ≤ 1000000; omega
          clear hd_ HSb HG hb hrow q0 q1 q2
          go_wp2_with (at_builtin; first | (refine Lib.wpList_append_run _ rfl _ _ _ _ rfl _ _ rfl rfl _ _ hrun ?_; clear hrun))
          have HC := Lib.hid (rMark15C ⟨#[41]⟩ wd)
          go_wp2_with fail
          refine HC.out.mono ?_
          rintro e we ⟨rfl, hbe⟩
          have HSe := Lib.hid (HSd.out.keep hbe)
          clear HC hbe HSd
          obtain ⟨gf, zf, wf, hrun, hf_⟩ := HSe.out.lit [mC] 1 rfl (by omega) (by rw [List.length_append, List.length_append, hL, hn9]; show L + 1 + n9 + 1 ≤ 1000000; omega)
          rw [show (cellsT [mC]).toArray = #[.int .i64 1, .string ⟨#[41]⟩] from rfl, List.length_append, List.length_append, hL, hn9, hmd] at hrun
          rw [List.length_append, List.length_append, hL, hn9, hmd] at hf_
          obtain ⟨mf, hmf⟩ : ∃ m, md + 1 = m := ⟨_, rfl⟩
          rw [hmf] at hrun hf_
          have HSf := Lib.hid hf_
          clear hf_ HSe
          go_wp2_with (at_builtin; first | (refine Lib.wpList_append_run _ rfl _ _ _ _ rfl _ _ rfl rfl _ _ hrun ?_; clear hrun))
          go_roundw
          case rel => exact ⟨j + 1, _, by omega, by go_num, rfl, Lib.hid (by rw [HTK.out.2, argS_par HAL.out]; simpa using HSf.out)⟩
          case measure => simp [intOf]; omega
        · go_wp2_with fail
          refine HC.out.mono ?_
          rintro e wa ⟨rfl, hba⟩
          have HSa := Lib.hid (HS8.out.keep hba)
          have Xa := Lib.hid (X8.out.keep hba X8.out.lt)
          clear HC hba HS8 X8 q0 q1 q2
          have hlen := HL.out
          have h6 := HTK.out.1
          rw [argS_par HAL.out] at h6
          simp only [List.length_append, List.length_cons, List.length_nil] at hlen h6
          obtain ⟨L, hL⟩ : ∃ L, List.length ([(0, bnm gj)] ++ (xs.take j).flatMap (argS (nmD ds) d)) = L := ⟨_, rfl⟩
          have hLL : L + (1 + ((shT (nmD ds) (.node k2 h2 x3) d).length + 1)) ≤ 1000000 := by rw [← hL]; simp only [List.length_append, List.length_cons, List.length_nil]; omega
          clear hlen h6
          obtain ⟨gb, zb, wb, hrun, hb_, hbX⟩ := HSa.out.litK [mO] 1 rfl (by omega) (by rw [hL]; show L + 1 ≤ 1000000; omega) Xa.out HO.out
          rw [show (cellsT [mO]).toArray = #[.int .i64 1, .string ⟨#[40]⟩] from rfl, hL] at hrun
          rw [hL] at hb_
          obtain ⟨mb, hmb⟩ : ∃ m, L + 1 = m := ⟨_, rfl⟩
          rw [hmb] at hrun hb_
          have HSb := Lib.hid hb_
          have q0 : wb.cell? ⟨wr.heap.size, 0, none⟩ = some (.int .i64 k2) := hbX.cell 0
          have q1 : wb.cell? ⟨wr.heap.size, 1, none⟩ = some (.int .i64 h2) := hbX.cell 1
          have q2 : wb.cell? ⟨wr.heap.size, 2, none⟩ = some (.slice A2 n2 c2) := hbX.cell 2
          clear hb_ hbX HSa Xa
          go_wp2_with (at_builtin; first | (refine Lib.wpList_append_run _ rfl _ _ _ _ rfl _ _ rfl rfl _ _ hrun ?_; clear hrun))
          have HG := Lib.hid (HG0.out d _ wb HW0.out (HD.out.keep HSb.out.below) (Rd.keep HSb.out.below _ _ YR.out) (by omega))
          go_wp2_with fail
          refine HG.out.mono ?_
          rintro e wc ⟨hb, A9, n9, c9, rfl, hrow⟩
          have hn9 := hrow.len
          obtain ⟨gd, zd, wd, hrun, hd_⟩ := (HSb.out.keep hb).list hrow.tl (by have := sh_pos (nmD ds) HW0.out; omega) (by rw [List.length_append, hL]; show L + 1 + n9 ≤ 1000000; omega)
          rw [List.length_append, hL] at hrun hd_
          obtain ⟨md, hmd⟩ : ∃ m, L + [mO].length + n9 = m := ⟨_, rfl⟩
          rw [hmd] at hrun hd_
          have HSd := Lib.hid hd_
          have hmd2 : md + 1 ≤ 1000000 := by rw [← hmd]; show L + 1 + n9 + 1 ≤ 1000000; omega
          clear hd_ HSb HG hb hrow q0 q1 q2
          go_wp2_with (at_builtin; first | (refine Lib.wpList_append_run _ rfl _ _ _ _ rfl _ _ rfl rfl _ _ hrun ?_; clear hrun))
          have HC := Lib.hid (rMark15C ⟨#[41]⟩ wd)
          go_wp2_with fail
          refine HC.out.mono ?_
          rintro e we ⟨rfl, hbe⟩
          have HSe := Lib.hid (HSd.out.keep hbe)
          clear HC hbe HSd
          obtain ⟨gf, zf, wf, hrun, hf_⟩ := HSe.out.lit [mC] 1 rfl (by omega) (by rw [List.length_append, List.length_append, hL, hn9]; show L + 1 + n9 + 1 ≤ 1000000; omega)
          rw [show (cellsT [mC]).toArray = #[.int .i64 1, .string ⟨#[41]⟩] from rfl, List.length_append, List.length_append, hL, hn9, hmd] at hrun
          rw [List.length_append, List.length_append, hL, hn9, hmd] at hf_
          obtain ⟨mf, hmf⟩ : ∃ m, md + 1 = m := ⟨_, rfl⟩
          rw [hmf] at hrun hf_
          have HSf := Lib.hid hf_
          clear hf_ HSe
          go_wp2_with (at_builtin; first | (refine Lib.wpList_append_run _ rfl _ _ _ _ rfl _ _ rfl rfl _ _ hrun ?_; clear hrun))
          go_roundw
          case rel => exact ⟨j + 1, _, by omega, by go_num, rfl, Lib.hid (by rw [HTK.out.2, argS_par HAL.out]; simpa using HSf.out)⟩
          case measure => simp [intOf]; omega
    · go_wp2_with fail
      go_ret
      obtain ⟨Av, cv, rfl, _, _⟩ := HS.out.row.full
      exact HS.out.fin (by rw [sh_head _ _ _ _ (by decide) (by decide) (by decide), show hdS (nmD ds) 4 (g : Int) d = bnm gj by rw [hdS, if_pos rfl, ← HJ.out]; simp, List.take_of_length_le (by have := HN.out; omega)]; simp)
set_option maxRecDepth 100000 in
set_option maxHeartbeats 4000000 in
theorem rTokGlob {k : Int} {g : Nat} {xs : List T} (hk : k = 2 ∨ k = 5) (hI : ∀ t ∈ xs, TkS ds SA sn sc t) (d : Nat) (tv : Value) (w : World) (hw : Wr_ ds.length d (.node k (g : Int) xs)) (hg : g < sn) (hD : DS w ds SA sn sc) (hv : Rd w (.node k (g : Int) xs) tv) (hl : (shT (nmD ds) (.node k (g : Int) xs) d).length ≤ 1000000) :
    Calls Tryd.prog 32 #[tv, .slice SA sn sc, .int .i64 (d : Nat)] w (RTk (shT (nmD ds) (.node k (g : Int) xs) d) w) := by
  have h0 : k ≠ 0 := by rcases hk with rfl | rfl <;> decide
  have h1 : k ≠ 1 := by rcases hk with rfl | rfl <;> decide
  have h3 : k ≠ 3 := by rcases hk with rfl | rfl <;> decide
  have h4 : k ≠ 4 := by rcases hk with rfl | rfl <;> decide
  obtain ⟨s, hs⟩ : ∃ s, nmD ds (g : Int) = s := ⟨_, rfl⟩
  have hsh : hdS (nmD ds) k (g : Int) d = s := by rw [hdS, if_neg h4, hs]
  obtain ⟨A, n, c, rfl, _, _, hn, hc, hcm, hx⟩ := Rd_node.1 hv
  rw [sh_head _ _ _ _ h0 h1 h3] at hl
  have hl' : ((0, s) :: xs.flatMap (argS (nmD ds) d)).length ≤ 1000000 := by simpa using hl
  have HL := Lib.hid hl'
  have HN := Lib.hid hn
  have HX := Lib.hid hx
  have HI := Lib.hid hI
  have HD := Lib.hid hD
  have HW := Lib.hid (hw.args h1 h3)
  have hd : d < 100 := by have := hw.deep; omega
  unfold maxLen at hcm
  clear hl hl' hn hx hI
  have hsn := hD.len
  have hscm := hD.cap
  have hscl := hD.le
  unfold maxLen at hscm
  have e0 : (k == 0) = false := by simpa using h0
  have e1 : (k == 1) = false := by simpa using h1
  have e3 : (k == 3) = false := by simpa using h3
  have e4 : (k == 4) = false := by simpa using h4
  have hg0 : (0 : Int) ≤ (g : Int) := by omega
  have hg1 : (g : Int) < (sn : Int) := by omega
  have HSH := Lib.hid hsh
  have HSS := Lib.hid hs
  clear hv hD hw hsh hs
  obtain ⟨W, hW⟩ : ∃ W, w.alloc (.cells #[.int .i64 k, .int .i64 (g : Nat), .slice A n c] 24) = W := ⟨_, rfl⟩
  have HS0 := Lib.hid (show RS w #[.int .i64 k, .int .i64 (g : Nat), .slice A n c] [] W (.slice none 0 0) by rw [← hW]; exact RS.start _ _)
  have b0 : W.cell? ⟨w.heap.size, 0, none⟩ = some (.int .i64 k) := HS0.out.box.cell 0
  have b1 : W.cell? ⟨w.heap.size, 1, none⟩ = some (.int .i64 (g : Nat)) := HS0.out.box.cell 1
  have b2 : W.cell? ⟨w.heap.size, 2, none⟩ = some (.slice A n c) := HS0.out.box.cell 2
  obtain ⟨dd, hdd⟩ := at_ofX (l := ds) (k := g) rfl (by omega)
  obtain ⟨sb, so, k', h', A', n', c', e3, q0_, _⟩ := (HD.out.keep (HS0.out.below)).at_ g dd hdd
  subst e3
  have qn : W.cell? ⟨sb, so + g * 4, none⟩ = some (.string s) := by
    have e5 : dd.1 = s := by rw [← HSS.out, nmD, Int.toNat_natCast, List.getD_eq_getElem?_getD, hdd]; rfl
    rw [← e5]; exact q0_
  clear q0_ hdd
  go_enter Tryd.func32, Tryd.ntmps32
  have HC := Lib.hid (rName15C s W)
  go_wp2_with fail
  refine HC.out.mono ?_
  rintro e w0_ ⟨rfl, hb⟩
  have H0 := Lib.hid (HS0.out.keep hb)
  clear HC hb HS0 b0 b1 b2 qn

  obtain ⟨g1, z1, w1, hrun, h1_⟩ := H0.out.lit [(0, s)] 1 rfl (by omega) (by show 0 + 1 ≤ 1000000; omega)
  rw [show (cellsT [(0, s)]).toArray = #[.int .i64 0, .string (s)] from rfl, show List.length ([] : List Tk) + 1 = 1 from rfl] at hrun
  rw [show List.length ([] : List Tk) + 1 = 1 from rfl, List.nil_append] at h1_
  have H1 := Lib.hid h1_
  have b0w1 : w1.cell? ⟨w.heap.size, 0, none⟩ = some (.int .i64 k) := H1.out.box.cell 0
  have b1w1 : w1.cell? ⟨w.heap.size, 1, none⟩ = some (.int .i64 (g : Nat)) := H1.out.box.cell 1
  have b2w1 : w1.cell? ⟨w.heap.size, 2, none⟩ = some (.slice A n c) := H1.out.box.cell 2
  clear h1_ H0
  go_wp2_with (at_builtin; first | (refine Lib.wpList_append_run _ rfl _ _ _ _ rfl _ _ rfl rfl _ _ hrun ?_; clear hrun))
  go_loopw [9, 10] (fun ov i wr => ∃ (j : Nat) (vr : Value), j ≤ n ∧ i = .int .i64 j ∧ ov = vr ∧ Hid (RS w #[.int .i64 k, .int .i64 (g : Nat), .slice A n c] ([(0, s)] ++ (xs.take j).flatMap (argS (nmD ds) d)) wr vr)) (fun _ i _ => n - (intOf i).toNat)
  case atStart => exact ⟨0, _, Nat.zero_le _, rfl, rfl, Lib.hid (by simpa using H1.out)⟩
  case round =>
    clear H1 b0w1 b1w1 b2w1
    obtain ⟨j, vr, hj, rfl, hov, HS⟩ := hrel
    have hov2 := hov.symm
    clear hov
    subst hov2
    have b2wr : wr.cell? ⟨w.heap.size, 2, none⟩ = some (.slice A n c) := HS.out.box.cell 2
    by_cases hlt : j < n
    · obtain ⟨t, ht⟩ := at_of HN.out hlt
      obtain ⟨b, o, k2, h2, A2, n2, c2, rfl, y0, y1, y2, yr⟩ := (HX.out j t ht).full
      have hle := len_take (f := argS (nmD ds) d) ht
      have htk := take_one (f := argS (nmD ds) d) ht
      have HTK := Lib.hid (And.intro hle htk)
      have hmem := List.mem_of_getElem? ht
      have HG0 := Lib.hid (HI.out t hmem)
      have HW0 := Lib.hid (HW.out t hmem)
      clear hle htk hmem ht
      obtain ⟨k3, h3', x3⟩ := t
      obtain ⟨A3, n3, c3, e, _, _, hn3, hc3, hm3, _⟩ := Rd_node.1 yr
      obtain ⟨rfl, rfl, rfl, rfl, rfl⟩ : k2 = k3 ∧ h2 = h3' ∧ A2 = A3 ∧ n2 = n3 ∧ c2 = c3 := by simpa using e
      clear e
      have p0 := (HS.out.below.cell (cell_lt y0)).trans y0
      have p1 := (HS.out.below.cell (cell_lt y1)).trans y1
      have p2 := (HS.out.below.cell (cell_lt y2)).trans y2
      have hi0 : (0 : Int) ≤ j := by omega
      have hi1 : (j : Int) < n := by omega
      unfold maxLen at hm3
      obtain ⟨W7, hW7⟩ : ∃ W7, wr.alloc (.cells #[.int .i64 k2, .int .i64 h2, .slice A2 n2 c2] 24) = W7 := ⟨_, rfl⟩
      have hb7 : Below wr.heap.size wr W7 := by rw [← hW7]; exact (Below.refl _ _).alloc (Nat.le_refl _) _
      have x7 : BoxX W7 wr.heap.size 24 #[.int .i64 k2, .int .i64 h2, .slice A2 n2 c2] := by rw [← hW7]; exact BoxX.new _ _ _
      have q0 : W7.cell? ⟨wr.heap.size, 0, none⟩ = some (.int .i64 k2) := x7.cell 0
      have q1 : W7.cell? ⟨wr.heap.size, 1, none⟩ = some (.int .i64 h2) := x7.cell 1
      have q2 : W7.cell? ⟨wr.heap.size, 2, none⟩ = some (.slice A2 n2 c2) := x7.cell 2
      have HP := Lib.hid (rPlainC k2 h2 A2 n2 c2 W7)
      have HO := Lib.hid (show vr.ownBlock ≠ some wr.heap.size from fun e => by have := (HS.out.row.lt e).2; omega)
      have HS7 := Lib.hid (HS.out.keep hb7)
      have X7 := Lib.hid x7
      have YR := Lib.hid yr
      clear y0 y1 y2 yr x7 hb7 HS
      go_wp2_with fail
      refine HP.out.mono ?_
      rintro e w8 ⟨rfl, hb8⟩
      have HS8 := Lib.hid (HS7.out.keep hb8)
      have X8 := Lib.hid (X7.out.keep hb8 X7.out.lt)
      clear HP hb8 HS7 X7 q0 q1 q2 p0 p1 p2 hW7 b2wr
      have q0 : w8.cell? ⟨wr.heap.size, 0, none⟩ = some (.int .i64 k2) := X8.out.cell 0
      have q1 : w8.cell? ⟨wr.heap.size, 1, none⟩ = some (.int .i64 h2) := X8.out.cell 1
      have q2 : w8.cell? ⟨wr.heap.size, 2, none⟩ = some (.slice A2 n2 c2) := X8.out.cell 2
      have hcs := HW0.out.cases
      by_cases hal : aloB (.node k2 h2 x3) = true
      · have hpl : (k2 == 4 || (k2 == 2 || k2 == 5)) = true ∧ n2 = 0 := by
          have e0 := hal
          rw [aloB, Bool.and_eq_true, List.isEmpty_iff, Bool.not_eq_true', beq_eq_false_iff_ne] at e0
          obtain ⟨rfl, hz⟩ := e0
          refine ⟨?_, by simpa using hn3.symm⟩
          rcases hcs with ⟨e, _⟩ | ⟨_, _, _, _, e⟩ | ⟨_, _, _, e⟩ | ⟨e, _⟩ | ⟨e, _⟩
          · exact absurd e hz
          · cases e
          · cases e
          · rw [e]; rfl
          · rcases e with rfl | rfl <;> rfl
        obtain ⟨hpl, rfl⟩ := hpl
        rw [hpl]
        have HAL := Lib.hid hal
        clear hal hpl hcs
        have HG := Lib.hid (HG0.out d _ w8 HW0.out (HD.out.keep HS8.out.below) (Rd.keep HS8.out.below _ _ YR.out) (by
          have h5 := HL.out
          have h6 := HTK.out.1
          rw [argS_alone HAL.out] at h6
          simp only [List.length_cons] at h5 ⊢
          omega))
        go_wp2_with fail
        refine HG.out.mono ?_
        rintro e w9 ⟨hb, A9, n9, c9, rfl, hrow⟩
        obtain ⟨g9, z9, v9, hrun, h9⟩ := (HS8.out.keep hb).list hrow.tl (by have := hrow.len; have := sh_pos (nmD ds) HW0.out; omega) (by
          have := hrow.len
          have h5 := HL.out
          have h6 := HTK.out.1
          rw [argS_alone HAL.out] at h6
          simp only [List.length_append, List.length_cons, List.length_nil] at h5 ⊢
          omega)
        have H9 := Lib.hid h9
        clear h9 HG hb hrow HS8 X8 q0 q1 q2
        obtain ⟨m9, hm9⟩ : ∃ m, List.length ([(0, s)] ++ (xs.take j).flatMap (argS (nmD ds) d)) + n9 = m := ⟨_, rfl⟩
        rw [hm9] at hrun H9
        clear hm9
        go_wp2_with (at_builtin; first | (refine Lib.wpList_append_run _ rfl _ _ _ _ rfl _ _ rfl rfl _ _ hrun ?_; clear hrun))
        go_roundw
        case rel => exact ⟨j + 1, _, by omega, by go_num, rfl, Lib.hid (by rw [HTK.out.2, argS_alone HAL.out, ← List.append_assoc]; exact H9.out)⟩
        case measure => simp [intOf]; omega
      · have hal' : aloB (.node k2 h2 x3) = false := by simpa using hal
        have HAL := Lib.hid hal'
        have hpl : (k2 == 4 || (k2 == 2 || k2 == 5)) = false ∨ ((k2 == 4 || (k2 == 2 || k2 == 5)) = true ∧ ((n2 : Int) == 0) = false) := by
          cases hq : (k2 == 4 || (k2 == 2 || k2 == 5)) with
          | false => exact .inl rfl
          | true =>
            refine .inr ⟨rfl, ?_⟩
            rw [beq_eq_false_iff_ne]
            intro hz
            have hx : x3 = [] := List.length_eq_zero_iff.1 (by omega)
            subst hx
            refine hal ?_
            rw [aloB, Bool.and_eq_true, Bool.not_eq_true', beq_eq_false_iff_ne]
            refine ⟨rfl, ?_⟩
            rintro rfl
            cases hq
        clear hal hal' hcs
        have HC := Lib.hid (rMark15C ⟨#[40]⟩ w8)
        rcases hpl with hpl | ⟨hpl, dn⟩
        all_goals rw [hpl]; clear hpl
        · go_wp2_with fail
          refine HC.out.mono ?_
          rintro e wa ⟨rfl, hba⟩
          have HSa := Lib.hid (HS8.out.keep hba)
          have Xa := Lib.hid (X8.out.keep hba X8.out.lt)
          clear HC hba HS8 X8 q0 q1 q2
          have hlen := HL.out
          have h6 := HTK.out.1
          rw [argS_par HAL.out] at h6
          simp only [List.length_append, List.length_cons, List.length_nil] at hlen h6
          obtain ⟨L, hL⟩ : ∃ L, List.length ([(0, s)] ++ (xs.take j).flatMap (argS (nmD ds) d)) = L := ⟨_, rfl⟩
          have hLL : L + (1 + ((shT (nmD ds) (.node k2 h2 x3) d).length + 1)) ≤ 1000000 := by rw [← hL]; simp only [List.length_append, List.length_cons, List.length_nil]; omega
          clear hlen h6
          obtain ⟨gb, zb, wb, hrun, hb_, hbX⟩ := HSa.out.litK [mO] 1 rfl (by omega) (by rw [hL]; show L + 1 ≤ 1000000; omega) Xa.out HO.out
          rw [show (cellsT [mO]).toArray = #[.int .i64 1, .string ⟨#[40]⟩] from rfl, hL] at hrun
          rw [hL] at hb_
          obtain ⟨mb, hmb⟩ : ∃ m, L + 1 = m := ⟨_, rfl⟩
          rw [hmb] at hrun hb_
          have HSb := Lib.hid hb_
          have q0 : wb.cell? ⟨wr.heap.size, 0, none⟩ = some (.int .i64 k2) := hbX.cell 0
          have q1 : wb.cell? ⟨wr.heap.size, 1, none⟩ = some (.int .i64 h2) := hbX.cell 1
          have q2 : wb.cell? ⟨wr.heap.size, 2, none⟩ = some (.slice A2 n2 c2) := hbX.cell 2
          clear hb_ hbX HSa Xa
          go_wp2_with (at_builtin; first | (refine Lib.wpList_append_run _ rfl _ _ _ _ rfl _ _ rfl rfl _ _ hrun ?_; clear hrun))
          have HG := Lib.hid (HG0.out d _ wb HW0.out (HD.out.keep HSb.out.below) (Rd.keep HSb.out.below _ _ YR.out) (by omega))
          go_wp2_with fail
          refine HG.out.mono ?_
          rintro e wc ⟨hb, A9, n9, c9, rfl, hrow⟩
          have hn9 := hrow.len
          obtain ⟨gd, zd, wd, hrun, hd_⟩ := (HSb.out.keep hb).list hrow.tl (by have := sh_pos (nmD ds) HW0.out; omega) (by rw [List.length_append, hL]; show L + 1 + n9 ≤ 1000000; omega)
          rw [List.length_append, hL] at hrun hd_
          obtain ⟨md, hmd⟩ : ∃ m, L + [mO].length + n9 = m := ⟨_, rfl⟩
          rw [hmd] at hrun hd_
          have HSd := Lib.hid hd_
          have hmd2 : md + 1 ≤ 1000000 := by rw [← hmd]; show L + 1 + n9 + 1 ≤ 1000000; omega
          clear hd_ HSb HG hb hrow q0 q1 q2
          go_wp2_with (at_builtin; first | (refine Lib.wpList_append_run _ rfl _ _ _ _ rfl _ _ rfl rfl _ _ hrun ?_; clear hrun))
          have HC := Lib.hid (rMark15C ⟨#[41]⟩ wd)
          go_wp2_with fail
          refine HC.out.mono ?_
          rintro e we ⟨rfl, hbe⟩
          have HSe := Lib.hid (HSd.out.keep hbe)
          clear HC hbe HSd
          obtain ⟨gf, zf, wf, hrun, hf_⟩ := HSe.out.lit [mC] 1 rfl (by omega) (by rw [List.length_append, List.length_append, hL, hn9]; show L + 1 + n9 + 1 ≤ 1000000; omega)
          rw [show (cellsT [mC]).toArray = #[.int .i64 1, .string ⟨#[41]⟩] from rfl, List.length_append, List.length_append, hL, hn9, hmd] at hrun
          rw [List.length_append, List.length_append, hL, hn9, hmd] at hf_
          obtain ⟨mf, hmf⟩ : ∃ m, md + 1 = m := ⟨_, rfl⟩
          rw [hmf] at hrun hf_
          have HSf := Lib.hid hf_
          clear hf_ HSe
          go_wp2_with (at_builtin; first | (refine Lib.wpList_append_run _ rfl _ _ _ _ rfl _ _ rfl rfl _ _ hrun ?_; clear hrun))
          go_roundw
          case rel => exact ⟨j + 1, _, by omega, by go_num, rfl, Lib.hid (by rw [HTK.out.2, argS_par HAL.out]; simpa using HSf.out)⟩
          case measure => simp [intOf]; omega
        · go_wp2_with fail
          refine HC.out.mono ?_
          rintro e wa ⟨rfl, hba⟩
          have HSa := Lib.hid (HS8.out.keep hba)
          have Xa := Lib.hid (X8.out.keep hba X8.out.lt)
          clear HC hba HS8 X8 q0 q1 q2
          have hlen := HL.out
          have h6 := HTK.out.1
          rw [argS_par HAL.out] at h6
          simp only [List.length_append, List.length_cons, List.length_nil] at hlen h6
          obtain ⟨L, hL⟩ : ∃ L, List.length ([(0, s)] ++ (xs.take j).flatMap (argS (nmD ds) d)) = L := ⟨_, rfl⟩
          have hLL : L + (1 + ((shT (nmD ds) (.node k2 h2 x3) d).length + 1)) ≤ 1000000 := by rw [← hL]; simp only [List.length_append, List.length_cons, List.length_nil]; omega
          clear hlen h6
          obtain ⟨gb, zb, wb, hrun, hb_, hbX⟩ := HSa.out.litK [mO] 1 rfl (by omega) (by rw [hL]; show L + 1 ≤ 1000000; omega) Xa.out HO.out
          rw [show (cellsT [mO]).toArray = #[.int .i64 1, .string ⟨#[40]⟩] from rfl, hL] at hrun
          rw [hL] at hb_
          obtain ⟨mb, hmb⟩ : ∃ m, L + 1 = m := ⟨_, rfl⟩
          rw [hmb] at hrun hb_
          have HSb := Lib.hid hb_
          have q0 : wb.cell? ⟨wr.heap.size, 0, none⟩ = some (.int .i64 k2) := hbX.cell 0
          have q1 : wb.cell? ⟨wr.heap.size, 1, none⟩ = some (.int .i64 h2) := hbX.cell 1
          have q2 : wb.cell? ⟨wr.heap.size, 2, none⟩ = some (.slice A2 n2 c2) := hbX.cell 2
          clear hb_ hbX HSa Xa
          go_wp2_with (at_builtin; first | (refine Lib.wpList_append_run _ rfl _ _ _ _ rfl _ _ rfl rfl _ _ hrun ?_; clear hrun))
          have HG := Lib.hid (HG0.out d _ wb HW0.out (HD.out.keep HSb.out.below) (Rd.keep HSb.out.below _ _ YR.out) (by omega))
          go_wp2_with fail
          refine HG.out.mono ?_
          rintro e wc ⟨hb, A9, n9, c9, rfl, hrow⟩
          have hn9 := hrow.len
          obtain ⟨gd, zd, wd, hrun, hd_⟩ := (HSb.out.keep hb).list hrow.tl (by have := sh_pos (nmD ds) HW0.out; omega) (by rw [List.length_append, hL]; show L + 1 + n9 ≤ 1000000; omega)
          rw [List.length_append, hL] at hrun hd_
          obtain ⟨md, hmd⟩ : ∃ m, L + [mO].length + n9 = m := ⟨_, rfl⟩
          rw [hmd] at hrun hd_
          have HSd := Lib.hid hd_
          have hmd2 : md + 1 ≤ 1000000 := by rw [← hmd]; show L + 1 + n9 + 1 ≤ 1000000; omega
          clear hd_ HSb HG hb hrow q0 q1 q2
          go_wp2_with (at_builtin; first | (refine Lib.wpList_append_run _ rfl _ _ _ _ rfl _ _ rfl rfl _ _ hrun ?_; clear hrun))
          have HC := Lib.hid (rMark15C ⟨#[41]⟩ wd)
          go_wp2_with fail
          refine HC.out.mono ?_
          rintro e we ⟨rfl, hbe⟩
          have HSe := Lib.hid (HSd.out.keep hbe)
          clear HC hbe HSd
          obtain ⟨gf, zf, wf, hrun, hf_⟩ := HSe.out.lit [mC] 1 rfl (by omega) (by rw [List.length_append, List.length_append, hL, hn9]; show L + 1 + n9 + 1 ≤ 1000000; omega)
          rw [show (cellsT [mC]).toArray = #[.int .i64 1, .string ⟨#[41]⟩] from rfl, List.length_append, List.length_append, hL, hn9, hmd] at hrun
          rw [List.length_append, List.length_append, hL, hn9, hmd] at hf_
          obtain ⟨mf, hmf⟩ : ∃ m, md + 1 = m := ⟨_, rfl⟩
          rw [hmf] at hrun hf_
          have HSf := Lib.hid hf_
          clear hf_ HSe
          go_wp2_with (at_builtin; first | (refine Lib.wpList_append_run _ rfl _ _ _ _ rfl _ _ rfl rfl _ _ hrun ?_; clear hrun))
          go_roundw
          case rel => exact ⟨j + 1, _, by omega, by go_num, rfl, Lib.hid (by rw [HTK.out.2, argS_par HAL.out]; simpa using HSf.out)⟩
          case measure => simp [intOf]; omega
    · go_wp2_with fail
      go_ret
      obtain ⟨Av, cv, rfl, _, _⟩ := HS.out.row.full
      exact HS.out.fin (by rw [sh_head _ _ _ _ h0 h1 h3, HSH.out, List.take_of_length_le (by have := HN.out; omega)]; simp)
/-- tokens, of every term -/
theorem rTok (hsn : ds.length = sn) (t : T) : TkS ds SA sn sc t := by
  refine T.ind (M := fun t => TkS ds SA sn sc t) ?_ t
  intro k h xs ih d tv w hw hD hv hl
  rcases hw.cases with ⟨rfl, rfl, rfl⟩ | ⟨rfl, rfl, a, b, rfl⟩ | ⟨rfl, rfl, a, rfl⟩ | ⟨rfl, e1, e2⟩ | ⟨e, e1, e2⟩
  · obtain ⟨A, n, c, rfl, _⟩ := Rd_node.1 hv
    exact rTokSort A n c d w
  · exact rTokPi (ih a (by simp)) (ih b (by simp)) d tv w hw hD hv hl
  · exact rTokLam (ih a (by simp)) d tv w hw hD hv hl
  · obtain ⟨g, rfl⟩ : ∃ g : Nat, h = g := ⟨h.toNat, by omega⟩
    exact rTokVar (fun t ht => ih t ht) d tv w hw (by omega) hD hv hl
  · obtain ⟨g, rfl⟩ : ∃ g : Nat, h = g := ⟨h.toNat, by omega⟩
    exact rTokGlob e (fun t ht => ih t ht) d tv w hw (by omega) hD hv hl
end Go.Proofs.YtmkahbbcagfbhaaDoor

/-
  Contracts of the document's own Name and Term. No statement is proved here.
-/
namespace Go.Proofs.YtmkahbbcagfbhaaDoor
open Go.ChangeShapes Go.WideShapes Go.ChangeAt Go.RowKit
set_option linter.unusedVariables false

theorem nmB_all {s : ByteArray} (h : nmB s = true) : 0 < s.size ∧ s.size ≤ 40 ∧ s ≠ tyN ∧ lexE s.data.toList = 0 ∧ lexT s.data.toList = [(0, s)] ∧ s.data.toList.head? ≠ some 95 := by
  unfold nmB at h
  simp only [Bool.and_eq_true, decide_eq_true_eq] at h
  obtain ⟨h1, h2, h3, h4, h5⟩ := h
  refine ⟨?_, h1, h2, h3, h4, h5⟩
  rcases lexE_cases s.data.toList (by rw [Array.length_toList]; show s.size ≤ _; omega) with ⟨_, hx2⟩ | ⟨h8, _, _⟩
  · rcases toks_good hx2 (0, s) (by rw [h4]; exact List.mem_singleton.2 rfl) with ⟨h9, _⟩ | ⟨_, h9, _⟩
    · cases h9
    · have := List.length_pos_iff.2 h9
      rw [Array.length_toList] at this
      exact this
  · rw [h3] at h8; cases h8
theorem nmB_no {s : ByteArray} {r : Bool} (hr : nmB s = r) (h : nmB s = true → False) : r = false := by
  rw [← hr, Bool.eq_false_iff]
  exact h
set_option maxRecDepth 100000 in
set_option maxHeartbeats 2000000 in
theorem rRNameC (s : ByteArray) (hs : s.size ≤ maxLen) (w : World) : Calls Tryd.prog 33 #[.string s] w fun e w' => e = .returned (.bool (nmB s)) ∧ Below w.heap.size w w' := by
  obtain ⟨r, hr⟩ : ∃ r, nmB s = r := ⟨_, rfl⟩
  rw [hr]
  have HR := Lib.hid hr
  have hcv := Lib.run_convert_string_bytes (P := Tryd.prog) w 9 29 5 s Tryd.underlying9 Tryd.underlying29 Tryd.underlying5
  have HT := Lib.hid (xRTokensC _ _ _ _ _ (YL.conv w s hs))
  have HB := Lib.hid (below_conv w s)
  have HM := Lib.hid hs
  clear hr hs
  go_enter Tryd.func33, Tryd.ntmps33
  go_wp2_with fail
  refine HT.out.mono ?_
  rintro e w1 ⟨A1, n1, c1, rfl, hrow, hb1⟩
  have HB1 := Lib.hid (HB.out.trans (hb1.mono HB.out.size))
  have HTL := Lib.hid hrow.tl
  clear hrow hb1 HT HB hcv
  obtain ⟨ec, hec⟩ : ∃ ec, lexE s.data.toList = ec := ⟨_, rfl⟩
  rw [hec]
  have HE := Lib.hid hec
  clear hec
  by_cases he : ec = 0
  rotate_left
  · have d9 : (ec == 0) = false := by simpa using he
    obtain rfl := nmB_no HR.out fun h => he (HE.out.symm.trans (nmB_all h).2.2.2.1)
    go_wp2_with fail
    go_ret
    exact ⟨rfl, HB1.out⟩
  subst he
  by_cases h0 : 0 < s.size
  rotate_left
  · have d1 : decide ((s.size : Int) < 1) = true := by simp; omega
    obtain rfl := nmB_no HR.out fun h => h0 (nmB_all h).1
    go_wp2_with fail
    go_ret
    exact ⟨rfl, HB1.out⟩
  have d1 : decide ((s.size : Int) < 1) = false := by simp; omega
  by_cases h1 : 40 < s.size
  · have d2 : decide ((40 : Int) < (s.size : Int)) = true := by simp; omega
    obtain rfl := nmB_no HR.out fun h => by have := (nmB_all h).2.1; omega
    go_wp2_with fail
    go_ret
    exact ⟨rfl, HB1.out⟩
  have d2 : decide ((40 : Int) < (s.size : Int)) = false := by simp; omega
  by_cases h2 : s = tyN
  · have heq : (s.toList == [116, 121, 112, 101]) = true := (eq_TB s).trans (decide_eq_true h2)
    obtain rfl := nmB_no HR.out fun h => (nmB_all h).2.2.1 h2
    clear h2
    go_wp2_with fail
    go_ret
    exact ⟨rfl, HB1.out⟩
  have heq : (s.toList == [116, 121, 112, 101]) = false := (eq_TB s).trans (decide_eq_false h2)
  clear h1 h2
  have hh : s.data.toList.head? = some s[0] := by
    rw [List.head?_eq_getElem?, Array.getElem?_toList, Array.getElem?_eq_getElem (show 0 < s.data.size from h0)]
    rfl
  have HH := Lib.hid hh
  clear hh
  by_cases h3 : s[0] = 95
  · have d3 : ((s[0].toNat : Int) == 95) = true := by rw [h3]; rfl
    obtain rfl := nmB_no HR.out fun h => (nmB_all h).2.2.2.2.2 (by rw [HH.out, h3])
    clear h3
    go_wp2_with fail
    go_ret
    exact ⟨rfl, HB1.out⟩
  have d3 : ((s[0].toNat : Int) == 95) = false := by
    rw [beq_eq_false_iff_ne]
    intro e
    exact h3 (UInt8.toNat_inj.1 (by simpa using (by omega : s[0].toNat = 95)))
  have H3 := Lib.hid h3
  clear h3
  have hln := HTL.out.len
  have hfin : ∀ b : Bool, (b = true ↔ lexT s.data.toList = [(0, s)]) → b = r := by
    intro b hb
    rw [Bool.eq_iff_iff, hb, ← HR.out]
    constructor
    · intro h
      unfold nmB
      simp only [Bool.and_eq_true, decide_eq_true_eq]
      refine ⟨?_, ?_, HE.out, h, ?_⟩
      · have : decide ((40 : Int) < (s.size : Int)) = false := d2
        simp at this
        omega
      · rintro rfl
        rw [(eq_TB tyN), decide_eq_true rfl] at heq
        cases heq
      · rw [HH.out]
        exact fun e => H3.out (Option.some.inj e)
    · intro h
      exact (nmB_all h).2.2.2.2.1
  have HF := Lib.hid hfin
  clear hfin
  by_cases hn : n1 = 1
  rotate_left
  · have d4 : ((n1 : Int) == 1) = false := by simpa using (by omega : ¬ (n1 : Int) = 1)
    clear hln
    go_wp2_with fail
    go_ret
    exact ⟨ret_bool (HF.out false ⟨fun h => (by cases h), fun h => absurd (by rw [← HTL.out.len, h]; rfl) hn⟩), HB1.out⟩
  subst hn
  obtain ⟨kz, hkz⟩ := List.length_eq_one_iff.1 hln
  obtain ⟨k, z⟩ := kz
  obtain ⟨b, o, rfl, q0, q1⟩ := HTL.out.at_ 0 (k, z) (by rw [hkz]; rfl)
  simp only [Nat.zero_mul, Nat.add_zero] at q0 q1
  have HK := Lib.hid hkz
  clear hkz hln
  by_cases hk : k = 0
  rotate_left
  · have d5 : (k == 0) = false := by simpa using hk
    go_wp2_with fail
    go_ret
    exact ⟨ret_bool (HF.out false ⟨fun h => (by cases h), fun h => absurd (by rw [HK.out] at h; simpa using congrArg Prod.fst (List.cons.inj h).1) hk⟩), HB1.out⟩
  subst hk
  have hzs := bytes_eqB z s
  obtain ⟨rz, hrz⟩ : ∃ rz, (z.toList == s.toList) = rz := ⟨_, rfl⟩
  rw [hrz] at hzs
  have HZ := Lib.hid hzs
  clear hzs
  cases rz with
  | false =>
    go_wp2_with fail
    go_ret
    exact ⟨ret_bool (HF.out false ⟨fun h => (by cases h), fun h => absurd (by rw [HK.out] at h; simpa using congrArg Prod.snd (List.cons.inj h).1) (of_decide_eq_false HZ.out.symm)⟩), HB1.out⟩
  | true =>
    go_wp2_with fail
    go_ret
    exact ⟨ret_bool (HF.out true ⟨fun _ => by rw [HK.out, of_decide_eq_true HZ.out.symm], fun _ => rfl⟩), HB1.out⟩
set_option maxRecDepth 100000 in
set_option maxHeartbeats 2000000 in
theorem rTermC (ds : List (ByteArray × T)) (t : T) (v : Value) (SA : Option Addr) (sn sc : Nat) (w : World) (hv : Rd w t v) (hD : DS w ds SA sn sc) (hs : ∀ d ∈ ds, d.1.size ≤ 100) (hnd : nd t ≤ 1048576) :
    Calls Tryd.prog 12 #[v, .slice SA sn sc] w (STm ds t w) := by
  obtain ⟨k, h, A, n, c, rfl⟩ := hv.full
  obtain ⟨W, hW⟩ : ∃ W, w.alloc (.cells #[.int .i64 k, .int .i64 h, .slice A n c] 24) = W := ⟨_, rfl⟩
  have hb : Below w.heap.size w W := by rw [← hW]; exact (Below.refl _ _).alloc (Nat.le_refl _) _
  have x0 : BoxX W w.heap.size 24 #[.int .i64 k, .int .i64 h, .slice A n c] := by rw [← hW]; exact BoxX.new _ _ _
  have hlen := hD.len
  have hsn := hD.le
  have hscm := hD.cap
  have HM := Lib.hid (refMay t _ W (Rd.keep hb _ _ hv))
  have HV := Lib.hid hv
  have HD := Lib.hid hD
  have HS := Lib.hid hs
  have HB := Lib.hid hb
  have HX0 := Lib.hid x0
  have HLE := Lib.hid hlen
  clear hv hD hs hb x0 hlen
  obtain ⟨r1, hr1⟩ : ∃ r, mayB t = r := ⟨_, rfl⟩
  rw [hr1] at HM
  have HR1 := Lib.hid ((mayB_my hnd).symm.trans hr1)
  clear hr1 hnd
  subst hW
  go_enter Tryd.func12, Tryd.ntmps12
  go_wp2_with fail
  refine HM.out.mono ?_
  rintro e w1 ⟨rfl, hb1⟩
  have HB1 := Lib.hid (HB.out.trans (hb1.mono HB.out.size))
  have y0 := HX0.out.keep hb1 HX0.out.lt
  clear HM hb1 HX0 HB
  cases r1 with
  | false =>
    go_wp2_with fail
    go_ret2
    exact ⟨HB1.out, none, 0, 0, 1, rfl, .inr ⟨by rw [showT, if_neg (by rw [HR1.out]; decide)], by decide, rfl, rfl, rfl⟩⟩
  | true =>
    have q0 := y0.cell 0
    have q1 := y0.cell 1
    have q2 := y0.cell 2
    simp only [List.getElem?_toArray, List.getElem?_cons_zero, List.getElem?_cons_succ] at q0 q1 q2
    have hsc := refScoped t 0 0 _ w1 (Rd.keep HB1.out _ _ HV.out)
    obtain ⟨r2, hr2⟩ : ∃ r, scB t 0 0 = r := ⟨_, rfl⟩
    rw [hr2] at hsc
    have HC := Lib.hid hsc
    have HR2 := Lib.hid hr2
    have HY0 := Lib.hid y0
    clear hsc hr2 y0
    go_wp2_with fail
    refine HC.out.mono ?_
    rintro e w2 ⟨rfl, hb2⟩
    have HB2 := Lib.hid (HB1.out.trans (hb2.mono HB1.out.size))
    have y0 := HY0.out.keep hb2 HY0.out.lt
    clear HC hb2 HY0 HB1 q0 q1 q2
    have q0 := y0.cell 0
    have q1 := y0.cell 1
    have q2 := y0.cell 2
    simp only [List.getElem?_toArray, List.getElem?_cons_zero, List.getElem?_cons_succ] at q0 q1 q2
    have hhs := rHeadsC sn (Nat.le_trans hsn hscm) t _ w2 (Rd.keep HB2.out _ _ HV.out)
    obtain ⟨r3, hr3⟩ : ∃ r, hasB (sn : Nat) t = r := ⟨_, rfl⟩
    rw [hr3] at hhs
    have HC := Lib.hid hhs
    have HR3 := Lib.hid (show hasB ds.length t = r3 by rw [HLE.out]; exact hr3)
    have HY0 := Lib.hid y0
    clear hhs hr3 y0
    go_wp2_with fail
    refine HC.out.mono ?_
    rintro e w3 ⟨rfl, hb3⟩
    have HB3 := Lib.hid (HB2.out.trans (hb3.mono HB2.out.size))
    have y0 := HY0.out.keep hb3 HY0.out.lt
    clear HC hb3 HY0 HB2 q0 q1 q2
    cases r2 with
    | false =>
      go_wp2_with fail
      go_ret2
      exact ⟨HB3.out, none, 0, 0, 2, rfl, .inr ⟨by rw [showT, if_pos HR1.out, if_neg (by rw [HR2.out]; simp)], by decide, rfl, rfl, rfl⟩⟩
    | true =>
      cases r3 with
      | false =>
        go_wp2_with fail
        go_ret2
        exact ⟨HB3.out, none, 0, 0, 2, rfl, .inr ⟨by rw [showT, if_pos HR1.out, if_neg (by rw [HR3.out]; simp)], by decide, rfl, rfl, rfl⟩⟩
      | true =>
        have HSH := Lib.hid (show showT ds t = .ok (txtL false (shT (nmD ds) t 0)) by rw [showT, if_pos HR1.out, if_pos ⟨HR2.out, HR3.out⟩])
        have HW := Lib.hid (wr_of HSH.out)
        have q0 := y0.cell 0
        have q1 := y0.cell 1
        have q2 := y0.cell 2
        simp only [List.getElem?_toArray, List.getElem?_cons_zero, List.getElem?_cons_succ] at q0 q1 q2
        have hlt := sh_len (nm := nmD ds) t 0 HW.out.1
        have hnd := HW.out.2.2
        have HC := Lib.hid (rTok HLE.out t 0 _ w3 HW.out.1 (HD.out.keep HB3.out) (Rd.keep HB3.out _ _ HV.out) (by omega))
        clear hnd
        go_wp2_with fail
        refine HC.out.mono ?_
        rintro e w6 ⟨hb6, A6, n6, c6, rfl, hrow⟩
        have hn6 := hrow.len
        have HX := Lib.hid (xRTextC (shT (nmD ds) t 0) A6 n6 c6 w6 hrow.tl (by have := show_len HS.out HSH.out; omega) (by have := HW.out.2.2; omega))
        have HB6 := Lib.hid (HB3.out.trans (hb6.mono HB3.out.size))
        clear HC q0 q1 q2 hb6 hrow hn6 hlt
        go_wp2_with fail
        refine HX.out.mono ?_
        rintro e w7 ⟨A7, n7, c7, rfl, hy7, hb7⟩
        have HY := Lib.hid hy7
        have HB7 := Lib.hid (HB6.out.trans (hb7.mono HB6.out.size))
        clear HX hy7 hb7
        go_wp2_with fail
        go_ret2
        exact ⟨HB7.out, A7, n7, c7, 0, rfl, .inl ⟨_, HSH.out, rfl, HY.out.less HB6.out.size⟩⟩
end Go.Proofs.YtmkahbbcagfbhaaDoor

/-
  Contract of the document's own Decls of layer 15. No statement is proved here.
-/
namespace Go.Proofs.YtmkahbbcagfbhaaDoor
open Go.ChangeShapes Go.WideShapes Go.ChangeAt Go.RowKit
set_option linter.unusedVariables false

set_option maxRecDepth 100000 in
theorem YRow.appSn {w : World} {base : Nat} {v : Value} {n : Nat} {l : List UInt8} (h : YRow w base v n l) (s : ByteArray) (hb : base ≤ w.heap.size) (hn : n + s.size ≤ 140737488355328) :
    ∃ A c w', (Builtin.append_ #[29, 9] 29 #[v, .string s]).run Tryd.prog w = .ok (.slice A (n + s.size) c) w' ∧ YRow w' base (.slice A (n + s.size) c) (n + s.size) (l ++ s.data.toList) ∧ w.grownBy w' v.ownBlock ∧ NwX w v (.slice A (n + s.size) c) := by
  obtain ⟨A, c, w', hr, h2, h3⟩ := h.appS s hb hn
  refine ⟨A, c, w', hr, h2, h3, fun g hg => ?_⟩
  obtain ⟨i0, hi, hz0, hz1, hz2⟩ := info_u8
  have hxl : (l.map bV).length = n := by rw [List.length_map, h.len]
  have hown := h.own
  rcases h.own.2 with ⟨rfl, rfl⟩ | ⟨g0, cap, cur, rfl, hbg, hg0, hnc, hcm, hcs, htake⟩
  · right
    obtain ⟨A2, c2, w2, hr2, h22, _⟩ := (YRow.nil w w.heap.size).appS s (Nat.le_refl _) hn
    rw [hr] at hr2
    injection hr2 with e1 e2
    rw [e1] at hg
    exact (h22.lt hg).1
  · have hcs' : cur.size = cap := by simpa using hcs
    by_cases hroom : n + s.size ≤ cap
    · left
      have hr2 := Lib.run_append_room_string (P := Tryd.prog) w 29 9 29 5 i0 Tryd.underlying29 Tryd.underlying9 hi hz1 g0 n cap cur hg0 s hroom (by omega)
      rw [hr] at hr2
      injection hr2 with e1 e2
      rw [e1] at hg
      exact hg
    · right
      have holds : ∀ j u, (l.map bV)[j]? = some u → w.cell? ((⟨g0, 0, none⟩ : Addr).add j) = some u := hown.cells (g := g0) rfl
      have hr2 := Lib.run_append_grow_string (P := Tryd.prog) w 29 9 29 5 i0 (.int .u8 0) Tryd.underlying29 Tryd.underlying9 hi hz0 ⟨g0, 0, none⟩ n cap (l.map bV) (by rw [hz1]; simpa using h.len) holds s (by omega) (by omega) (by rw [hz2]; exact growslice_fits (by omega) (by unfold maxLen at hcm; omega))
      rw [hr] at hr2
      injection hr2 with e1 e2
      rw [e1] at hg
      cases hg
      exact Nat.le_refl _
/-- a line is appended in four parts -/
theorem four_app {w7 : World} {base B : Nat} {v : Value} {n n7 c7 : Nat} {A7 : Option Addr} {l l' : List UInt8} (h : YRow w7 base v n l) (hlow : ∀ g, v.ownBlock = some g → g < B) (hB : B ≤ w7.heap.size) (hr : YRow w7 B (.slice A7 n7 c7) n7 l') (s : ByteArray) (hb : base ≤ w7.heap.size) (hn : n + s.size + n7 + 5 ≤ 140737488355328) :
    ∃ A8 c8 w8 A9 c9 w9 A10 c10 w10 A11 c11 w11,
      (Builtin.append_ #[29, 9] 29 #[v, .string s]).run Tryd.prog w7 = .ok (.slice A8 (n + s.size) c8) w8 ∧
      (Builtin.append_ #[29, 9] 29 #[.slice A8 (n + s.size) c8, .string ⟨#[32, 58, 32]⟩]).run Tryd.prog w8 = .ok (.slice A9 (n + s.size + 3) c9) w9 ∧
      (Builtin.append_ #[29, 29] 29 #[.slice A9 (n + s.size + 3) c9, .slice A7 n7 c7]).run Tryd.prog w9 = .ok (.slice A10 (n + s.size + 3 + n7) c10) w10 ∧
      (Builtin.append_ #[29, 9] 29 #[.slice A10 (n + s.size + 3 + n7) c10, .string ⟨#[46, 10]⟩]).run Tryd.prog w10 = .ok (.slice A11 (n + s.size + 3 + n7 + 2) c11) w11 ∧
      YRow w11 base (.slice A11 (n + s.size + 3 + n7 + 2) c11) (n + s.size + 3 + n7 + 2) (l ++ lineD s l') ∧ ∀ w0, Below base w0 w7 → Below base w0 w11 := by
  obtain ⟨A8, c8, w8, r8, y8, g8, n8⟩ := h.appSn s hb (by omega)
  have hs8 := g8.size
  have b8 : YRow w8 B (.slice A7 n7 c7) n7 l' := hr.move fun g hg => g8.block g (hr.lt hg).2 fun e => by have := hlow g e.symm; have := (hr.lt hg).1; omega
  obtain ⟨A9, c9, w9, r9, y9, g9, n9⟩ := y8.appSn ⟨#[32, 58, 32]⟩ (by omega) (by show n + s.size + 3 ≤ _; omega)
  have hs9 := g9.size
  have b9 : YRow w9 B (.slice A7 n7 c7) n7 l' := b8.move fun g hg => g9.block g (b8.lt hg).2 fun e => by
    rcases n8 g e.symm with h1 | h1
    · have := hlow g h1; have := (hr.lt hg).1; omega
    · have := (hr.lt hg).2; omega
  have y9' : YRow w9 base (.slice A9 (n + s.size + 3) c9) (n + s.size + 3) (l ++ s.data.toList ++ [32, 58, 32]) := y9
  obtain ⟨A10, c10, w10, r10, y10, g10⟩ := y9'.appY b9.yl (by omega) (by omega)
  have hs10 := g10.size
  obtain ⟨A11, c11, w11, r11, y11, g11⟩ := y10.appS ⟨#[46, 10]⟩ (by omega) (by show n + s.size + 3 + n7 + 2 ≤ _; omega)
  refine ⟨A8, c8, w8, A9, c9, w9, A10, c10, w10, A11, c11, w11, r8, r9, r10, r11, ?_, fun w0 hb0 => ?_⟩
  · have e : l ++ lineD s l' = l ++ s.data.toList ++ [32, 58, 32] ++ l' ++ (⟨#[46, 10]⟩ : ByteArray).data.toList := by simp [lineD]
    rw [e]
    exact y11
  · have q8 := Below.grown hb0 g8 hb fun g hg => (h.lt hg).1
    have q9 := Below.grown q8 g9 (by omega) fun g hg => (y8.lt hg).1
    have q10 := Below.grown q9 g10 (by omega) fun g hg => (y9'.lt hg).1
    exact Below.grown q10 g11 (by omega) fun g hg => (y10.lt hg).1
/-- a name that stands nowhere else is counted once -/
theorem cnt_iff {ds : List (ByteArray × T)} {i : Nat} {d : ByteArray × T} (hi : ds[i]? = some d) : (∀ (k : Nat) (d' : ByteArray × T), k ≠ i → ds[k]? = some d' → d'.1 ≠ d.1) ↔ cntD d.1 ds ≤ 1 := by
  constructor
  · intro h
    have e : ds = ds.take i ++ d :: ds.drop (i + 1) := by rw [← drop_atX hi]; exact (List.take_append_drop i ds).symm
    have h1 : List.countP (fun x : ByteArray × T => decide (x.1 = d.1)) (ds.take i) = 0 := by
      rw [List.countP_eq_zero]
      intro a ha hd
      obtain ⟨k, hk⟩ := List.getElem?_of_mem ha
      have hk2 : k < i := by have := (List.getElem?_eq_some_iff.1 hk).1; rw [List.length_take] at this; omega
      rw [List.getElem?_take_of_lt hk2] at hk
      exact h k a (by omega) hk (of_decide_eq_true hd)
    have h2 : List.countP (fun x : ByteArray × T => decide (x.1 = d.1)) (ds.drop (i + 1)) = 0 := by
      rw [List.countP_eq_zero]
      intro a ha hd
      obtain ⟨k, hk⟩ := List.getElem?_of_mem ha
      rw [List.getElem?_drop] at hk
      exact h (i + 1 + k) a (by omega) hk (of_decide_eq_true hd)
    unfold cntD
    rw [e, List.countP_append, List.countP_cons, h1, h2]
    simp
  · intro h k d' hk hd' he
    rcases Nat.lt_or_gt_of_ne hk with h1 | h1
    · have := cnt_two (s := d.1) hd' hi h1 he rfl; omega
    · have := cnt_two (s := d.1) hi hd' h1 rfl he; omega
/-- what holds at the head of the loop -/
structure ReI (ds : List (ByteArray × T)) (w : World) (j : Nat) (A : Option Addr) (n c : Nat) (wr : World) : Prop where
  below : Below w.heap.size w wr
  row : ∃ l, YRow wr w.heap.size (.slice A n c) n l ∧ showL ds (ds.drop j) l nmB = showD ds ∧ l.length ≤ j * 3000000
set_option maxRecDepth 100000 in
set_option maxHeartbeats 4000000 in
theorem rDeclsC (ds : List (ByteArray × T)) (SA : Option Addr) (sn sc : Nat) (w : World) (hD : DS w ds SA sn sc) (hs : ∀ d ∈ ds, d.1.size ≤ 100) (hnd : ∀ d ∈ ds, nd d.2 ≤ 1048576) (hn : ds.length ≤ 1000) :
    Calls Tryd.prog 14 #[.slice SA sn sc] w (SDc ds w) := by
  have hdl := hD.len
  have hdle := hD.le
  have hdc := hD.cap
  unfold maxLen at hdc
  have HD := Lib.hid hD
  have HS := Lib.hid hs
  have HND := Lib.hid hnd
  have HN := Lib.hid hn
  clear hD hs hnd
  have HJ0 := Lib.hid (show ReI ds w 0 none 0 0 w from ⟨Below.refl _ _, [], YRow.nil _ _, rfl, by simp⟩)
  go_enter Tryd.func14, Tryd.ntmps14
  go_wp2_with fail
  go_loopw [4, 5] (fun v i wr => ∃ (q : Nat) (A : Option Addr) (n c : Nat), q ≤ sn ∧ i = .int .i64 (q : Nat) ∧ v = .slice A n c ∧ Hid (ReI ds w q A n c wr)) (fun _ i _ => sn - (Go.RowKit.intOf i).toNat)
  case atStart => exact ⟨0, none, 0, 0, Nat.zero_le _, rfl, rfl, HJ0⟩
  case round =>
    clear HJ0
    obtain ⟨q, A, n, c, hq, rfl, rfl, HJ⟩ := hrel
    by_cases hlt2 : q < sn
    · obtain ⟨d, hd⟩ := at_ofX hdl hlt2
      have hDr := (HD.out.keep HJ.out.below).at_ q d hd
      have hds := HS.out d (List.mem_of_getElem? hd)
      obtain ⟨b, o, k, g, A', n', c', hA, e0, e1, e2, e3, hr⟩ := hDr
      subst hA
      have hdm : d.1.size ≤ maxLen := by unfold maxLen; omega
      have HP := Lib.hid (rRNameC d.1 hdm wr)
      have hi0 : (0 : Int) ≤ (q : Int) := by omega
      have hi1 : (q : Int) < (sn : Int) := by omega
      obtain ⟨r1, hr1⟩ : ∃ r, nmB d.1 = r := ⟨_, rfl⟩
      rw [hr1] at HP
      have HR1 := Lib.hid hr1
      have HDD := Lib.hid hd
      clear hr1 hd hr e1 e2 e3 hdm
      go_wp2_with fail
      refine HP.out.mono ?_
      rintro e w6 ⟨rfl, hb6⟩
      have HB6 := Lib.hid hb6
      clear HP hb6 e0
      go_wp2_with fail
      go_loopw [6, 7] (fun ok i wq => ∃ (k2 : Nat) (r : Bool), k2 ≤ sn ∧ i = .int .i64 (k2 : Nat) ∧ ok = .bool r ∧ Hid (Below w6.heap.size w6 wq) ∧ Hid (r = true ↔ (nmB d.1 = true ∧ ∀ (k' : Nat) (d' : ByteArray × T), k' < k2 → k' ≠ q → ds[k']? = some d' → d'.1 ≠ d.1))) (fun _ i _ => sn - (Go.RowKit.intOf i).toNat)
      case atStart => exact ⟨0, r1, Nat.zero_le _, rfl, rfl, Lib.hid (Below.refl _ _), Lib.hid (by rw [HR1.out]; exact ⟨fun h => ⟨h, fun k' _ h0 => by omega⟩, fun h => h.1⟩)⟩
      case round =>
        clear HR1
        obtain ⟨k2, r, hk2, rfl, rfl, HBq, HRq⟩ := hrel
        by_cases hlt3 : k2 < sn
        · by_cases hkq : k2 = q
          · subst hkq
            have dn : ((k2 : Int) != (k2 : Int)) = false := by simp
            have dn2 : ((k2 : Int) == (k2 : Int)) = true := by simp
            have dn3 : decide ((k2 : Int) = (k2 : Int)) = true := by simp
            go_wp2_with fail
            go_quiet (fail)
            go_wp2_with fail
            go_roundw
            case rel => exact ⟨k2 + 1, r, by omega, by go_num, rfl, Lib.hid (HBq.out.drewX _), Lib.hid (HRq.out.trans ⟨fun h => ⟨h.1, fun k' d' h1 h2 h3 => h.2 k' d' (by omega) h2 h3⟩, fun h => ⟨h.1, fun k' d' h1 h2 h3 => h.2 k' d' (by omega) h2 h3⟩⟩)⟩
            case measure => simp [Go.RowKit.intOf]; omega
          · obtain ⟨d2, hd2⟩ := at_ofX hdl hlt3
            have hD1 := HD.out.keep (HJ.out.below.trans ((HB6.out.trans (HBq.out.mono HB6.out.size)).mono HJ.out.below.size))
            obtain ⟨b1, o1, _, _, _, _, _, hA1, x0, _⟩ := hD1.at_ k2 d2 hd2
            cases hA1
            obtain ⟨b2, o2, _, _, _, _, _, hA2, y0, _⟩ := hD1.at_ q d HDD.out
            cases hA2
            have hk0 : (0 : Int) ≤ (k2 : Int) := by omega
            have hk1 : (k2 : Int) < (sn : Int) := by omega
            have hq0 := bytes_eqB d2.1 d.1
            have hne : ¬ (k2 : Int) = (q : Int) := by omega
            have dn : ((k2 : Int) != (q : Int)) = true := by simp; omega
            have dn2 : ((k2 : Int) == (q : Int)) = false := by simp; omega
            have HD2 := Lib.hid hd2
            clear hD1 hd2
            by_cases heq : d2.1 = d.1
            · have hq : (d2.1.toList == d.1.toList) = true := hq0.trans (decide_eq_true heq)
              have HE := Lib.hid heq
              clear heq hq0
              go_wp2_with fail
              go_quiet (fail)
              go_wp2_with fail
              go_roundw
              case rel => exact ⟨k2 + 1, false, by omega, by go_num, rfl, Lib.hid (HBq.out.drewX _), Lib.hid ⟨fun h => by (cases h), fun h => absurd HE.out (h.2 k2 d2 (by omega) hkq HD2.out)⟩⟩
              case measure => simp [Go.RowKit.intOf]; omega
            · have hq : (d2.1.toList == d.1.toList) = false := hq0.trans (decide_eq_false heq)
              have HE := Lib.hid heq
              clear heq hq0
              go_wp2_with fail
              go_quiet (fail)
              go_wp2_with fail
              go_roundw
              case rel => exact ⟨k2 + 1, r, by omega, by go_num, rfl, Lib.hid (HBq.out.drewX _), Lib.hid (HRq.out.trans ⟨fun h => ⟨h.1, fun k' d' h1 h2 h3 => by
                  by_cases hk : k' = k2
                  · subst hk
                    rw [HD2.out] at h3
                    cases h3
                    exact HE.out
                  · exact h.2 k' d' (by omega) h2 h3⟩, fun h => ⟨h.1, fun k' d' h1 h2 h3 => h.2 k' d' (by omega) h2 h3⟩⟩)⟩
              case measure => simp [Go.RowKit.intOf]; omega
        · have HB7 := Lib.hid (HJ.out.below.trans ((HB6.out.trans (HBq.out.mono HB6.out.size)).mono HJ.out.below.size))
          have hs6 := HB6.out.size
          have hsq := HBq.out.size
          have hsw := HJ.out.below.size
          obtain ⟨l, hrow, heq, hll⟩ := HJ.out.row
          have hrow6 := (hrow.keep HB6.out).keep HBq.out
          have HLOW := Lib.hid (fun (g : Nat) (hg : (Value.slice A n c).ownBlock = some g) => (hrow.lt hg).2)
          have HRr := Lib.hid (show r = true ↔ nmB d.1 = true ∧ cntD d.1 ds ≤ 1 from HRq.out.trans ⟨fun h => ⟨h.1, (cnt_iff HDD.out).1 fun k' d' h2 h3 => h.2 k' d' (by have := (List.getElem?_eq_some_iff.1 h3).1; omega) h2 h3⟩, fun h => ⟨h.1, fun k' d' h1 h2 h3 => (cnt_iff HDD.out).2 h.2 k' d' h2 h3⟩⟩)
          rw [drop_atX HDD.out, showL] at heq
          have HQ := Lib.hid (And.intro heq hll)
          have HROW := Lib.hid hrow6
          clear heq hll hrow hrow6 HJ HRq HB6 HBq
          cases r with
          | false =>
            go_wp2_with fail
            go_ret2
            refine ⟨HB7.out, none, 0, 0, 1, rfl, .inr ⟨?_, by decide, rfl, rfl, rfl⟩⟩
            have h := HQ.out.1
            rw [if_neg (fun e => by have := HRr.out.2 e; cases this)] at h
            exact h.symm
          | true =>
            obtain ⟨b', o', k, g, A', n', c', hA, e0, e1, e2, e3, hr⟩ := (HD.out.keep HB7.out).at_ q d HDD.out
            cases hA
            have HT := Lib.hid (rTermC ds d.2 _ (some ⟨b, o, none⟩) sn sc wr hr (HD.out.keep HB7.out) HS.out (HND.out d (List.mem_of_getElem? HDD.out)))
            have HQ2 := Lib.hid (show (match showT ds d.2 with | .error e => .error e | .ok l' => showL ds (ds.drop (q + 1)) (l ++ lineD d.1 l') nmB) = showD ds by
              have h := HQ.out.1
              rw [if_pos (HRr.out.1 rfl)] at h
              exact h)
            clear hr e0
            go_wp2_with fail
            refine HT.out.mono ?_
            rintro e w8 ⟨hb8, A7, n7, c7, ec, rfl, hres⟩
            have HB8 := Lib.hid (HB7.out.trans (hb8.mono HB7.out.size))
            have hs8 := hb8.size
            have hs7 := HB7.out.size
            have HROW8 := Lib.hid (HROW.out.keep hb8)
            clear HT hb8 HROW HB7 e1 e2 e3
            rcases hres with ⟨l', hl', rfl, hy7⟩ | ⟨hl', hec, rfl, rfl, rfl⟩
            rotate_left
            · have d8 : (ec == 0) = false := by simpa using hec
              have HE := Lib.hid (And.intro hl' hec)
              clear hl'
              go_wp2_with fail
              go_ret2
              refine ⟨HB8.out, none, 0, 0, ec, rfl, .inr ⟨?_, HE.out.2, rfl, rfl, rfl⟩⟩
              have h := HQ2.out
              rw [HE.out.1] at h
              exact h.symm
            have hlen := show_len HS.out hl'
            have hl7 := hy7.len
            have hnl := HROW8.out.len
            obtain ⟨A8, c8, w9, A9, c9, w10, A10, c10, w11, A11, c11, w12, r1, r2, r3, r4, hrow, hbel⟩ := four_app (B := wr.heap.size) HROW8.out (fun g hg => by have := HLOW.out g hg; omega) (by omega) hy7 d.1 (by omega) (by have := HQ.out.2; have := HN.out; omega)
            have HJ8 := Lib.hid (show ReI ds w (q + 1) A11 (n + d.1.size + 3 + n7 + 2) c11 w12 from ⟨hbel w HB8.out, l ++ lineD d.1 l', hrow, by
              have h := HQ2.out
              rw [hl'] at h
              exact h, by
              have h5 := hrow.len
              have := HQ.out.2
              omega⟩)
            obtain ⟨b'', o'', _, _, _, _, _, hA, e0, _⟩ := (HD.out.keep HB8.out).at_ q d HDD.out
            cases hA
            clear hl' hy7 hrow hbel HROW8 HQ HQ2 HLOW HRr HB8 hlen hl7 hnl
            obtain ⟨z12, hz12⟩ : ∃ z, n + d.1.size + 3 + n7 + 2 = z := ⟨_, rfl⟩
            rw [hz12] at r4 HJ8
            clear hz12
            obtain ⟨z11, hz11⟩ : ∃ z, n + d.1.size + 3 + n7 = z := ⟨_, rfl⟩
            rw [hz11] at r3 r4
            clear hz11
            obtain ⟨z10, hz10⟩ : ∃ z, n + d.1.size + 3 = z := ⟨_, rfl⟩
            rw [hz10] at r2 r3
            clear hz10
            obtain ⟨z9, hz9⟩ : ∃ z, n + d.1.size = z := ⟨_, rfl⟩
            rw [hz9] at r1 r2
            clear hz9
            go_wp2_with (at_builtin; first
              | (refine Lib.wpList_append_run _ rfl _ _ _ _ rfl _ _ rfl rfl _ _ r1 ?_; clear r1)
              | (refine Lib.wpList_append_run _ rfl _ _ _ _ rfl _ _ rfl rfl _ _ r2 ?_; clear r2)
              | (refine Lib.wpList_append_run _ rfl _ _ _ _ rfl _ _ rfl rfl _ _ r3 ?_; clear r3)
              | (refine Lib.wpList_append_run _ rfl _ _ _ _ rfl _ _ rfl rfl _ _ r4 ?_; clear r4))
            go_roundw
            case rel => exact ⟨q + 1, A11, _, c11, by omega, by go_num, rfl, HJ8⟩
            case measure => simp [Go.RowKit.intOf]; omega
    · obtain rfl : q = sn := by omega
      obtain ⟨l, hrow, heq, hll⟩ := HJ.out.row
      rw [List.drop_of_length_le (by omega)] at heq
      have HR := Lib.hid (And.intro HJ.out.below (And.intro hrow (And.intro heq hll)))
      clear hrow heq hll HJ
      go_wp2_with fail
      go_ret2
      exact ⟨HR.out.1, A, n, c, 0, rfl, .inl ⟨l, HR.out.2.2.1.symm, rfl, by rw [hdl]; exact HR.out.2.2.2, HR.out.2.1⟩⟩
end Go.Proofs.YtmkahbbcagfbhaaDoor

/-
  The walk of ShowTells, and its arguments' readings with a bound. No statement is proved here.
-/
namespace Go.Proofs.YtmkahbbcagfbhaaDoor
open Go.ChangeShapes Go.WideShapes Go.ChangeAt Go.RowKit Go.Deep
set_option linter.unusedVariables false
set_option maxRecDepth 100000
section
variable {H : Type} {enc : TypeId × Value → H} {w : World} {base : Nat} {spare : Nat → Bool} {held : Bool}
theorem trod_declB {fuel : Nat} {cs : List Value} {x : DataW H × List MemPlace} (hx : DataW.trod enc Tryd.prog w base spare held fuel 41 cs = some x) :
    ∃ (y : T) (s : ByteArray) (v1 v2 v3 : Value), cs = [.string s, v1, v2, v3] ∧ Rd w y (.agg #[v1, v2, v3]) ∧ s.size ≤ maxLen ∧ nd y ≤ Rows.uptoBulk x.1 := by
  obtain ⟨ys, n, rfl, hxe, hl, hyl, hf⟩ := DataW.trod_struct Tryd.underlying41 hx
  rw [cellsDecN] at hl
  match cs, hl with
  | [v0, v1, v2, v3], _ =>
    match ys, hyl with
    | [y0, y1], _ =>
      have h0 : DataW.trod enc Tryd.prog w base spare held n 9 (([v0, v1, v2, v3].drop 0).take (Tryd.prog.cellsOf 9)) = some y0 := hf 0 _ rfl
      have h1 : DataW.trod enc Tryd.prog w base spare held n 24 (([v0, v1, v2, v3].drop 1).take (Tryd.prog.cellsOf 24)) = some y1 := hf 1 _ rfl
      simp only [cellsStr, Tryd.cellsTerm, List.drop_zero, List.drop_succ_cons, List.take_succ_cons, List.take_zero] at h0 h1
      obtain ⟨s, e0, _, hs⟩ := DataW.trod_string Tryd.underlying9 h0
      simp only [List.cons.injEq, and_true] at e0
      subst e0
      obtain ⟨t, u0, u1, u2, e, hr, hle, _⟩ := trod_term n _ _ h1
      simp only [List.cons.injEq, and_true] at e
      obtain ⟨rfl, rfl, rfl⟩ := e
      refine ⟨t, s, _, _, _, rfl, hr, hs, ?_⟩
      have hd : x.1 = .agg [y0.1, y1.1] := congrArg Prod.fst hxe
      rw [hd]
      simp only [Rows.uptoBulk, Rows.uptoBulkAll]
      omega
theorem open_declsB {r : Reach} {b0 : Nat} {v : Value} {d : DataW H} {p : List MemPlace} (hv : Value.okWide Tryd.prog w r b0 25 v) (h : DataW.Trod enc Tryd.prog w base spare held 25 v d p) :
    ∃ (ds : List (ByteArray × T)) (A : Option Addr) (n c : Nat), v = .slice A n c ∧ DS w ds A n c ∧ ∀ x ∈ ds, nd x.2 ≤ Rows.uptoBulk d := by
  obtain ⟨fuel, hf⟩ := h
  obtain ⟨a0, l0, c0, rfl⟩ := okWide_slice Tryd.underlying25 hv
  rcases DataW.trod_slice Tryd.underlying25 hf with ⟨e2, hy2⟩ | ⟨a, len, cap, elems, rest, m, rfl, e2, hy2, hb, hlc, hm, hel, hat, _, _⟩
  · simp only [Value.cells, List.cons.injEq, and_true] at e2
    exact ⟨[], none, 0, 0, e2, DS.nil w, fun x hx => by cases hx⟩
  · simp only [Value.cells, List.cons.injEq, and_true] at e2
    rw [e2]
    have first : ∀ i, i < len → ∃ y : T, ∃ s v1 v2 v3 dd, w.cell? (a.add (i * 4 + 0)) = some (.string s) ∧ w.cell? (a.add (i * 4 + 1)) = some v1 ∧ w.cell? (a.add (i * 4 + 2)) = some v2 ∧ w.cell? (a.add (i * 4 + 3)) = some v3 ∧ Rd w y (.agg #[v1, v2, v3]) ∧ s.size ≤ maxLen ∧ (elems.map (·.1))[i]? = some dd ∧ nd y ≤ Rows.uptoBulk dd := by
      intro i hi
      have hi' := hat i hi
      rw [List.getElem?_eq_getElem (by omega), Option.bind_eq_some_iff] at hi'
      obtain ⟨cs', hcs, htr⟩ := hi'
      obtain ⟨y, s, u1, u2, u3, rfl, hr, hle, hbk⟩ := trod_declB htr
      rw [cellsDecN] at hcs
      obtain ⟨_, _, hcell⟩ := World.cells?_some hcs
      have c0 := hcell 0 (by omega)
      have c1 := hcell 1 (by omega)
      have c2 := hcell 2 (by omega)
      have c3 := hcell 3 (by omega)
      simp only [List.getElem?_cons_zero, List.getElem?_cons_succ, add_add] at c0 c1 c2 c3
      exact ⟨y, s, u1, u2, u3, _, c0, c1, c2, c3, hr, hle, by rw [List.getElem?_map, List.getElem?_eq_getElem (by omega)]; rfl, hbk⟩
    have each : ∀ i, i < len → ∃ y : ByteArray × T, DNt w (some a) i y ∧ y.1.size ≤ maxLen ∧ nd y.2 ≤ Rows.uptoBulk d := by
      intro i hi
      obtain ⟨y, s, v1, v2, v3, dd, c0, c1, c2, c3, hr, hs, hdd, hbk⟩ := first i hi
      obtain ⟨y', _, _, _, _, _, c00, _⟩ := first 0 (by omega)
      have hs0 := cell_spotX c00
      obtain ⟨b, o, sp⟩ := a
      have hsp : sp = none := by simpa [Addr.add] using hs0
      subst hsp
      rw [addr_addX] at c0 c1 c2 c3
      obtain ⟨k, h, A, n, c, e⟩ := hr.full
      simp only [Value.agg.injEq, Array.mk.injEq, List.cons.injEq, and_true] at e
      obtain ⟨rfl, rfl, rfl⟩ := e
      refine ⟨(s, y), ⟨b, o, k, h, A, n, c, rfl, c0, by rw [Nat.add_assoc]; exact c1, by rw [Nat.add_assoc]; exact c2, by rw [Nat.add_assoc]; exact c3, hr⟩, hs, ?_⟩
      have h1 := bulk_memX _ _ _ hdd
      have hd : d = DataW.slice (elems.map (·.1)) (rest.map (·.1)) := congrArg Prod.fst hy2
      rw [hd]
      simp only [Rows.uptoBulk]
      omega
    obtain ⟨xs, hxl, hxs⟩ := list_ofN len each
    refine ⟨xs, some a, len, cap, rfl, ⟨hxl, hlc, hm, fun x hx => ?_, fun i y hy => (hxs i y hy).1⟩, fun x hx => ?_⟩
    · obtain ⟨i, hi⟩ := List.getElem?_of_mem hx
      exact (hxs i x hi).2.1
    · obtain ⟨i, hi⟩ := List.getElem?_of_mem hx
      exact (hxs i x hi).2.2
end
/-- what is told, as one pair -/
def outL (r : Except Int (List UInt8)) : List UInt8 := match r with | .ok l => l | .error _ => []
def outE (r : Except Int (List UInt8)) : Int := match r with | .ok _ => 0 | .error e => e
def OutP (r : Except Int (List UInt8)) (w : World) (e : Ending) (w' : World) : Prop := Below w.heap.size w w' ∧ ∃ (A : Option Addr) (n c : Nat), e = .returned (.tuple #[.slice A n c, .int .i64 (outE r)]) ∧ YRow w' w.heap.size (.slice A n c) n (outL r)
theorem STm.out {ds : List (ByteArray × T)} {t : T} {w w' : World} {e : Ending} (h : STm ds t w e w') : OutP (showT ds t) w e w' := by
  obtain ⟨hb, A, n, c, ec, rfl, h⟩ := h
  refine ⟨hb, A, n, c, ?_, ?_⟩
  · rcases h with ⟨l, h1, h2, _⟩ | ⟨h1, _⟩
    · rw [h1, h2]; rfl
    · rw [h1]; rfl
  · rcases h with ⟨l, h1, _, h3⟩ | ⟨h1, _, rfl, rfl, rfl⟩
    · rw [h1]; exact h3
    · rw [h1]; exact YRow.nil _ _
theorem SDc.out {ds : List (ByteArray × T)} {w w' : World} {e : Ending} (h : SDc ds w e w') : OutP (showD ds) w e w' := by
  obtain ⟨hb, A, n, c, ec, rfl, h⟩ := h
  refine ⟨hb, A, n, c, ?_, ?_⟩
  · rcases h with ⟨l, h1, h2, _⟩ | ⟨h1, _⟩
    · rw [h1, h2]; rfl
    · rw [h1]; rfl
  · rcases h with ⟨l, h1, _, _, h3⟩ | ⟨h1, _, rfl, rfl, rfl⟩
    · rw [h1]; exact h3
    · rw [h1]; exact YRow.nil _ _
set_option maxRecDepth 100000 in
set_option maxHeartbeats 4000000 in
theorem showTellsC (t : T) (ds : List (ByteArray × T)) (v : Value) (SA : Option Addr) (sn sc : Nat) (w : World) (hv : Rd w t v) (hD : DS w ds SA sn sc) (hnt : nd t ≤ 1048576) (hnd : ∀ d ∈ ds, nd d.2 ≤ 1048576) :
    Calls Tryd.prog 3 #[v, .slice SA sn sc] w fun e w' => e = .returned (.bool true) ∧ Below w.heap.size w w' := by
  obtain ⟨k, h, At, nt, ct, rfl⟩ := hv.full
  obtain ⟨W, hW⟩ : ∃ W, w.alloc (.cells #[.int .i64 k, .int .i64 h, .slice At nt ct] 24) = W := ⟨_, rfl⟩
  have hb : Below w.heap.size w W := by rw [← hW]; exact (Below.refl _ _).alloc (Nat.le_refl _) _
  have x0 : BoxX W w.heap.size 24 #[.int .i64 k, .int .i64 h, .slice At nt ct] := by rw [← hW]; exact BoxX.new _ _ _
  have hsn := hD.len
  have hsc := hD.le
  have hsm := hD.cap
  unfold maxLen at hsm
  have HV := Lib.hid hv
  have HD := Lib.hid hD
  have HB := Lib.hid hb
  have HX := Lib.hid x0
  have HA := Lib.hid (sAwakeC W)
  have HNT := Lib.hid hnt
  have HND := Lib.hid hnd
  clear hv hD hb x0 hnt hnd
  subst hW
  go_enter Tryd.func3, Tryd.ntmps3
  go_wp2_with fail
  refine HA.out.mono ?_
  rintro e w1 ⟨rfl, hb1⟩
  have HB1 := Lib.hid (HB.out.trans (hb1.mono HB.out.size))
  have HX1 := Lib.hid (HX.out.keep hb1 HX.out.lt)
  have HF := Lib.hid (fewN ds SA sn sc w1 (HD.out.keep HB1.out))
  clear HA hb1 HB HX
  go_wp2_with fail
  refine HF.out.mono ?_
  rintro e w2 ⟨r1, rfl, hr1, hb2⟩
  have HB2 := Lib.hid (HB1.out.trans (hb2.mono HB1.out.size))
  have x2 := HX1.out.keep hb2 HX1.out.lt
  have c0 := x2.cell 0
  have c1 := x2.cell 1
  have c2 := x2.cell 2
  simp only [List.getElem?_toArray, List.getElem?_cons_zero, List.getElem?_cons_succ] at c0 c1 c2
  have HR1 := Lib.hid hr1
  have HL := Lib.hid (refLight t 1000 80 _ w2 (Rd.keep HB2.out _ _ HV.out))
  have HX2 := Lib.hid x2
  clear HF hb2 HB1 HX1 x2 hr1
  generalize ltB t 1000 80 = r2 at *
  go_wp2_with fail
  refine HL.out.mono ?_
  rintro e w3 ⟨rfl, hb3⟩
  have HB3 := Lib.hid (HB2.out.trans (hb3.mono HB2.out.size))
  have HX3 := Lib.hid (HX2.out.keep hb3 HX2.out.lt)
  have HG := Lib.hid (sLightC ds SA sn sc w3 (HD.out.keep HB3.out))
  clear HL hb3 HB2 HX2 c0 c1 c2
  obtain ⟨r3, hr3⟩ : ∃ r, (ds.all fun d => decide (d.1.size ≤ 100)) = r := ⟨_, rfl⟩
  rw [hr3] at HG
  have HR3 := Lib.hid hr3
  clear hr3
  go_wp2_with fail
  refine HG.out.mono ?_
  rintro e w4 ⟨rfl, hb4⟩
  have HB4 := Lib.hid (HB3.out.trans (hb4.mono HB3.out.size))
  have HX4 := Lib.hid (HX3.out.keep hb4 HX3.out.lt)
  clear HG hb4 HB3 HX3
  cases r1 with
  | false =>
    go_wp2_with fail
    go_ret
    exact ⟨rfl, HB4.out⟩
  | true =>
  cases r2 with
  | false =>
    go_wp2_with fail
    go_ret
    exact ⟨rfl, HB4.out⟩
  | true =>
  cases r3 with
  | false =>
    go_wp2_with fail
    go_ret
    exact ⟨rfl, HB4.out⟩
  | true =>
  have h30 := HR1.out rfl
  have hlt := light_of HR3.out
  have HS := Lib.hid hlt
  clear HR1 HR3
  have c0 := HX4.out.cell 0
  have c1 := HX4.out.cell 1
  have c2 := HX4.out.cell 2
  simp only [List.getElem?_toArray, List.getElem?_cons_zero, List.getElem?_cons_succ] at c0 c1 c2
  obtain ⟨RT, hRT⟩ : ∃ r, showT ds t = r := ⟨_, rfl⟩
  obtain ⟨RD, hRD⟩ : ∃ r, showD ds = r := ⟨_, rfl⟩
  have HT : Hid (Calls Tryd.prog 11 #[.agg #[.int .i64 k, .int .i64 h, .slice At nt ct], .slice SA sn sc] w4 (OutP RT w4)) := Lib.hid ((sTermC ds t _ SA sn sc w4 (Rd.keep HB4.out _ _ HV.out) (HD.out.keep HB4.out) hlt).mono fun e w' h => by rw [← hRT]; exact h.out)
  have HT2 : Hid (∀ w5, Below w.heap.size w w5 → Calls Tryd.prog 12 #[.agg #[.int .i64 k, .int .i64 h, .slice At nt ct], .slice SA sn sc] w5 (OutP RT w5)) := Lib.hid fun w5 hb => (rTermC ds t _ SA sn sc w5 (Rd.keep hb _ _ HV.out) (HD.out.keep hb) HS.out HNT.out).mono fun e w' h => by rw [← hRT]; exact h.out
  have HC1 : Hid (∀ w5, Below w.heap.size w w5 → Calls Tryd.prog 13 #[.slice SA sn sc] w5 (OutP RD w5)) := Lib.hid fun w5 hb => (sDeclsC ds SA sn sc w5 (HD.out.keep hb) HS.out (by omega)).mono fun e w' h => by rw [← hRD]; exact h.out
  have HC2 : Hid (∀ w5, Below w.heap.size w w5 → Calls Tryd.prog 14 #[.slice SA sn sc] w5 (OutP RD w5)) := Lib.hid fun w5 hb => (rDeclsC ds SA sn sc w5 (HD.out.keep hb) HS.out HND.out (by omega)).mono fun e w' h => by rw [← hRD]; exact h.out
  clear hlt hRT hRD
  go_wp2_with fail
  refine HT.out.mono ?_
  rintro e w5 ⟨hb5, A5, n5, c5, rfl, hy5⟩
  have HB5 := Lib.hid (HB4.out.trans (hb5.mono HB4.out.size))
  have x5 := HX4.out.keep hb5 HX4.out.lt
  have HY5 := Lib.hid hy5
  have p0 := x5.cell 0
  have p1 := x5.cell 1
  have p2 := x5.cell 2
  simp only [List.getElem?_toArray, List.getElem?_cons_zero, List.getElem?_cons_succ] at p0 p1 p2
  have HT := Lib.hid (HT2.out w5 HB5.out)
  clear HT2 hb5 hy5 x5 HX4 HB4 c0 c1 c2
  go_wp2_with fail
  refine HT.out.mono ?_
  rintro e w6 ⟨hb6, A6, n6, c6, rfl, hy6⟩
  have HB6 := Lib.hid (HB5.out.trans (hb6.mono HB5.out.size))
  have HY6 := Lib.hid (And.intro (HY5.out.keep hb6) hy6)
  have HC := Lib.hid (HC1.out w6 HB6.out)
  clear HT hb6 hy6 HY5 HB5 p0 p1 p2 HC1
  go_wp2_with fail
  refine HC.out.mono ?_
  rintro e w7 ⟨hb7, A7, n7, c7, rfl, hy7⟩
  have HB7 := Lib.hid (HB6.out.trans (hb7.mono HB6.out.size))
  have HY7 := Lib.hid (And.intro (HY6.out.1.keep hb7) (And.intro (HY6.out.2.keep hb7) hy7))
  have HC := Lib.hid (HC2.out w7 HB7.out)
  clear hb7 hy7 HY6 HB6 HC2
  go_wp2_with fail
  refine HC.out.mono ?_
  rintro e w8 ⟨hb8, A8, n8, c8, rfl, hy8⟩
  have HB8 := Lib.hid (HB7.out.trans (hb8.mono HB7.out.size))
  have hc5 := run_string (HY7.out.1.keep hb8).yl
  have hc6 := run_string (HY7.out.2.1.keep hb8).yl
  have hc7 := run_string (HY7.out.2.2.keep hb8).yl
  have hc8 := run_string hy8.yl
  obtain ⟨s1, hs1⟩ : ∃ s, (⟨(outL RT).toArray⟩ : ByteArray) = s := ⟨_, rfl⟩
  obtain ⟨s2, hs2⟩ : ∃ s, (⟨(outL RD).toArray⟩ : ByteArray) = s := ⟨_, rfl⟩
  rw [hs1] at hc5 hc6
  rw [hs2] at hc7 hc8
  generalize outE RT = e1 at *
  generalize outE RD = e2 at *
  have q1 : (s1.toList == s1.toList) = true := by simp
  have q2 : (s2.toList == s2.toList) = true := by simp
  have q3 : (e1 == e1) = true := by simp
  have q4 : (e2 == e2) = true := by simp
  clear hb8 hy8 HY7 HB7 HC hs1 hs2
  go_wp2_with fail
  go_ret
  exact ⟨rfl, HB8.out⟩
end Go.Proofs.YtmkahbbcagfbhaaDoor
