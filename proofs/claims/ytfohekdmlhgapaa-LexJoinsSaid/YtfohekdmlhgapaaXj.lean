/-
  Contract of the document's Tokens. No statement is proved here.
-/
import Derived.Test.YtfohekdmlhgapaaXi
namespace Go.Proofs.Ytfohekdmlhgapaa
open Go.ChangeShapes Go.WideShapes Go.ChangeAt Go.RowKit
set_option linter.unusedVariables false

/-- where the reading stands: between tokens, in a note, in a name that began at j -/
def RkX (l : List UInt8) (o : List Tk) (i : Nat) : Prop := (runL ⟨o, [], false⟩ (l.drop i)).map fin = toksL l
def RnX (l : List UInt8) (o : List Tk) (i : Nat) : Prop := (runL ⟨o, [], true⟩ (l.drop i)).map fin = toksL l
def RmX (l : List UInt8) (o : List Tk) (j k : Nat) : Prop := (runL ⟨o, (l.drop j).take (k - j), false⟩ (l.drop k)).map fin = toksL l
theorem RkX.blank {l : List UInt8} {o : List Tk} {i : Nat} {u : UInt8} (h : RkX l o i) (hu : l[i]? = some u) (hb : blI (bI u) = true) : RkX l o (i + 1) := by
  unfold RkX at *
  rw [drop_atX hu, runL] at h
  obtain ⟨h1, h2, h3⟩ := bl_notnm hb
  rw [show stp ⟨o, [], false⟩ u = some ⟨o, [], false⟩ by unfold stp; simp [h1, h2, h3, hb, flu_nil]] at h
  exact h
theorem RkX.note {l : List UInt8} {o : List Tk} {i : Nat} {u : UInt8} (h : RkX l o i) (hu : l[i]? = some u) (hb : bI u = 37) : RnX l o i := by
  unfold RkX at h
  unfold RnX
  rw [drop_atX hu, runL] at h ⊢
  rw [show stp ⟨o, [], false⟩ u = some ⟨o, [], true⟩ by unfold stp; simp [hb, flu_nil, show nmI 37 = false from rfl]] at h
  rw [show stp ⟨o, [], true⟩ u = some ⟨o, [], true⟩ by unfold stp; simp [hb]]
  exact h
theorem RnX.step {l : List UInt8} {o : List Tk} {i : Nat} {u : UInt8} (h : RnX l o i) (hu : l[i]? = some u) (hb : bI u ≠ 10) : RnX l o (i + 1) := by
  unfold RnX at *
  rw [drop_atX hu, runL] at h
  rw [show stp ⟨o, [], true⟩ u = some ⟨o, [], true⟩ by unfold stp; simp [hb]] at h
  exact h
theorem RnX.feed {l : List UInt8} {o : List Tk} {i : Nat} {u : UInt8} (h : RnX l o i) (hu : l[i]? = some u) (hb : bI u = 10) : RkX l o i := by
  unfold RnX at h
  unfold RkX
  rw [drop_atX hu, runL] at h ⊢
  rw [show stp ⟨o, [], true⟩ u = some ⟨o, [], false⟩ by unfold stp; simp [hb]] at h
  rw [show stp ⟨o, [], false⟩ u = some ⟨o, [], false⟩ by unfold stp; simp [hb, flu_nil, show nmI 10 = false from rfl, show mkI 10 = false from rfl, show blI 10 = true from rfl]]
  exact h
theorem RnX.done {l : List UInt8} {o : List Tk} {i : Nat} (h : RnX l o i) (hi : l.length ≤ i) : RkX l o i := by
  unfold RnX at h
  unfold RkX
  rw [List.drop_of_length_le hi] at h ⊢
  exact h
theorem RkX.mark {l : List UInt8} {o : List Tk} {i : Nat} {u : UInt8} (h : RkX l o i) (hu : l[i]? = some u) (hb : mkI (bI u) = true) : RkX l (o ++ [(1, ⟨#[u]⟩)]) (i + 1) := by
  unfold RkX at *
  rw [drop_atX hu, runL] at h
  obtain ⟨h1, h2, h3, h4⟩ := mk_notnm hb
  rw [show stp ⟨o, [], false⟩ u = some ⟨o ++ [(1, ⟨#[u]⟩)], [], false⟩ by unfold stp; simp [h1, h2, hb, flu_nil]] at h
  exact h
theorem RkX.bad {l : List UInt8} {o : List Tk} {i : Nat} {u : UInt8} (h : RkX l o i) (hu : l[i]? = some u) (h1 : nmI (bI u) = false) (h2 : bI u ≠ 37) (h3 : mkI (bI u) = false) (h4 : blI (bI u) = false) : toksL l = none := by
  unfold RkX at h
  rw [drop_atX hu, runL, stp_bad h1 h2 h3 h4] at h
  exact h.symm
theorem RkX.done {l : List UInt8} {o : List Tk} {i : Nat} (h : RkX l o i) (hi : l.length ≤ i) : toksL l = some o := by
  unfold RkX at h
  rw [List.drop_of_length_le hi] at h
  exact h.symm
theorem RkX.name {l : List UInt8} {o : List Tk} {i : Nat} (h : RkX l o i) : RmX l o i i := by
  unfold RmX
  rw [Nat.sub_self, List.take_zero]
  exact h
theorem RmX.step {l : List UInt8} {o : List Tk} {j k : Nat} {u : UInt8} (h : RmX l o j k) (hjk : j ≤ k) (hu : l[k]? = some u) (hb : nmI (bI u) = true) : RmX l o j (k + 1) := by
  unfold RmX at *
  rw [drop_atX hu, runL] at h
  rw [take_snoc hu hjk]
  rw [show stp ⟨o, (l.drop j).take (k - j), false⟩ u = some ⟨o, (l.drop j).take (k - j) ++ [u], false⟩ by unfold stp; simp [hb]] at h
  exact h
theorem RmX.stop {l : List UInt8} {o : List Tk} {j k : Nat} (h : RmX l o j k) (hjk : j < k) (hk : k ≤ l.length) (hb : ∀ u, l[k]? = some u → nmI (bI u) = false) : RkX l (o ++ [(0, ⟨((l.drop j).take (k - j)).toArray⟩)]) k := by
  unfold RmX at h
  unfold RkX
  have hne : (l.drop j).take (k - j) ≠ [] := fun e => by
    have := congrArg List.length e
    simp at this
    omega
  have hf := flu_cons o hne
  generalize (l.drop j).take (k - j) = cur at *
  rw [← hf]
  cases hu : l[k]? with
  | none =>
    have : l.length ≤ k := by rwa [List.getElem?_eq_none_iff] at hu
    rw [List.drop_of_length_le this] at h ⊢
    exact h
  | some u =>
    have h1 := hb u hu
    rw [drop_atX hu, runL] at h ⊢
    rw [← h]
    have e : stp ⟨flu o cur, [], false⟩ u = stp ⟨o, cur, false⟩ u := by unfold stp; simp [h1, flu_nil]
    rw [e]
theorem YL.sub {w : World} {l : List UInt8} {b o n c : Nat} (h : YL w l (some ⟨b, o, none⟩) n c) (j k : Nat) (hjk : j ≤ k) (hk : k ≤ n) : YL w ((l.drop j).take (k - j)) (some ⟨b, o + j, none⟩) (k - j) (c - j) := by
  have hl := h.len
  have hc := h.le
  have hm := h.cap
  refine ⟨by simp; omega, by omega, by omega, fun i u hu => ?_⟩
  rw [List.getElem?_take] at hu
  split at hu
  · rw [List.getElem?_drop] at hu
    obtain ⟨b', o', e, c0⟩ := h.at_ (j + i) u hu
    cases e
    exact ⟨b, o + j, rfl, by rw [Nat.add_assoc]; exact c0⟩
  · cases hu
/-- what holds at the head of its loop -/
structure RtI (l : List UInt8) (w : World) (j : Nat) (A : Option Addr) (n c : Nat) (o : List Tk) (wx : World) : Prop where
  below : Below w.heap.size w wx
  row : TRow wx w.heap.size (.slice A n c) n o
  le : j ≤ l.length
  few : o.length ≤ j
theorem RtI.push {l : List UInt8} {w : World} {j : Nat} {A : Option Addr} {n c : Nat} {o : List Tk} {wx : World} (h : RtI l w j A n c o wx) (k : Int) (s : ByteArray) (hn : l.length ≤ 20000) {j' : Nat} (hj : j < j') (hj' : j' ≤ l.length) :
    ∃ g cap w3, (Builtin.append_ #[23, 23] 23 #[.slice A n c, .slice (some ⟨wx.heap.size, 0, none⟩) 1 1]).run Try.prog (wx.alloc (.cells #[.int .i64 k, .string s] 34)) = .ok (.slice (some ⟨g, 0, none⟩) (n + 1) cap) w3 ∧
      RtI l w j' (some ⟨g, 0, none⟩) (n + 1) cap (o ++ [(k, s)]) w3 := by
  have hb1 : Below w.heap.size w (wx.alloc (.cells #[.int .i64 k, .string s] 34)) := h.below.alloc h.below.size _
  have hr1 := h.row.keep (show Below wx.heap.size wx (wx.alloc (.cells #[.int .i64 k, .string s] 34)) from (Below.refl _ _).alloc (Nat.le_refl _) _)
  have hl := h.row.len
  have hf := h.few
  have hle := h.le
  obtain ⟨g, cap, w3, hrun, hrow, hgr, _⟩ := hr1.app (heap_alloc_new wx _) hb1.size (by omega)
  exact ⟨g, cap, w3, hrun, hb1.grown hgr hb1.size (fun r hr => (hr1.lt hr).1), hrow, hj', by rw [List.length_append, List.length_singleton]; omega⟩
set_option maxRecDepth 100000 in
set_option maxHeartbeats 4000000 in
theorem xRTokensC (l : List UInt8) (A : Option Addr) (n c : Nat) (w : World) (h : YL w l A n c) : Calls Try.prog 11 #[.slice A n c] w (TkE l w) := by
  have hm := h.cap
  have hc := h.le
  have hlen := h.len
  subst hlen
  unfold maxLen at hm
  by_cases hgt : 20000 < l.length
  · have hgt' : (20000 : Int) < (l.length : Int) := by omega
    have HE := Lib.hid (show lexE l = 4 from if_pos hgt)
    have HT := Lib.hid (show lexT l = [] from if_pos hgt)
    clear h hgt
    go_enter Try.func11, Try.ntmps11
    go_wp2_with fail
    go_ret2
    exact ⟨none, 0, 0, by rw [HE.out]; rfl, by rw [HT.out]; exact TRow.nil _ _, Below.refl _ _⟩
  · have hle' : (l.length : Int) ≤ 20000 := by omega
    have hle2 : l.length ≤ 20000 := by omega
    have HY := Lib.hid h
    have HE : Hid (lexE l = if (toksL l).isSome = true then 0 else 8) := Lib.hid (if_neg hgt)
    have HT : Hid (lexT l = (toksL l).getD []) := Lib.hid (if_neg hgt)
    clear h hgt
    go_enter Try.func11, Try.ntmps11
    go_wp2_with fail
    go_loopw [4, 5] (fun v i wr => ∃ (j : Nat) (A' : Option Addr) (n' c' : Nat) (o : List Tk), i = .int .i64 j ∧ v = .slice A' n' c' ∧ RtI l w j A' n' c' o wr ∧ Hid (RkX l o j)) (fun _ i _ => l.length - (Go.RowKit.intOf i).toNat)
    case atStart => exact ⟨0, none, 0, 0, [], rfl, rfl, ⟨Below.refl _ _, TRow.nil _ _, Nat.zero_le _, Nat.zero_le _⟩, Lib.hid rfl⟩
    case round =>
      obtain ⟨j, A', n', c', o, rfl, rfl, hI, HK⟩ := hrel
      by_cases hlt : j < l.length
      · obtain ⟨u, hu⟩ := at_ofX (l := l) rfl hlt
        obtain ⟨b, oo, rfl, c0⟩ := (HY.out.keep hI.below).at_ j u hu
        have hi0 : (0 : Int) ≤ j := by omega
        have hi1 : (j : Int) < l.length := by omega
        have HU := Lib.hid hu
        have hbu := bI_lt u
        rw [show bV u = .int .u8 (bI u) from rfl] at c0
        obtain ⟨z, hz⟩ : ∃ z, bI u = z := ⟨_, rfl⟩
        have HZ := Lib.hid hz
        rw [hz] at c0 hbu
        obtain ⟨bm, hbm⟩ : ∃ q, mkI z = q := ⟨_, rfl⟩
        obtain ⟨bn, hbn⟩ : ∃ q, nmI z = q := ⟨_, rfl⟩
        have HM : Hid (∀ W, Calls Try.prog 17 #[.int .u8 z] W fun e w' => e = .returned (.bool bm) ∧ w' = W) := Lib.hid fun W => by rw [← hbm]; exact xMarkC z W
        have HN : Hid (∀ W, Calls Try.prog 18 #[.int .u8 z] W fun e w' => e = .returned (.bool bn) ∧ w' = W) := Lib.hid fun W => by rw [← hbn]; exact xNamedC z W
        have HBM := Lib.hid hbm
        have HBN := Lib.hid hbn
        have HI := Lib.hid hI
        clear hu hz hbm hbn hI
        by_cases hbl : blI z = true
        · have HIn : Hid (RtI l w (j + 1) A' n' c' o wr) := Lib.hid ⟨HI.out.below, HI.out.row, hlt, Nat.le_succ_of_le HI.out.few⟩
          have HKn : Hid (RkX l o (j + 1)) := Lib.hid (HK.out.blank HU.out (by rw [HZ.out]; exact hbl))
          have hz3 : z = 32 ∨ z = 9 ∨ z = 10 := by
            unfold blI at hbl
            simp only [Bool.or_eq_true, decide_eq_true_eq] at hbl
            rcases hbl with (h | h) | h
            · exact .inl h
            · exact .inr (.inl h)
            · exact .inr (.inr h)
          clear hbl HBM HBN
          have HZ3 := Lib.hid hz3
          clear hz3
          go_wp2_with fail
          refine (HM.out _).mono ?_
          rintro e w1 ⟨rfl, hw1⟩
          rw [hw1]
          clear hw1
          go_wp2_with fail
          refine (HN.out _).mono ?_
          rintro e w1 ⟨rfl, hw1⟩
          rw [hw1]
          clear hw1
          rcases HZ3.out with h3 | h3 | h3 <;> subst h3
          all_goals go_wp2_with fail
          all_goals go_roundw
          all_goals first | exact ⟨j + 1, _, _, _, _, by go_num, rfl, HIn.out, HKn⟩ | (simp [Go.RowKit.intOf]; omega)
        · have hblf : blI z = false := by simpa using hbl
          have hz3 : (z == 32) = false ∧ (z == 9) = false ∧ (z == 10) = false := by
            unfold blI at hblf
            simp only [Bool.or_eq_false_iff, decide_eq_false_iff_not] at hblf
            exact ⟨by simpa using hblf.1.1, by simpa using hblf.1.2, by simpa using hblf.2⟩
          obtain ⟨e32, e9, e10⟩ := hz3
          have HBL := Lib.hid hblf
          clear hbl hblf
          by_cases h37 : z = 37
          · subst h37
            clear HBM HBN HBL
            have HKn : Hid (RnX l o j) := Lib.hid (HK.out.note HU.out HZ.out)
            go_wp2_with fail
            refine (HM.out _).mono ?_
            rintro e w1 ⟨rfl, hw1⟩
            rw [hw1]
            clear hw1
            go_wp2_with fail
            refine (HN.out _).mono ?_
            rintro e w1 ⟨rfl, hw1⟩
            rw [hw1]
            clear hw1 HM HN
            go_wp2_with fail
            go_loopw [5] (fun i w9 => ∃ k : Nat, i = .int .i64 k ∧ j ≤ k ∧ k ≤ l.length ∧ (0 < k - j ∨ k = j) ∧ w9 = wr ∧ Hid (RnX l o k)) (fun i _ => l.length - (Go.RowKit.intOf i).toNat)
            case atStart => exact ⟨j, rfl, Nat.le_refl _, Nat.le_of_lt hlt, .inr rfl, rfl, HKn⟩
            case round =>
              clear HKn HK
              obtain ⟨k, rfl, hjk, hkl, hpr, rfl, HRN⟩ := hrel
              by_cases hk : k < l.length
              · obtain ⟨u2, hu2⟩ := at_ofX (l := l) rfl hk
                obtain ⟨b', o', e, c2⟩ := (HY.out.keep HI.out.below).at_ k u2 hu2
                cases e
                rw [show bV u2 = .int .u8 (bI u2) from rfl] at c2
                have hk0 : (0 : Int) ≤ k := by omega
                have hk1 : (k : Int) < l.length := by omega
                by_cases h10 : bI u2 = 10
                · have HKn : Hid (RkX l o k) := Lib.hid (HRN.out.feed hu2 h10)
                  have hne : j < k := by
                    rcases hpr with h | h
                    · omega
                    · subst h
                      have h1 := HU.out
                      rw [hu2] at h1
                      cases h1
                      have h2 := HZ.out
                      omega
                  have HIn : Hid (RtI l w k A' n' c' o wr) := Lib.hid ⟨HI.out.below, HI.out.row, hkl, by have := HI.out.few; omega⟩
                  rw [h10] at c2
                  clear hu2
                  go_wp2_with fail
                  go_roundw
                  case rel => exact ⟨k, _, _, _, _, rfl, rfl, HIn.out, HKn⟩
                  case measure => simp [Go.RowKit.intOf]; omega
                · have HRNn : Hid (RnX l o (k + 1)) := Lib.hid (HRN.out.step hu2 h10)
                  have h10' : (bI u2 == 10) = false := by simpa using h10
                  have h10n : (bI u2 != 10) = true := by simpa using h10
                  clear hu2
                  go_wp2_with fail
                  go_roundw
                  case rel => exact ⟨k + 1, by go_num, by omega, hk, .inl (by omega), by simp, HRNn⟩
                  case measure => simp [Go.RowKit.intOf]; omega
              · have HKn : Hid (RkX l o k) := Lib.hid (HRN.out.done (by omega))
                have HIn : Hid (RtI l w k A' n' c' o wr) := Lib.hid ⟨HI.out.below, HI.out.row, hkl, by have := HI.out.few; omega⟩
                go_wp2_with fail
                go_roundw
                case rel => exact ⟨k, _, _, _, _, rfl, rfl, HIn.out, HKn⟩
                case measure => simp [Go.RowKit.intOf]; omega
          · have e37 : (z == 37) = false := by simpa using h37
            cases bm with
            | true =>
              have hmk : mkI (bI u) = true := by rw [HZ.out]; exact HBM.out
              obtain ⟨g7, cap7, w7, hrun7, hI7⟩ := HI.out.push 1 ⟨#[u]⟩ hle2 (Nat.lt_succ_self j) hlt
              have HKn : Hid (RkX l (o ++ [(1, ⟨#[u]⟩)]) (j + 1)) := Lib.hid (HK.out.mark HU.out hmk)
              have HIn := Lib.hid hI7
              have hcv := run_string ((HY.out.keep HI.out.below).sub j (j + 1) (by omega) hlt)
              rw [show (l.drop j).take (j + 1 - j) = [u] by rw [take_snoc HU.out (Nat.le_refl _), Nat.sub_self]; rfl, show j + 1 - j = 1 by omega] at hcv
              have n4 : ¬ c = j := by omega
              have hj1 : (0 : Int) ≤ (j : Int) + 1 := by omega
              clear hI7 HBM HBN HBL hmk
              obtain ⟨su, hsu⟩ : ∃ su, (ByteArray.mk [u].toArray) = su := ⟨_, rfl⟩
              have hsu' : (⟨#[u]⟩ : ByteArray) = su := hsu
              rw [hsu'] at hrun7
              rw [hsu] at hcv
              have HSU := Lib.hid hsu
              clear hsu hsu'
              go_wp2_with fail
              refine (HM.out _).mono ?_
              rintro e w1 ⟨rfl, hw1⟩
              rw [hw1]
              clear hw1
              go_wp2_with fail
              refine (HN.out _).mono ?_
              rintro e w1 ⟨rfl, hw1⟩
              rw [hw1]
              clear hw1 HM HN
              go_wp2_with (at_builtin; first | (refine Lib.wpList_append_run _ rfl _ _ _ _ rfl _ _ rfl rfl _ _ hrun7 ?_; clear hrun7))
              go_roundw
              case rel => exact ⟨j + 1, _, _, _, _, by go_num, rfl, HIn.out, HKn⟩
              case measure => simp [Go.RowKit.intOf]; omega
            | false =>
              cases bn with
              | false =>
                have hnone := HK.out.bad HU.out (by rw [HZ.out]; exact HBN.out) (by rw [HZ.out]; exact h37) (by rw [HZ.out]; exact HBM.out) (by rw [HZ.out]; exact HBL.out)
                have HE1 := Lib.hid (show lexE l = 8 by rw [HE.out, hnone]; rfl)
                have HT1 := Lib.hid (show lexT l = [] by rw [HT.out, hnone]; rfl)
                clear hnone HBM HBN HBL
                go_wp2_with fail
                refine (HM.out _).mono ?_
                rintro e w1 ⟨rfl, hw1⟩
                rw [hw1]
                clear hw1
                go_wp2_with fail
                refine (HN.out _).mono ?_
                rintro e w1 ⟨rfl, hw1⟩
                rw [hw1]
                clear hw1 HM HN
                go_wp2_with fail
                go_ret2
                exact ⟨none, 0, 0, by rw [HE1.out]; rfl, by rw [HT1.out]; exact TRow.nil _ _, HI.out.below⟩
              | true =>
                have HKm : Hid (RmX l o j j) := Lib.hid HK.out.name
                have HNU : Hid (nmI (bI u) = true) := Lib.hid (by rw [HZ.out]; exact HBN.out)
                clear HBM HBN HBL
                go_wp2_with fail
                refine (HM.out _).mono ?_
                rintro e w1 ⟨rfl, hw1⟩
                rw [hw1]
                clear hw1
                go_wp2_with fail
                refine (HN.out _).mono ?_
                rintro e w1 ⟨rfl, hw1⟩
                rw [hw1]
                clear hw1 HM HN
                go_wp2_with fail
                go_loopw [8, 9] (fun q i w9 => ∃ (k : Nat) (r : Bool), q = .bool r ∧ i = .int .i64 k ∧ j ≤ k ∧ k ≤ l.length ∧ w9 = wr ∧ Hid (RmX l o j k) ∧ Hid (r = true → ∃ u, l[k]? = some u ∧ nmI (bI u) = true) ∧ Hid (r = false → j < k ∧ ∀ u, l[k]? = some u → nmI (bI u) = false)) (fun _ i _ => l.length - (Go.RowKit.intOf i).toNat)
                case atStart => exact ⟨j, true, rfl, rfl, Nat.le_refl _, Nat.le_of_lt hlt, rfl, HKm, Lib.hid (fun _ => ⟨u, HU.out, HNU.out⟩), Lib.hid (fun e => by cases e)⟩
                case round =>
                  clear HKm HK
                  obtain ⟨k, r, rfl, rfl, hjk, hkl, rfl, HRM, HT1, HF1⟩ := hrel
                  cases r with
                  | true =>
                    obtain ⟨u1, hu1, hn1⟩ := HT1.out rfl
                    have hk : k < l.length := (List.getElem?_eq_some_iff.1 hu1).1
                    have HRMn : Hid (RmX l o j (k + 1)) := Lib.hid (HRM.out.step hjk hu1 hn1)
                    clear HT1 HF1 hu1 hn1
                    by_cases hk2 : k + 1 < l.length
                    · obtain ⟨u2, hu2⟩ := at_ofX (l := l) rfl hk2
                      obtain ⟨b', o', e, c2⟩ := (HY.out.keep HI.out.below).at_ (k + 1) u2 hu2
                      cases e
                      rw [show bV u2 = .int .u8 (bI u2) from rfl] at c2
                      have hk0 : (0 : Int) ≤ (k : Int) + 1 := by omega
                      have hk1 : (k : Int) + 1 < l.length := by omega
                      have HU2 := Lib.hid hu2
                      clear hu2
                      go_wp2_with (refine (xNamedC _ _).mono ?_; rintro e w2 ⟨rfl, hw2⟩; rw [hw2]; clear hw2)
                      go_roundw
                      case rel => exact ⟨k + 1, _, rfl, by go_num, by omega, hk, by simp, HRMn, Lib.hid fun e => ⟨u2, HU2.out, e⟩, Lib.hid fun e => ⟨by omega, fun u3 h3 => by rw [HU2.out] at h3; cases h3; exact e⟩⟩
                      case measure => simp [Go.RowKit.intOf]; omega
                    · have hk1 : ¬ ((k : Int) + 1 < l.length) := by omega
                      have hk2' : ¬ (k + 1 < l.length) := hk2
                      go_wp2_with fail
                      go_roundw
                      case rel => exact ⟨k + 1, false, (by first | rfl | (simp; omega)), by go_num, by omega, hk, by simp, HRMn, Lib.hid (fun e => by cases e), Lib.hid fun e => ⟨by omega, fun u3 h3 => by rw [List.getElem?_eq_none (by omega)] at h3; cases h3⟩⟩
                      case measure => simp [Go.RowKit.intOf]; omega
                  | false =>
                    obtain ⟨hjk', hstop⟩ := HF1.out rfl
                    obtain ⟨g7, cap7, w7, hrun7, hI7⟩ := HI.out.push 0 ⟨((l.drop j).take (k - j)).toArray⟩ hle2 hjk' hkl
                    have HKn : Hid (RkX l (o ++ [(0, ⟨((l.drop j).take (k - j)).toArray⟩)]) k) := Lib.hid (HRM.out.stop hjk' hkl hstop)
                    have HIn := Lib.hid hI7
                    have hcv := run_string ((HY.out.keep HI.out.below).sub j k hjk hkl)
                    have n4 : ¬ c = j := by omega
                    have hj1 : (0 : Int) ≤ (k : Int) := by omega
                    have hj2 : (j : Int) ≤ (k : Int) := by omega
                    have hj3 : (k : Int) ≤ (c : Int) := by omega
                    have hj4 : ((k : Int) - (j : Int)).toNat = k - j := by omega
                    clear hI7 hstop HF1 HT1
                    obtain ⟨su, hsu⟩ : ∃ su, (ByteArray.mk ((l.drop j).take (k - j)).toArray) = su := ⟨_, rfl⟩
                    rw [hsu] at hrun7 hcv HKn HIn
                    clear hsu
                    go_wp2_with (at_builtin; first | (refine Lib.wpList_append_run _ rfl _ _ _ _ rfl _ _ rfl rfl _ _ hrun7 ?_; clear hrun7))
                    go_roundw
                    case rel => exact ⟨k, _, _, _, _, rfl, rfl, HIn.out, HKn⟩
                    case measure => simp [Go.RowKit.intOf]; omega
      · have HF := Lib.hid (HK.out.done (by omega))
        have HE1 := Lib.hid (show lexE l = 0 by rw [HE.out, HF.out]; rfl)
        have HT1 := Lib.hid (show lexT l = o by rw [HT.out, HF.out]; rfl)
        have HI := Lib.hid hI
        clear hI
        go_wp2_with fail
        go_ret2
        exact ⟨A', n', c', by rw [HE1.out]; rfl, by rw [HT1.out]; exact HI.out.row, HI.out.below⟩
end Go.Proofs.Ytfohekdmlhgapaa
