/-
  Contracts of the document's Same and Tokens of package lex's layer. No statement is proved here.
-/
import Derived.Test.YtfohekdmlhgapaaXh
namespace Go.Proofs.Ytfohekdmlhgapaa
open Go.ChangeShapes Go.WideShapes Go.ChangeAt Go.RowKit
set_option linter.unusedVariables false

theorem bytes_eq (a b : ByteArray) : (a.toList == b.toList) = decide (a = b) := by
  rw [← beq_toListBytes, Bool.eq_iff_iff, decide_eq_true_eq]
  obtain ⟨⟨x⟩⟩ := a
  obtain ⟨⟨y⟩⟩ := b
  show ((⟨x⟩ : Array UInt8) == ⟨y⟩) = true ↔ _
  rw [beq_iff_eq]
  simp
theorem run_eqT (w : World) (k1 k2 : Int) (s1 s2 : ByteArray) :
    (Op.equalIn 10000 34 (.agg #[.int .i64 k1, .string s1]) (.agg #[.int .i64 k2, .string s2])).run Try.prog w = .ok (decide (((k1, s1) : Tk) = (k2, s2))) w := by
  rw [run_equalIn_struct w 9999 _ _ _ (by kernel_rfl) (by kernel_rfl)]
  have hf : (Try.prog.fieldsOf 34).toList.map (fun f => (f.name, f.type, f.offset)) = [("Kind", 3, 0), ("Text", 9, 1)] := by kernel_rfl
  have hs : s1.toList = s2.toList ↔ s1 = s2 := by
    have := bytes_eq s1 s2
    rw [Bool.eq_iff_iff, decide_eq_true_eq, beq_iff_eq] at this
    exact this
  cases hl : (Try.prog.fieldsOf 34).toList with
  | nil => rw [hl] at hf; cases hf
  | cons f l =>
    cases l with
    | nil => rw [hl] at hf; simp at hf
    | cons g l =>
      cases l with
      | cons g' l => rw [hl] at hf; simp at hf
      | nil =>
        rw [hl] at hf
        simp at hf
        obtain ⟨⟨h1, h2, h3⟩, h4, h5, h6⟩ := hf
        simp [Op.eqFields, h1, h2, h3, h4, h5, h6, part, go_sem, Try.underlying3, Try.underlying9, Try.sizeOf3, Try.isAgg3, Try.sizeOf9, Try.isAgg9]
        by_cases e1 : k1 = k2 <;> by_cases e2 : s1 = s2 <;> simp [e1, hs, e2]
set_option maxRecDepth 100000 in
set_option maxHeartbeats 4000000 in
theorem xSameC (x y : List Tk) (A B : Option Addr) (n c m d : Nat) (w : World) (hx : TL w x A n c) (hy : TL w y B m d) :
    Calls Try.prog 12 #[.slice A n c, .slice B m d] w fun e w' => e = .returned (.bool (decide (x = y))) ∧ Below w.heap.size w w' := by
  have hm := hx.cap
  have hc := hx.le
  have hm' := hy.cap
  have hc' := hy.le
  have hlx := hx.len
  have hly := hy.len
  subst hlx
  unfold maxLen at hm hm'
  by_cases hne : x.length = m
  · subst hne
    have HL := Lib.hid hly
    have HX := Lib.hid hx
    have HY := Lib.hid hy
    clear hx hy hly
    go_enter Try.func12, Try.ntmps12
    go_wp2_with fail
    go_loopw [5] (fun i wr => ∃ (j : Nat), j ≤ x.length ∧ i = .int .i64 j ∧ Hid (x.take j = y.take j) ∧ Below w.heap.size w wr) (fun i _ => x.length - (Go.RowKit.intOf i).toNat)
    case atStart => exact ⟨0, Nat.zero_le _, rfl, Lib.hid rfl, Below.refl _ _⟩
    case round =>
      obtain ⟨j, hj, rfl, HT, hb⟩ := hrel
      by_cases hlt : j < x.length
      · obtain ⟨t, ht⟩ := at_ofX (l := x) rfl hlt
        obtain ⟨u, hu⟩ := at_ofX (l := y) HL.out hlt
        obtain ⟨b1, o1, rfl, c0, c1⟩ := (HX.out.keep hb).at_ j t ht
        obtain ⟨b2, o2, rfl, e0, e1⟩ := (HY.out.keep hb).at_ j u hu
        obtain ⟨k1, s1⟩ := t
        obtain ⟨k2, s2⟩ := u
        simp only at c0 c1 e0 e1
        have hi0 : (0 : Int) ≤ j := by omega
        have hi1 : (j : Int) < x.length := by omega
        have HU := Lib.hid hu
        have HTT := Lib.hid ht
        clear hu ht
        obtain ⟨q, hq⟩ : ∃ q, decide (((k1, s1) : Tk) = (k2, s2)) = q := ⟨_, rfl⟩
        have hE : ∀ W, (Op.equalIn 10000 34 (.agg #[.int .i64 k1, .string s1]) (.agg #[.int .i64 k2, .string s2])).run Try.prog W = .ok q W := fun W => by rw [run_eqT, hq]
        have HQ := Lib.hid hq
        clear hq
        go_wp2_with fail
        go_quiet (fail)
        cases q with
        | false =>
          have HD := Lib.hid (show decide (x = y) = false by
            have h1 := of_decide_eq_false HQ.out
            refine decide_eq_false fun e => h1 ?_
            have h2 := HTT.out
            rw [e, HU.out] at h2
            cases h2; rfl)
          go_wp2_with fail
          go_ret
          exact ⟨ret_boolX HD.out.symm, hb.drewX _⟩
        | true =>
          have HN : Hid (x.take (j + 1) = y.take (j + 1)) := Lib.hid (by
            rw [List.take_add_one, List.take_add_one, HT.out, HTT.out, HU.out, of_decide_eq_true HQ.out])
          go_wp2_with fail
          go_roundw
          case rel => exact ⟨j + 1, by omega, by go_num, HN, hb.drewX _⟩
          case measure => simp [Go.RowKit.intOf]; omega
      · have HE := Lib.hid (show x = y by have := HT.out; rwa [List.take_of_length_le (by omega), List.take_of_length_le (by have := HL.out; omega)] at this)
        go_wp2_with fail
        go_ret
        exact ⟨ret_boolX (decide_eq_true HE.out).symm, hb⟩
  · have hd : decide (x = y) = false := decide_eq_false fun e => hne (by rw [e]; exact hly)
    have hne' : (((x.length : Nat) : Int) == (m : Int)) = false := by simp; omega
    rw [hd]
    clear hx hy hd
    go_enter Try.func12, Try.ntmps12
    go_wp2_with fail
    go_ret
    exact ⟨rfl, Below.refl _ _⟩
end Go.Proofs.Ytfohekdmlhgapaa
