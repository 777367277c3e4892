/-
  The law SubstTwice's own function 'reduced' tells true of each term whose nodes may be. No statement is proved here.
-/
import Derived.Test.YtinjeocfnhhlmaaPa
namespace Go.Proofs.Ytinjeocfnhhlmaa
open Go.ChangeShapes Go.WideShapes Go.ChangeAt Go.RowKit
set_option linter.unusedVariables false

set_option maxHeartbeats 4000000 in
theorem reducedC (t : T) : ∀ (v : Value) (w : World), nodB t = true → Rd w t v →
    Calls Try.prog 59 #[v] w fun e w' => e = .returned (.bool true) ∧ Below w.heap.size w w' := by
  induction t using T.ind with
  | step k h xs ih =>
    intro v w hno hv
    obtain ⟨A, n, c, rfl, hk, hh, hn, hc, hm, hx⟩ := Rd_node.1 hv
    clear hv
    unfold maxLen at hm
    have HX := Lib.hid hx; clear hx
    have IH := Lib.hid ih; clear ih
    rw [nodB, hn, Bool.and_eq_true] at hno
    obtain ⟨hok, hkids⟩ := hno
    have HK := Lib.hid hkids; clear hkids
    have HN := Lib.hid hn; clear hn
    rcases okN_cases hok with ⟨rfl, rfl, en⟩ | ⟨rfl, rfl, en⟩ | ⟨rfl, rfl, en⟩ | ⟨rfl, h0⟩ | ⟨rfl, h0⟩ | ⟨rfl, h0⟩ | ⟨rfl, h0⟩
    case' inl => clear en
    case' inr.inl => clear en
    case' inr.inr.inl => (have en' : ((n : Int) != 1) = false := by rw [en]; rfl); clear en
    all_goals
      clear hok
      go_enter Try.func59, Try.ntmps59
      go_wp2_with fail
      go_loopw [3] (fun i wr => ∃ (j : Nat), j ≤ n ∧ i = .int .i64 j ∧ Box wr w.heap.size 24 #[.int .i64 _, .int .i64 _, .slice A n c] ∧ Below w.heap.size w wr) (fun i _ => n - (intOf i).toNat)
      case atStart => exact ⟨0, Nat.zero_le _, rfl, Box.new _ _ _, (Below.refl _ _).alloc (Nat.le_refl _) _⟩
      case round =>
        obtain ⟨j, hj, rfl, hbox, hb⟩ := hrel
        obtain ⟨b0, b1, b2⟩ := hbox.three
        by_cases hlt : j < n
        · obtain ⟨t, ht⟩ := at_of HN.out hlt
          obtain ⟨b, o, v0, v1, v2, rfl, c0, c1, c2, hr⟩ := RdAt.keep hb (HX.out j t ht)
          have hmem := List.mem_of_getElem? ht
          have hnt := nodL_mem HK.out hmem
          have HI := Lib.hid (IH.out t hmem _ wr hnt hr); clear ht hmem hnt hr
          go_wp2_with fail
          refine HI.out.mono ?_
          rintro e w1 ⟨rfl, hb1⟩
          go_wp2_with fail
          go_roundw
          case rel => exact ⟨j + 1, by omega, by go_num, hbox.keep hb1 hbox.lt, hb.trans (hb1.mono hb.size)⟩
          case measure => simp [intOf]; omega
        · go_wp2_with fail
          go_ret
          exact ⟨rfl, hb⟩
end Go.Proofs.Ytinjeocfnhhlmaa
