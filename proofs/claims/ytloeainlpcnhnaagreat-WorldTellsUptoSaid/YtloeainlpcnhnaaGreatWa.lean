/-
  Contracts of package subst's small functions: variable, bound, allMay, may. No statement is proved here.
-/
import Derived.Test.YtloeainlpcnhnaaGreatWm
namespace Go.Proofs.YtloeainlpcnhnaaGreat
open Go.ChangeShapes Go.WideShapes Go.ChangeAt Go.RowKit
set_option linter.unusedVariables false

/-- package term's May, whatever the term -/
theorem myC (t : T) (v : Value) (w : World) (hv : Rd w t v) : Calls Tryz.prog 77 #[v] w fun e w' => e = .returned (.bool (myB t)) ∧ Below w.heap.size w w' := by
  rw [← mayK_my]; exact termMay t v w hv
theorem varC (h : Int) (w : World) : Calls Tryz.prog 146 #[.int .i64 h] w fun e w' => e = .returned (.agg #[.int .i64 4, .int .i64 h, .slice none 0 0]) ∧ Below w.heap.size w w' := by
  go_enter Tryz.func146, Tryz.ntmps146
  go_wp2_with fail
  refine bodyPost_ret (v := .agg #[.int .i64 4, .int .i64 h, .slice none 0 0]) (by simp [results, Tryz.results146, go_sem]) rfl ?_
  exact ⟨rfl, (Below.refl _ _).alloc (Nat.le_refl _) _⟩

set_option maxHeartbeats 400000 in
theorem allMayC (xs : List T) (A : Option Addr) (n c : Nat) (w : World) (hn : xs.length = n) (hc : n ≤ c) (hm : c ≤ maxLen) (hx : ∀ i t, xs[i]? = some t → RdAt w A i t) :
    Calls Tryz.prog 137 #[.slice A n c] w fun e w' => e = .returned (.bool (xs.all myB)) ∧ Below w.heap.size w w' := by
  unfold maxLen at hm
  have HN := Lib.hid hn; clear hn
  have HX := Lib.hid hx; clear hx
  go_enter Tryz.func137, Tryz.ntmps137
  go_wp2_with fail
  go_loopw [7] (fun i wr => ∃ (j : Nat), j ≤ n ∧ i = .int .i64 j ∧ Hid ((xs.drop j).all myB = xs.all myB) ∧ Below w.heap.size w wr) (fun i _ => n - (intOf i).toNat)
  case atStart => exact ⟨0, Nat.zero_le _, rfl, Lib.hid (by simp), Below.refl _ _⟩
  case round =>
    obtain ⟨j, hj, rfl, HS, hb⟩ := hrel
    by_cases hlt : j < n
    · obtain ⟨t, ht⟩ := at_of HN.out hlt
      obtain ⟨b, o, k2, h2, A2, n2, c2', rfl, c0, c1, c2, hr⟩ := (RdAt.keep hb (HX.out j t ht)).full
      have HT := Lib.hid ht; clear ht
      have hi0 : (0 : Int) ≤ j := by omega
      have hi1 : (j : Int) < n := by omega
      go_wp2_with fail
      have hbA : Below wr.heap.size wr (wr.alloc (.cells #[.int .i64 k2, .int .i64 h2, .slice A2 n2 c2'] 44)) := (Below.refl _ wr).alloc (Nat.le_refl _) _
      generalize wr.alloc (.cells #[.int .i64 k2, .int .i64 h2, .slice A2 n2 c2'] 44) = Wa at *
      clear c0 c1 c2
      refine (myC t _ _ (Rd.keep hbA _ _ hr)).mono ?_
      have HS' := HS.out
      rw [drop_at HT.out, List.all_cons] at HS'
      have HS := Lib.hid HS'; clear HS'
      generalize myB t = r at *
      rintro e w1 ⟨rfl, hb1⟩
      have hbw : Below w.heap.size w w1 := hb.trans ((hbA.trans (hb1.mono hbA.size)).mono hb.size)
      clear hb1 hbA
      cases r
      · go_wp2_with fail
        go_ret
        exact ⟨ret_bool (by simpa using HS.out), hbw⟩
      · go_wp2_with fail
        go_roundw
        case rel => exact ⟨j + 1, by omega, by go_num, Lib.hid (by simpa using HS.out), hbw⟩
        case measure => simp [intOf]; omega
    · go_wp2_with fail
      go_ret
      exact ⟨ret_bool (by have := HS.out; rw [drop_all HN.out (by omega)] at this; exact this), hb⟩

/-- may a substitution be? -/
def sbB (L : List T) (sh : Int) : Bool := decide (L.length ≤ 200) && decide (0 ≤ sh) && decide (sh ≤ 1048576) && L.all myB
set_option maxHeartbeats 800000 in
theorem sbMayC (L : List T) (A : Option Addr) (n c : Nat) (sh : Int) (w : World) (hn : L.length = n) (hc : n ≤ c) (hm : c ≤ maxLen) (hx : ∀ i t, L[i]? = some t → RdAt w A i t) :
    Calls Tryz.prog 124 #[.agg #[.slice A n c, .int .i64 sh]] w fun e w' => e = .returned (.bool (sbB L sh)) ∧ Below w.heap.size w w' := by
  have hb : Below w.heap.size w (w.alloc (.cells #[.slice A n c, .int .i64 sh] 118)) := (Below.refl _ _).alloc (Nat.le_refl _) _
  have E : sbB L sh = (decide (n ≤ 200) && decide (0 ≤ sh) && decide (sh ≤ 1048576) && L.all myB) := by rw [sbB, hn]
  have HA : Hid (∀ W, Below w.heap.size w W → Calls Tryz.prog 137 #[.slice A n c] W fun e w' => e = .returned (.bool (L.all myB)) ∧ Below W.heap.size W w') := Lib.hid fun W h => allMayC L A n c W hn hc hm fun i t ht => RdAt.keep h (hx i t ht)
  unfold maxLen at hm
  rw [E]
  have HE := Lib.hid E; clear E hx hn
  cases h1 : decide (n ≤ 200)
  · have h1' : decide ((n : Int) ≤ 200) = false := by simp at h1; simp; omega
    go_enter Tryz.func124, Tryz.ntmps124
    go_wp2_with fail
    go_ret
    exact ⟨rfl, hb⟩
  have h1' : decide ((n : Int) ≤ 200) = true := by simp at h1; simp; omega
  cases h2 : decide (0 ≤ sh)
  · go_enter Tryz.func124, Tryz.ntmps124
    go_wp2_with fail
    go_ret
    exact ⟨rfl, hb⟩
  cases h3 : decide (sh ≤ 1048576)
  · go_enter Tryz.func124, Tryz.ntmps124
    go_wp2_with fail
    go_ret
    exact ⟨rfl, hb⟩
  go_enter Tryz.func124, Tryz.ntmps124
  go_wp2_with fail
  refine (HA.out _ hb).mono ?_
  rintro e w1 ⟨rfl, hb1⟩
  go_wp2_with fail
  go_ret
  exact ⟨by simp, hb.trans (hb1.mono hb.size)⟩
end Go.Proofs.YtloeainlpcnhnaaGreat
