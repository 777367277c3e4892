/-
  awake: the chapter's example of layer 3 comes out as the document says; the document's Lights. No statement is proved here.
-/
import Derived.Test.YtloeainlpcnhnaaGreatWk
import Derived.Test.YtloeainlpcnhnaaGreatPb
namespace Go.Proofs.YtloeainlpcnhnaaGreat
open Go.ChangeShapes Go.WideShapes Go.ChangeAt Go.RowKit
set_option linter.unusedVariables false

theorem lights_all {xs : List T} {s d : Int} (h : xs.all (fun t => ltB t s d) = true) : ∀ x ∈ xs, ltB x s d = true := List.all_eq_true.1 h
/-- are all light, and at most 60? -/
def lsB (xs : List T) (s d : Int) : Bool := decide (xs.length ≤ 60) && xs.all fun t => ltB t s d
set_option maxHeartbeats 800000 in
theorem lightsC (xs : List T) (A : Option Addr) (n c : Nat) (s d : Int) (w : World) (hn : xs.length = n) (hc : n ≤ c) (hm : c ≤ maxLen) (hx : ∀ i t, xs[i]? = some t → RdAt w A i t) :
    Calls Tryz.prog 8 #[.slice A n c, .int .i64 s, .int .i64 d] w fun e w' => e = .returned (.bool (lsB xs s d)) ∧ Below w.heap.size w w' := by
  unfold maxLen at hm
  have E : lsB xs s d = (decide (n ≤ 60) && xs.all fun t => ltB t s d) := by rw [lsB, hn]
  have HE := Lib.hid E; clear E
  have HN := Lib.hid hn; clear hn
  have HX := Lib.hid hx; clear hx
  by_cases h60 : n ≤ 60
  · have d1 : ¬ (60 : Int) < n := by omega
    go_enter Tryz.func8, Tryz.ntmps8
    go_wp2_with fail
    go_loopw [7] (fun i wr => ∃ (j : Nat), j ≤ n ∧ i = .int .i64 j ∧ Hid ((xs.drop j).all (fun t => ltB t s d) = lsB xs s d) ∧ Below w.heap.size w wr) (fun i _ => n - (intOf i).toNat)
    case atStart => exact ⟨0, Nat.zero_le _, rfl, Lib.hid (by rw [HE.out]; simp [h60]), Below.refl _ _⟩
    case round =>
      obtain ⟨j, hj, rfl, HS, hb⟩ := hrel
      by_cases hlt : j < n
      · obtain ⟨t, ht⟩ := at_of HN.out hlt
        obtain ⟨b, o, k2, h2, A2, n2, c2', rfl, c0, c1, c2, hr⟩ := (RdAt.keep hb (HX.out j t ht)).full
        have HT := Lib.hid ht; clear ht
        have hi0 : (0 : Int) ≤ j := by omega
        have hi1 : (j : Int) < n := by omega
        go_wp2_with fail
        clear c0 c1 c2
        refine (refLight t s d _ _ hr).mono ?_
        have HS' := HS.out
        rw [drop_at HT.out, List.all_cons] at HS'
        have HS := Lib.hid HS'; clear HS'
        generalize ltB t s d = r at *
        rintro e w1 ⟨rfl, hb1⟩
        have hbw : Below w.heap.size w w1 := hb.trans (hb1.mono hb.size)
        clear hb1
        cases r
        · go_wp2_with fail
          go_ret
          exact ⟨ret_bool (by simpa using HS.out), hbw⟩
        · go_wp2_with fail
          go_roundw
          case rel => exact ⟨j + 1, by omega, by go_num, Lib.hid (by simpa using HS.out), hbw⟩
          case measure => simp [intOf]; omega
      · go_wp2_with fail
        go_ret
        exact ⟨ret_bool (by have := HS.out; rw [drop_all HN.out (by omega)] at this; exact this), hb⟩
  · have d1 : (60 : Int) < n := by omega
    go_enter Tryz.func8, Tryz.ntmps8
    go_wp2_with fail
    go_ret
    exact ⟨ret_bool (by rw [HE.out]; simp [h60]), Below.refl _ _⟩

/-- Var 0 of Const 1, Lam of Var 0 -/
def awX : T := .node 4 0 [.node 5 1 []]
def awF : T := .node 3 0 [.node 4 0 []]
theorem aw_T : apT awX [awF] 0 = .node 5 1 [] := by kernel_rfl
theorem aw_E : apE awX [awF] 0 = 0 := by kernel_rfl
theorem lo_awX : LoT awX := by simp [LoT, awX, okT, okL]
theorem lo_awF : LoT awF := by simp [LoT, awF, okT, okL]
theorem rd_one {w : World} {b : Nat} {ty : TypeId} {t : T} {k h k2 h2 : Int} {A : Option Addr} {n c : Nat} (hb : Box w b ty #[.int .i64 k2, .int .i64 h2, .slice A n c]) (hr : Rd w t (.agg #[.int .i64 k2, .int .i64 h2, .slice A n c])) :
    ∀ i u, [t][i]? = some u → RdAt w (some ⟨b, 0, none⟩) i u := fun i u hu => by
  cases i with
  | zero =>
    simp only [List.getElem?_cons_zero, Option.some.injEq] at hu
    subst hu
    obtain ⟨c0, c1, c2⟩ := hb.three
    exact ⟨b, 0, _, _, _, rfl, c0, c1, c2, hr⟩
  | succ i => simp at hu
theorem rd_leaf {w : World} {k h : Int} (hk : (Lit.int .i64 k).wf = true) (hh : (Lit.int .i64 h).wf = true) : Rd w (.node k h []) (.agg #[.int .i64 k, .int .i64 h, .slice none 0 0]) :=
  Rd_node.2 ⟨none, 0, 0, rfl, hk, hh, rfl, Nat.le_refl _, Nat.zero_le _, fun i t ht => by simp at ht⟩
theorem rd_node1 {w : World} {b : Nat} {ty : TypeId} {t : T} {k h k2 h2 : Int} {A : Option Addr} {n c : Nat} (hb : Box w b ty #[.int .i64 k2, .int .i64 h2, .slice A n c]) (hr : Rd w t (.agg #[.int .i64 k2, .int .i64 h2, .slice A n c])) (hk : (Lit.int .i64 k).wf = true) (hh : (Lit.int .i64 h).wf = true) :
    Rd w (.node k h [t]) (.agg #[.int .i64 k, .int .i64 h, .slice (some ⟨b, 0, none⟩) 1 1]) :=
  Rd_node.2 ⟨some ⟨b, 0, none⟩, 1, 1, rfl, hk, hh, rfl, Nat.le_refl _, by unfold maxLen; omega, rd_one (k := 0) (h := 0) hb hr⟩

end Go.Proofs.YtloeainlpcnhnaaGreat
