/-
  Declarations in memory, and as an argument's reading; rows of numbers that grow by append; few declarations; the document's Constants. No statement is proved here.
-/
import Derived.Test.YtloeainlpcnhnaaGreatQc
import Derived.Test.YtloeainlpcnhnaaGreatOp
import Derived.OwnWalkIn
namespace Go.Proofs.YtloeainlpcnhnaaGreat
open Go.ChangeShapes Go.WideShapes Go.ChangeAt Go.RowKit
set_option linter.unusedVariables false

/-- one declaration of a list: its type, or kind -/
def DAt (w : World) (A : Option Addr) (i : Nat) (x : T) : Prop :=
  ∃ b o s k h A' n c, A = some ⟨b, o, none⟩ ∧ w.cell? ⟨b, o + i * 4, none⟩ = some (.string s) ∧ w.cell? ⟨b, o + i * 4 + 1, none⟩ = some (.int .i64 k) ∧ w.cell? ⟨b, o + i * 4 + 2, none⟩ = some (.int .i64 h) ∧
    w.cell? ⟨b, o + i * 4 + 3, none⟩ = some (.slice A' n c) ∧ Rd w x (.agg #[.int .i64 k, .int .i64 h, .slice A' n c])
/-- a list of declarations -/
structure DL (w : World) (ds : List T) (A : Option Addr) (n c : Nat) : Prop where
  len : ds.length = n
  le : n ≤ c
  cap : c ≤ maxLen
  at_ : ∀ i x, ds[i]? = some x → DAt w A i x
theorem DAt.keep {w w' : World} {A : Option Addr} {i : Nat} {x : T} (h : DAt w A i x) (hb : Below w.heap.size w w') : DAt w' A i x := by
  obtain ⟨b, o, s, k, g, A', n, c, rfl, c0, c1, c2, c3, hr⟩ := h
  exact ⟨b, o, s, k, g, A', n, c, rfl, (hb.cell (cell_lt c0)).trans c0, (hb.cell (cell_lt c1)).trans c1, (hb.cell (cell_lt c2)).trans c2, (hb.cell (cell_lt c3)).trans c3, Rd.keep hb _ _ hr⟩
theorem DL.keep {w w' : World} {ds : List T} {A : Option Addr} {n c : Nat} (h : DL w ds A n c) (hb : Below w.heap.size w w') : DL w' ds A n c :=
  ⟨h.len, h.le, h.cap, fun i x hx => (h.at_ i x hx).keep hb⟩
/-- are they few -/
def fwQ (ds : List T) (n : Nat) : Bool := decide (n ≤ 30) && ds.all fun x => ltB x 1000 80


set_option maxRecDepth 100000 in
set_option maxHeartbeats 2000000 in
theorem fewC (ds : List T) (A : Option Addr) (n c : Nat) (w : World) (hx : DL w ds A n c) :
    Calls Tryz.prog 29 #[.slice A n c] w fun e w' => e = .returned (.bool (fwQ ds n)) ∧ Below w.heap.size w w' := by
  have hm := hx.cap
  have hc := hx.le
  unfold maxLen at hm
  have HX := Lib.hid hx; clear hx
  by_cases hgt : 30 < n
  · have d1 : decide ((30 : Int) < (n : Int)) = true := by simp; omega
    have hs : fwQ ds n = false := by rw [fwQ, decide_eq_false (by omega)]; rfl
    rw [hs]
    clear hs hgt
    go_enter Tryz.func29, Tryz.ntmps29
    go_wp2_with fail
    go_ret
    exact ⟨rfl, Below.refl _ _⟩
  · have d1 : decide ((30 : Int) < (n : Int)) = false := by simp; omega
    have hs : fwQ ds n = ds.all fun x => ltB x 1000 80 := by rw [fwQ, decide_eq_true (by omega)]; rfl
    rw [hs]
    clear hs
    go_enter Tryz.func29, Tryz.ntmps29
    go_wp2_with fail
    go_loopw [3] (fun i wr => ∃ (j : Nat), j ≤ n ∧ i = .int .i64 j ∧ Hid (((ds.drop j).all fun x => ltB x 1000 80) = ds.all fun x => ltB x 1000 80) ∧ Below w.heap.size w wr) (fun i _ => n - (Go.RowKit.intOf i).toNat)
    case atStart => exact ⟨0, Nat.zero_le _, rfl, Lib.hid (by simp), Below.refl _ _⟩
    case round =>
      obtain ⟨j, hj, rfl, HS, hb⟩ := hrel
      by_cases hlt : j < n
      · obtain ⟨x, hx⟩ := at_of HX.out.len hlt
        obtain ⟨b1, o1, s1, k1, h1, A1, n1, c1, rfl, c0, c1', c2, c3, hr1⟩ := (HX.out.at_ j x hx).keep hb
        have HS' := HS.out
        rw [drop_at hx, List.all_cons] at HS'
        have HS1 := Lib.hid HS'; clear HS' hx HS
        have hi0 : (0 : Int) ≤ j := by omega
        have hi1 : (j : Int) < n := by omega
        have HC := Lib.hid (refLight x 1000 80 _ wr hr1)
        clear hr1
        generalize ltB x 1000 80 = r at *
        go_wp2_with fail
        refine HC.out.mono ?_
        rintro e w1 ⟨rfl, hb1⟩
        replace hb := hb.trans (hb1.mono hb.size)
        clear hb1 c0 c1' c2 c3 HC
        cases r
        · go_wp2_with fail
          go_ret
          exact ⟨ret_bool (by rw [← HS1.out]; rfl), hb⟩
        · go_wp2_with fail
          go_roundw
          case rel => exact ⟨j + 1, by omega, by go_num, Lib.hid (by simpa using HS1.out), hb⟩
          case measure => simp [Go.RowKit.intOf]; omega
      · have e := HS.out
        rw [drop_all HX.out.len (by omega)] at e
        have HE := Lib.hid e; clear e HS
        go_wp2_with fail
        go_ret
        exact ⟨ret_bool (by rw [← HE.out]; rfl), hb⟩

end Go.Proofs.YtloeainlpcnhnaaGreat
