/-
  Contracts of the document's Same of two lists of binds, and of layer 7's Few. No statement is proved here.
-/
import Derived.Test.YtelicajhamgibaaPkB
import Derived.Test.YtelicajhamgibaaSa
namespace Go.Proofs.Ytelicajhamgibaa
open Go.ChangeShapes Go.WideShapes Go.ChangeAt Go.RowKit
set_option linter.unusedVariables false

def sameL : List BT → List BT → Bool
  | x :: xs, y :: ys => !(x.1 != y.1 || x.1 && !samB x.2 y.2) && sameL xs ys
  | _, _ => true
/-- are two lists of binds the same, where something is told -/
def sameB (a b : List BT) : Bool := decide (a.length = b.length) && sameL a b
set_option maxHeartbeats 4000000 in
theorem refSbC (ok ok' : Nat → Prop) (a b : List BT) (A : Option Addr) (n c : Nat) (A' : Option Addr) (n' c' : Nat) (w : World) (ha : BL ok w a A n c) (hb' : BL ok' w b A' n' c') :
    Calls Try.prog 19 #[.slice A n c, .slice A' n' c'] w fun e w' => e = .returned (.bool (sameB a b)) ∧ Below w.heap.size w w' := by
  have hm := ha.cap
  have hc := ha.le
  have hm' := hb'.cap
  have hc' := hb'.le
  unfold maxLen at hm hm'
  have hla := ha.len
  have hlb := hb'.len
  have HX := Lib.hid ha; clear ha
  have HY := Lib.hid hb'; clear hb'
  by_cases hn : n = n'
  · subst hn
    have hs : sameB a b = sameL a b := by rw [sameB, hla, hlb, decide_eq_true rfl]; rfl
    rw [hs]
    clear hs hla hlb
    go_enter Try.func19, Try.ntmps19
    go_wp2_with fail
    go_loopw [5] (fun i wr => ∃ (j : Nat), j ≤ n ∧ i = .int .i64 j ∧ Hid (sameL (a.drop j) (b.drop j) = sameL a b) ∧ Below w.heap.size w wr) (fun i _ => n - (Go.RowKit.intOf i).toNat)
    case atStart => exact ⟨0, Nat.zero_le _, rfl, Lib.hid (by simp), Below.refl _ _⟩
    case round =>
      obtain ⟨j, hj, rfl, HS, hb⟩ := hrel
      by_cases hlt : j < n
      · obtain ⟨x, hx⟩ := at_of HX.out.len hlt
        obtain ⟨y, hy⟩ := at_of HY.out.len hlt
        obtain ⟨b1, o1, k1, h1, A1, n1, c1, rfl, c0, c1', c2, c3, hr1⟩ := (HX.out.at_ j x hx).keep hb
        obtain ⟨b2, o2, k2, h2, A2, n2, c2', rfl, d0, d1, d2, d3, hr2⟩ := (HY.out.at_ j y hy).keep hb
        have HS' := HS.out
        rw [drop_at hx, drop_at hy, sameL] at HS'
        have HS1 := Lib.hid HS'; clear HS' hx hy HS
        have hi0 : (0 : Int) ≤ j := by omega
        have hi1 : (j : Int) < n := by omega
        have HC := Lib.hid fun W' (h : Below wr.heap.size wr W') => refSame x.2 y.2 _ _ W' (Rd.keep h _ _ (RdF.rd _ _ hr1)) (Rd.keep h _ _ (RdF.rd _ _ hr2))
        clear hr1 hr2
        obtain ⟨x1, x2⟩ := x
        obtain ⟨y1, y2⟩ := y
        dsimp only at c0 d0 HS1 HC
        generalize samB x2 y2 = r at *
        go_wp2_with fail
        have p0 := Past.cell c0
        have p1 := Past.cell c1'
        have p2 := Past.cell c2
        have p3 := Past.cell c3
        have q0 := Past.cell d0
        have q1 := Past.cell d1
        have q2 := Past.cell d2
        have q3 := Past.cell d3
        refine wp_region_past (by kernel_rfl) (by kernel_rfl) ?_
        repeat (go_big_quiet_step ((exact calls_past (HC.out _ (Past.h _)))))
        refine wpQuiet_nil ?_
        rintro _ ⟨z1, rfl⟩
        obtain ⟨w1, hb1⟩ := z1
        dsimp only
        clear p0 p1 p2 p3 q0 q1 q2 q3 HC
        have c0 := (hb1.cell (cell_lt c0)).trans c0
        have d0 := (hb1.cell (cell_lt d0)).trans d0
        replace hb := hb.trans (hb1.mono hb.size)
        clear hb1 c1' c2 c3 d1 d2 d3
        have p0 := Past.cell c0
        have q0 := Past.cell d0
        go_wp2_with fail
        cases x1 <;> cases y1 <;> cases r
        all_goals
          refine wp_region_past (by kernel_rfl) (by kernel_rfl) ?_
          repeat (go_big_quiet_step (fail))
          refine wpQuiet_nil ?_
          rintro _ ⟨z1, rfl⟩
          obtain ⟨w2, hb1⟩ := z1
          dsimp only
          clear p0 q0
          replace hb := hb.trans (hb1.mono hb.size)
          clear hb1 c0 d0
          go_wp2_with fail
          first
            | (go_roundw
               case rel => exact ⟨j + 1, by omega, by go_num, Lib.hid (by simpa using HS1.out), hb⟩
               case measure => simp [Go.RowKit.intOf]; omega)
            | (go_ret
               exact ⟨ret_bool (by rw [← HS1.out]; rfl), hb⟩)
      · go_wp2_with fail
        go_ret
        exact ⟨ret_bool (by rw [← HS.out, drop_all HX.out.len (by omega)]; rfl), hb⟩
  · have hs : sameB a b = false := by rw [sameB, hla, hlb, decide_eq_false hn]; rfl
    have e0 : ((n : Int) != (n' : Int)) = true := by simp; omega
    rw [hs]
    clear hs hla hlb
    go_enter Try.func19, Try.ntmps19
    go_wp2_with fail
    go_ret
    exact ⟨rfl, Below.refl _ _⟩

/-- few binds, each light -/
def fwB (bs : List BT) (n : Nat) : Bool := decide (n ≤ 60) && bs.all fun x => ltB x.2 2000 80
set_option maxHeartbeats 4000000 in
theorem hFewC (ok : Nat → Prop) (bs : List BT) (A : Option Addr) (n c : Nat) (w : World) (hx : BL ok w bs A n c) :
    Calls Try.prog 8 #[.slice A n c] w fun e w' => e = .returned (.bool (fwB bs n)) ∧ Below w.heap.size w w' := by
  have hm := hx.cap
  have hc := hx.le
  unfold maxLen at hm
  have HX := Lib.hid hx; clear hx
  by_cases hgt : 60 < n
  · have d1 : decide ((60 : Int) < (n : Int)) = true := by simp; omega
    have d2 : decide (60 < n) = true := by simpa using hgt
    have hs : fwB bs n = false := by rw [fwB, decide_eq_false (by omega)]; rfl
    rw [hs]
    clear hs hgt
    go_enter Try.func8, Try.ntmps8
    go_wp2_with fail
    go_ret
    exact ⟨rfl, Below.refl _ _⟩
  · have d1 : decide ((60 : Int) < (n : Int)) = false := by simp; omega
    have d2 : decide (60 < n) = false := by simpa using hgt
    have hs : fwB bs n = bs.all fun x => ltB x.2 2000 80 := by rw [fwB, decide_eq_true (by omega)]; rfl
    rw [hs]
    clear hs
    go_enter Try.func8, Try.ntmps8
    go_wp2_with fail
    go_loopw [3] (fun i wr => ∃ (j : Nat), j ≤ n ∧ i = .int .i64 j ∧ Hid (((bs.drop j).all fun x => ltB x.2 2000 80) = bs.all fun x => ltB x.2 2000 80) ∧ Below w.heap.size w wr) (fun i _ => n - (Go.RowKit.intOf i).toNat)
    case atStart => exact ⟨0, Nat.zero_le _, rfl, Lib.hid (by simp), Below.refl _ _⟩
    case round =>
      obtain ⟨j, hj, rfl, HS, hb⟩ := hrel
      by_cases hlt : j < n
      · obtain ⟨x, hx⟩ := at_of HX.out.len hlt
        obtain ⟨b1, o1, k1, h1, A1, n1, c1, rfl, c0, c1', c2, c3, hr1⟩ := (HX.out.at_ j x hx).keep hb
        have HS' := HS.out
        rw [drop_at hx, List.all_cons] at HS'
        have HS1 := Lib.hid HS'; clear HS' hx HS
        have hi0 : (0 : Int) ≤ j := by omega
        have hi1 : (j : Int) < n := by omega
        have HC := Lib.hid (refLight x.2 2000 80 _ wr (RdF.rd _ _ hr1))
        clear hr1
        generalize ltB x.2 2000 80 = r at *
        generalize x.1 = x1 at *
        go_wp2_with fail
        refine HC.out.mono ?_
        rintro e w1 ⟨rfl, hb1⟩
        replace hb := hb.trans (hb1.mono hb.size)
        clear hb1 c0 c1' c2 c3 HC
        cases r
        · go_wp2_with fail
          go_ret
          exact ⟨ret_bool (by rw [← HS1.out]; rfl), hb⟩
        · go_wp2_with fail
          go_roundw
          case rel => exact ⟨j + 1, by omega, by go_num, Lib.hid (by simpa using HS1.out), hb⟩
          case measure => simp [Go.RowKit.intOf]; omega
      · go_wp2_with fail
        go_ret
        exact ⟨ret_bool (by rw [← HS.out, drop_all HX.out.len (by omega)]; rfl), hb⟩
end Go.Proofs.Ytelicajhamgibaa
