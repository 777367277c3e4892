/-
  Contracts of package meta's small functions: mayNot, keep, and slices.ContainsFunc with mayNot. No statement is proved here.
-/
import Derived.Test.YtaccaamdbfccmaaKa
import Derived.Test.YtaccaamdbfccmaaWi
namespace Go.Proofs.Ytaccaamdbfccmaa
open Go.ChangeShapes Go.WideShapes Go.ChangeAt Go.RowKit
set_option linter.unusedVariables false

theorem mayNotC (t : T) (v : Value) (w : World) (hv : Rd w t v) : Calls Try.prog 45 #[v] w fun e w' => e = .returned (.bool (!myB t)) ∧ Below w.heap.size w w' := by
  obtain ⟨k, h, A, n, c, rfl⟩ := hv.full
  have hb : Below w.heap.size w (w.alloc (.cells #[.int .i64 k, .int .i64 h, .slice A n c] 24)) := (Below.refl _ _).alloc (Nat.le_refl _) _
  have HM := Lib.hid (myC t _ _ (Rd.keep hb _ _ hv))
  clear hv
  generalize myB t = r at *
  go_enter Try.func45, Try.ntmps45
  go_wp2_with fail
  refine HM.out.mono ?_
  rintro e w1 ⟨rfl, hb1⟩
  go_wp2_with fail
  go_ret
  exact ⟨rfl, hb.trans (hb1.mono hb.size)⟩

theorem indexC (xs : List T) (A : Option Addr) (n c : Nat) (w : World) (hn : xs.length = n) (hc : n ≤ c) (hm : c ≤ maxLen) (hx : ∀ i t, xs[i]? = some t → RdAt w A i t) :
    Calls Try.prog 59 #[.slice A n c, .func (.func 45) #[] #[]] w fun e w' => ∃ i : Int, e = .returned (.int .i64 i) ∧ decide (0 ≤ i) = (!xs.all myB) ∧ Below w.heap.size w w' := by
  unfold maxLen at hm
  have HN := Lib.hid hn; clear hn
  have HX := Lib.hid hx; clear hx
  go_enter Try.func59, Try.ntmps59
  go_wp2_with fail
  go_loopw [8] (fun i wr => ∃ (j : Nat), j ≤ n ∧ i = .int .i64 j ∧ Hid ((xs.drop j).all myB = xs.all myB) ∧ Below w.heap.size w wr) (fun i _ => n - (intOf i).toNat)
  case atStart => exact ⟨0, Nat.zero_le _, rfl, Lib.hid (by simp), Below.refl _ _⟩
  case round =>
    obtain ⟨j, hj, rfl, HS, hb⟩ := hrel
    by_cases hlt : j < n
    · obtain ⟨t, ht⟩ := at_of HN.out hlt
      obtain ⟨b, o, k2, h2, A2, n2, c2', rfl, c0, c1, c2, hr⟩ := (RdAt.keep hb (HX.out j t ht)).full
      have HT := Lib.hid ht; clear ht
      have hi0 : (0 : Int) ≤ j := by omega
      have hi1 : (j : Int) < n := by omega
      have HM := Lib.hid (mayNotC t _ _ hr)
      have HS' := HS.out
      rw [drop_at HT.out, List.all_cons] at HS'
      have HS := Lib.hid HS'; clear HS'
      generalize myB t = r at *
      go_wp2_with fail
      clear c0 c1 c2
      refine HM.out.mono ?_
      rintro e w1 ⟨rfl, hb1⟩
      have hbw : Below w.heap.size w w1 := hb.trans (hb1.mono hb.size)
      clear hb1 HM
      cases r
      · go_wp2_with fail
        go_ret
        exact ⟨_, rfl, by rw [← HS.out]; simp, hbw⟩
      · go_wp2_with fail
        go_roundw
        case rel => exact ⟨j + 1, by omega, by go_num, Lib.hid (by simpa using HS.out), hbw⟩
        case measure => simp [intOf]; omega
    · go_wp2_with fail
      go_ret
      exact ⟨_, rfl, by have := HS.out; rw [drop_all HN.out (by omega)] at this; rw [← this]; simp, hb⟩
theorem containsC (xs : List T) (A : Option Addr) (n c : Nat) (w : World) (hn : xs.length = n) (hc : n ≤ c) (hm : c ≤ maxLen) (hx : ∀ i t, xs[i]? = some t → RdAt w A i t) :
    Calls Try.prog 44 #[.slice A n c, .func (.func 45) #[] #[]] w fun e w' => e = .returned (.bool (!xs.all myB)) ∧ Below w.heap.size w w' := by
  have HI := Lib.hid (indexC xs A n c w hn hc hm hx)
  clear hx hn hc hm
  generalize (!xs.all myB) = r at *
  go_enter Try.func44, Try.ntmps44
  go_wp2_with fail
  refine HI.out.mono ?_
  rintro e w1 ⟨i, rfl, hi, hb1⟩
  go_wp2_with fail
  go_ret
  exact ⟨ret_bool (by first | exact hi | rfl | simp), hb1⟩

theorem Fr.putK {X : Nat → Prop} {w w' : World} (h : Fr X w w') {a : Addr} (ha : a.block < w.heap.size → X a.block) (v : Value) : Fr X w (w'.setCell a v) :=
  ⟨h.os, h.tape, h.output, by simpa [World.setCell] using h.size, fun k hk hx => (Below.heap_setCell _ _ _ _ (fun e => by subst e; exact hx (ha hk))).trans (h.block k hk hx)⟩
/-- a part's block -/
abbrev ptB (w : World) (pp : Nat) (A : Option Addr) (m c : Nat) (x : Nat) : Prop := Box w pp 72 #[.slice A m c, .int .i64 x]
theorem ptB.put {w : World} {pp : Nat} {A : Option Addr} {m c x : Nat} (h : ptB w pp A m c x) (y : Nat) : ptB (w.setCell ⟨pp, 1, none⟩ (.int .i64 y)) pp A m c y := Box.setAt h 1 _

theorem keepPC {pp : Nat} {A : Option Addr} {m cL c d : Nat} {k h : Int} {A2 : Option Addr} {n2 c2 : Nat} (w : World) (hp : ptB w pp A m cL c) (hc : c + d ≤ 4611686018427387904) :
    Calls Try.prog 63 #[.pointer (some ⟨pp, 0, none⟩), .agg #[.int .i64 k, .int .i64 h, .slice A2 n2 c2], .int .i64 (d : Nat)] w fun e w' =>
      e = .returned (if 4000 < c + d then .agg #[.int .i64 7, .int .i64 0, .slice none 0 0] else .agg #[.int .i64 k, .int .i64 h, .slice A2 n2 c2]) ∧ Fr (fun b => b = pp) w w' ∧ ptB w' pp A m cL (c + d) := by
  have lp := hp.lt
  obtain ⟨c0, c1⟩ := hp.two
  have f1 := hp.frozen 1
  have hw1 : IntKind.i64.wrap ((c : Int) + (d : Int)) = ((c + d : Nat) : Int) := by rw [wrapEq, wrap_small (by omega) (by omega)]; omega
  have xp := hp.put (c + d)
  have sz : (w.setCell ⟨pp, 1, none⟩ (.int .i64 ((c + d : Nat) : Int))).heap.size = w.heap.size := by simp [World.setCell]
  have hfr : Fr (fun b => b = pp) w (w.setCell ⟨pp, 1, none⟩ (.int .i64 ((c + d : Nat) : Int))) := (Fr.refl (fun b => b = pp) w).putK (fun _ => rfl) _
  have HP := Lib.hid xp; clear xp
  have HF := Lib.hid hfr; clear hfr
  have HFin : Hid (∀ o1 o2, Fr (fun b => b = pp) w (((w.setCell ⟨pp, 1, none⟩ (.int .i64 ((c + d : Nat) : Int))).alloc o1).alloc o2) ∧ ptB (((w.setCell ⟨pp, 1, none⟩ (.int .i64 ((c + d : Nat) : Int))).alloc o1).alloc o2) pp A m cL (c + d)) := Lib.hid fun o1 o2 =>
    ⟨(HF.out.then ((Below.refl _ _).alloc (Nat.le_refl _) _)).then ((Below.refl _ _).alloc (Nat.le_refl _) _), Box.alloc (Box.alloc HP.out _) _⟩
  clear hp HF HP hc
  by_cases hgt : 4000 < c + d
  · have hd : decide ((4000 : Int) < ((c + d : Nat) : Int)) = true := by simp; omega
    rw [if_pos hgt]
    clear hgt
    generalize ((c + d : Nat) : Int) = s at *
    go_enter Try.func63, Try.ntmps63
    go_wp2_with fail
    refine bodyPost_ret (v := .agg #[.int .i64 7, .int .i64 0, .slice none 0 0]) (by simp [results, Try.results63, go_sem]) rfl ?_
    exact ⟨rfl, HFin.out _ _⟩
  · have hd : decide ((4000 : Int) < ((c + d : Nat) : Int)) = false := by simp; omega
    rw [if_neg hgt]
    clear hgt
    generalize ((c + d : Nat) : Int) = s at *
    go_enter Try.func63, Try.ntmps63
    go_wp2_with fail
    refine bodyPost_ret (v := .agg #[.int .i64 k, .int .i64 h, .slice A2 n2 c2]) (by simp [results, Try.results63, go_sem]) rfl ?_
    exact ⟨rfl, HFin.out _ _⟩
end Go.Proofs.Ytaccaamdbfccmaa
