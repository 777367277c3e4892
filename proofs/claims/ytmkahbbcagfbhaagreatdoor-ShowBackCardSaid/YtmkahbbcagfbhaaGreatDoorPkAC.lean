/-
  Texts of one proof, put together. No statement is proved here.
-/
import Derived.Test.YtmkahbbcagfbhaaGreatDoorAaC
import Derived.Test.YtmkahbbcagfbhaaGreatDoorPkBC
import Derived.Test.YtmkahbbcagfbhaaGreatDoorZt
import Derived.Test.YtmkahbbcagfbhaaGreatDoorXl
import Derived.Test.YtmkahbbcagfbhaaGreatDoorXh
import Derived.Maps.Views
import Derived.Test.YtmkahbbcagfbhaaGreatDoorBrC
/-
  Contracts of package show's small functions: name, mark, bound (and strconv.Itoa below 100), head, alone, has. No statement is proved here.
-/
namespace Go.Proofs.YtmkahbbcagfbhaaGreatDoor
open Go.ChangeShapes Go.WideShapes Go.ChangeAt Go.RowKit
set_option linter.unusedVariables false
set_option maxRecDepth 100000 in
theorem sNameC (s : ByteArray) (w : World) : Calls Tryz.prog 56 #[.string s] w fun e w' => e = .returned (.agg #[.int .i64 0, .string s]) ∧ Below w.heap.size w w' := by
  have hb : Below w.heap.size w (w.alloc (.cells #[.int .i64 0, .string ⟨#[]⟩] 79)) := (Below.refl _ _).alloc (Nat.le_refl _) _
  have x0 := (((BoxX.new w 79 #[.int .i64 0, .string ⟨#[]⟩]).put 0 (.int .i64 0)).put 1 (.string s))
  have c0 := x0.cell 0
  have c1 := x0.cell 1
  simp only [List.setIfInBounds_toArray, List.set_cons_zero, List.set_cons_succ, List.getElem?_toArray, List.getElem?_cons_zero, List.getElem?_cons_succ] at c0 c1
  go_enter Tryz.func56, Tryz.ntmps56
  go_wp2_with fail
  refine bodyPost_ret (v := .agg #[.int .i64 0, .string s]) (by simp [results, Tryz.results56, go_sem]) rfl ?_
  exact ⟨rfl, (Below.refl _ _).alloc (Nat.le_refl _) _⟩
set_option maxRecDepth 100000 in
theorem sMarkC (s : ByteArray) (w : World) : Calls Tryz.prog 57 #[.string s] w fun e w' => e = .returned (.agg #[.int .i64 1, .string s]) ∧ Below w.heap.size w w' := by
  have hb : Below w.heap.size w (w.alloc (.cells #[.int .i64 0, .string ⟨#[]⟩] 79)) := (Below.refl _ _).alloc (Nat.le_refl _) _
  have x0 := (((BoxX.new w 79 #[.int .i64 0, .string ⟨#[]⟩]).put 0 (.int .i64 1)).put 1 (.string s))
  have c0 := x0.cell 0
  have c1 := x0.cell 1
  simp only [List.setIfInBounds_toArray, List.set_cons_zero, List.set_cons_succ, List.getElem?_toArray, List.getElem?_cons_zero, List.getElem?_cons_succ] at c0 c1
  go_enter Tryz.func57, Tryz.ntmps57
  go_wp2_with fail
  refine bodyPost_ret (v := .agg #[.int .i64 1, .string s]) (by simp [results, Tryz.results57, go_sem]) rfl ?_
  exact ⟨rfl, (Below.refl _ _).alloc (Nat.le_refl _) _⟩
/-! ### strconv.Itoa of numbers below 100 -/
def dgB : ByteArray := ⟨#[48, 49, 50, 51, 52, 53, 54, 55, 56, 57, 97, 98, 99, 100, 101, 102, 103, 104, 105, 106, 107, 108, 109, 110, 111, 112, 113, 114, 115, 116, 117, 118, 119, 120, 121, 122]⟩
def smB : ByteArray := ⟨#[48, 48, 48, 49, 48, 50, 48, 51, 48, 52, 48, 53, 48, 54, 48, 55, 48, 56, 48, 57, 49, 48, 49, 49, 49, 50, 49, 51, 49, 52, 49, 53, 49, 54, 49, 55, 49, 56, 49, 57, 50, 48, 50, 49, 50, 50, 50, 51, 50, 52, 50, 53, 50, 54, 50, 55, 50, 56, 50, 57, 51, 48, 51, 49, 51, 50, 51, 51, 51, 52, 51, 53, 51, 54, 51, 55, 51, 56, 51, 57, 52, 48, 52, 49, 52, 50, 52, 51, 52, 52, 52, 53, 52, 54, 52, 55, 52, 56, 52, 57, 53, 48, 53, 49, 53, 50, 53, 51, 53, 52, 53, 53, 53, 54, 53, 55, 53, 56, 53, 57, 54, 48, 54, 49, 54, 50, 54, 51, 54, 52, 54, 53, 54, 54, 54, 55, 54, 56, 54, 57, 55, 48, 55, 49, 55, 50, 55, 51, 55, 52, 55, 53, 55, 54, 55, 55, 55, 56, 55, 57, 56, 48, 56, 49, 56, 50, 56, 51, 56, 52, 56, 53, 56, 54, 56, 55, 56, 56, 56, 57, 57, 48, 57, 49, 57, 50, 57, 51, 57, 52, 57, 53, 57, 54, 57, 55, 57, 56, 57, 57]⟩
theorem dg_cut : ∀ d : Fin 10, dgB.extract d.val (d.val + 1) = ⟨(dgL d.val).toArray⟩ := by decide +kernel
theorem sm_cut : ∀ d : Fin 100, 10 ≤ d.val → smB.extract (d.val * 2) (d.val * 2 + 2) = ⟨(dgL d.val).toArray⟩ := by decide +kernel
set_option maxRecDepth 100000 in
theorem sSmallC (d : Nat) (hd : d < 100) (w : World) : Calls Tryz.prog 120 #[.int .i64 d] w fun e w' => e = .returned (.string ⟨(dgL d).toArray⟩) ∧ Below w.heap.size w w' := by
  obtain ⟨r, hr⟩ : ∃ r, (⟨(dgL d).toArray⟩ : ByteArray) = r := ⟨_, rfl⟩
  rw [hr]
  by_cases h : d < 10
  · have h1 : decide ((d : Int) < 10) = true := by simp; omega
    have hw : IntKind.i64.wrap ((d : Int) + 1) = ((d + 1 : Nat) : Int) := by rw [wrapEq, wrap_small (by omega) (by omega)]; omega
    go_enter Tryz.func120, Tryz.ntmps120
    go_wp2_with fail
    go_ret
    exact ⟨congrArg (fun b => Ending.returned (.string b)) ((dg_cut ⟨d, h⟩).trans hr), Below.refl _ _⟩
  · have h1 : decide ((d : Int) < 10) = false := by simp; omega
    have hw0 : IntKind.i64.wrap ((d : Int) * 2) = ((d * 2 : Nat) : Int) := by rw [wrapEq, wrap_small (by omega) (by omega)]; omega
    have hw : IntKind.i64.wrap (((d * 2 : Nat) : Int) + 2) = ((d * 2 + 2 : Nat) : Int) := by rw [wrapEq, wrap_small (by omega) (by omega)]; omega
    go_enter Tryz.func120, Tryz.ntmps120
    go_wp2_with fail
    go_ret
    exact ⟨congrArg (fun b => Ending.returned (.string b)) ((sm_cut ⟨d, hd⟩ (by simpa using h)).trans hr), Below.refl _ _⟩
set_option maxRecDepth 100000 in
theorem sFmtC (d : Nat) (hd : d < 100) (w : World) : Calls Tryz.prog 108 #[.int .i64 d, .int .i64 10] w fun e w' => e = .returned (.string ⟨(dgL d).toArray⟩) ∧ Below w.heap.size w w' := by
  have HC := Lib.hid (sSmallC d hd w)
  obtain ⟨r, hr⟩ : ∃ r, (⟨(dgL d).toArray⟩ : ByteArray) = r := ⟨_, rfl⟩
  rw [hr] at HC ⊢
  clear hr
  have h1 : decide ((0 : Int) ≤ d) = true := by simp
  have h2 : decide ((d : Int) < 100) = true := by simp; omega
  go_enter Tryz.func108, Tryz.ntmps108
  go_wp2_with fail
  refine HC.out.mono ?_
  rintro e w1 ⟨rfl, hb1⟩
  clear HC
  go_wp2_with fail
  go_ret
  exact ⟨rfl, hb1⟩
set_option maxRecDepth 100000 in
theorem sItoaI (d : Nat) (hd : d < 100) (w : World) : Calls Tryz.prog 94 #[.int .i64 d] w fun e w' => e = .returned (.string ⟨(dgL d).toArray⟩) ∧ Below w.heap.size w w' := by
  have HC := Lib.hid (sFmtC d hd w)
  obtain ⟨r, hr⟩ : ∃ r, (⟨(dgL d).toArray⟩ : ByteArray) = r := ⟨_, rfl⟩
  rw [hr] at HC ⊢
  clear hr
  go_enter Tryz.func94, Tryz.ntmps94
  go_wp2_with fail
  refine HC.out.mono ?_
  rintro e w1 ⟨rfl, hb1⟩
  clear HC
  go_wp2_with fail
  go_ret
  exact ⟨rfl, hb1⟩
set_option maxRecDepth 100000 in
theorem sItoaC (d : Nat) (hd : d < 100) (w : World) : Calls Tryz.prog 78 #[.int .i64 d] w fun e w' => e = .returned (.string ⟨(dgL d).toArray⟩) ∧ Below w.heap.size w w' := by
  have HC := Lib.hid (sItoaI d hd w)
  obtain ⟨r, hr⟩ : ∃ r, (⟨(dgL d).toArray⟩ : ByteArray) = r := ⟨_, rfl⟩
  rw [hr] at HC ⊢
  clear hr
  go_enter Tryz.func78, Tryz.ntmps78
  go_wp2_with fail
  refine HC.out.mono ?_
  rintro e w1 ⟨rfl, hb1⟩
  clear HC
  go_wp2_with fail
  go_ret
  exact ⟨rfl, hb1⟩
theorem bnm_add (d : Nat) : (⟨#[95]⟩ : ByteArray) ++ ⟨(dgL d).toArray⟩ = bnm d := by
  apply ByteArray.ext
  simp [bnm]
set_option maxRecDepth 100000 in
theorem sBoundC (d : Nat) (hd : d < 100) (w : World) : Calls Tryz.prog 58 #[.int .i64 d] w fun e w' => e = .returned (.agg #[.int .i64 0, .string (bnm d)]) ∧ Below w.heap.size w w' := by
  obtain ⟨W, hW⟩ : ∃ W, w.alloc (.cells #[.int .i64 0, .string ⟨#[]⟩] 79) = W := ⟨_, rfl⟩
  have hbW : Below w.heap.size w W := by rw [← hW]; exact (Below.refl _ _).alloc (Nat.le_refl _) _
  have x0 : BoxX W w.heap.size 79 #[.int .i64 0, .string ⟨#[]⟩] := by rw [← hW]; exact BoxX.new _ _ _
  have HC := Lib.hid (sItoaC d hd W)
  obtain ⟨r, hr⟩ : ∃ r, (⟨(dgL d).toArray⟩ : ByteArray) = r := ⟨_, rfl⟩
  have HR := Lib.hid (show (⟨#[95]⟩ : ByteArray) ++ r = bnm d by rw [← hr]; exact bnm_add d)
  have hsz : r.size ≤ 2 := by
    rw [← hr]
    show (dgL d).toArray.size ≤ 2
    unfold dgL
    split <;> simp
  have hsz2 : ((⟨#[95]⟩ : ByteArray) ++ r).size ≤ 3 := by rw [ByteArray.size_append]; show 1 + r.size ≤ 3; omega
  rw [hr] at HC
  clear hr
  subst hW
  go_enter Tryz.func58, Tryz.ntmps58
  go_wp2_with fail
  refine HC.out.mono ?_
  rintro e w1 ⟨rfl, hb1⟩
  have y0 := x0.keep hb1 x0.lt
  have HB1 := Lib.hid (hbW.trans (hb1.mono hbW.size))
  clear HC x0 hbW hb1
  go_wp2_with fail
  refine (sNameC _ w1).mono ?_
  rintro e w2 ⟨rfl, hb2⟩
  rw [HR.out]
  have HB2 := Lib.hid (HB1.out.trans (hb2.mono HB1.out.size))
  have y2 := y0.keep hb2 y0.lt
  have z9 := (y2.put 0 (.int .i64 0)).put 1 (.string (bnm d))
  have e0 := z9.cell 0
  have e1 := z9.cell 1
  have r0 := y2.cell 0
  have r1 := y2.cell 1
  have fz0 := y2.frozen 0
  have fz1 := y2.frozen 1
  have lz := y2.lt
  simp only [List.setIfInBounds_toArray, List.set_cons_zero, List.set_cons_succ, List.getElem?_toArray, List.getElem?_cons_zero, List.getElem?_cons_succ] at e0 e1 r0 r1
  clear z9 y2 y0 HB1 hb2 hsz hsz2
  go_wp2_with fail
  refine bodyPost_ret (v := .agg #[.int .i64 0, .string (bnm d)]) (by simp [results, Tryz.results58, go_sem, e0, e1]) rfl ?_
  exact ⟨rfl, (HB2.out.setCell (p := ⟨w.heap.size, 0, none⟩) (by dsimp only; omega) (.int .i64 0)).setCell (p := ⟨w.heap.size, 1, none⟩) (by dsimp only; omega) (.string (bnm d))⟩
set_option maxRecDepth 100000 in
theorem sAloneC (t : T) (v : Value) (w : World) (hv : Rd w t v) : Calls Tryz.prog 79 #[v] w fun e w' => e = .returned (.bool (aloB t)) ∧ Below w.heap.size w w' := by
  obtain ⟨k, h, xs⟩ := t
  obtain ⟨A, n, c, rfl, hk, hh, hn, hc, hcm, hx⟩ := Rd_node.1 hv
  clear hx hv
  have hb : Below w.heap.size w (w.alloc (.cells #[.int .i64 k, .int .i64 h, .slice A n c] 36)) := (Below.refl _ _).alloc (Nat.le_refl _) _
  have e : aloB (.node k h xs) = (decide (n = 0) && !(k == 0)) := by
    rw [aloB]
    congr 1
    cases xs with
    | nil => subst hn; rfl
    | cons x xs => subst hn; simp
  rw [e]
  unfold maxLen at hcm
  clear hn e
  by_cases h0 : n = 0
  · subst h0
    by_cases hk0 : k = 0
    · subst hk0
      go_enter Tryz.func79, Tryz.ntmps79
      go_wp2_with fail
      go_ret
      exact ⟨rfl, hb⟩
    · have d1 : (k == 0) = false := by simpa using hk0
      go_enter Tryz.func79, Tryz.ntmps79
      go_wp2_with fail
      go_ret
      exact ⟨ret_bool (by simp [bne]), hb⟩
  · have d1 : ((n : Int) == 0) = false := by simp; omega
    go_enter Tryz.func79, Tryz.ntmps79
    go_wp2_with fail
    go_ret
    exact ⟨ret_bool (by simp [h0]), hb⟩
end Go.Proofs.YtmkahbbcagfbhaaGreatDoor
/-
  Contracts of package show's has, and of slices.ContainsFunc with its closure. No statement is proved here.
-/
namespace Go.Proofs.YtmkahbbcagfbhaaGreatDoor
open Go.ChangeShapes Go.WideShapes Go.ChangeAt Go.RowKit
set_option linter.unusedVariables false
/-- what has tells of an Arg -/
def HasI (SA : Option Addr) (sn sc : Nat) (w : World) (x : T) : Prop :=
  ∀ (v : Value) (W : World), Below w.heap.size w W → Rd W x v → Calls Tryz.prog 35 #[.slice SA sn sc, v] W fun e w' => e = .returned (.bool (hasB sn x)) ∧ Below W.heap.size W w'
set_option maxRecDepth 100000 in
theorem sHas1C {SA : Option Addr} {sn sc : Nat} {w : World} {x : T} (hI : HasI SA sn sc w x) (S : Nat) (v : Value) (W : World) (hb : Below w.heap.size w W) (hv : Rd W x v) (xs : BoxX W S 22 #[.slice SA sn sc]) :
    Calls Tryz.prog 55 #[v, .pointer (some ⟨S, 0, none⟩)] W fun e w' => e = .returned (.bool (!hasB sn x)) ∧ Below W.heap.size W w' := by
  obtain ⟨k, h, A, n, c, rfl⟩ := hv.full
  obtain ⟨W1, hW1⟩ : ∃ W1, W.alloc (.cells #[.int .i64 k, .int .i64 h, .slice A n c] 36) = W1 := ⟨_, rfl⟩
  have hb1 : Below W.heap.size W W1 := by rw [← hW1]; exact (Below.refl _ _).alloc (Nat.le_refl _) _
  have x1 := xs.keep hb1 xs.lt
  have s0 : W1.cell? ⟨S, 0, none⟩ = some (.slice SA sn sc) := x1.cell 0
  have hlt := xs.lt
  have HC := Lib.hid (hI _ W1 (hb.trans (hb1.mono hb.size)) (Rd.keep hb1 _ _ hv))
  clear hI hv xs x1
  generalize hasB sn x = r at *
  subst hW1
  go_enter Tryz.func55, Tryz.ntmps55
  go_wp2_with fail
  refine HC.out.mono ?_
  rintro e w1 ⟨rfl, hb2⟩
  have hb3 := hb1.trans (hb2.mono hb1.size)
  clear hb2 HC hb1
  go_wp2_with fail
  go_ret
  exact ⟨rfl, hb3⟩
set_option maxRecDepth 100000 in
theorem sIndexC {SA : Option Addr} {sn sc : Nat} {w0 : World} (xs : List T) (hI : ∀ x ∈ xs, HasI SA sn sc w0 x) (S : Nat) (A : Option Addr) (n c : Nat) (w : World) (hb0 : Below w0.heap.size w0 w) (hn : xs.length = n) (hc : n ≤ c) (hm : c ≤ maxLen) (hx : ∀ i t, xs[i]? = some t → RdAt w A i t) (xS : BoxX w S 22 #[.slice SA sn sc]) :
    Calls Tryz.prog 77 #[.slice A n c, .func (.func 55) #[] #[.pointer (some ⟨S, 0, none⟩)]] w fun e w' => ∃ i : Int, e = .returned (.int .i64 i) ∧ decide (0 ≤ i) = (!xs.all (hasB sn)) ∧ Below w.heap.size w w' := by
  unfold maxLen at hm
  have HN := Lib.hid hn; clear hn
  have HX := Lib.hid hx; clear hx
  have HI := Lib.hid hI; clear hI
  have HB0 := Lib.hid hb0; clear hb0
  have HS0 := Lib.hid xS; clear xS
  go_enter Tryz.func77, Tryz.ntmps77
  go_wp2_with fail
  go_loopw [8] (fun i wr => ∃ (j : Nat), j ≤ n ∧ i = .int .i64 j ∧ Hid ((xs.drop j).all (hasB sn) = xs.all (hasB sn)) ∧ Below w.heap.size w wr) (fun i _ => n - (intOf i).toNat)
  case atStart => exact ⟨0, Nat.zero_le _, rfl, Lib.hid (by simp), Below.refl _ _⟩
  case round =>
    obtain ⟨j, hj, rfl, HS, hb⟩ := hrel
    by_cases hlt : j < n
    · obtain ⟨t, ht⟩ := at_of HN.out hlt
      obtain ⟨b, o, k2, h2, A2, n2, c2', rfl, c0, c1, c2, hr⟩ := (RdAt.keep hb (HX.out j t ht)).full
      have HT := Lib.hid ht
      have hi0 : (0 : Int) ≤ j := by omega
      have hi1 : (j : Int) < n := by omega
      have HM := Lib.hid (sHas1C (HI.out t (List.mem_of_getElem? ht)) S _ wr (HB0.out.trans (hb.mono HB0.out.size)) hr (HS0.out.keep hb HS0.out.lt))
      clear ht
      have HS' := HS.out
      rw [drop_at HT.out, List.all_cons] at HS'
      have HS := Lib.hid HS'; clear HS'
      generalize hasB sn t = r at *
      clear hr
      go_wp2_with fail
      clear c0 c1 c2
      refine HM.out.mono ?_
      rintro e w1 ⟨rfl, hb1⟩
      have hbw : Below w.heap.size w w1 := hb.trans (hb1.mono hb.size)
      clear hb1 HM
      cases r
      · go_wp2_with fail
        go_ret
        exact ⟨_, rfl, by rw [← HS.out]; simp, hbw⟩
      · go_wp2_with fail
        go_roundw
        case rel => exact ⟨j + 1, by omega, by go_num, Lib.hid (by simpa using HS.out), hbw⟩
        case measure => simp [intOf]; omega
    · go_wp2_with fail
      go_ret
      exact ⟨_, rfl, by have := HS.out; rw [drop_all HN.out (by omega)] at this; rw [← this]; simp, hb⟩
set_option maxRecDepth 100000 in
theorem sContainsC {SA : Option Addr} {sn sc : Nat} {w0 : World} (xs : List T) (hI : ∀ x ∈ xs, HasI SA sn sc w0 x) (S : Nat) (A : Option Addr) (n c : Nat) (w : World) (hb0 : Below w0.heap.size w0 w) (hn : xs.length = n) (hc : n ≤ c) (hm : c ≤ maxLen) (hx : ∀ i t, xs[i]? = some t → RdAt w A i t) (xS : BoxX w S 22 #[.slice SA sn sc]) :
    Calls Tryz.prog 54 #[.slice A n c, .func (.func 55) #[] #[.pointer (some ⟨S, 0, none⟩)]] w fun e w' => e = .returned (.bool (!xs.all (hasB sn))) ∧ Below w.heap.size w w' := by
  have HI := Lib.hid (sIndexC xs hI S A n c w hb0 hn hc hm hx xS)
  clear hx hn hc hm hI hb0 xS
  generalize (!xs.all (hasB sn)) = r at *
  go_enter Tryz.func54, Tryz.ntmps54
  go_wp2_with fail
  refine HI.out.mono ?_
  rintro e w1 ⟨i, rfl, hi, hb1⟩
  go_wp2_with fail
  go_ret
  exact ⟨ret_bool (by first | exact hi | rfl | simp), hb1⟩
set_option maxRecDepth 100000 in
set_option maxHeartbeats 1000000 in
/-- has, whatever the term -/
theorem sHasC (SA : Option Addr) (sn sc : Nat) (hsc : sn ≤ sc) (hcm : sc ≤ maxLen) (t : T) : ∀ (v : Value) (w : World), Rd w t v → Calls Tryz.prog 35 #[.slice SA sn sc, v] w fun e w' => e = .returned (.bool (hasB sn t)) ∧ Below w.heap.size w w' := by
  refine T.ind (M := fun t => ∀ (v : Value) (w : World), Rd w t v → Calls Tryz.prog 35 #[.slice SA sn sc, v] w fun e w' => e = .returned (.bool (hasB sn t)) ∧ Below w.heap.size w w') ?_ t
  intro k h xs ih v w hv
  obtain ⟨A, n, c, rfl, hk, hh, hn, hc, hm, hx⟩ := Rd_node.1 hv
  clear hv hk
  obtain ⟨W, hW⟩ : ∃ W, (w.alloc (.cells #[.slice SA sn sc] 22)).alloc (.cells #[.int .i64 k, .int .i64 h, .slice A n c] 36) = W := ⟨_, rfl⟩
  have hb : Below w.heap.size w W := by rw [← hW]; exact ((Below.refl _ _).alloc (Nat.le_refl _) _).alloc (by simp) _
  have xS : BoxX W w.heap.size 22 #[.slice SA sn sc] := by rw [← hW]; exact (BoxX.new _ _ _).alloc _
  have HC := Lib.hid (sContainsC (w0 := W) (SA := SA) (sn := sn) (sc := sc) xs (fun x hx' v' W' hb' hv' => ih x hx' v' W' hv') w.heap.size A n c W (Below.refl _ _) hn hc hm (fun i t ht => RdAt.keep hb (hx i t ht)) xS)
  have e : hasB sn (.node k h xs) = (!((k == 2 || k == 5) && decide ((sn : Int) ≤ h)) && xs.all (hasB sn)) := by rw [hasB, hasL_all]
  rw [e]
  generalize xs.all (hasB sn) = r at *
  have hh2 := hh
  unfold maxLen at hm hcm
  clear e ih hx hn xS
  subst hW
  by_cases h2 : k = 2
  · subst h2
    by_cases hlt : (sn : Int) ≤ h
    · have d1 : decide ((sn : Int) ≤ h) = true := by simpa using hlt
      go_enter Tryz.func35, Tryz.ntmps35
      go_wp2_with fail
      go_ret
      exact ⟨ret_bool (by simp [d1]), hb⟩
    · have d1 : decide ((sn : Int) ≤ h) = false := by simpa using hlt
      go_enter Tryz.func35, Tryz.ntmps35
      go_wp2_with fail
      refine HC.out.mono ?_
      rintro e w1 ⟨rfl, hb1⟩
      have hb3 := hb.trans (hb1.mono hb.size)
      clear hb1 HC hb
      go_wp2_with fail
      go_ret
      exact ⟨ret_bool (by simp [d1]), hb3⟩
  · by_cases h5 : k = 5
    · subst h5
      by_cases hlt : (sn : Int) ≤ h
      · have d1 : decide ((sn : Int) ≤ h) = true := by simpa using hlt
        go_enter Tryz.func35, Tryz.ntmps35
        go_wp2_with fail
        go_ret
        exact ⟨ret_bool (by simp [d1]), hb⟩
      · have d1 : decide ((sn : Int) ≤ h) = false := by simpa using hlt
        go_enter Tryz.func35, Tryz.ntmps35
        go_wp2_with fail
        refine HC.out.mono ?_
        rintro e w1 ⟨rfl, hb1⟩
        have hb3 := hb.trans (hb1.mono hb.size)
        clear hb1 HC hb
        go_wp2_with fail
        go_ret
        exact ⟨ret_bool (by simp [d1]), hb3⟩
    · have d2 : (k == 2) = false := by simpa using h2
      have d5 : (k == 5) = false := by simpa using h5
      go_enter Tryz.func35, Tryz.ntmps35
      go_wp2_with fail
      refine HC.out.mono ?_
      rintro e w1 ⟨rfl, hb1⟩
      have hb3 := hb.trans (hb1.mono hb.size)
      clear hb1 HC hb
      go_wp2_with fail
      go_ret
      exact ⟨ret_bool (by simp [d2, d5]), hb3⟩
end Go.Proofs.YtmkahbbcagfbhaaGreatDoor
/-
  Tokens that are gathered by a function: what it does; the name of a head. No statement is proved here.
-/
namespace Go.Proofs.YtmkahbbcagfbhaaGreatDoor
open Go.ChangeShapes Go.WideShapes Go.ChangeAt Go.RowKit
set_option linter.unusedVariables false
theorem cellsT_one : ∀ (ys : List Tk), ∀ u ∈ cellsT ys, u.oneCell' = true
  | [], u, h => by cases h
  | t :: ys, u, h => by
    rw [show cellsT (t :: ys) = .int .i64 t.1 :: .string t.2 :: cellsT ys from rfl] at h
    rcases List.mem_cons.1 h with rfl | h
    · rfl
    · rcases List.mem_cons.1 h with rfl | h
      · rfl
      · exact cellsT_one ys u h
theorem TRow.appL {w2 : World} {base P : Nat} {v : Value} {n : Nat} {x ys : List Tk} (h : TRow w2 base v n x) (hP : w2.heap[P]? = some (.cells (cellsT ys).toArray 79 (0, 0))) (hy : 0 < ys.length)
    (hbase : base ≤ w2.heap.size) (hn : n + ys.length ≤ 1000000) :
    ∃ g cap w3, (Builtin.append_ #[57, 57] 57 #[v, .slice (some ⟨P, 0, none⟩) ys.length ys.length]).run Tryz.prog w2 = .ok (.slice (some ⟨g, 0, none⟩) (n + ys.length) cap) w3 ∧
      TRow w3 base (.slice (some ⟨g, 0, none⟩) (n + ys.length) cap) (n + ys.length) (x ++ ys) ∧ w2.grownBy w3 v.ownBlock ∧ NwX w2 v (.slice (some ⟨g, 0, none⟩) (n + ys.length) cap) := by
  obtain ⟨i0, hi, hz0, hz1, hz2⟩ : ∃ i, Tryz.prog.info? 79 = some i ∧ i.zero = some (.agg #[.int .i64 0, .string ⟨#[]⟩]) ∧ i.size = 2 ∧ i.bytes = 24 := by
    have hh := infoX
    cases hi : Tryz.prog.info? 79 with
    | none => rw [hi] at hh; cases hh
    | some i =>
      rw [hi] at hh
      simp at hh
      exact ⟨i, rfl, hh.1, hh.2.1, hh.2.2⟩
  obtain ⟨g, cap, w4, hrun, how4, hgr, hg4, _⟩ := run_append_lies (P := Tryz.prog) w2 57 57 base 79 i0 _ 2 24 Tryz.underlying57 hi hz0 hz1 hz2 rfl (by omega) v n _
    h.own ⟨P, 0, none⟩ ys.length ys.length (cellsT ys) (cellsT_len ys) (World.news_of_block hP) (cellsT_one ys) hy (by unfold maxLen; omega) (by omega) hbase _ rfl
  refine ⟨g, cap, w4, hrun, ⟨?_, by rw [List.length_append, h.len]⟩, hgr, fun r hr => ?_⟩
  · have e : cellsT (x ++ ys) = cellsT x ++ cellsT ys := by simp [cellsT]
    rw [e]; exact how4
  · simp [Value.ownBlock] at hr
    subst hr
    rcases hg4 with h1 | h1
    · exact .inl h1
    · exact .inr (by omega)
/-- tokens that are being gathered in the variable X -/
structure GS (w0 : World) (X : Nat) (x : List Tk) (w : World) (v : Value) : Prop where
  le : w0.heap.size ≤ X
  below : Below w0.heap.size w0 w
  box : BoxX w X 57 #[v]
  row : TRow w (X + 1) v x.length x
/-- what is left where more were gathered -/
def GE (w0 : World) (X : Nat) (x : List Tk) (w : World) (v : Value) (e : Ending) (w' : World) : Prop :=
  e = .returned (.tuple #[]) ∧ ∃ v', GS w0 X x w' v' ∧ KpX w w' X v.ownBlock ∧ NwX w v v'
section
variable {w0 w w' : World} {X : Nat} {x : List Tk} {v v' : Value}
theorem GS.lt (h : GS w0 X x w v) : X < w.heap.size := h.box.lt
theorem GS.keep (h : GS w0 X x w v) (hb : Below w.heap.size w w') : GS w0 X x w' v := ⟨h.le, h.below.trans (hb.mono h.below.size), h.box.keep hb h.box.lt, h.row.keep hb⟩
theorem GS.size (h : GS w0 X x w v) : w0.heap.size ≤ w.heap.size := h.below.size
theorem GS.free (h : GS w0 X x w v) {b : Nat} (hb : w.heap.size ≤ b) : b ≠ X ∧ some b ≠ v.ownBlock := by
  refine ⟨by have := h.lt; omega, fun e => ?_⟩
  have := (h.row.lt e.symm).2
  omega
theorem KpX.box {b : Nat} {row : Option Nat} {ty : TypeId} {cs : Array Value} (h : KpX w w' X row) (hx : BoxX w b ty cs) (hf : b ≠ X ∧ some b ≠ row) : BoxX w' b ty cs := (h.block b hx.lt hf.1 hf.2).trans hx
theorem NwX.free {b : Nat} (h : NwX w v v') (hb : b < w.heap.size) (hf : b ≠ X ∧ some b ≠ v.ownBlock) : b ≠ X ∧ some b ≠ v'.ownBlock := by
  refine ⟨hf.1, fun e => ?_⟩
  rcases h b e.symm with h1 | h1
  · exact hf.2 h1.symm
  · omega
theorem GS.start (w0 : World) (hb : Below w0.heap.size w0 w) : GS w0 w.heap.size [] (w.alloc (.cells #[.slice none 0 0] 57)) (.slice none 0 0) :=
  ⟨hb.size, hb.trans ((Below.refl _ _).alloc hb.size _), BoxX.new _ _ _, TRow.nil _ _⟩
end
set_option maxRecDepth 100000 in
theorem sGatherC {w0 : World} {X P : Nat} {x ys : List Tk} {v : Value} {w : World} (h : GS w0 X x w v) (hP : w.heap[P]? = some (.cells (cellsT ys).toArray 79 (0, 0))) (hy : 0 < ys.length) (hn : x.length + ys.length ≤ 1000000) (n : Nat) (hny : ys.length = n) :
    Calls Tryz.prog 36 #[.slice (some ⟨P, 0, none⟩) n n, .pointer (some ⟨X, 0, none⟩)] w (GE w0 X (x ++ ys) w v) := by
  subst hny
  have hlt := h.lt
  obtain ⟨g, cap, w3, hrun, hrow, hgr, hnw⟩ := h.row.appL hP hy (by omega) hn
  have hgX : some X ≠ v.ownBlock := fun e => by have := (h.row.lt e.symm).1; omega
  have hbox3 : BoxX w3 X 57 #[v] := (hgr.block X hlt hgX).trans h.box
  have c0 : w.cell? ⟨X, 0, none⟩ = some v := h.box.cell 0
  have d0 : w3.cell? ⟨X, 0, none⟩ = some v := hbox3.cell 0
  have f0 : w3.frozen? ⟨X, 0, none⟩ = false := hbox3.frozen 0
  have hkp := (KpX.of_grown (R := X) hgr).setCell 0 (.slice (some ⟨g, 0, none⟩) (x.length + ys.length) cap)
  have hbox4 := hbox3.put 0 (.slice (some ⟨g, 0, none⟩) (x.length + ys.length) cap)
  have hlt3 := hbox3.lt
  have HE := Lib.hid (show GE w0 X (x ++ ys) w v (.returned (.tuple #[])) (w3.setCell ⟨X, 0, none⟩ (.slice (some ⟨g, 0, none⟩) (x.length + ys.length) cap)) from
    ⟨rfl, _, ⟨h.le, hkp.below h.below h.size h.le (fun r hr => by have := (h.row.lt hr).1; have := h.le; omega), hbox4, by
      rw [List.length_append]
      refine hrow.move fun r hr => Below.heap_setCell _ _ _ _ ?_
      have := (hrow.lt hr).1
      dsimp only
      omega⟩, hkp, hnw⟩)
  clear hkp hbox4 hbox3 hrow hgr hnw h hP
  generalize x.length + ys.length = m at *
  generalize ys.length = n at *
  go_enter Tryz.func36, Tryz.ntmps36
  go_wp2_with (at_builtin; first | (refine Lib.wpList_append_run _ rfl _ _ _ _ rfl _ _ rfl rfl _ _ hrun ?_; clear hrun))
  refine bodyPost_ret (results_none rfl _ _ _) rfl ?_
  exact HE.out
set_option maxRecDepth 100000 in
set_option maxHeartbeats 1000000 in
theorem sHeadC {ds : List (ByteArray × T)} {SA : Option Addr} {sn sc d : Nat} {k h : Int} {xs : List T} {v F : Value} {w : World} (hD : DS w ds SA sn sc) (hw : Wr_ ds.length d (.node k h xs)) (h0 : k ≠ 0) (h1 : k ≠ 1) (h3 : k ≠ 3) (hv : Rd w (.node k h xs) v) :
    Calls Tryz.prog 59 #[.agg #[.slice SA sn sc, F], v, .int .i64 (d : Nat)] w fun e w' => e = .returned (.agg #[.int .i64 0, .string (hdS (nmD ds) k h d)]) ∧ Below w.heap.size w w' := by
  obtain ⟨A, n, c, rfl, hk, hh, hn, hc, hcm, _⟩ := Rd_node.1 hv
  obtain ⟨W, hW⟩ : ∃ W, ((w.alloc (.cells #[.slice SA sn sc, F] 69)).alloc (.cells #[.int .i64 k, .int .i64 h, .slice A n c] 36)).alloc (.cells #[.int .i64 0, .string ⟨#[]⟩] 79) = W := ⟨_, rfl⟩
  have hb : Below w.heap.size w W := by rw [← hW]; exact (((Below.refl _ _).alloc (Nat.le_refl _) _).alloc (by simp) _).alloc (by simp; omega) _
  have x2 : BoxX W (w.heap.size + 2) 79 #[.int .i64 0, .string ⟨#[]⟩] := by
    have := BoxX.new ((w.alloc (.cells #[.slice SA sn sc, F] 69)).alloc (.cells #[.int .i64 k, .int .i64 h, .slice A n c] 36)) 79 #[.int .i64 0, .string ⟨#[]⟩]
    rw [← hW]; simpa using this
  have hD' := hD.keep hb
  have hdd := hw.deep
  have hsn := hD.len
  have hscm := hD.cap
  have hscl := hD.le
  unfold maxLen at hscm
  have HB := Lib.hid hb
  have HX2 := Lib.hid x2
  have key : ∃ s, hdS (nmD ds) k h d = s ∧ ((k = 4 ∧ ∃ g : Nat, h = g ∧ g < d ∧ s = bnm (d - 1 - g)) ∨ (k ≠ 4 ∧ ∃ (g b o : Nat), h = g ∧ g < sn ∧ SA = some ⟨b, o, none⟩ ∧ W.cell? ⟨b, o + g * 4, none⟩ = some (.string s))) := by
    rcases hw.cases with ⟨e, _⟩ | ⟨e, _⟩ | ⟨e, _⟩ | ⟨e, e1, e2⟩ | ⟨e, e1, e2⟩
    · exact absurd e h0
    · exact absurd e h1
    · exact absurd e h3
    · obtain ⟨g, rfl⟩ : ∃ g : Nat, h = g := ⟨h.toNat, by omega⟩
      exact ⟨_, rfl, .inl ⟨e, g, rfl, by omega, by rw [hdS, if_pos e]; simp⟩⟩
    · obtain ⟨g, rfl⟩ : ∃ g : Nat, h = g := ⟨h.toNat, by omega⟩
      obtain ⟨dd, hdd⟩ := at_ofX (l := ds) (k := g) rfl (by omega)
      obtain ⟨b, o, k', h', A', n', c', e3, q0, _⟩ := hD'.at_ g dd hdd
      have e4 : k ≠ 4 := by rcases e with rfl | rfl <;> decide
      refine ⟨_, rfl, .inr ⟨e4, g, b, o, rfl, by omega, e3, ?_⟩⟩
      rw [hdS, if_neg e4, nmD, Int.toNat_natCast, List.getD_eq_getElem?_getD, hdd]
      exact q0
  obtain ⟨s, hs, hcase⟩ := key
  rw [hs]
  have hdep : d ≤ 61 := by omega
  clear hv hD hw hD' hs hb x2 hn hk
  rcases hcase with ⟨rfl, g, rfl, hg, rfl⟩ | ⟨hk4, g, b, o, rfl, hg, rfl, q0⟩
  · have hw1 : IntKind.i64.wrap ((d : Int) - 1) = (d : Int) - 1 := by rw [wrapEq, wrap_small (by omega) (by omega)]
    have hw2 : IntKind.i64.wrap ((d : Int) - 1 - (g : Int)) = ((d - 1 - g : Nat) : Int) := by rw [wrapEq, wrap_small (by omega) (by omega)]; omega
    have hw3 : ((d : Int) - 1 - (g : Int)) = ((d - 1 - g : Nat) : Int) := by omega
    obtain ⟨j, hj⟩ : ∃ j, d - 1 - g = j := ⟨_, rfl⟩
    rw [hj] at hw2 hw3 ⊢
    have HC := Lib.hid (sBoundC j (by omega) W)
    clear hj
    subst hW
    go_enter Tryz.func59, Tryz.ntmps59
    go_wp2_with fail
    refine HC.out.mono ?_
    rintro e w2 ⟨rfl, hb2⟩
    have HB2 := Lib.hid (HB.out.trans (hb2.mono HB.out.size))
    have y2 := HX2.out.keep hb2 HX2.out.lt
    have z9 := (y2.put 0 (.int .i64 0)).put 1 (.string (bnm j))
    have e0 := z9.cell 0
    have e1 := z9.cell 1
    have r0 := y2.cell 0
    have r1 := y2.cell 1
    have fz0 := y2.frozen 0
    have fz1 := y2.frozen 1
    have lz := y2.lt
    simp only [List.setIfInBounds_toArray, List.set_cons_zero, List.set_cons_succ, List.getElem?_toArray, List.getElem?_cons_zero, List.getElem?_cons_succ] at e0 e1 r0 r1
    clear z9 y2 hb2 HX2 HC HB
    go_wp2_with fail
    refine bodyPost_ret (v := .agg #[.int .i64 0, .string (bnm j)]) (by simp [results, Tryz.results59, go_sem, e0, e1]) rfl ?_
    exact ⟨rfl, (HB2.out.setCell (p := ⟨w.heap.size + 2, 0, none⟩) (by dsimp only; omega) (.int .i64 0)).setCell (p := ⟨w.heap.size + 2, 1, none⟩) (by dsimp only; omega) (.string (bnm j))⟩
  · have d4 : (k == 4) = false := by simpa using hk4
    have hg0 : (0 : Int) ≤ (g : Int) := by omega
    have hg1 : (g : Int) < (sn : Int) := by omega
    have HC := Lib.hid (sNameC s W)
    subst hW
    go_enter Tryz.func59, Tryz.ntmps59
    go_wp2_with fail
    refine HC.out.mono ?_
    rintro e w2 ⟨rfl, hb2⟩
    have HB2 := Lib.hid (HB.out.trans (hb2.mono HB.out.size))
    have y2 := HX2.out.keep hb2 HX2.out.lt
    have z9 := (y2.put 0 (.int .i64 0)).put 1 (.string s)
    have e0 := z9.cell 0
    have e1 := z9.cell 1
    have r0 := y2.cell 0
    have r1 := y2.cell 1
    have fz0 := y2.frozen 0
    have fz1 := y2.frozen 1
    have lz := y2.lt
    simp only [List.setIfInBounds_toArray, List.set_cons_zero, List.set_cons_succ, List.getElem?_toArray, List.getElem?_cons_zero, List.getElem?_cons_succ] at e0 e1 r0 r1
    clear z9 y2 hb2 HX2 HC HB q0
    go_wp2_with fail
    refine bodyPost_ret (v := .agg #[.int .i64 0, .string s]) (by simp [results, Tryz.results59, go_sem, e0, e1]) rfl ?_
    exact ⟨rfl, (HB2.out.setCell (p := ⟨w.heap.size + 2, 0, none⟩) (by dsimp only; omega) (.int .i64 0)).setCell (p := ⟨w.heap.size + 2, 1, none⟩) (by dsimp only; omega) (.string s)⟩
end Go.Proofs.YtmkahbbcagfbhaaGreatDoor
/-
  Contracts of package show's term and arg. No statement is proved here.
-/
namespace Go.Proofs.YtmkahbbcagfbhaaGreatDoor
open Go.ChangeShapes Go.WideShapes Go.ChangeAt Go.RowKit
set_option linter.unusedVariables false
/-- a walk that gathers: two variables of its own, and what is gathered so far -/
structure WS (w0 : World) (X : Nat) (w : World) (v0 : Value) (p3 p4 : Nat) (c3 c4 : Array Value) (x : List Tk) (w' : World) (v' : Value) : Prop where
  gs : GS w0 X x w' v'
  kp : KpX w w' X v0.ownBlock
  nw : NwX w v0 v'
  b3 : BoxX w' p3 69 c3
  b4 : BoxX w' p4 36 c4
  f3 : p3 ≠ X ∧ some p3 ≠ v'.ownBlock
  f4 : p4 ≠ X ∧ some p4 ≠ v'.ownBlock
theorem KpX.then {w w1 w2 : World} {R : Nat} {row : Option Nat} (h : KpX w w1 R row) (hb : Below w1.heap.size w1 w2) : KpX w w2 R row :=
  ⟨hb.os.trans h.os, hb.tape.trans h.tape, hb.output.trans h.output, Nat.le_trans h.size hb.size, fun k hk hR hr => (hb.block k (Nat.lt_of_lt_of_le hk h.size)).trans (h.block k hk hR hr)⟩
section
variable {w0 w w1 w2 : World} {X : Nat} {x : List Tk} {v0 v1 : Value} {p3 p4 : Nat} {c3 c4 : Array Value}
theorem WS.keep (h : WS w0 X w v0 p3 p4 c3 c4 x w1 v1) (hb : Below w1.heap.size w1 w2) : WS w0 X w v0 p3 p4 c3 c4 x w2 v1 :=
  ⟨h.gs.keep hb, h.kp.then hb, h.nw, h.b3.keep hb h.b3.lt, h.b4.keep hb h.b4.lt, h.f3, h.f4⟩
theorem WS.go (h : WS w0 X w v0 p3 p4 c3 c4 x w1 v1) {y : List Tk} {e : Ending} (hg : GE w0 X y w1 v1 e w2) : e = .returned (.tuple #[]) ∧ ∃ v2, WS w0 X w v0 p3 p4 c3 c4 y w2 v2 := by
  obtain ⟨he, v2, hs, hk, hn⟩ := hg
  exact ⟨he, v2, hs, h.kp.trans h.nw hk, h.nw.trans h.kp.size hn, hk.box h.b3 h.f3, hk.box h.b4 h.f4, hn.free h.b3.lt h.f3, hn.free h.b4.lt h.f4⟩
theorem WS.fin (h : WS w0 X w v0 p3 p4 c3 c4 x w1 v1) {y : List Tk} (e : x = y) : GE w0 X y w v0 (.returned (.tuple #[])) w1 := by
  subst e
  exact ⟨rfl, v1, h.gs, h.kp, h.nw⟩
theorem WS.start {ty3 : Obj} (hg : GS w0 X x w v0) (c3 c4 : Array Value) : WS w0 X w v0 w.heap.size (w.heap.size + 1) c3 c4 x ((w.alloc (.cells c3 69)).alloc (.cells c4 36)) v0 := by
  have hb : Below w.heap.size w ((w.alloc (.cells c3 69)).alloc (.cells c4 36)) := ((Below.refl _ _).alloc (Nat.le_refl _) _).alloc (by simp) _
  refine ⟨hg.keep hb, KpX.of_below hb, NwX.refl _ _, (BoxX.new _ _ _).alloc _, ?_, hg.free (Nat.le_refl _), hg.free (by omega)⟩
  have := BoxX.new (w.alloc (.cells c3 69)) 36 c4
  simpa using this
end
section
variable (ds : List (ByteArray × T)) (SA : Option Addr) (sn sc : Nat) (w0 : World) (X : Nat)
/-- what term does -/
def TmS (t : T) : Prop := ∀ (d : Nat) (x : List Tk) (v tv : Value) (w : World), Wr_ ds.length d t → GS w0 X x w v → Rd w0 t tv → x.length + (shT (nmD ds) t d).length ≤ 1000000 →
  Calls Tryz.prog 37 #[.agg #[.slice SA sn sc, .func (.func 36) #[] #[.pointer (some ⟨X, 0, none⟩)]], tv, .int .i64 (d : Nat)] w (GE w0 X (x ++ shT (nmD ds) t d) w v)
/-- what arg does -/
def ArS (t : T) : Prop := ∀ (d : Nat) (x : List Tk) (v tv : Value) (w : World), Wr_ ds.length d t → GS w0 X x w v → Rd w0 t tv → x.length + (argS (nmD ds) d t).length ≤ 1000000 →
  Calls Tryz.prog 60 #[.agg #[.slice SA sn sc, .func (.func 36) #[] #[.pointer (some ⟨X, 0, none⟩)]], tv, .int .i64 (d : Nat)] w (GE w0 X (x ++ argS (nmD ds) d t) w v)
end
variable {ds : List (ByteArray × T)} {SA : Option Addr} {sn sc : Nat} {w0 : World} {X : Nat}
set_option maxRecDepth 100000 in
set_option maxHeartbeats 4000000 in
theorem sTermSort (A : Option Addr) (n c : Nat) (d : Nat) (x : List Tk) (v0 : Value) (w : World) (hg : GS w0 X x w v0) (hl : x.length + [((0, tyN) : Tk)].length ≤ 1000000) :
    Calls Tryz.prog 37 #[.agg #[.slice SA sn sc, .func (.func 36) #[] #[.pointer (some ⟨X, 0, none⟩)]], .agg #[.int .i64 0, .int .i64 0, .slice A n c], .int .i64 (d : Nat)] w (GE w0 X (x ++ shT (nmD ds) (.node 0 0 []) d) w v0) := by
  have HL := Lib.hid hl
  clear hl
  obtain ⟨W, hW⟩ : ∃ W, (w.alloc (.cells #[.slice SA sn sc, .func (.func 36) #[] #[.pointer (some ⟨X, 0, none⟩)]] 69)).alloc (.cells #[.int .i64 0, .int .i64 0, .slice A n c] 36) = W := ⟨_, rfl⟩
  have HS0 := Lib.hid (show WS w0 X w v0 (w.heap.size) (w.heap.size + 1) #[.slice SA sn sc, .func (.func 36) #[] #[.pointer (some ⟨X, 0, none⟩)]] #[.int .i64 0, .int .i64 0, .slice A n c] (x) W v0 by rw [← hW]; exact WS.start (ty3 := .cells #[] 36) hg _ _)
  clear hg
  have a0 : W.cell? ⟨w.heap.size, 0, none⟩ = some (.slice SA sn sc) := HS0.out.b3.cell 0
  have a1 : W.cell? ⟨w.heap.size, 1, none⟩ = some (.func (.func 36) #[] #[.pointer (some ⟨X, 0, none⟩)]) := HS0.out.b3.cell 1
  have b0 : W.cell? ⟨w.heap.size + 1, 0, none⟩ = some (.int .i64 0) := HS0.out.b4.cell 0
  have b1 : W.cell? ⟨w.heap.size + 1, 1, none⟩ = some (.int .i64 0) := HS0.out.b4.cell 1
  have b2 : W.cell? ⟨w.heap.size + 1, 2, none⟩ = some (.slice A n c) := HS0.out.b4.cell 2
  go_enter Tryz.func37, Tryz.ntmps37
  go_wp2_with fail
  try rw [hW]
  clear hW a0 a1 b0 b1 b2
  have a1 : W.cell? ⟨w.heap.size, 1, none⟩ = some (.func (.func 36) #[] #[.pointer (some ⟨X, 0, none⟩)]) := HS0.out.b3.cell 1
  have HKS : Hid (∀ w' : World, Below W.heap.size W w' → (fun w' => w'.cell? ⟨w.heap.size, 1, none⟩ = some (.func (.func 36) #[] #[.pointer (some ⟨X, 0, none⟩)])) w') := Lib.hid fun w' h => (h.cell (cell_ltX a1)).trans a1
  have hbd : Below W.heap.size W W.drew := (Below.refl _ W).drew
  have hS := HKS.out _ hbd
  refine wp_region_cutX rfl (by kernel_rfl) (by kernel_rfl) ?_
  refine wpAny_of_held (S := fun w' => w'.cell? ⟨w.heap.size, 1, none⟩ = some (.func (.func 36) #[] #[.pointer (some ⟨X, 0, none⟩)])) _ _ _ _ ?_
  simp only [List.pop_toArray, List.dropLast, List.size_toArray, List.length_cons, List.length_nil, Nat.reduceAdd, Nat.reduceSub]
  refine wpAnyH_take (i := 0) (v := .pointer (some ⟨w.heap.size, 1, none⟩)) rfl (by kernel_rfl) (by kernel_rfl) (by kernel_rfl) (fun _ _ _ h => h) (Or.inl ⟨by kernel_rfl, ?_⟩) hS ?_
  · intro w' hSw
    go_simp
  try simp only [Act.put, List.getElem_toArray, List.getElem_cons_succ, List.getElem_cons_zero, List.setIfInBounds_toArray, List.set_cons_zero, List.set_cons_succ]
  refine wpAnyH_take (i := 1) (v := .func (.func 36) #[] #[.pointer (some ⟨X, 0, none⟩)]) rfl (by kernel_rfl) (by kernel_rfl) (by kernel_rfl) (fun _ _ _ h => h) (Or.inl ⟨by kernel_rfl, ?_⟩) hS ?_
  · intro w' hSw
    go_simp
  try simp only [Act.put, List.getElem_toArray, List.getElem_cons_succ, List.getElem_cons_zero, List.setIfInBounds_toArray, List.set_cons_zero, List.set_cons_succ]
  refine wpAnyH_ready (rs := [2]) (by kernel_rfl) (by simp) ?_
  refine AllReadyH.cons rfl (fun KN hK => ?_) AllReadyH.nil
  go_simp
  refine (sNameC tyN _).mono ?_
  rintro e wA0 ⟨rfl, hbA0⟩
  have hbB0 := hbd.trans (hbA0.mono hbd.size)
  clear hbA0
  refine hK.out _ _ (HKS.out _ hbB0) (fun hS => ?_)
  clear hK KN
  try simp only [Act.put, zzP]
  refine wpAnyH_ready (rs := [3]) (by kernel_rfl) (by simp) ?_
  refine AllReadyH.cons rfl (fun KN hK => ?_) AllReadyH.nil
  go_simp
  obtain ⟨WB, hWB⟩ : ∃ WB, wA0.alloc (.cells #[.int .i64 0, .string (tyN)] 79) = WB := ⟨_, rfl⟩
  have hbC : Below W.heap.size W WB := by rw [← hWB]; exact hbB0.alloc hbB0.size _
  have hPB : WB.heap[wA0.heap.size]? = some (.cells (cellsT [(0, tyN)]).toArray 79 (0, 0)) := by rw [← hWB]; exact heap_alloc_new wA0 _
  try rw [hWB]
  clear hWB
  refine hK.out _ _ (HKS.out _ hbC) (fun hS => ?_)
  clear hK KN
  try simp only [Act.put, zzP]
  refine wpAnyH_done (by kernel_rfl) ?_ _
  show wpList _ _ _ _ _ _
  have HSB := Lib.hid (HS0.out.keep hbC)
  have HG := Lib.hid (sGatherC (ys := [(0, tyN)]) HSB.out.gs hPB (by simp) (by have := HL.out; simp only [List.length_cons, List.length_nil] at this ⊢; omega) 1 rfl)
  clear hPB hbC hS HKS hbd a1 hbB0
  go_wp2_with fail
  refine HG.out.mono ?_
  rintro e w1 hge
  obtain ⟨rfl, v1, hS1⟩ := HSB.out.go hge
  have HS1 := Lib.hid hS1
  clear HG HSB hge hS1 HS0
  go_wp2_with fail
  refine bodyPost_ret (results_none rfl _ _ _) rfl ?_
  exact HS1.out.fin (by rw [sh_sort])
set_option maxRecDepth 100000 in
set_option maxHeartbeats 4000000 in
theorem sTermPi {a b0_ : T} (iha : TmS ds SA sn sc w0 X a) (ihb : TmS ds SA sn sc w0 X b0_) (d : Nat) (x : List Tk) (v0 : Value) (tv : Value) (w : World) (hw : Wr_ ds.length d (.node 1 0 [a, b0_])) (hg : GS w0 X x w v0) (hv : Rd w0 (.node 1 0 [a, b0_]) tv) (hl : x.length + (shT (nmD ds) (.node 1 0 [a, b0_]) d).length ≤ 1000000) :
    Calls Tryz.prog 37 #[.agg #[.slice SA sn sc, .func (.func 36) #[] #[.pointer (some ⟨X, 0, none⟩)]], tv, .int .i64 (d : Nat)] w (GE w0 X (x ++ shT (nmD ds) (.node 1 0 [a, b0_]) d) w v0) := by
  rw [sh_pi] at hl
  have HL := Lib.hid hl
  obtain ⟨hwa, hwb⟩ := hw.pi
  have hd : d < 100 := by have := hw.deep; omega
  obtain ⟨A, n, c, rfl, _, _, hn, hc, hcm, hx⟩ := Rd_node.1 hv
  obtain rfl : n = 2 := by simpa using hn.symm
  unfold maxLen at hcm
  obtain ⟨b, o, ky, gy, Ay, ny, cy, rfl, y0, y1, y2, yr⟩ := (hx 0 a rfl).full
  simp only [Nat.zero_mul, Nat.add_zero] at y0 y1 y2
  obtain ⟨b', o', kz, gz, Az, nz, cz, eb, z0, z1, z2, zr⟩ := (hx 1 b0_ rfl).full
  obtain ⟨rfl, rfl⟩ : b = b' ∧ o = o' := by simpa using eb
  simp only [Nat.one_mul] at z0 z1 z2
  have hwr : IntKind.i64.wrap ((d : Int) + 1) = (d : Int) + 1 := by rw [wrapEq, wrap_small (by omega) (by omega)]
  clear hl hv hx hn hw eb
  obtain ⟨W, hW⟩ : ∃ W, (w.alloc (.cells #[.slice SA sn sc, .func (.func 36) #[] #[.pointer (some ⟨X, 0, none⟩)]] 69)).alloc (.cells #[.int .i64 1, .int .i64 0, .slice (some ⟨b, o, none⟩) 2 c] 36) = W := ⟨_, rfl⟩
  have HS0 := Lib.hid (show WS w0 X w v0 (w.heap.size) (w.heap.size + 1) #[.slice SA sn sc, .func (.func 36) #[] #[.pointer (some ⟨X, 0, none⟩)]] #[.int .i64 1, .int .i64 0, .slice (some ⟨b, o, none⟩) 2 c] (x) W v0 by rw [← hW]; exact WS.start (ty3 := .cells #[] 36) hg _ _)
  clear hg
  have a0 : W.cell? ⟨w.heap.size, 0, none⟩ = some (.slice SA sn sc) := HS0.out.b3.cell 0
  have a1 : W.cell? ⟨w.heap.size, 1, none⟩ = some (.func (.func 36) #[] #[.pointer (some ⟨X, 0, none⟩)]) := HS0.out.b3.cell 1
  have b0 : W.cell? ⟨w.heap.size + 1, 0, none⟩ = some (.int .i64 1) := HS0.out.b4.cell 0
  have b1 : W.cell? ⟨w.heap.size + 1, 1, none⟩ = some (.int .i64 0) := HS0.out.b4.cell 1
  have b2 : W.cell? ⟨w.heap.size + 1, 2, none⟩ = some (.slice (some ⟨b, o, none⟩) 2 c) := HS0.out.b4.cell 2
  go_enter Tryz.func37, Tryz.ntmps37
  go_wp2_with fail
  try rw [hW]
  clear hW a0 a1 b0 b1 b2
  have a1 : W.cell? ⟨w.heap.size, 1, none⟩ = some (.func (.func 36) #[] #[.pointer (some ⟨X, 0, none⟩)]) := HS0.out.b3.cell 1
  have HKS : Hid (∀ w' : World, Below W.heap.size W w' → (fun w' => w'.cell? ⟨w.heap.size, 1, none⟩ = some (.func (.func 36) #[] #[.pointer (some ⟨X, 0, none⟩)])) w') := Lib.hid fun w' h => (h.cell (cell_ltX a1)).trans a1
  have hbd : Below W.heap.size W W.drew := (Below.refl _ W).drew
  have hS := HKS.out _ hbd
  refine wp_region_cutX rfl (by kernel_rfl) (by kernel_rfl) ?_
  refine wpAny_of_held (S := fun w' => w'.cell? ⟨w.heap.size, 1, none⟩ = some (.func (.func 36) #[] #[.pointer (some ⟨X, 0, none⟩)])) _ _ _ _ ?_
  simp only [List.pop_toArray, List.dropLast, List.size_toArray, List.length_cons, List.length_nil, Nat.reduceAdd, Nat.reduceSub]
  refine wpAnyH_take (i := 0) (v := .pointer (some ⟨w.heap.size, 1, none⟩)) rfl (by kernel_rfl) (by kernel_rfl) (by kernel_rfl) (fun _ _ _ h => h) (Or.inl ⟨by kernel_rfl, ?_⟩) hS ?_
  · intro w' hSw
    go_simp
  try simp only [Act.put, List.getElem_toArray, List.getElem_cons_succ, List.getElem_cons_zero, List.setIfInBounds_toArray, List.set_cons_zero, List.set_cons_succ]
  refine wpAnyH_take (i := 1) (v := .func (.func 36) #[] #[.pointer (some ⟨X, 0, none⟩)]) rfl (by kernel_rfl) (by kernel_rfl) (by kernel_rfl) (fun _ _ _ h => h) (Or.inl ⟨by kernel_rfl, ?_⟩) hS ?_
  · intro w' hSw
    go_simp
  try simp only [Act.put, List.getElem_toArray, List.getElem_cons_succ, List.getElem_cons_zero, List.setIfInBounds_toArray, List.set_cons_zero, List.set_cons_succ]
  refine wpAnyH_take (i := 3) (v := .int .i64 (d : Nat)) rfl (by kernel_rfl) (by kernel_rfl) (by kernel_rfl) (fun _ _ _ h => h) (Or.inl ⟨by kernel_rfl, ?_⟩) hS ?_
  · intro w' hSw
    go_simp
  try simp only [Act.put, List.getElem_toArray, List.getElem_cons_succ, List.getElem_cons_zero, List.setIfInBounds_toArray, List.set_cons_zero, List.set_cons_succ]
  refine wpAnyH_ready (rs := [2]) (by kernel_rfl) (by simp) ?_
  refine AllReadyH.cons rfl (fun KN hK => ?_) AllReadyH.nil
  go_simp
  refine (sMarkC ⟨#[123]⟩ _).mono ?_
  rintro e wA0 ⟨rfl, hbA0⟩
  have hbB0 := hbd.trans (hbA0.mono hbd.size)
  clear hbA0
  refine hK.out _ _ (HKS.out _ hbB0) (fun hS => ?_)
  clear hK KN
  try simp only [Act.put, zzP]
  refine wpAnyH_ready (rs := [4]) (by kernel_rfl) (by simp) ?_
  refine AllReadyH.cons rfl (fun KN hK => ?_) AllReadyH.nil
  go_simp
  refine (sBoundC d hd _).mono ?_
  rintro e wA1 ⟨rfl, hbA1⟩
  have hbB1 := hbB0.trans (hbA1.mono hbB0.size)
  clear hbA1
  refine hK.out _ _ (HKS.out _ hbB1) (fun hS => ?_)
  clear hK KN
  try simp only [Act.put, zzP]
  refine wpAnyH_ready (rs := [5]) (by kernel_rfl) (by simp) ?_
  refine AllReadyH.cons rfl (fun KN hK => ?_) AllReadyH.nil
  go_simp
  refine (sMarkC ⟨#[58]⟩ _).mono ?_
  rintro e wA2 ⟨rfl, hbA2⟩
  have hbB2 := hbB1.trans (hbA2.mono hbB1.size)
  clear hbA2
  refine hK.out _ _ (HKS.out _ hbB2) (fun hS => ?_)
  clear hK KN
  try simp only [Act.put, zzP]
  refine wpAnyH_ready (rs := [6]) (by kernel_rfl) (by simp) ?_
  refine AllReadyH.cons rfl (fun KN hK => ?_) AllReadyH.nil
  go_simp
  obtain ⟨WB, hWB⟩ : ∃ WB, wA2.alloc (.cells #[.int .i64 1, .string ⟨#[123]⟩, .int .i64 0, .string (bnm d), .int .i64 1, .string ⟨#[58]⟩] 79) = WB := ⟨_, rfl⟩
  have hbC : Below W.heap.size W WB := by rw [← hWB]; exact hbB2.alloc hbB2.size _
  have hPB : WB.heap[wA2.heap.size]? = some (.cells (cellsT [mP, (0, bnm d), mK]).toArray 79 (0, 0)) := by rw [← hWB]; exact heap_alloc_new wA2 _
  try rw [hWB]
  clear hWB
  refine hK.out _ _ (HKS.out _ hbC) (fun hS => ?_)
  clear hK KN
  try simp only [Act.put, zzP]
  refine wpAnyH_done (by kernel_rfl) ?_ _
  show wpList _ _ _ _ _ _
  have HSB := Lib.hid (HS0.out.keep hbC)
  have HG := Lib.hid (sGatherC (ys := [mP, (0, bnm d), mK]) HSB.out.gs hPB (by simp) (by have := HL.out; simp only [List.length_append, List.length_cons, List.length_nil] at this ⊢; omega) 3 rfl)
  clear hPB hbC hS HKS hbd a1 hbB0 hbB1 hbB2
  go_wp2_with fail
  refine HG.out.mono ?_
  rintro e w1 hge
  obtain ⟨rfl, v1, hS1⟩ := HSB.out.go hge
  have HS1 := Lib.hid hS1
  clear HG HSB hge hS1 HS0
  go_wp2_with fail
  have a0 : w1.cell? ⟨w.heap.size, 0, none⟩ = some (.slice SA sn sc) := HS1.out.b3.cell 0
  have a1 : w1.cell? ⟨w.heap.size, 1, none⟩ = some (.func (.func 36) #[] #[.pointer (some ⟨X, 0, none⟩)]) := HS1.out.b3.cell 1
  have b2 : w1.cell? ⟨w.heap.size + 1, 2, none⟩ = some (.slice (some ⟨b, o, none⟩) 2 c) := HS1.out.b4.cell 2
  have p0 := (HS1.out.gs.below.cell (cell_lt y0)).trans y0
  have p1 := (HS1.out.gs.below.cell (cell_lt y1)).trans y1
  have p2 := (HS1.out.gs.below.cell (cell_lt y2)).trans y2
  have HKS : Hid (∀ w' : World, Below w1.heap.size w1 w' → (fun w' => w'.cell? ⟨w.heap.size, 0, none⟩ = some (.slice SA sn sc) ∧ w'.cell? ⟨w.heap.size, 1, none⟩ = some (.func (.func 36) #[] #[.pointer (some ⟨X, 0, none⟩)]) ∧ w'.cell? ⟨w.heap.size + 1, 2, none⟩ = some (.slice (some ⟨b, o, none⟩) 2 c) ∧ w'.cell? ⟨b, o, none⟩ = some (.int .i64 ky) ∧ w'.cell? ⟨b, o + 1, none⟩ = some (.int .i64 gy) ∧ w'.cell? ⟨b, o + 2, none⟩ = some (.slice Ay ny cy)) w') := Lib.hid fun w' h => ⟨(h.cell (cell_ltX a0)).trans a0, (h.cell (cell_ltX a1)).trans a1, (h.cell (cell_ltX b2)).trans b2, (h.cell (cell_ltX p0)).trans p0, (h.cell (cell_ltX p1)).trans p1, (h.cell (cell_ltX p2)).trans p2⟩
  have hbd : Below w1.heap.size w1 w1.drew := (Below.refl _ w1).drew
  have hS := HKS.out _ hbd
  refine wp_region_cutX rfl (by kernel_rfl) (by kernel_rfl) ?_
  refine wpAny_of_held (S := fun w' => w'.cell? ⟨w.heap.size, 0, none⟩ = some (.slice SA sn sc) ∧ w'.cell? ⟨w.heap.size, 1, none⟩ = some (.func (.func 36) #[] #[.pointer (some ⟨X, 0, none⟩)]) ∧ w'.cell? ⟨w.heap.size + 1, 2, none⟩ = some (.slice (some ⟨b, o, none⟩) 2 c) ∧ w'.cell? ⟨b, o, none⟩ = some (.int .i64 ky) ∧ w'.cell? ⟨b, o + 1, none⟩ = some (.int .i64 gy) ∧ w'.cell? ⟨b, o + 2, none⟩ = some (.slice Ay ny cy)) _ _ _ _ ?_
  simp only [List.pop_toArray, List.dropLast, List.size_toArray, List.length_cons, List.length_nil, Nat.reduceAdd, Nat.reduceSub]
  refine wpAnyH_take (i := 0) (v := .agg #[.slice SA sn sc, .func (.func 36) #[] #[.pointer (some ⟨X, 0, none⟩)]]) rfl (by kernel_rfl) (by kernel_rfl) (by kernel_rfl) (fun _ _ _ h => h) (Or.inl ⟨by kernel_rfl, ?_⟩) hS ?_
  · intro w' hSw
    obtain ⟨s0, s1, s2, s3, s4, s5⟩ := hSw
    go_simp
  try simp only [Act.put, List.getElem_toArray, List.getElem_cons_succ, List.getElem_cons_zero, List.setIfInBounds_toArray, List.set_cons_zero, List.set_cons_succ]
  refine wpAnyH_take (i := 1) (v := .pointer (some ⟨w.heap.size + 1, 2, none⟩)) rfl (by kernel_rfl) (by kernel_rfl) (by kernel_rfl) (fun _ _ _ h => h) (Or.inl ⟨by kernel_rfl, ?_⟩) hS ?_
  · intro w' hSw
    obtain ⟨s0, s1, s2, s3, s4, s5⟩ := hSw
    go_simp
  try simp only [Act.put, List.getElem_toArray, List.getElem_cons_succ, List.getElem_cons_zero, List.setIfInBounds_toArray, List.set_cons_zero, List.set_cons_succ]
  refine wpAnyH_take (i := 2) (v := .slice (some ⟨b, o, none⟩) 2 c) rfl (by kernel_rfl) (by kernel_rfl) (by kernel_rfl) (fun _ _ _ h => h) (Or.inl ⟨by kernel_rfl, ?_⟩) hS ?_
  · intro w' hSw
    obtain ⟨s0, s1, s2, s3, s4, s5⟩ := hSw
    go_simp
  try simp only [Act.put, List.getElem_toArray, List.getElem_cons_succ, List.getElem_cons_zero, List.setIfInBounds_toArray, List.set_cons_zero, List.set_cons_succ]
  refine wpAnyH_take (i := 3) (v := .pointer (some ⟨b, o, none⟩)) rfl (by kernel_rfl) (by kernel_rfl) (by kernel_rfl) (fun _ _ _ h => h) (Or.inl ⟨by kernel_rfl, ?_⟩) hS ?_
  · intro w' hSw
    obtain ⟨s0, s1, s2, s3, s4, s5⟩ := hSw
    go_simp
  try simp only [Act.put, List.getElem_toArray, List.getElem_cons_succ, List.getElem_cons_zero, List.setIfInBounds_toArray, List.set_cons_zero, List.set_cons_succ]
  refine wpAnyH_take (i := 4) (v := .agg #[.int .i64 ky, .int .i64 gy, .slice Ay ny cy]) rfl (by kernel_rfl) (by kernel_rfl) (by kernel_rfl) (fun _ _ _ h => h) (Or.inl ⟨by kernel_rfl, ?_⟩) hS ?_
  · intro w' hSw
    obtain ⟨s0, s1, s2, s3, s4, s5⟩ := hSw
    go_simp
  try simp only [Act.put, List.getElem_toArray, List.getElem_cons_succ, List.getElem_cons_zero, List.setIfInBounds_toArray, List.set_cons_zero, List.set_cons_succ]
  refine wpAnyH_take (i := 5) (v := .int .i64 (d : Nat)) rfl (by kernel_rfl) (by kernel_rfl) (by kernel_rfl) (fun _ _ _ h => h) (Or.inl ⟨by kernel_rfl, ?_⟩) hS ?_
  · intro w' hSw
    obtain ⟨s0, s1, s2, s3, s4, s5⟩ := hSw
    go_simp
  try simp only [Act.put, List.getElem_toArray, List.getElem_cons_succ, List.getElem_cons_zero, List.setIfInBounds_toArray, List.set_cons_zero, List.set_cons_succ]
  refine wpAnyH_done (by kernel_rfl) ?_ _
  show wpList _ _ _ _ _ _
  have HSB := Lib.hid (HS1.out.keep hbd)
  have hG := iha d _ _ _ _ hwa HSB.out.gs yr (by have := HL.out; simp only [List.length_append, List.length_cons, List.length_nil] at this ⊢; omega)
  have HG := Lib.hid hG
  clear hG
  clear hS HKS hbd a0 a1 b2 p0 p1 p2
  go_wp2_with fail
  refine HG.out.mono ?_
  rintro e w2 hge
  obtain ⟨rfl, v2, hS2⟩ := HSB.out.go hge
  have HS2 := Lib.hid hS2
  clear HG HSB hge hS2 HS1
  go_wp2_with fail
  have a1 : w2.cell? ⟨w.heap.size, 1, none⟩ = some (.func (.func 36) #[] #[.pointer (some ⟨X, 0, none⟩)]) := HS2.out.b3.cell 1
  have HKS : Hid (∀ w' : World, Below w2.heap.size w2 w' → (fun w' => w'.cell? ⟨w.heap.size, 1, none⟩ = some (.func (.func 36) #[] #[.pointer (some ⟨X, 0, none⟩)])) w') := Lib.hid fun w' h => (h.cell (cell_ltX a1)).trans a1
  have hbd : Below w2.heap.size w2 w2.drew := (Below.refl _ w2).drew
  have hS := HKS.out _ hbd
  refine wp_region_cutX rfl (by kernel_rfl) (by kernel_rfl) ?_
  refine wpAny_of_held (S := fun w' => w'.cell? ⟨w.heap.size, 1, none⟩ = some (.func (.func 36) #[] #[.pointer (some ⟨X, 0, none⟩)])) _ _ _ _ ?_
  simp only [List.pop_toArray, List.dropLast, List.size_toArray, List.length_cons, List.length_nil, Nat.reduceAdd, Nat.reduceSub]
  refine wpAnyH_take (i := 0) (v := .pointer (some ⟨w.heap.size, 1, none⟩)) rfl (by kernel_rfl) (by kernel_rfl) (by kernel_rfl) (fun _ _ _ h => h) (Or.inl ⟨by kernel_rfl, ?_⟩) hS ?_
  · intro w' hSw
    go_simp
  try simp only [Act.put, List.getElem_toArray, List.getElem_cons_succ, List.getElem_cons_zero, List.setIfInBounds_toArray, List.set_cons_zero, List.set_cons_succ]
  refine wpAnyH_take (i := 1) (v := .func (.func 36) #[] #[.pointer (some ⟨X, 0, none⟩)]) rfl (by kernel_rfl) (by kernel_rfl) (by kernel_rfl) (fun _ _ _ h => h) (Or.inl ⟨by kernel_rfl, ?_⟩) hS ?_
  · intro w' hSw
    go_simp
  try simp only [Act.put, List.getElem_toArray, List.getElem_cons_succ, List.getElem_cons_zero, List.setIfInBounds_toArray, List.set_cons_zero, List.set_cons_succ]
  refine wpAnyH_ready (rs := [2]) (by kernel_rfl) (by simp) ?_
  refine AllReadyH.cons rfl (fun KN hK => ?_) AllReadyH.nil
  go_simp
  refine (sMarkC ⟨#[125]⟩ _).mono ?_
  rintro e wA0 ⟨rfl, hbA0⟩
  have hbB0 := hbd.trans (hbA0.mono hbd.size)
  clear hbA0
  refine hK.out _ _ (HKS.out _ hbB0) (fun hS => ?_)
  clear hK KN
  try simp only [Act.put, zzP]
  refine wpAnyH_ready (rs := [3]) (by kernel_rfl) (by simp) ?_
  refine AllReadyH.cons rfl (fun KN hK => ?_) AllReadyH.nil
  go_simp
  obtain ⟨WB, hWB⟩ : ∃ WB, wA0.alloc (.cells #[.int .i64 1, .string ⟨#[125]⟩] 79) = WB := ⟨_, rfl⟩
  have hbC : Below w2.heap.size w2 WB := by rw [← hWB]; exact hbB0.alloc hbB0.size _
  have hPB : WB.heap[wA0.heap.size]? = some (.cells (cellsT [mQ]).toArray 79 (0, 0)) := by rw [← hWB]; exact heap_alloc_new wA0 _
  try rw [hWB]
  clear hWB
  refine hK.out _ _ (HKS.out _ hbC) (fun hS => ?_)
  clear hK KN
  try simp only [Act.put, zzP]
  refine wpAnyH_done (by kernel_rfl) ?_ _
  show wpList _ _ _ _ _ _
  have HSB := Lib.hid (HS2.out.keep hbC)
  have HG := Lib.hid (sGatherC (ys := [mQ]) HSB.out.gs hPB (by simp) (by have := HL.out; simp only [List.length_append, List.length_cons, List.length_nil] at this ⊢; omega) 1 rfl)
  clear hPB hbC hS HKS hbd a1 hbB0
  go_wp2_with fail
  refine HG.out.mono ?_
  rintro e w3 hge
  obtain ⟨rfl, v3, hS3⟩ := HSB.out.go hge
  have HS3 := Lib.hid hS3
  clear HG HSB hge hS3 HS2
  go_wp2_with fail
  have a0 : w3.cell? ⟨w.heap.size, 0, none⟩ = some (.slice SA sn sc) := HS3.out.b3.cell 0
  have a1 : w3.cell? ⟨w.heap.size, 1, none⟩ = some (.func (.func 36) #[] #[.pointer (some ⟨X, 0, none⟩)]) := HS3.out.b3.cell 1
  have b2 : w3.cell? ⟨w.heap.size + 1, 2, none⟩ = some (.slice (some ⟨b, o, none⟩) 2 c) := HS3.out.b4.cell 2
  have p0 := (HS3.out.gs.below.cell (cell_lt z0)).trans z0
  have p1 := (HS3.out.gs.below.cell (cell_lt z1)).trans z1
  have p2 := (HS3.out.gs.below.cell (cell_lt z2)).trans z2
  have HKS : Hid (∀ w' : World, Below w3.heap.size w3 w' → (fun w' => w'.cell? ⟨w.heap.size, 0, none⟩ = some (.slice SA sn sc) ∧ w'.cell? ⟨w.heap.size, 1, none⟩ = some (.func (.func 36) #[] #[.pointer (some ⟨X, 0, none⟩)]) ∧ w'.cell? ⟨w.heap.size + 1, 2, none⟩ = some (.slice (some ⟨b, o, none⟩) 2 c) ∧ w'.cell? ⟨b, o + 3, none⟩ = some (.int .i64 kz) ∧ w'.cell? ⟨b, o + 3 + 1, none⟩ = some (.int .i64 gz) ∧ w'.cell? ⟨b, o + 3 + 2, none⟩ = some (.slice Az nz cz)) w') := Lib.hid fun w' h => ⟨(h.cell (cell_ltX a0)).trans a0, (h.cell (cell_ltX a1)).trans a1, (h.cell (cell_ltX b2)).trans b2, (h.cell (cell_ltX p0)).trans p0, (h.cell (cell_ltX p1)).trans p1, (h.cell (cell_ltX p2)).trans p2⟩
  have hbd : Below w3.heap.size w3 w3.drew := (Below.refl _ w3).drew
  have hS := HKS.out _ hbd
  refine wp_region_cutX rfl (by kernel_rfl) (by kernel_rfl) ?_
  refine wpAny_of_held (S := fun w' => w'.cell? ⟨w.heap.size, 0, none⟩ = some (.slice SA sn sc) ∧ w'.cell? ⟨w.heap.size, 1, none⟩ = some (.func (.func 36) #[] #[.pointer (some ⟨X, 0, none⟩)]) ∧ w'.cell? ⟨w.heap.size + 1, 2, none⟩ = some (.slice (some ⟨b, o, none⟩) 2 c) ∧ w'.cell? ⟨b, o + 3, none⟩ = some (.int .i64 kz) ∧ w'.cell? ⟨b, o + 3 + 1, none⟩ = some (.int .i64 gz) ∧ w'.cell? ⟨b, o + 3 + 2, none⟩ = some (.slice Az nz cz)) _ _ _ _ ?_
  simp only [List.pop_toArray, List.dropLast, List.size_toArray, List.length_cons, List.length_nil, Nat.reduceAdd, Nat.reduceSub]
  refine wpAnyH_take (i := 0) (v := .agg #[.slice SA sn sc, .func (.func 36) #[] #[.pointer (some ⟨X, 0, none⟩)]]) rfl (by kernel_rfl) (by kernel_rfl) (by kernel_rfl) (fun _ _ _ h => h) (Or.inl ⟨by kernel_rfl, ?_⟩) hS ?_
  · intro w' hSw
    obtain ⟨s0, s1, s2, s3, s4, s5⟩ := hSw
    go_simp
  try simp only [Act.put, List.getElem_toArray, List.getElem_cons_succ, List.getElem_cons_zero, List.setIfInBounds_toArray, List.set_cons_zero, List.set_cons_succ]
  refine wpAnyH_take (i := 1) (v := .pointer (some ⟨w.heap.size + 1, 2, none⟩)) rfl (by kernel_rfl) (by kernel_rfl) (by kernel_rfl) (fun _ _ _ h => h) (Or.inl ⟨by kernel_rfl, ?_⟩) hS ?_
  · intro w' hSw
    obtain ⟨s0, s1, s2, s3, s4, s5⟩ := hSw
    go_simp
  try simp only [Act.put, List.getElem_toArray, List.getElem_cons_succ, List.getElem_cons_zero, List.setIfInBounds_toArray, List.set_cons_zero, List.set_cons_succ]
  refine wpAnyH_take (i := 2) (v := .slice (some ⟨b, o, none⟩) 2 c) rfl (by kernel_rfl) (by kernel_rfl) (by kernel_rfl) (fun _ _ _ h => h) (Or.inl ⟨by kernel_rfl, ?_⟩) hS ?_
  · intro w' hSw
    obtain ⟨s0, s1, s2, s3, s4, s5⟩ := hSw
    go_simp
  try simp only [Act.put, List.getElem_toArray, List.getElem_cons_succ, List.getElem_cons_zero, List.setIfInBounds_toArray, List.set_cons_zero, List.set_cons_succ]
  refine wpAnyH_take (i := 3) (v := .pointer (some ⟨b, o + 3, none⟩)) rfl (by kernel_rfl) (by kernel_rfl) (by kernel_rfl) (fun _ _ _ h => h) (Or.inl ⟨by kernel_rfl, ?_⟩) hS ?_
  · intro w' hSw
    obtain ⟨s0, s1, s2, s3, s4, s5⟩ := hSw
    go_simp
  try simp only [Act.put, List.getElem_toArray, List.getElem_cons_succ, List.getElem_cons_zero, List.setIfInBounds_toArray, List.set_cons_zero, List.set_cons_succ]
  refine wpAnyH_take (i := 4) (v := .agg #[.int .i64 kz, .int .i64 gz, .slice Az nz cz]) rfl (by kernel_rfl) (by kernel_rfl) (by kernel_rfl) (fun _ _ _ h => h) (Or.inl ⟨by kernel_rfl, ?_⟩) hS ?_
  · intro w' hSw
    obtain ⟨s0, s1, s2, s3, s4, s5⟩ := hSw
    go_simp
  try simp only [Act.put, List.getElem_toArray, List.getElem_cons_succ, List.getElem_cons_zero, List.setIfInBounds_toArray, List.set_cons_zero, List.set_cons_succ]
  refine wpAnyH_take (i := 5) (v := .int .i64 (d : Nat)) rfl (by kernel_rfl) (by kernel_rfl) (by kernel_rfl) (fun _ _ _ h => h) (Or.inl ⟨by kernel_rfl, ?_⟩) hS ?_
  · intro w' hSw
    obtain ⟨s0, s1, s2, s3, s4, s5⟩ := hSw
    go_simp
  try simp only [Act.put, List.getElem_toArray, List.getElem_cons_succ, List.getElem_cons_zero, List.setIfInBounds_toArray, List.set_cons_zero, List.set_cons_succ]
  refine wpAnyH_take (i := 6) (v := .int .i64 ((d : Int) + 1)) rfl (by kernel_rfl) (by kernel_rfl) (by kernel_rfl) (fun _ _ _ h => h) (Or.inl ⟨by kernel_rfl, ?_⟩) hS ?_
  · intro w' hSw
    obtain ⟨s0, s1, s2, s3, s4, s5⟩ := hSw
    go_simp
  try simp only [Act.put, List.getElem_toArray, List.getElem_cons_succ, List.getElem_cons_zero, List.setIfInBounds_toArray, List.set_cons_zero, List.set_cons_succ]
  refine wpAnyH_done (by kernel_rfl) ?_ _
  show wpList _ _ _ _ _ _
  have HSB := Lib.hid (HS3.out.keep hbd)
  have hG := ihb (d + 1) _ _ _ _ hwb HSB.out.gs zr (by have := HL.out; simp only [List.length_append, List.length_cons, List.length_nil] at this ⊢; omega)
  rw [show ((d + 1 : Nat) : Int) = (d : Int) + 1 by omega] at hG
  have HG := Lib.hid hG
  clear hG
  clear hS HKS hbd a0 a1 b2 p0 p1 p2
  go_wp2_with fail
  refine HG.out.mono ?_
  rintro e w4 hge
  obtain ⟨rfl, v4, hS4⟩ := HSB.out.go hge
  have HS4 := Lib.hid hS4
  clear HG HSB hge hS4 HS3
  go_wp2_with fail
  refine bodyPost_ret (results_none rfl _ _ _) rfl ?_
  exact HS4.out.fin (by rw [sh_pi]; simp)
set_option maxRecDepth 100000 in
set_option maxHeartbeats 4000000 in
theorem sTermLam {a : T} (iha : TmS ds SA sn sc w0 X a) (d : Nat) (x : List Tk) (v0 : Value) (tv : Value) (w : World) (hw : Wr_ ds.length d (.node 3 0 [a])) (hg : GS w0 X x w v0) (hv : Rd w0 (.node 3 0 [a]) tv) (hl : x.length + (shT (nmD ds) (.node 3 0 [a]) d).length ≤ 1000000) :
    Calls Tryz.prog 37 #[.agg #[.slice SA sn sc, .func (.func 36) #[] #[.pointer (some ⟨X, 0, none⟩)]], tv, .int .i64 (d : Nat)] w (GE w0 X (x ++ shT (nmD ds) (.node 3 0 [a]) d) w v0) := by
  rw [sh_lam] at hl
  have HL := Lib.hid hl
  have hwa := hw.lam
  have hd : d < 100 := by have := hw.deep; omega
  obtain ⟨A, n, c, rfl, _, _, hn, hc, hcm, hx⟩ := Rd_node.1 hv
  obtain rfl : n = 1 := by simpa using hn.symm
  unfold maxLen at hcm
  obtain ⟨b, o, ky, gy, Ay, ny, cy, rfl, y0, y1, y2, yr⟩ := (hx 0 a rfl).full
  simp only [Nat.zero_mul, Nat.add_zero] at y0 y1 y2
  have hwr : IntKind.i64.wrap ((d : Int) + 1) = (d : Int) + 1 := by rw [wrapEq, wrap_small (by omega) (by omega)]
  clear hl hv hx hn hw
  obtain ⟨W, hW⟩ : ∃ W, (w.alloc (.cells #[.slice SA sn sc, .func (.func 36) #[] #[.pointer (some ⟨X, 0, none⟩)]] 69)).alloc (.cells #[.int .i64 3, .int .i64 0, .slice (some ⟨b, o, none⟩) 1 c] 36) = W := ⟨_, rfl⟩
  have HS0 := Lib.hid (show WS w0 X w v0 (w.heap.size) (w.heap.size + 1) #[.slice SA sn sc, .func (.func 36) #[] #[.pointer (some ⟨X, 0, none⟩)]] #[.int .i64 3, .int .i64 0, .slice (some ⟨b, o, none⟩) 1 c] (x) W v0 by rw [← hW]; exact WS.start (ty3 := .cells #[] 36) hg _ _)
  clear hg
  have a0 : W.cell? ⟨w.heap.size, 0, none⟩ = some (.slice SA sn sc) := HS0.out.b3.cell 0
  have a1 : W.cell? ⟨w.heap.size, 1, none⟩ = some (.func (.func 36) #[] #[.pointer (some ⟨X, 0, none⟩)]) := HS0.out.b3.cell 1
  have b0 : W.cell? ⟨w.heap.size + 1, 0, none⟩ = some (.int .i64 3) := HS0.out.b4.cell 0
  have b1 : W.cell? ⟨w.heap.size + 1, 1, none⟩ = some (.int .i64 0) := HS0.out.b4.cell 1
  have b2 : W.cell? ⟨w.heap.size + 1, 2, none⟩ = some (.slice (some ⟨b, o, none⟩) 1 c) := HS0.out.b4.cell 2
  go_enter Tryz.func37, Tryz.ntmps37
  go_wp2_with fail
  try rw [hW]
  clear hW a0 a1 b0 b1 b2
  have a1 : W.cell? ⟨w.heap.size, 1, none⟩ = some (.func (.func 36) #[] #[.pointer (some ⟨X, 0, none⟩)]) := HS0.out.b3.cell 1
  have HKS : Hid (∀ w' : World, Below W.heap.size W w' → (fun w' => w'.cell? ⟨w.heap.size, 1, none⟩ = some (.func (.func 36) #[] #[.pointer (some ⟨X, 0, none⟩)])) w') := Lib.hid fun w' h => (h.cell (cell_ltX a1)).trans a1
  have hbd : Below W.heap.size W W.drew := (Below.refl _ W).drew
  have hS := HKS.out _ hbd
  refine wp_region_cutX rfl (by kernel_rfl) (by kernel_rfl) ?_
  refine wpAny_of_held (S := fun w' => w'.cell? ⟨w.heap.size, 1, none⟩ = some (.func (.func 36) #[] #[.pointer (some ⟨X, 0, none⟩)])) _ _ _ _ ?_
  simp only [List.pop_toArray, List.dropLast, List.size_toArray, List.length_cons, List.length_nil, Nat.reduceAdd, Nat.reduceSub]
  refine wpAnyH_take (i := 0) (v := .pointer (some ⟨w.heap.size, 1, none⟩)) rfl (by kernel_rfl) (by kernel_rfl) (by kernel_rfl) (fun _ _ _ h => h) (Or.inl ⟨by kernel_rfl, ?_⟩) hS ?_
  · intro w' hSw
    go_simp
  try simp only [Act.put, List.getElem_toArray, List.getElem_cons_succ, List.getElem_cons_zero, List.setIfInBounds_toArray, List.set_cons_zero, List.set_cons_succ]
  refine wpAnyH_take (i := 1) (v := .func (.func 36) #[] #[.pointer (some ⟨X, 0, none⟩)]) rfl (by kernel_rfl) (by kernel_rfl) (by kernel_rfl) (fun _ _ _ h => h) (Or.inl ⟨by kernel_rfl, ?_⟩) hS ?_
  · intro w' hSw
    go_simp
  try simp only [Act.put, List.getElem_toArray, List.getElem_cons_succ, List.getElem_cons_zero, List.setIfInBounds_toArray, List.set_cons_zero, List.set_cons_succ]
  refine wpAnyH_take (i := 3) (v := .int .i64 (d : Nat)) rfl (by kernel_rfl) (by kernel_rfl) (by kernel_rfl) (fun _ _ _ h => h) (Or.inl ⟨by kernel_rfl, ?_⟩) hS ?_
  · intro w' hSw
    go_simp
  try simp only [Act.put, List.getElem_toArray, List.getElem_cons_succ, List.getElem_cons_zero, List.setIfInBounds_toArray, List.set_cons_zero, List.set_cons_succ]
  refine wpAnyH_ready (rs := [2]) (by kernel_rfl) (by simp) ?_
  refine AllReadyH.cons rfl (fun KN hK => ?_) AllReadyH.nil
  go_simp
  refine (sMarkC ⟨#[91]⟩ _).mono ?_
  rintro e wA0 ⟨rfl, hbA0⟩
  have hbB0 := hbd.trans (hbA0.mono hbd.size)
  clear hbA0
  refine hK.out _ _ (HKS.out _ hbB0) (fun hS => ?_)
  clear hK KN
  try simp only [Act.put, zzP]
  refine wpAnyH_ready (rs := [4]) (by kernel_rfl) (by simp) ?_
  refine AllReadyH.cons rfl (fun KN hK => ?_) AllReadyH.nil
  go_simp
  refine (sBoundC d hd _).mono ?_
  rintro e wA1 ⟨rfl, hbA1⟩
  have hbB1 := hbB0.trans (hbA1.mono hbB0.size)
  clear hbA1
  refine hK.out _ _ (HKS.out _ hbB1) (fun hS => ?_)
  clear hK KN
  try simp only [Act.put, zzP]
  refine wpAnyH_ready (rs := [5]) (by kernel_rfl) (by simp) ?_
  refine AllReadyH.cons rfl (fun KN hK => ?_) AllReadyH.nil
  go_simp
  refine (sMarkC ⟨#[93]⟩ _).mono ?_
  rintro e wA2 ⟨rfl, hbA2⟩
  have hbB2 := hbB1.trans (hbA2.mono hbB1.size)
  clear hbA2
  refine hK.out _ _ (HKS.out _ hbB2) (fun hS => ?_)
  clear hK KN
  try simp only [Act.put, zzP]
  refine wpAnyH_ready (rs := [6]) (by kernel_rfl) (by simp) ?_
  refine AllReadyH.cons rfl (fun KN hK => ?_) AllReadyH.nil
  go_simp
  obtain ⟨WB, hWB⟩ : ∃ WB, wA2.alloc (.cells #[.int .i64 1, .string ⟨#[91]⟩, .int .i64 0, .string (bnm d), .int .i64 1, .string ⟨#[93]⟩] 79) = WB := ⟨_, rfl⟩
  have hbC : Below W.heap.size W WB := by rw [← hWB]; exact hbB2.alloc hbB2.size _
  have hPB : WB.heap[wA2.heap.size]? = some (.cells (cellsT [mL, (0, bnm d), mR]).toArray 79 (0, 0)) := by rw [← hWB]; exact heap_alloc_new wA2 _
  try rw [hWB]
  clear hWB
  refine hK.out _ _ (HKS.out _ hbC) (fun hS => ?_)
  clear hK KN
  try simp only [Act.put, zzP]
  refine wpAnyH_done (by kernel_rfl) ?_ _
  show wpList _ _ _ _ _ _
  have HSB := Lib.hid (HS0.out.keep hbC)
  have HG := Lib.hid (sGatherC (ys := [mL, (0, bnm d), mR]) HSB.out.gs hPB (by simp) (by have := HL.out; simp only [List.length_cons, List.length_nil] at this ⊢; omega) 3 rfl)
  clear hPB hbC hS HKS hbd a1 hbB0 hbB1 hbB2
  go_wp2_with fail
  refine HG.out.mono ?_
  rintro e w1 hge
  obtain ⟨rfl, v1, hS1⟩ := HSB.out.go hge
  have HS1 := Lib.hid hS1
  clear HG HSB hge hS1 HS0
  go_wp2_with fail
  have a0 : w1.cell? ⟨w.heap.size, 0, none⟩ = some (.slice SA sn sc) := HS1.out.b3.cell 0
  have a1 : w1.cell? ⟨w.heap.size, 1, none⟩ = some (.func (.func 36) #[] #[.pointer (some ⟨X, 0, none⟩)]) := HS1.out.b3.cell 1
  have b2 : w1.cell? ⟨w.heap.size + 1, 2, none⟩ = some (.slice (some ⟨b, o, none⟩) 1 c) := HS1.out.b4.cell 2
  have p0 := (HS1.out.gs.below.cell (cell_lt y0)).trans y0
  have p1 := (HS1.out.gs.below.cell (cell_lt y1)).trans y1
  have p2 := (HS1.out.gs.below.cell (cell_lt y2)).trans y2
  have HKS : Hid (∀ w' : World, Below w1.heap.size w1 w' → (fun w' => w'.cell? ⟨w.heap.size, 0, none⟩ = some (.slice SA sn sc) ∧ w'.cell? ⟨w.heap.size, 1, none⟩ = some (.func (.func 36) #[] #[.pointer (some ⟨X, 0, none⟩)]) ∧ w'.cell? ⟨w.heap.size + 1, 2, none⟩ = some (.slice (some ⟨b, o, none⟩) 1 c) ∧ w'.cell? ⟨b, o, none⟩ = some (.int .i64 ky) ∧ w'.cell? ⟨b, o + 1, none⟩ = some (.int .i64 gy) ∧ w'.cell? ⟨b, o + 2, none⟩ = some (.slice Ay ny cy)) w') := Lib.hid fun w' h => ⟨(h.cell (cell_ltX a0)).trans a0, (h.cell (cell_ltX a1)).trans a1, (h.cell (cell_ltX b2)).trans b2, (h.cell (cell_ltX p0)).trans p0, (h.cell (cell_ltX p1)).trans p1, (h.cell (cell_ltX p2)).trans p2⟩
  have hbd : Below w1.heap.size w1 w1.drew := (Below.refl _ w1).drew
  have hS := HKS.out _ hbd
  refine wp_region_cutX rfl (by kernel_rfl) (by kernel_rfl) ?_
  refine wpAny_of_held (S := fun w' => w'.cell? ⟨w.heap.size, 0, none⟩ = some (.slice SA sn sc) ∧ w'.cell? ⟨w.heap.size, 1, none⟩ = some (.func (.func 36) #[] #[.pointer (some ⟨X, 0, none⟩)]) ∧ w'.cell? ⟨w.heap.size + 1, 2, none⟩ = some (.slice (some ⟨b, o, none⟩) 1 c) ∧ w'.cell? ⟨b, o, none⟩ = some (.int .i64 ky) ∧ w'.cell? ⟨b, o + 1, none⟩ = some (.int .i64 gy) ∧ w'.cell? ⟨b, o + 2, none⟩ = some (.slice Ay ny cy)) _ _ _ _ ?_
  simp only [List.pop_toArray, List.dropLast, List.size_toArray, List.length_cons, List.length_nil, Nat.reduceAdd, Nat.reduceSub]
  refine wpAnyH_take (i := 0) (v := .agg #[.slice SA sn sc, .func (.func 36) #[] #[.pointer (some ⟨X, 0, none⟩)]]) rfl (by kernel_rfl) (by kernel_rfl) (by kernel_rfl) (fun _ _ _ h => h) (Or.inl ⟨by kernel_rfl, ?_⟩) hS ?_
  · intro w' hSw
    obtain ⟨s0, s1, s2, s3, s4, s5⟩ := hSw
    go_simp
  try simp only [Act.put, List.getElem_toArray, List.getElem_cons_succ, List.getElem_cons_zero, List.setIfInBounds_toArray, List.set_cons_zero, List.set_cons_succ]
  refine wpAnyH_take (i := 1) (v := .pointer (some ⟨w.heap.size + 1, 2, none⟩)) rfl (by kernel_rfl) (by kernel_rfl) (by kernel_rfl) (fun _ _ _ h => h) (Or.inl ⟨by kernel_rfl, ?_⟩) hS ?_
  · intro w' hSw
    obtain ⟨s0, s1, s2, s3, s4, s5⟩ := hSw
    go_simp
  try simp only [Act.put, List.getElem_toArray, List.getElem_cons_succ, List.getElem_cons_zero, List.setIfInBounds_toArray, List.set_cons_zero, List.set_cons_succ]
  refine wpAnyH_take (i := 2) (v := .slice (some ⟨b, o, none⟩) 1 c) rfl (by kernel_rfl) (by kernel_rfl) (by kernel_rfl) (fun _ _ _ h => h) (Or.inl ⟨by kernel_rfl, ?_⟩) hS ?_
  · intro w' hSw
    obtain ⟨s0, s1, s2, s3, s4, s5⟩ := hSw
    go_simp
  try simp only [Act.put, List.getElem_toArray, List.getElem_cons_succ, List.getElem_cons_zero, List.setIfInBounds_toArray, List.set_cons_zero, List.set_cons_succ]
  refine wpAnyH_take (i := 3) (v := .pointer (some ⟨b, o, none⟩)) rfl (by kernel_rfl) (by kernel_rfl) (by kernel_rfl) (fun _ _ _ h => h) (Or.inl ⟨by kernel_rfl, ?_⟩) hS ?_
  · intro w' hSw
    obtain ⟨s0, s1, s2, s3, s4, s5⟩ := hSw
    go_simp
  try simp only [Act.put, List.getElem_toArray, List.getElem_cons_succ, List.getElem_cons_zero, List.setIfInBounds_toArray, List.set_cons_zero, List.set_cons_succ]
  refine wpAnyH_take (i := 4) (v := .agg #[.int .i64 ky, .int .i64 gy, .slice Ay ny cy]) rfl (by kernel_rfl) (by kernel_rfl) (by kernel_rfl) (fun _ _ _ h => h) (Or.inl ⟨by kernel_rfl, ?_⟩) hS ?_
  · intro w' hSw
    obtain ⟨s0, s1, s2, s3, s4, s5⟩ := hSw
    go_simp
  try simp only [Act.put, List.getElem_toArray, List.getElem_cons_succ, List.getElem_cons_zero, List.setIfInBounds_toArray, List.set_cons_zero, List.set_cons_succ]
  refine wpAnyH_take (i := 5) (v := .int .i64 (d : Nat)) rfl (by kernel_rfl) (by kernel_rfl) (by kernel_rfl) (fun _ _ _ h => h) (Or.inl ⟨by kernel_rfl, ?_⟩) hS ?_
  · intro w' hSw
    obtain ⟨s0, s1, s2, s3, s4, s5⟩ := hSw
    go_simp
  try simp only [Act.put, List.getElem_toArray, List.getElem_cons_succ, List.getElem_cons_zero, List.setIfInBounds_toArray, List.set_cons_zero, List.set_cons_succ]
  refine wpAnyH_take (i := 6) (v := .int .i64 ((d : Int) + 1)) rfl (by kernel_rfl) (by kernel_rfl) (by kernel_rfl) (fun _ _ _ h => h) (Or.inl ⟨by kernel_rfl, ?_⟩) hS ?_
  · intro w' hSw
    obtain ⟨s0, s1, s2, s3, s4, s5⟩ := hSw
    go_simp
  try simp only [Act.put, List.getElem_toArray, List.getElem_cons_succ, List.getElem_cons_zero, List.setIfInBounds_toArray, List.set_cons_zero, List.set_cons_succ]
  refine wpAnyH_done (by kernel_rfl) ?_ _
  show wpList _ _ _ _ _ _
  have HSB := Lib.hid (HS1.out.keep hbd)
  have hG := iha (d + 1) _ _ _ _ hwa HSB.out.gs yr (by have := HL.out; simp only [List.length_append, List.length_cons, List.length_nil] at this ⊢; omega)
  rw [show ((d + 1 : Nat) : Int) = (d : Int) + 1 by omega] at hG
  have HG := Lib.hid hG
  clear hG
  clear hS HKS hbd a0 a1 b2 p0 p1 p2
  go_wp2_with fail
  refine HG.out.mono ?_
  rintro e w2 hge
  obtain ⟨rfl, v2, hS2⟩ := HSB.out.go hge
  have HS2 := Lib.hid hS2
  clear HG HSB hge hS2 HS1
  go_wp2_with fail
  refine bodyPost_ret (results_none rfl _ _ _) rfl ?_
  exact HS2.out.fin (by rw [sh_lam]; simp)
end Go.Proofs.YtmkahbbcagfbhaaGreatDoor
/-
  Contracts of package show's term at a Var, Fam or Const, of arg, and of both for all terms; of Term. No statement is proved here.
-/
namespace Go.Proofs.YtmkahbbcagfbhaaGreatDoor
open Go.ChangeShapes Go.WideShapes Go.ChangeAt Go.RowKit
set_option linter.unusedVariables false
variable {ds : List (ByteArray × T)} {SA : Option Addr} {sn sc : Nat} {w0 : World} {X : Nat}
theorem argS_alone {nm : Int → ByteArray} {d : Nat} {x : T} (h : aloB x = true) : argS nm d x = shT nm x d := if_pos h
theorem argS_par {nm : Int → ByteArray} {d : Nat} {x : T} (h : aloB x = false) : argS nm d x = mO :: (shT nm x d ++ [mC]) := if_neg (by rw [h]; decide)
theorem len_take {α : Type} {f : T → List α} {xs : List T} {j : Nat} {t : T} (ht : xs[j]? = some t) : ((xs.take j).flatMap f).length + (f t).length ≤ (xs.flatMap f).length := by
  have e : xs = xs.take j ++ t :: xs.drop (j + 1) := by rw [← drop_at ht]; exact (List.take_append_drop j xs).symm
  have := congrArg (fun l : List T => (l.flatMap f).length) e
  simp only [List.flatMap_append, List.flatMap_cons, List.length_append] at this
  omega
theorem take_one {α : Type} {f : T → List α} {xs : List T} {j : Nat} {t : T} (ht : xs[j]? = some t) : (xs.take (j + 1)).flatMap f = (xs.take j).flatMap f ++ f t := by
  rw [List.take_add_one, ht]
  simp
set_option maxRecDepth 100000 in
set_option maxHeartbeats 4000000 in
theorem sTermHead {k h : Int} {xs : List T} (HD : Hid (DS w0 ds SA sn sc)) (hI : ∀ t ∈ xs, ArS ds SA sn sc w0 X t) (d : Nat) (x : List Tk) (v0 : Value) (tv : Value) (w : World) (hw : Wr_ ds.length d (.node k h xs)) (h0 : k ≠ 0) (h1 : k ≠ 1) (h3 : k ≠ 3) (hg : GS w0 X x w v0) (hv : Rd w0 (.node k h xs) tv) (hl : x.length + (shT (nmD ds) (.node k h xs) d).length ≤ 1000000) :
    Calls Tryz.prog 37 #[.agg #[.slice SA sn sc, .func (.func 36) #[] #[.pointer (some ⟨X, 0, none⟩)]], tv, .int .i64 (d : Nat)] w (GE w0 X (x ++ shT (nmD ds) (.node k h xs) d) w v0) := by
  have hv' := hv
  obtain ⟨A, n, c, rfl, _, _, hn, hc, hcm, hx⟩ := Rd_node.1 hv
  rw [sh_head _ _ _ _ h0 h1 h3] at hl
  have HL := Lib.hid hl
  have HN := Lib.hid hn
  have HX := Lib.hid hx
  have HI := Lib.hid hI
  have HW := Lib.hid (hw.args h1 h3)
  unfold maxLen at hcm
  have e0 : (k == 0) = false := by simpa using h0
  have e1 : (k == 1) = false := by simpa using h1
  have e3 : (k == 3) = false := by simpa using h3
  clear hl hn hx hI hv'
  obtain ⟨W, hW⟩ : ∃ W, (w.alloc (.cells #[.slice SA sn sc, .func (.func 36) #[] #[.pointer (some ⟨X, 0, none⟩)]] 69)).alloc (.cells #[.int .i64 k, .int .i64 h, .slice A n c] 36) = W := ⟨_, rfl⟩
  have HS0 := Lib.hid (show WS w0 X w v0 (w.heap.size) (w.heap.size + 1) #[.slice SA sn sc, .func (.func 36) #[] #[.pointer (some ⟨X, 0, none⟩)]] #[.int .i64 k, .int .i64 h, .slice A n c] (x) W v0 by rw [← hW]; exact WS.start (ty3 := .cells #[] 36) hg _ _)
  clear hg
  have a0 : W.cell? ⟨w.heap.size, 0, none⟩ = some (.slice SA sn sc) := HS0.out.b3.cell 0
  have a1 : W.cell? ⟨w.heap.size, 1, none⟩ = some (.func (.func 36) #[] #[.pointer (some ⟨X, 0, none⟩)]) := HS0.out.b3.cell 1
  have b0 : W.cell? ⟨w.heap.size + 1, 0, none⟩ = some (.int .i64 k) := HS0.out.b4.cell 0
  have b1 : W.cell? ⟨w.heap.size + 1, 1, none⟩ = some (.int .i64 h) := HS0.out.b4.cell 1
  have b2 : W.cell? ⟨w.heap.size + 1, 2, none⟩ = some (.slice A n c) := HS0.out.b4.cell 2
  go_enter Tryz.func37, Tryz.ntmps37
  go_wp2_with fail
  try rw [hW]
  clear hW a0 a1 b0 b1 b2
  have a0 : W.cell? ⟨w.heap.size, 0, none⟩ = some (.slice SA sn sc) := HS0.out.b3.cell 0
  have b0 : W.cell? ⟨w.heap.size + 1, 0, none⟩ = some (.int .i64 k) := HS0.out.b4.cell 0
  have b1 : W.cell? ⟨w.heap.size + 1, 1, none⟩ = some (.int .i64 h) := HS0.out.b4.cell 1
  have b2 : W.cell? ⟨w.heap.size + 1, 2, none⟩ = some (.slice A n c) := HS0.out.b4.cell 2
  have a1 : W.cell? ⟨w.heap.size, 1, none⟩ = some (.func (.func 36) #[] #[.pointer (some ⟨X, 0, none⟩)]) := HS0.out.b3.cell 1
  have HKS : Hid (∀ w' : World, Below W.heap.size W w' → (fun w' => w'.cell? ⟨w.heap.size, 1, none⟩ = some (.func (.func 36) #[] #[.pointer (some ⟨X, 0, none⟩)]) ∧ w'.cell? ⟨w.heap.size, 0, none⟩ = some (.slice SA sn sc) ∧ w'.cell? ⟨w.heap.size + 1, 0, none⟩ = some (.int .i64 k) ∧ w'.cell? ⟨w.heap.size + 1, 1, none⟩ = some (.int .i64 h) ∧ w'.cell? ⟨w.heap.size + 1, 2, none⟩ = some (.slice A n c)) w') := Lib.hid fun w' h => ⟨(h.cell (cell_ltX a1)).trans a1, (h.cell (cell_ltX a0)).trans a0, (h.cell (cell_ltX b0)).trans b0, (h.cell (cell_ltX b1)).trans b1, (h.cell (cell_ltX b2)).trans b2⟩
  have hbd : Below W.heap.size W W.drew := (Below.refl _ W).drew
  have hS := HKS.out _ hbd
  refine wp_region_cutX rfl (by kernel_rfl) (by kernel_rfl) ?_
  refine wpAny_of_held (S := fun w' => w'.cell? ⟨w.heap.size, 1, none⟩ = some (.func (.func 36) #[] #[.pointer (some ⟨X, 0, none⟩)]) ∧ w'.cell? ⟨w.heap.size, 0, none⟩ = some (.slice SA sn sc) ∧ w'.cell? ⟨w.heap.size + 1, 0, none⟩ = some (.int .i64 k) ∧ w'.cell? ⟨w.heap.size + 1, 1, none⟩ = some (.int .i64 h) ∧ w'.cell? ⟨w.heap.size + 1, 2, none⟩ = some (.slice A n c)) _ _ _ _ ?_
  simp only [List.pop_toArray, List.dropLast, List.size_toArray, List.length_cons, List.length_nil, Nat.reduceAdd, Nat.reduceSub]
  refine wpAnyH_take (i := 0) (v := .pointer (some ⟨w.heap.size, 1, none⟩)) rfl (by kernel_rfl) (by kernel_rfl) (by kernel_rfl) (fun _ _ _ h => h) (Or.inl ⟨by kernel_rfl, ?_⟩) hS ?_
  · intro w' hSw
    obtain ⟨s0, s1, s2, s3, s4⟩ := hSw
    go_simp
  try simp only [Act.put, List.getElem_toArray, List.getElem_cons_succ, List.getElem_cons_zero, List.setIfInBounds_toArray, List.set_cons_zero, List.set_cons_succ]
  refine wpAnyH_take (i := 1) (v := .func (.func 36) #[] #[.pointer (some ⟨X, 0, none⟩)]) rfl (by kernel_rfl) (by kernel_rfl) (by kernel_rfl) (fun _ _ _ h => h) (Or.inl ⟨by kernel_rfl, ?_⟩) hS ?_
  · intro w' hSw
    obtain ⟨s0, s1, s2, s3, s4⟩ := hSw
    go_simp
  try simp only [Act.put, List.getElem_toArray, List.getElem_cons_succ, List.getElem_cons_zero, List.setIfInBounds_toArray, List.set_cons_zero, List.set_cons_succ]
  refine wpAnyH_take (i := 2) (v := .agg #[.slice SA sn sc, .func (.func 36) #[] #[.pointer (some ⟨X, 0, none⟩)]]) rfl (by kernel_rfl) (by kernel_rfl) (by kernel_rfl) (fun _ _ _ h => h) (Or.inl ⟨by kernel_rfl, ?_⟩) hS ?_
  · intro w' hSw
    obtain ⟨s0, s1, s2, s3, s4⟩ := hSw
    go_simp
  try simp only [Act.put, List.getElem_toArray, List.getElem_cons_succ, List.getElem_cons_zero, List.setIfInBounds_toArray, List.set_cons_zero, List.set_cons_succ]
  refine wpAnyH_take (i := 3) (v := .agg #[.int .i64 k, .int .i64 h, .slice A n c]) rfl (by kernel_rfl) (by kernel_rfl) (by kernel_rfl) (fun _ _ _ h => h) (Or.inl ⟨by kernel_rfl, ?_⟩) hS ?_
  · intro w' hSw
    obtain ⟨s0, s1, s2, s3, s4⟩ := hSw
    go_simp
  try simp only [Act.put, List.getElem_toArray, List.getElem_cons_succ, List.getElem_cons_zero, List.setIfInBounds_toArray, List.set_cons_zero, List.set_cons_succ]
  refine wpAnyH_take (i := 4) (v := .int .i64 (d : Nat)) rfl (by kernel_rfl) (by kernel_rfl) (by kernel_rfl) (fun _ _ _ h => h) (Or.inl ⟨by kernel_rfl, ?_⟩) hS ?_
  · intro w' hSw
    obtain ⟨s0, s1, s2, s3, s4⟩ := hSw
    go_simp
  try simp only [Act.put, List.getElem_toArray, List.getElem_cons_succ, List.getElem_cons_zero, List.setIfInBounds_toArray, List.set_cons_zero, List.set_cons_succ]
  refine wpAnyH_ready (rs := [5]) (by kernel_rfl) (by simp) ?_
  refine AllReadyH.cons rfl (fun KN hK => ?_) AllReadyH.nil
  go_simp
  refine (sHeadC (HD.out.keep (HS0.out.keep hbd).gs.below) hw h0 h1 h3 (Rd.keep (HS0.out.keep hbd).gs.below _ _ hv)).mono ?_
  rintro e wA0 ⟨rfl, hbA0⟩
  have hbB0 := hbd.trans (hbA0.mono hbd.size)
  clear hbA0
  refine hK.out _ _ (HKS.out _ hbB0) (fun hS => ?_)
  clear hK KN
  try simp only [Act.put, zzP]
  refine wpAnyH_ready (rs := [6]) (by kernel_rfl) (by simp) ?_
  refine AllReadyH.cons rfl (fun KN hK => ?_) AllReadyH.nil
  go_simp
  obtain ⟨WB, hWB⟩ : ∃ WB, wA0.alloc (.cells #[.int .i64 0, .string (hdS (nmD ds) k h d)] 79) = WB := ⟨_, rfl⟩
  have hbC : Below W.heap.size W WB := by rw [← hWB]; exact hbB0.alloc hbB0.size _
  have hPB : WB.heap[wA0.heap.size]? = some (.cells (cellsT [(0, hdS (nmD ds) k h d)]).toArray 79 (0, 0)) := by rw [← hWB]; exact heap_alloc_new wA0 _
  try rw [hWB]
  clear hWB
  refine hK.out _ _ (HKS.out _ hbC) (fun hS => ?_)
  clear hK KN
  try simp only [Act.put, zzP]
  refine wpAnyH_done (by kernel_rfl) ?_ _
  show wpList _ _ _ _ _ _
  have HSB := Lib.hid (HS0.out.keep hbC)
  have HG := Lib.hid (sGatherC (ys := [(0, hdS (nmD ds) k h d)]) HSB.out.gs hPB (by simp) (by have := HL.out; simp only [List.length_cons, List.length_nil] at this ⊢; omega) 1 rfl)
  clear hPB hbC hS HKS hbd a1 hbB0
  clear a0 b0 b1 b2
  go_wp2_with fail
  refine HG.out.mono ?_
  rintro e w1 hge
  obtain ⟨rfl, v1, hS1⟩ := HSB.out.go hge
  have HS1 := Lib.hid hS1
  clear HG HSB hge hS1 HS0
  have b2 : w1.cell? ⟨w.heap.size + 1, 2, none⟩ = some (.slice A n c) := HS1.out.b4.cell 2
  go_wp2_with fail
  clear b2
  go_loopw [21] (fun i wr => ∃ (j : Nat) (vr : Value), j ≤ n ∧ i = .int .i64 j ∧ Hid (WS w0 X w v0 (w.heap.size) (w.heap.size + 1) #[.slice SA sn sc, .func (.func 36) #[] #[.pointer (some ⟨X, 0, none⟩)]] #[.int .i64 k, .int .i64 h, .slice A n c] (x ++ [(0, hdS (nmD ds) k h d)] ++ (xs.take j).flatMap (argS (nmD ds) d)) wr vr)) (fun i _ => n - (intOf i).toNat)
  case atStart => exact ⟨0, _, Nat.zero_le _, rfl, Lib.hid (by simpa using HS1.out)⟩
  case round =>
    clear HS1
    obtain ⟨j, vr, hj, rfl, HS⟩ := hrel
    by_cases hlt : j < n
    · obtain ⟨t, ht⟩ := at_of HN.out hlt
      obtain ⟨b, o, k2, h2, A2, n2, c2, rfl, y0, y1, y2, yr⟩ := (HX.out j t ht).full
      have p0 := (HS.out.gs.below.cell (cell_lt y0)).trans y0
      have p1 := (HS.out.gs.below.cell (cell_lt y1)).trans y1
      have p2 := (HS.out.gs.below.cell (cell_lt y2)).trans y2
      have hi0 : (0 : Int) ≤ j := by omega
      have hi1 : (j : Int) < n := by omega
      obtain ⟨W7, hW7⟩ : ∃ W7, wr.alloc (.cells #[.int .i64 k2, .int .i64 h2, .slice A2 n2 c2] 36) = W7 := ⟨_, rfl⟩
      have hb7 : Below wr.heap.size wr W7 := by rw [← hW7]; exact (Below.refl _ _).alloc (Nat.le_refl _) _
      have x7 : BoxX W7 wr.heap.size 36 #[.int .i64 k2, .int .i64 h2, .slice A2 n2 c2] := by rw [← hW7]; exact BoxX.new _ _ _
      have q0 : W7.cell? ⟨wr.heap.size, 0, none⟩ = some (.int .i64 k2) := x7.cell 0
      have q1 : W7.cell? ⟨wr.heap.size, 1, none⟩ = some (.int .i64 h2) := x7.cell 1
      have q2 : W7.cell? ⟨wr.heap.size, 2, none⟩ = some (.slice A2 n2 c2) := x7.cell 2
      have HS7 := Lib.hid (HS.out.keep hb7)
      have a0 : W7.cell? ⟨w.heap.size, 0, none⟩ = some (.slice SA sn sc) := HS7.out.b3.cell 0
      have a1 : W7.cell? ⟨w.heap.size, 1, none⟩ = some (.func (.func 36) #[] #[.pointer (some ⟨X, 0, none⟩)]) := HS7.out.b3.cell 1
      have HG := Lib.hid (HI.out t (List.mem_of_getElem? ht) d _ _ _ W7 (HW.out t (List.mem_of_getElem? ht)) HS7.out.gs yr (by
        have h5 := HL.out
        have h6 := len_take (f := argS (nmD ds) d) ht
        simp only [List.length_append, List.length_cons, List.length_nil] at h5 ⊢
        omega))
      have HT := Lib.hid ht
      clear y0 y1 y2 yr ht x7 hb7 HS
      go_wp2_with fail
      refine HG.out.mono ?_
      rintro e w8 hge
      obtain ⟨rfl, v8, hS8⟩ := HS7.out.go hge
      have HS8 := Lib.hid hS8
      clear HG HS7 hge hS8 p0 p1 p2 q0 q1 q2 a0 a1 hW7
      go_wp2_with fail
      go_roundw
      case rel => exact ⟨j + 1, v8, by omega, by go_num, Lib.hid (by rw [take_one HT.out, ← List.append_assoc]; exact HS8.out)⟩
      case measure => simp [intOf]; omega
    · go_wp2_with fail
      refine bodyPost_ret (results_none rfl _ _ _) rfl ?_
      exact HS.out.fin (by rw [sh_head _ _ _ _ h0 h1 h3, List.take_of_length_le (by have := HN.out; omega)]; simp)
set_option maxRecDepth 100000 in
set_option maxHeartbeats 4000000 in
theorem sArgA {k h : Int} {xs : List T} (HD : Hid (DS w0 ds SA sn sc)) (d : Nat) (x : List Tk) (v0 : Value) (tv : Value) (w : World) (hw : Wr_ ds.length d (.node k h xs)) (hal : aloB (.node k h xs) = true) (hg : GS w0 X x w v0) (hv : Rd w0 (.node k h xs) tv) (hl : x.length + (argS (nmD ds) d (.node k h xs)).length ≤ 1000000) :
    Calls Tryz.prog 60 #[.agg #[.slice SA sn sc, .func (.func 36) #[] #[.pointer (some ⟨X, 0, none⟩)]], tv, .int .i64 (d : Nat)] w (GE w0 X (x ++ argS (nmD ds) d (.node k h xs)) w v0) := by
  have e0 := hal
  rw [aloB, Bool.and_eq_true, List.isEmpty_iff, Bool.not_eq_true', beq_eq_false_iff_ne] at e0
  obtain ⟨rfl, h0⟩ := e0
  have hc' := hw.cases
  have h1 : k ≠ 1 := by
    rintro rfl
    rcases hc' with ⟨e, _⟩ | ⟨_, _, _, _, e⟩ | ⟨e, _⟩ | ⟨e, _⟩ | ⟨e | e, _⟩ <;> cases e
  have h3 : k ≠ 3 := by
    rintro rfl
    rcases hc' with ⟨e, _⟩ | ⟨e, _⟩ | ⟨_, _, _, e⟩ | ⟨e, _⟩ | ⟨e | e, _⟩ <;> cases e
  rw [argS_alone hal, sh_bare _ _ _ h0 h1 h3] at hl
  clear hc'
  have hv' := hv
  obtain ⟨A, n, c, rfl, _, _, hn, hc, hcm, hx⟩ := Rd_node.1 hv
  have HL := Lib.hid hl
  have HAL := Lib.hid hal
  clear hl hn hx hal hv'
  obtain ⟨W, hW⟩ : ∃ W, (w.alloc (.cells #[.slice SA sn sc, .func (.func 36) #[] #[.pointer (some ⟨X, 0, none⟩)]] 69)).alloc (.cells #[.int .i64 k, .int .i64 h, .slice A n c] 36) = W := ⟨_, rfl⟩
  have HS0 := Lib.hid (show WS w0 X w v0 (w.heap.size) (w.heap.size + 1) #[.slice SA sn sc, .func (.func 36) #[] #[.pointer (some ⟨X, 0, none⟩)]] #[.int .i64 k, .int .i64 h, .slice A n c] (x) W v0 by rw [← hW]; exact WS.start (ty3 := .cells #[] 36) hg _ _)
  clear hg
  have a0 : W.cell? ⟨w.heap.size, 0, none⟩ = some (.slice SA sn sc) := HS0.out.b3.cell 0
  have a1 : W.cell? ⟨w.heap.size, 1, none⟩ = some (.func (.func 36) #[] #[.pointer (some ⟨X, 0, none⟩)]) := HS0.out.b3.cell 1
  have b0 : W.cell? ⟨w.heap.size + 1, 0, none⟩ = some (.int .i64 k) := HS0.out.b4.cell 0
  have b1 : W.cell? ⟨w.heap.size + 1, 1, none⟩ = some (.int .i64 h) := HS0.out.b4.cell 1
  have b2 : W.cell? ⟨w.heap.size + 1, 2, none⟩ = some (.slice A n c) := HS0.out.b4.cell 2
  go_enter Tryz.func60, Tryz.ntmps60
  have HC := Lib.hid (sAloneC _ _ W (Rd.keep HS0.out.gs.below _ _ hv))
  rw [HAL.out] at HC
  go_wp2_with fail
  refine HC.out.mono ?_
  rintro e wb ⟨rfl, hb1⟩
  have HSb := Lib.hid (HS0.out.keep hb1)
  clear HC HS0 hb1 hW a0 a1 b0 b1 b2
  go_wp2_with fail
  have a0 : wb.cell? ⟨w.heap.size, 0, none⟩ = some (.slice SA sn sc) := HSb.out.b3.cell 0
  have b0 : wb.cell? ⟨w.heap.size + 1, 0, none⟩ = some (.int .i64 k) := HSb.out.b4.cell 0
  have b1 : wb.cell? ⟨w.heap.size + 1, 1, none⟩ = some (.int .i64 h) := HSb.out.b4.cell 1
  have b2 : wb.cell? ⟨w.heap.size + 1, 2, none⟩ = some (.slice A n c) := HSb.out.b4.cell 2
  have a1 : wb.cell? ⟨w.heap.size, 1, none⟩ = some (.func (.func 36) #[] #[.pointer (some ⟨X, 0, none⟩)]) := HSb.out.b3.cell 1
  have HKS : Hid (∀ w' : World, Below wb.heap.size wb w' → (fun w' => w'.cell? ⟨w.heap.size, 1, none⟩ = some (.func (.func 36) #[] #[.pointer (some ⟨X, 0, none⟩)]) ∧ w'.cell? ⟨w.heap.size, 0, none⟩ = some (.slice SA sn sc) ∧ w'.cell? ⟨w.heap.size + 1, 0, none⟩ = some (.int .i64 k) ∧ w'.cell? ⟨w.heap.size + 1, 1, none⟩ = some (.int .i64 h) ∧ w'.cell? ⟨w.heap.size + 1, 2, none⟩ = some (.slice A n c)) w') := Lib.hid fun w' h => ⟨(h.cell (cell_ltX a1)).trans a1, (h.cell (cell_ltX a0)).trans a0, (h.cell (cell_ltX b0)).trans b0, (h.cell (cell_ltX b1)).trans b1, (h.cell (cell_ltX b2)).trans b2⟩
  have hbd : Below wb.heap.size wb wb.drew := (Below.refl _ wb).drew
  have hS := HKS.out _ hbd
  refine wp_region_cutX rfl (by kernel_rfl) (by kernel_rfl) ?_
  refine wpAny_of_held (S := fun w' => w'.cell? ⟨w.heap.size, 1, none⟩ = some (.func (.func 36) #[] #[.pointer (some ⟨X, 0, none⟩)]) ∧ w'.cell? ⟨w.heap.size, 0, none⟩ = some (.slice SA sn sc) ∧ w'.cell? ⟨w.heap.size + 1, 0, none⟩ = some (.int .i64 k) ∧ w'.cell? ⟨w.heap.size + 1, 1, none⟩ = some (.int .i64 h) ∧ w'.cell? ⟨w.heap.size + 1, 2, none⟩ = some (.slice A n c)) _ _ _ _ ?_
  simp only [List.pop_toArray, List.dropLast, List.size_toArray, List.length_cons, List.length_nil, Nat.reduceAdd, Nat.reduceSub]
  refine wpAnyH_take (i := 0) (v := .pointer (some ⟨w.heap.size, 1, none⟩)) rfl (by kernel_rfl) (by kernel_rfl) (by kernel_rfl) (fun _ _ _ h => h) (Or.inl ⟨by kernel_rfl, ?_⟩) hS ?_
  · intro w' hSw
    obtain ⟨s0, s1, s2, s3, s4⟩ := hSw
    go_simp
  try simp only [Act.put, List.getElem_toArray, List.getElem_cons_succ, List.getElem_cons_zero, List.setIfInBounds_toArray, List.set_cons_zero, List.set_cons_succ]
  refine wpAnyH_take (i := 1) (v := .func (.func 36) #[] #[.pointer (some ⟨X, 0, none⟩)]) rfl (by kernel_rfl) (by kernel_rfl) (by kernel_rfl) (fun _ _ _ h => h) (Or.inl ⟨by kernel_rfl, ?_⟩) hS ?_
  · intro w' hSw
    obtain ⟨s0, s1, s2, s3, s4⟩ := hSw
    go_simp
  try simp only [Act.put, List.getElem_toArray, List.getElem_cons_succ, List.getElem_cons_zero, List.setIfInBounds_toArray, List.set_cons_zero, List.set_cons_succ]
  refine wpAnyH_take (i := 2) (v := .agg #[.slice SA sn sc, .func (.func 36) #[] #[.pointer (some ⟨X, 0, none⟩)]]) rfl (by kernel_rfl) (by kernel_rfl) (by kernel_rfl) (fun _ _ _ h => h) (Or.inl ⟨by kernel_rfl, ?_⟩) hS ?_
  · intro w' hSw
    obtain ⟨s0, s1, s2, s3, s4⟩ := hSw
    go_simp
  try simp only [Act.put, List.getElem_toArray, List.getElem_cons_succ, List.getElem_cons_zero, List.setIfInBounds_toArray, List.set_cons_zero, List.set_cons_succ]
  refine wpAnyH_take (i := 3) (v := .agg #[.int .i64 k, .int .i64 h, .slice A n c]) rfl (by kernel_rfl) (by kernel_rfl) (by kernel_rfl) (fun _ _ _ h => h) (Or.inl ⟨by kernel_rfl, ?_⟩) hS ?_
  · intro w' hSw
    obtain ⟨s0, s1, s2, s3, s4⟩ := hSw
    go_simp
  try simp only [Act.put, List.getElem_toArray, List.getElem_cons_succ, List.getElem_cons_zero, List.setIfInBounds_toArray, List.set_cons_zero, List.set_cons_succ]
  refine wpAnyH_take (i := 4) (v := .int .i64 (d : Nat)) rfl (by kernel_rfl) (by kernel_rfl) (by kernel_rfl) (fun _ _ _ h => h) (Or.inl ⟨by kernel_rfl, ?_⟩) hS ?_
  · intro w' hSw
    obtain ⟨s0, s1, s2, s3, s4⟩ := hSw
    go_simp
  try simp only [Act.put, List.getElem_toArray, List.getElem_cons_succ, List.getElem_cons_zero, List.setIfInBounds_toArray, List.set_cons_zero, List.set_cons_succ]
  refine wpAnyH_ready (rs := [5]) (by kernel_rfl) (by simp) ?_
  refine AllReadyH.cons rfl (fun KN hK => ?_) AllReadyH.nil
  go_simp
  refine (sHeadC (HD.out.keep (HSb.out.keep hbd).gs.below) hw h0 h1 h3 (Rd.keep (HSb.out.keep hbd).gs.below _ _ hv)).mono ?_
  rintro e wA0 ⟨rfl, hbA0⟩
  have hbB0 := hbd.trans (hbA0.mono hbd.size)
  clear hbA0
  refine hK.out _ _ (HKS.out _ hbB0) (fun hS => ?_)
  clear hK KN
  try simp only [Act.put, zzP]
  refine wpAnyH_ready (rs := [6]) (by kernel_rfl) (by simp) ?_
  refine AllReadyH.cons rfl (fun KN hK => ?_) AllReadyH.nil
  go_simp
  obtain ⟨WB, hWB⟩ : ∃ WB, wA0.alloc (.cells #[.int .i64 0, .string (hdS (nmD ds) k h d)] 79) = WB := ⟨_, rfl⟩
  have hbC : Below wb.heap.size wb WB := by rw [← hWB]; exact hbB0.alloc hbB0.size _
  have hPB : WB.heap[wA0.heap.size]? = some (.cells (cellsT [(0, hdS (nmD ds) k h d)]).toArray 79 (0, 0)) := by rw [← hWB]; exact heap_alloc_new wA0 _
  try rw [hWB]
  clear hWB
  refine hK.out _ _ (HKS.out _ hbC) (fun hS => ?_)
  clear hK KN
  try simp only [Act.put, zzP]
  refine wpAnyH_done (by kernel_rfl) ?_ _
  show wpList _ _ _ _ _ _
  have HSB := Lib.hid (HSb.out.keep hbC)
  have HG := Lib.hid (sGatherC (ys := [(0, hdS (nmD ds) k h d)]) HSB.out.gs hPB (by simp) (by have := HL.out; simp only [List.length_cons, List.length_nil] at this ⊢; omega) 1 rfl)
  clear hPB hbC hS HKS hbd a1 hbB0
  clear a0 b0 b1 b2
  go_wp2_with fail
  refine HG.out.mono ?_
  rintro e w1 hge
  obtain ⟨rfl, v1, hS1⟩ := HSB.out.go hge
  have HS1 := Lib.hid hS1
  clear HG HSB hge hS1 HSb
  go_wp2_with fail
  refine bodyPost_ret (results_none rfl _ _ _) rfl ?_
  exact HS1.out.fin (by rw [argS_alone HAL.out, sh_bare _ _ _ h0 h1 h3])
set_option maxRecDepth 100000 in
set_option maxHeartbeats 4000000 in
theorem sArgP {k h : Int} {xs : List T} (iht : TmS ds SA sn sc w0 X (.node k h xs)) (d : Nat) (x : List Tk) (v0 : Value) (tv : Value) (w : World) (hw : Wr_ ds.length d (.node k h xs)) (hal : aloB (.node k h xs) = false) (hg : GS w0 X x w v0) (hv : Rd w0 (.node k h xs) tv) (hl : x.length + (argS (nmD ds) d (.node k h xs)).length ≤ 1000000) :
    Calls Tryz.prog 60 #[.agg #[.slice SA sn sc, .func (.func 36) #[] #[.pointer (some ⟨X, 0, none⟩)]], tv, .int .i64 (d : Nat)] w (GE w0 X (x ++ argS (nmD ds) d (.node k h xs)) w v0) := by
  rw [argS_par hal] at hl
  have hv' := hv
  obtain ⟨A, n, c, rfl, _, _, hn, hc, hcm, hx⟩ := Rd_node.1 hv
  have HL := Lib.hid hl
  have HAL := Lib.hid hal
  clear hl hn hx hal hv'
  obtain ⟨W, hW⟩ : ∃ W, (w.alloc (.cells #[.slice SA sn sc, .func (.func 36) #[] #[.pointer (some ⟨X, 0, none⟩)]] 69)).alloc (.cells #[.int .i64 k, .int .i64 h, .slice A n c] 36) = W := ⟨_, rfl⟩
  have HS0 := Lib.hid (show WS w0 X w v0 (w.heap.size) (w.heap.size + 1) #[.slice SA sn sc, .func (.func 36) #[] #[.pointer (some ⟨X, 0, none⟩)]] #[.int .i64 k, .int .i64 h, .slice A n c] (x) W v0 by rw [← hW]; exact WS.start (ty3 := .cells #[] 36) hg _ _)
  clear hg
  have a0 : W.cell? ⟨w.heap.size, 0, none⟩ = some (.slice SA sn sc) := HS0.out.b3.cell 0
  have a1 : W.cell? ⟨w.heap.size, 1, none⟩ = some (.func (.func 36) #[] #[.pointer (some ⟨X, 0, none⟩)]) := HS0.out.b3.cell 1
  have b0 : W.cell? ⟨w.heap.size + 1, 0, none⟩ = some (.int .i64 k) := HS0.out.b4.cell 0
  have b1 : W.cell? ⟨w.heap.size + 1, 1, none⟩ = some (.int .i64 h) := HS0.out.b4.cell 1
  have b2 : W.cell? ⟨w.heap.size + 1, 2, none⟩ = some (.slice A n c) := HS0.out.b4.cell 2
  go_enter Tryz.func60, Tryz.ntmps60
  have HC := Lib.hid (sAloneC _ _ W (Rd.keep HS0.out.gs.below _ _ hv))
  rw [HAL.out] at HC
  go_wp2_with fail
  refine HC.out.mono ?_
  rintro e wb ⟨rfl, hb1⟩
  have HSb := Lib.hid (HS0.out.keep hb1)
  clear HC HS0 hb1 hW a0 a1 b0 b1 b2
  go_wp2_with fail
  have a1 : wb.cell? ⟨w.heap.size, 1, none⟩ = some (.func (.func 36) #[] #[.pointer (some ⟨X, 0, none⟩)]) := HSb.out.b3.cell 1
  have HKS : Hid (∀ w' : World, Below wb.heap.size wb w' → (fun w' => w'.cell? ⟨w.heap.size, 1, none⟩ = some (.func (.func 36) #[] #[.pointer (some ⟨X, 0, none⟩)])) w') := Lib.hid fun w' h => (h.cell (cell_ltX a1)).trans a1
  have hbd : Below wb.heap.size wb wb.drew := (Below.refl _ wb).drew
  have hS := HKS.out _ hbd
  refine wp_region_cutX rfl (by kernel_rfl) (by kernel_rfl) ?_
  refine wpAny_of_held (S := fun w' => w'.cell? ⟨w.heap.size, 1, none⟩ = some (.func (.func 36) #[] #[.pointer (some ⟨X, 0, none⟩)])) _ _ _ _ ?_
  simp only [List.pop_toArray, List.dropLast, List.size_toArray, List.length_cons, List.length_nil, Nat.reduceAdd, Nat.reduceSub]
  refine wpAnyH_take (i := 0) (v := .pointer (some ⟨w.heap.size, 1, none⟩)) rfl (by kernel_rfl) (by kernel_rfl) (by kernel_rfl) (fun _ _ _ h => h) (Or.inl ⟨by kernel_rfl, ?_⟩) hS ?_
  · intro w' hSw
    go_simp
  try simp only [Act.put, List.getElem_toArray, List.getElem_cons_succ, List.getElem_cons_zero, List.setIfInBounds_toArray, List.set_cons_zero, List.set_cons_succ]
  refine wpAnyH_take (i := 1) (v := .func (.func 36) #[] #[.pointer (some ⟨X, 0, none⟩)]) rfl (by kernel_rfl) (by kernel_rfl) (by kernel_rfl) (fun _ _ _ h => h) (Or.inl ⟨by kernel_rfl, ?_⟩) hS ?_
  · intro w' hSw
    go_simp
  try simp only [Act.put, List.getElem_toArray, List.getElem_cons_succ, List.getElem_cons_zero, List.setIfInBounds_toArray, List.set_cons_zero, List.set_cons_succ]
  refine wpAnyH_ready (rs := [2]) (by kernel_rfl) (by simp) ?_
  refine AllReadyH.cons rfl (fun KN hK => ?_) AllReadyH.nil
  go_simp
  refine (sMarkC ⟨#[40]⟩ _).mono ?_
  rintro e wA0 ⟨rfl, hbA0⟩
  have hbB0 := hbd.trans (hbA0.mono hbd.size)
  clear hbA0
  refine hK.out _ _ (HKS.out _ hbB0) (fun hS => ?_)
  clear hK KN
  try simp only [Act.put, zzP]
  refine wpAnyH_ready (rs := [3]) (by kernel_rfl) (by simp) ?_
  refine AllReadyH.cons rfl (fun KN hK => ?_) AllReadyH.nil
  go_simp
  obtain ⟨WB, hWB⟩ : ∃ WB, wA0.alloc (.cells #[.int .i64 1, .string ⟨#[40]⟩] 79) = WB := ⟨_, rfl⟩
  have hbC : Below wb.heap.size wb WB := by rw [← hWB]; exact hbB0.alloc hbB0.size _
  have hPB : WB.heap[wA0.heap.size]? = some (.cells (cellsT [mO]).toArray 79 (0, 0)) := by rw [← hWB]; exact heap_alloc_new wA0 _
  try rw [hWB]
  clear hWB
  refine hK.out _ _ (HKS.out _ hbC) (fun hS => ?_)
  clear hK KN
  try simp only [Act.put, zzP]
  refine wpAnyH_done (by kernel_rfl) ?_ _
  show wpList _ _ _ _ _ _
  have HSB := Lib.hid (HSb.out.keep hbC)
  have HG := Lib.hid (sGatherC (ys := [mO]) HSB.out.gs hPB (by simp) (by have := HL.out; simp only [List.length_append, List.length_cons, List.length_nil] at this ⊢; omega) 1 rfl)
  clear hPB hbC hS HKS hbd a1 hbB0
  go_wp2_with fail
  refine HG.out.mono ?_
  rintro e w1 hge
  obtain ⟨rfl, v1, hS1⟩ := HSB.out.go hge
  have HS1 := Lib.hid hS1
  clear HG HSB hge hS1 HSb
  have a0 : w1.cell? ⟨w.heap.size, 0, none⟩ = some (.slice SA sn sc) := HS1.out.b3.cell 0
  have a1 : w1.cell? ⟨w.heap.size, 1, none⟩ = some (.func (.func 36) #[] #[.pointer (some ⟨X, 0, none⟩)]) := HS1.out.b3.cell 1
  have b0 : w1.cell? ⟨w.heap.size + 1, 0, none⟩ = some (.int .i64 k) := HS1.out.b4.cell 0
  have b1 : w1.cell? ⟨w.heap.size + 1, 1, none⟩ = some (.int .i64 h) := HS1.out.b4.cell 1
  have b2 : w1.cell? ⟨w.heap.size + 1, 2, none⟩ = some (.slice A n c) := HS1.out.b4.cell 2
  have HG := Lib.hid (iht d _ _ _ w1 hw HS1.out.gs hv (by have := HL.out; simp only [List.length_append, List.length_cons, List.length_nil] at this ⊢; omega))
  go_wp2_with fail
  refine HG.out.mono ?_
  rintro e w9 hge
  obtain ⟨rfl, v9, hS9⟩ := HS1.out.go hge
  have HS9 := Lib.hid hS9
  clear HG HS1 hge hS9 a0 a1 b0 b1 b2
  go_wp2_with fail
  have a1 : w9.cell? ⟨w.heap.size, 1, none⟩ = some (.func (.func 36) #[] #[.pointer (some ⟨X, 0, none⟩)]) := HS9.out.b3.cell 1
  have HKS : Hid (∀ w' : World, Below w9.heap.size w9 w' → (fun w' => w'.cell? ⟨w.heap.size, 1, none⟩ = some (.func (.func 36) #[] #[.pointer (some ⟨X, 0, none⟩)])) w') := Lib.hid fun w' h => (h.cell (cell_ltX a1)).trans a1
  have hbd : Below w9.heap.size w9 w9.drew := (Below.refl _ w9).drew
  have hS := HKS.out _ hbd
  refine wp_region_cutX rfl (by kernel_rfl) (by kernel_rfl) ?_
  refine wpAny_of_held (S := fun w' => w'.cell? ⟨w.heap.size, 1, none⟩ = some (.func (.func 36) #[] #[.pointer (some ⟨X, 0, none⟩)])) _ _ _ _ ?_
  simp only [List.pop_toArray, List.dropLast, List.size_toArray, List.length_cons, List.length_nil, Nat.reduceAdd, Nat.reduceSub]
  refine wpAnyH_take (i := 0) (v := .pointer (some ⟨w.heap.size, 1, none⟩)) rfl (by kernel_rfl) (by kernel_rfl) (by kernel_rfl) (fun _ _ _ h => h) (Or.inl ⟨by kernel_rfl, ?_⟩) hS ?_
  · intro w' hSw
    go_simp
  try simp only [Act.put, List.getElem_toArray, List.getElem_cons_succ, List.getElem_cons_zero, List.setIfInBounds_toArray, List.set_cons_zero, List.set_cons_succ]
  refine wpAnyH_take (i := 1) (v := .func (.func 36) #[] #[.pointer (some ⟨X, 0, none⟩)]) rfl (by kernel_rfl) (by kernel_rfl) (by kernel_rfl) (fun _ _ _ h => h) (Or.inl ⟨by kernel_rfl, ?_⟩) hS ?_
  · intro w' hSw
    go_simp
  try simp only [Act.put, List.getElem_toArray, List.getElem_cons_succ, List.getElem_cons_zero, List.setIfInBounds_toArray, List.set_cons_zero, List.set_cons_succ]
  refine wpAnyH_ready (rs := [2]) (by kernel_rfl) (by simp) ?_
  refine AllReadyH.cons rfl (fun KN hK => ?_) AllReadyH.nil
  go_simp
  refine (sMarkC ⟨#[41]⟩ _).mono ?_
  rintro e wA0 ⟨rfl, hbA0⟩
  have hbB0 := hbd.trans (hbA0.mono hbd.size)
  clear hbA0
  refine hK.out _ _ (HKS.out _ hbB0) (fun hS => ?_)
  clear hK KN
  try simp only [Act.put, zzP]
  refine wpAnyH_ready (rs := [3]) (by kernel_rfl) (by simp) ?_
  refine AllReadyH.cons rfl (fun KN hK => ?_) AllReadyH.nil
  go_simp
  obtain ⟨WB, hWB⟩ : ∃ WB, wA0.alloc (.cells #[.int .i64 1, .string ⟨#[41]⟩] 79) = WB := ⟨_, rfl⟩
  have hbC : Below w9.heap.size w9 WB := by rw [← hWB]; exact hbB0.alloc hbB0.size _
  have hPB : WB.heap[wA0.heap.size]? = some (.cells (cellsT [mC]).toArray 79 (0, 0)) := by rw [← hWB]; exact heap_alloc_new wA0 _
  try rw [hWB]
  clear hWB
  refine hK.out _ _ (HKS.out _ hbC) (fun hS => ?_)
  clear hK KN
  try simp only [Act.put, zzP]
  refine wpAnyH_done (by kernel_rfl) ?_ _
  show wpList _ _ _ _ _ _
  have HSB := Lib.hid (HS9.out.keep hbC)
  have HG := Lib.hid (sGatherC (ys := [mC]) HSB.out.gs hPB (by simp) (by have := HL.out; simp only [List.length_append, List.length_cons, List.length_nil] at this ⊢; omega) 1 rfl)
  clear hPB hbC hS HKS hbd a1 hbB0
  go_wp2_with fail
  refine HG.out.mono ?_
  rintro e w2 hge
  obtain ⟨rfl, v2, hS2⟩ := HSB.out.go hge
  have HS2 := Lib.hid hS2
  clear HG HSB hge hS2 HS9
  go_wp2_with fail
  refine bodyPost_ret (results_none rfl _ _ _) rfl ?_
  exact HS2.out.fin (by rw [argS_par HAL.out]; simp)
/-- term and arg, of every term -/
theorem sAll (hD : DS w0 ds SA sn sc) (t : T) : TmS ds SA sn sc w0 X t ∧ ArS ds SA sn sc w0 X t := by
  have HD := Lib.hid hD
  refine T.ind (M := fun t => TmS ds SA sn sc w0 X t ∧ ArS ds SA sn sc w0 X t) ?_ t
  intro k h xs ih
  have key : TmS ds SA sn sc w0 X (.node k h xs) := by
    intro d x v tv w hw hg hv hl
    rcases hw.cases with ⟨rfl, rfl, rfl⟩ | ⟨rfl, rfl, a, b, rfl⟩ | ⟨rfl, rfl, a, rfl⟩ | hc
    · obtain ⟨A, n, c, rfl, _⟩ := Rd_node.1 hv
      exact sTermSort A n c d x v w hg (by rw [sh_sort] at hl; exact hl)
    · exact sTermPi (ih a (by simp)).1 (ih b (by simp)).1 d x v tv w hw hg hv hl
    · exact sTermLam (ih a (by simp)).1 d x v tv w hw hg hv hl
    · exact sTermHead HD (fun t ht => (ih t ht).2) d x v tv w hw (by omega) (by omega) (by omega) hg hv hl
  refine ⟨key, fun d x v tv w hw hg hv hl => ?_⟩
  cases hal : aloB (.node k h xs) with
  | true => exact sArgA HD d x v tv w hw hal hg hv hl
  | false => exact sArgP key d x v tv w hw hal hg hv hl
end Go.Proofs.YtmkahbbcagfbhaaGreatDoor
/-
  Contract of package show's Term. No statement is proved here.
-/
namespace Go.Proofs.YtmkahbbcagfbhaaGreatDoor
open Go.ChangeShapes Go.WideShapes Go.ChangeAt Go.RowKit
set_option linter.unusedVariables false
/-! ### How much is written -/
theorem sh_len {nm : Int → ByteArray} {n : Nat} (t : T) : ∀ d, Wr_ n d t → (shT nm t d).length + 3 ≤ 7 * nd t := by
  refine T.ind (M := fun t => ∀ d, Wr_ n d t → (shT nm t d).length + 3 ≤ 7 * nd t) ?_ t
  intro k h xs ih d hw
  rcases hw.cases with ⟨rfl, rfl, rfl⟩ | ⟨rfl, rfl, a, b, rfl⟩ | ⟨rfl, rfl, a, rfl⟩ | hc
  · rw [sh_sort, nd, ndL]; simp
  · obtain ⟨wa, wb⟩ := hw.pi
    have h1 := ih a (by simp) d wa
    have h2 := ih b (by simp) (d + 1) wb
    rw [sh_pi, nd, ndL, ndL, ndL]
    simp only [List.length_cons, List.length_append]
    omega
  · have h1 := ih a (by simp) (d + 1) hw.lam
    rw [sh_lam, nd, ndL, ndL]
    simp only [List.length_cons]
    omega
  · have h0 : k ≠ 0 := by omega
    have h1 : k ≠ 1 := by omega
    have h3 : k ≠ 3 := by omega
    have hwx := hw.args h1 h3
    have key : ∀ ys : List T, (∀ y ∈ ys, y ∈ xs) → (ys.flatMap (argS nm d)).length ≤ 7 * ndL ys := by
      intro ys
      induction ys with
      | nil => intro _; simp
      | cons y ys ihy =>
        intro hy
        have g1 := ihy fun z hz => hy z (List.mem_cons_of_mem _ hz)
        have g2 := ih y (hy y List.mem_cons_self) d (hwx y (hy y List.mem_cons_self))
        rw [List.flatMap_cons, List.length_append, ndL]
        have g3 : (argS nm d y).length ≤ (shT nm y d).length + 2 := by
          rw [argS]
          split
          · omega
          · simp
        omega
    have := key xs fun y hy => hy
    rw [sh_head nm h xs d h0 h1 h3, nd, List.length_cons]
    omega
theorem tyN_size : tyN.size = 4 := rfl
theorem sh_size {nm : Int → ByteArray} {n : Nat} (hn : ∀ h : Nat, h < n → (nm h).size ≤ 100) (t : T) : ∀ d, Wr_ n d t → ∀ z ∈ shT nm t d, z.2.size ≤ 100 := by
  refine T.ind (M := fun t => ∀ d, Wr_ n d t → ∀ z ∈ shT nm t d, z.2.size ≤ 100) ?_ t
  intro k h xs ih d hw z hz
  have gm : ∀ c ∈ [mO, mC, mL, mR, mP, mQ, mK, mD], c.2.size ≤ 100 := by
    intro c hc
    simp only [List.mem_cons, List.not_mem_nil, or_false] at hc
    rcases hc with rfl | rfl | rfl | rfl | rfl | rfl | rfl | rfl <;> (show 1 ≤ 100; omega)
  have gb : ∀ d, (bnm d).size ≤ 100 := fun d => Nat.le_trans (bnm_size d) (by omega)
  rcases hw.cases with ⟨rfl, rfl, rfl⟩ | ⟨rfl, rfl, a, b, rfl⟩ | ⟨rfl, rfl, a, rfl⟩ | hc
  · rw [sh_sort, List.mem_singleton] at hz
    subst hz
    show tyN.size ≤ 100
    rw [tyN_size]; omega
  · obtain ⟨wa, wb⟩ := hw.pi
    rw [sh_pi] at hz
    simp only [List.mem_cons, List.mem_append] at hz
    rcases hz with rfl | rfl | rfl | hz | rfl | hz
    · exact gm _ (by simp)
    · exact gb _
    · exact gm _ (by simp)
    · exact ih a (by simp) d wa z hz
    · exact gm _ (by simp)
    · exact ih b (by simp) (d + 1) wb z hz
  · rw [sh_lam] at hz
    simp only [List.mem_cons] at hz
    rcases hz with rfl | rfl | rfl | hz
    · exact gm _ (by simp)
    · exact gb _
    · exact gm _ (by simp)
    · exact ih a (by simp) (d + 1) hw.lam z hz
  · have h0 : k ≠ 0 := by omega
    have h1 : k ≠ 1 := by omega
    have h3 : k ≠ 3 := by omega
    have hwx := hw.args h1 h3
    rw [sh_head nm h xs d h0 h1 h3, List.mem_cons, List.mem_flatMap] at hz
    rcases hz with rfl | ⟨x, hx, hz⟩
    · rcases hc with ⟨rfl, e1, e2⟩ | ⟨e, e1, e2⟩
      · rw [hdS, if_pos rfl]; exact gb _
      · obtain ⟨g, rfl⟩ : ∃ g : Nat, h = g := ⟨h.toNat, by omega⟩
        rw [hdS, if_neg (by rcases e with rfl | rfl <;> decide)]
        exact hn g (by omega)
    · rw [argS] at hz
      split at hz
      · exact ih x hx d (hwx x hx) z hz
      · simp only [List.mem_cons, List.mem_append, List.not_mem_nil, or_false] at hz
        rcases hz with rfl | hz | rfl
        · exact gm _ (by simp)
        · exact ih x hx d (hwx x hx) z hz
        · exact gm _ (by simp)
theorem txt_len : ∀ (l : List Tk) (p : Bool), (∀ z ∈ l, z.2.size ≤ 100) → (txtL p l).length ≤ 101 * l.length
  | [], p, _ => by cases p <;> simp [txtL]
  | z :: l, p, h => by
    have h1 := h z List.mem_cons_self
    have h2 := txt_len l (decide (z.1 = 0)) fun y hy => h y (List.mem_cons_of_mem _ hy)
    have h3 : z.2.data.toList.length = z.2.size := by rw [Array.length_toList]; rfl
    rw [txtL, List.length_append, List.length_append, List.length_cons, h3]
    split
    · simp only [List.length_singleton]; omega
    · simp only [List.length_nil]; omega
theorem nmD_size {ds : List (ByteArray × T)} (hs : ∀ d ∈ ds, d.1.size ≤ 100) (h : Nat) (hh : h < ds.length) : (nmD ds h).size ≤ 100 := by
  rw [nmD, Int.toNat_natCast, List.getD_eq_getElem?_getD, List.getElem?_eq_getElem hh]
  exact hs _ (List.getElem_mem hh)
theorem show_len {ds : List (ByteArray × T)} (hs : ∀ d ∈ ds, d.1.size ≤ 100) {t : T} {l : List UInt8} (h : showT ds t = .ok l) : l.length ≤ 2828000 := by
  obtain ⟨hw, rfl, hn⟩ := wr_of h
  have h1 := sh_len (nm := nmD ds) t 0 hw
  have h2 := txt_len (shT (nmD ds) t 0) false (sh_size (nmD_size hs) t 0 hw)
  omega
/-- what Term tells -/
def STm (ds : List (ByteArray × T)) (t : T) (w : World) (e : Ending) (w' : World) : Prop :=
  Below w.heap.size w w' ∧ ∃ (A : Option Addr) (n c : Nat) (ec : Int), e = .returned (.tuple #[.slice A n c, .int .i64 ec]) ∧
    ((∃ l, showT ds t = .ok l ∧ ec = 0 ∧ YRow w' w.heap.size (.slice A n c) n l) ∨ (showT ds t = .error ec ∧ ec ≠ 0 ∧ A = none ∧ n = 0 ∧ c = 0))
theorem st_funcS (w1 : World) (b : Nat) (hb : b = w1.heap.size) (ty : TypeId) (fn : Fn) (x y : Array Value) (u : Value) : Sem.run Tryz.prog (store ⟨b, 1, none⟩ (.func fn x y)) (w1.alloc (.cells #[u, .nilFunc] ty)) = .ok () (w1.alloc (.cells #[u, .func fn x y] ty)) := by
  subst hb
  have h0 := run_store Tryz.prog (w1.alloc (.cells #[u, .nilFunc] ty)) ⟨w1.heap.size, 1, none⟩ (.func fn x y) .plain rfl
  rw [h0]
  go_simp
set_option maxRecDepth 100000 in
set_option maxHeartbeats 2000000 in
theorem sTermC (ds : List (ByteArray × T)) (t : T) (v : Value) (SA : Option Addr) (sn sc : Nat) (w : World) (hv : Rd w t v) (hD : DS w ds SA sn sc) (hs : ∀ d ∈ ds, d.1.size ≤ 100) :
    Calls Tryz.prog 14 #[v, .slice SA sn sc] w (STm ds t w) := by
  obtain ⟨k, h, A, n, c, rfl⟩ := hv.full
  obtain ⟨W, hW⟩ : ∃ W, w.alloc (.cells #[.int .i64 k, .int .i64 h, .slice A n c] 36) = W := ⟨_, rfl⟩
  have hb : Below w.heap.size w W := by rw [← hW]; exact (Below.refl _ _).alloc (Nat.le_refl _) _
  have x0 : BoxX W w.heap.size 36 #[.int .i64 k, .int .i64 h, .slice A n c] := by rw [← hW]; exact BoxX.new _ _ _
  have hsz : W.heap.size = w.heap.size + 1 := by rw [← hW]; simp
  have hlen := hD.len
  have HM := Lib.hid (myC t _ W (Rd.keep hb _ _ hv))
  have HV := Lib.hid hv
  have HD := Lib.hid hD
  have HS := Lib.hid hs
  have HB := Lib.hid hb
  have HX0 := Lib.hid x0
  have HSZ := Lib.hid hsz
  have HLE := Lib.hid hlen
  clear hv hD hs hb x0 hsz hlen
  obtain ⟨r1, hr1⟩ : ∃ r, myB t = r := ⟨_, rfl⟩
  rw [hr1] at HM
  have HR1 := Lib.hid hr1
  clear hr1
  subst hW
  go_enter Tryz.func14, Tryz.ntmps14
  go_wp2_with fail
  refine HM.out.mono ?_
  rintro e w1 ⟨rfl, hb1⟩
  have HB1 := Lib.hid (HB.out.trans (hb1.mono HB.out.size))
  have y0 := HX0.out.keep hb1 HX0.out.lt
  have hs1 := hb1.size
  rw [HSZ.out] at hs1
  clear HM hb1 HX0 HB
  cases r1 with
  | false =>
    go_wp2_with fail
    go_ret2
    exact ⟨HB1.out, none, 0, 0, 1, rfl, .inr ⟨by rw [showT, if_neg (by rw [HR1.out]; decide)], by decide, rfl, rfl, rfl⟩⟩
  | true =>
    have q0 := y0.cell 0
    have q1 := y0.cell 1
    have q2 := y0.cell 2
    simp only [List.getElem?_toArray, List.getElem?_cons_zero, List.getElem?_cons_succ] at q0 q1 q2
    have hsc := termScoped t 0 0 _ w1 (Rd.keep HB1.out _ _ HV.out)
    rw [scoped_eq t 0 (wrap_small (by omega) (by omega))] at hsc
    obtain ⟨r2, hr2⟩ : ∃ r, scB t 0 0 = r := ⟨_, rfl⟩
    rw [hr2] at hsc
    have HC := Lib.hid hsc
    have HR2 := Lib.hid hr2
    have HY0 := Lib.hid y0
    clear hsc hr2 y0
    go_wp2_with fail
    refine HC.out.mono ?_
    rintro e w2 ⟨rfl, hb2⟩
    have HB2 := Lib.hid (HB1.out.trans (hb2.mono HB1.out.size))
    have y0 := HY0.out.keep hb2 HY0.out.lt
    have hs2 := hb2.size
    clear HC hb2 HY0 HB1 q0 q1 q2
    cases r2 with
    | false =>
      go_wp2_with fail
      go_ret2
      exact ⟨HB2.out, none, 0, 0, 2, rfl, .inr ⟨by rw [showT, if_pos HR1.out, if_neg (by rw [HR2.out]; simp)], by decide, rfl, rfl, rfl⟩⟩
    | true =>
      have q0 := y0.cell 0
      have q1 := y0.cell 1
      have q2 := y0.cell 2
      simp only [List.getElem?_toArray, List.getElem?_cons_zero, List.getElem?_cons_succ] at q0 q1 q2
      have hhs := sHasC SA sn sc HD.out.le HD.out.cap t _ w2 (Rd.keep HB2.out _ _ HV.out)
      obtain ⟨r3, hr3⟩ : ∃ r, hasB (sn : Nat) t = r := ⟨_, rfl⟩
      rw [hr3] at hhs
      have HC := Lib.hid hhs
      have HR3 := Lib.hid (show hasB ds.length t = r3 by rw [HLE.out]; exact hr3)
      have HY0 := Lib.hid y0
      clear hhs hr3 y0
      go_wp2_with fail
      refine HC.out.mono ?_
      rintro e w3 ⟨rfl, hb3⟩
      have HB3 := Lib.hid (HB2.out.trans (hb3.mono HB2.out.size))
      have y0 := HY0.out.keep hb3 HY0.out.lt
      have hs3 := hb3.size
      clear HC hb3 HY0 HB2 q0 q1 q2
      cases r3 with
      | false =>
        go_wp2_with fail
        go_ret2
        exact ⟨HB3.out, none, 0, 0, 2, rfl, .inr ⟨by rw [showT, if_pos HR1.out, if_neg (by rw [HR3.out]; simp)], by decide, rfl, rfl, rfl⟩⟩
      | true =>
        have HSH := Lib.hid (show showT ds t = .ok (txtL false (shT (nmD ds) t 0)) by rw [showT, if_pos HR1.out, if_pos ⟨HR2.out, HR3.out⟩])
        have HW := Lib.hid (wr_of HSH.out)
        obtain ⟨W5, hW5⟩ : ∃ W5, (w3.alloc (.cells #[.slice none 0 0] 57)).alloc (.cells #[.slice SA sn sc, .func (.func 36) #[] #[.pointer (some ⟨w3.heap.size, 0, none⟩)]] 69) = W5 := ⟨_, rfl⟩
        have hb5 : Below w3.heap.size w3 W5 := by rw [← hW5]; exact ((Below.refl _ _).alloc (Nat.le_refl _) _).alloc (by simp) _
        have x5 : BoxX W5 (w3.heap.size + 1) 69 #[.slice SA sn sc, .func (.func 36) #[] #[.pointer (some ⟨w3.heap.size, 0, none⟩)]] := by
          have := BoxX.new (w3.alloc (.cells #[.slice none 0 0] 57)) 69 #[.slice SA sn sc, .func (.func 36) #[] #[.pointer (some ⟨w3.heap.size, 0, none⟩)]]
          rw [← hW5]; simpa using this
        have hg5 : GS w w3.heap.size [] W5 (.slice none 0 0) := by
          have := GS.start w HB3.out
          have h6 := this.keep (w' := W5) (by rw [← hW5]; exact (Below.refl _ _).alloc (Nat.le_refl _) _)
          exact h6
        have y5 := y0.keep hb5 y0.lt
        have q0 := y5.cell 0
        have q1 := y5.cell 1
        have q2 := y5.cell 2
        have p0 := x5.cell 0
        have p1 := x5.cell 1
        simp only [List.getElem?_toArray, List.getElem?_cons_zero, List.getElem?_cons_succ] at q0 q1 q2 p0 p1
        have hlt := sh_len (nm := nmD ds) t 0 HW.out.1
        have hnd := HW.out.2.2
        have HC := Lib.hid ((sAll (X := w3.heap.size) HD.out t).1 0 [] _ _ W5 HW.out.1 hg5 HV.out (by simp only [List.length_nil]; omega))
        have HB5 := Lib.hid (HB3.out.trans (hb5.mono HB3.out.size))
        have hs5 := hb5.size
        have hst := st_funcS (w3.alloc (.cells #[.slice none 0 0] 57)) (w3.heap.size + 1) (by simp) 69 (.func 36) #[] #[.pointer (some ⟨w3.heap.size, 0, none⟩)] (.slice SA sn sc)
        clear hb5 x5 hg5 y5 y0 HB3
        go_wp2_with fail
        refine HC.out.mono ?_
        rintro e w6 ⟨rfl, v6, hg6, hk6, hn6⟩
        rw [List.nil_append] at hg6
        obtain ⟨A6, c6, rfl, _, _⟩ := hg6.row.full
        have c0 : w6.cell? ⟨w3.heap.size, 0, none⟩ = some (.slice A6 (shT (nmD ds) t 0).length c6) := hg6.box.cell 0
        have htl := hg6.row.tl
        have HX := Lib.hid (xTextC (shT (nmD ds) t 0) A6 _ c6 w6 htl (by have := show_len HS.out HSH.out; omega) (by omega))
        have HB6 := Lib.hid hg6.below
        have hs6 := hk6.size
        clear HC q0 q1 q2 p0 p1 hg6 hk6 hn6 htl hW5
        generalize (shT (nmD ds) t 0).length = m6 at *
        go_wp2_with fail
        refine HX.out.mono ?_
        rintro e w7 ⟨A7, n7, c7, rfl, hy7, hb7⟩
        have HY := Lib.hid hy7
        have HB7 := Lib.hid (HB6.out.trans (hb7.mono HB6.out.size))
        clear HX hy7 hb7 c0
        go_wp2_with fail
        go_ret2
        refine ⟨HB7.out, A7, n7, c7, 0, rfl, .inl ⟨_, HSH.out, rfl, ⟨⟨HY.out.own.1, ?_⟩, HY.out.len⟩⟩⟩
        rcases HY.out.own.2 with h1 | ⟨g, cap, cur, e, h1, h2⟩
        · exact .inl h1
        · exact .inr ⟨g, cap, cur, e, by have := HB6.out.size; omega, h2⟩
end Go.Proofs.YtmkahbbcagfbhaaGreatDoor
/-
  Contract of package show's Decls. No statement is proved here.
-/
namespace Go.Proofs.YtmkahbbcagfbhaaGreatDoor
open Go.ChangeShapes Go.WideShapes Go.ChangeAt Go.RowKit Go.WideMaps Go.Maps
set_option linter.unusedVariables false
theorem mapLaw : Keyed Tryz.prog 9 := string_keyed Tryz.underlying9
theorem zeroInt (w : World) : (zeroValue 3).run Tryz.prog w = .ok (.int .i64 0) w := by kernel_rfl
/-- a map that counts names -/
structure CntM (w : World) (K n : Nat) (D : DataW Unit) (sg : List (ByteArray × T)) : Prop where
  own : w.ownsMap Tryz.prog 9 (plainElem Tryz.prog 3) K n D
  is : IsMap D
  at_ : ∀ s : ByteArray, s.size ≤ maxLen → D.atKey (.string s.data.toList) (.lit (.int .i64 0)) = .lit (.int .i64 (cntD s sg : Nat))
theorem CntM.made (w : World) : CntM (w.alloc (.map #[] 0)) w.heap.size 0 (.map []) [] := ⟨World.ownsMap_made _ _ _ _, isMap_empty, fun s _ => rfl⟩
theorem CntM.mv {w w' : World} {K n : Nat} {D : DataW Unit} {sg : List (ByteArray × T)} (h : CntM w K n D sg) (hk : w'.heap[K]? = w.heap[K]?) : CntM w' K n D sg := by
  refine ⟨?_, h.is, h.at_⟩
  obtain ⟨es, clock, hb, F, hs, hD⟩ := h.own
  exact ⟨es, clock, hk.trans hb, F, hs, hD⟩
theorem cnt_snoc (s : ByteArray) (sg : List (ByteArray × T)) (d : ByteArray × T) : cntD s (sg ++ [d]) = cntD s sg + if d.1 = s then 1 else 0 := by
  unfold cntD
  rw [List.countP_append, List.countP_cons, List.countP_nil]
  simp
theorem cnt_le (s : ByteArray) (sg : List (ByteArray × T)) : cntD s sg ≤ sg.length := List.countP_le_length
theorem CntM.look {w : World} {K n : Nat} {D : DataW Unit} {sg : List (ByteArray × T)} (h : CntM w K n D sg) {s : ByteArray} (hs : s.size ≤ maxLen) :
    (Instr.lookup 51 (.map (some K)) (.string s) false).run Tryz.prog w = .ok (.int .i64 (cntD s sg : Nat)) w := by
  obtain ⟨c, hrun, hat, _⟩ := h.own.lookup_int mapLaw Tryz.underlying51 Tryz.underlying3 (zeroInt _) (keyOf_string_mk (s := s) Tryz.underlying9 hs)
  rw [h.at_ s hs] at hat
  rw [hrun]
  have : ((cntD s sg : Nat) : Int) = c := by simpa using hat
  rw [this]
theorem CntM.put {w w' : World} {K n m : Nat} {D : DataW Unit} {sg : List (ByteArray × T)} (h : CntM w K n D sg) {d : ByteArray × T} (hs : d.1.size ≤ maxLen)
    (ho : w'.ownsMap Tryz.prog 9 (plainElem Tryz.prog 3) K m (D.put (.string d.1.data.toList) (.lit (.int .i64 ((cntD d.1 sg : Nat) + 1))))) : CntM w' K m (D.put (.string d.1.data.toList) (.lit (.int .i64 ((cntD d.1 sg : Nat) + 1)))) (sg ++ [d]) := by
  refine ⟨ho, h.is.put _ _, fun s hz => ?_⟩
  rw [cnt_snoc]
  by_cases e : d.1 = s
  · subst e
    rw [atKey_put_same h.is (show WideAt.IsKeyLit (.string d.1.data.toList) from trivial), if_pos rfl]
    rfl
  · rw [atKey_put_other (fun e2 => e (ByteArray.ext (Array.ext' (by simpa using e2.symm)))), h.at_ s hz, if_neg e]
    rfl
/-- what holds at the head of the first loop -/
structure DcI (ds : List (ByteArray × T)) (w : World) (j : Nat) (wr : World) : Prop where
  map_ : ∃ D, CntM wr w.heap.size j D (ds.take j)
  below : Below w.heap.size w wr
/-- the text of declarations -/
def showD (ds : List (ByteArray × T)) : Except Int (List UInt8) := showL ds ds [] nmB
/-- what Decls tells -/
def SDc (ds : List (ByteArray × T)) (w : World) (e : Ending) (w' : World) : Prop :=
  Below w.heap.size w w' ∧ ∃ (A : Option Addr) (n c : Nat) (ec : Int), e = .returned (.tuple #[.slice A n c, .int .i64 ec]) ∧
    ((∃ l, showD ds = .ok l ∧ ec = 0 ∧ l.length ≤ ds.length * 3000000 ∧ YRow w' w.heap.size (.slice A n c) n l) ∨ (showD ds = .error ec ∧ ec ≠ 0 ∧ A = none ∧ n = 0 ∧ c = 0))
/-- what holds at the head of the second loop -/
structure DdI (ds : List (ByteArray × T)) (w : World) (j : Nat) (A : Option Addr) (n c : Nat) (wr : World) : Prop where
  map_ : ∃ D m, CntM wr w.heap.size m D ds
  below : Below w.heap.size w wr
  row : ∃ l, YRow wr (w.heap.size + 1) (.slice A n c) n l ∧ showL ds (ds.drop j) l nmB = showD ds ∧ l.length ≤ j * 3000000
theorem YRow.less {w : World} {a b : Nat} {v : Value} {n : Nat} {l : List UInt8} (h : YRow w b v n l) (hab : a ≤ b) : YRow w a v n l := by
  refine ⟨⟨h.own.1, ?_⟩, h.len⟩
  rcases h.own.2 with h1 | ⟨g, cap, cur, e, h1, h2⟩
  · exact .inl h1
  · exact .inr ⟨g, cap, cur, e, by omega, h2⟩
theorem line_bytes (s : ByteArray) (l : List UInt8) : (((s ++ ⟨#[32, 58, 32]⟩ : ByteArray) ++ ⟨l.toArray⟩) ++ ⟨#[46, 10]⟩ : ByteArray).data.toList = lineD s l := by
  simp [lineD]
set_option maxRecDepth 100000 in
set_option maxHeartbeats 4000000 in
theorem sDeclsC (ds : List (ByteArray × T)) (SA : Option Addr) (sn sc : Nat) (w : World) (hD : DS w ds SA sn sc) (hs : ∀ d ∈ ds, d.1.size ≤ 100) (hn : ds.length ≤ 1000) :
    Calls Tryz.prog 9 #[.slice SA sn sc] w (SDc ds w) := by
  have hdl := hD.len
  have hdle := hD.le
  have hdc := hD.cap
  unfold maxLen at hdc
  have HD := Lib.hid hD
  have HS := Lib.hid hs
  have HN := Lib.hid hn
  clear hD hs
  have hmm := @run_makeMap Tryz.prog
  obtain ⟨W3, hW3⟩ : ∃ W3, w.alloc (.map #[] 0) = W3 := ⟨_, rfl⟩
  have hb3 : Below w.heap.size w W3 := by rw [← hW3]; exact (Below.refl _ _).alloc (Nat.le_refl _) _
  have HI0 := Lib.hid (show DcI ds w 0 W3 from ⟨⟨_, by rw [← hW3]; exact CntM.made w⟩, hb3⟩)
  have hs3 := hb3.size
  clear hb3
  go_enter Tryz.func9, Tryz.ntmps9
  go_wp2_with fail
  try rw [hW3]
  clear hmm hW3
  go_loopw [15] (fun i wr => ∃ j, j ≤ sn ∧ i = .int .i64 (j : Nat) ∧ Hid (DcI ds w j wr)) (fun i _ => sn - (Go.RowKit.intOf i).toNat)
  case atStart => exact ⟨0, Nat.zero_le _, rfl, HI0⟩
  case round =>
    clear HI0
    obtain ⟨j, hj, rfl, HI⟩ := hrel
    have hsr := HI.out.below.size
    by_cases hlt : j < sn
    · obtain ⟨d, hd⟩ := at_ofX hdl hlt
      have hDr := (HD.out.keep HI.out.below).at_ j d hd
      have hdsz := HD.out.sz d (List.mem_of_getElem? hd)
      obtain ⟨b, o, k, g, A', n', c', hA, e0, e1, e2, e3, hr⟩ := hDr
      subst hA
      obtain ⟨d1, dT⟩ := d
      dsimp only at e0 hdsz
      have htk : ds.take (j + 1) = ds.take j ++ [(d1, dT)] := by rw [List.take_add_one, hd]; rfl
      obtain ⟨D, hcm⟩ := HI.out.map_
      obtain ⟨W5, hW5⟩ : ∃ W5, wr.alloc (.cells #[.string d1, .int .i64 k, .int .i64 g, .slice A' n' c'] 46) = W5 := ⟨_, rfl⟩
      have hb5 : Below wr.heap.size wr W5 := by rw [← hW5]; exact (Below.refl _ _).alloc (Nat.le_refl _) _
      have hx5 : BoxX W5 wr.heap.size 46 #[.string d1, .int .i64 k, .int .i64 g, .slice A' n' c'] := by rw [← hW5]; exact BoxX.new _ _ _
      have c0 : W5.cell? ⟨wr.heap.size, 0, none⟩ = some (.string d1) := hx5.cell 0
      have hcm5 := hcm.mv (hb5.block _ hcm.own.lt)
      have hrun := hcm5.look hdsz
      have hown := hcm5.own
      have hkey := keyOf_string_mk (s := d1) Tryz.underlying9 hdsz
      have hcle : cntD d1 (ds.take j) ≤ j := Nat.le_trans (cnt_le _ _) (by rw [List.length_take]; omega)
      have hi0 : (0 : Int) ≤ (j : Int) := by omega
      have hi1 : (j : Int) < (sn : Int) := by omega
      have HX := Lib.hid (And.intro hcm5 (HI.out.below.trans (hb5.mono hsr)))
      have HTK := Lib.hid htk
      have HSZ := Lib.hid hdsz
      clear hr hd hb5 hx5 hcm hcm5 HI htk
      generalize hcn : cntD d1 (ds.take j) = cn at *
      have HCN := Lib.hid hcn
      clear hcn
      have hw1 : IntKind.i64.wrap ((cn : Int) + 1) = (cn : Int) + 1 := by rw [wrapEq, wrap_small (by omega) (by omega)]
      have hw2 : IntKind.i64.wrap ((cn : Int) + 1) = ((cn + 1 : Nat) : Int) := by rw [hw1]; omega
      have hjm : j < maxLen := by unfold maxLen; omega
      have hpe := plainElem_int (H := Unit) (P := Tryz.prog) (e := 3) (q := .i64) Tryz.underlying3 (wrap64_wf ((cn : Int) + 1))
      rw [show wrap64 ((cn : Int) + 1) = (cn : Int) + 1 from wrap_small (by omega) (by omega)] at hpe
      go_wp2_with (first
        | (at_mapUpdate; refine wpList_mapUpdate_own _ rfl _ _ _ 51 rfl 9 3 mapLaw Tryz.underlying51 _ w.heap.size j _ rfl hown hjm _ _ _ rfl rfl hkey _ [] hpe ?_)
        | fail)
      intro w8 hown8 hgrow8
      have HI8 := Lib.hid (show DcI ds w (j + 1) w8 from ⟨⟨_, by rw [HTK.out]; exact HX.out.1.put HSZ.out (by rw [HCN.out]; exact hown8)⟩, Below.grown HX.out.2 hgrow8 HX.out.2.size (fun q hq => by cases hq; exact Nat.le_refl _)⟩)
      clear hown8 hgrow8 hown hrun hkey hpe c0 e0 e1 e2 e3 HX hW5
      go_wp2_with fail
      go_roundw
      case rel => exact ⟨j + 1, by omega, by go_num, HI8⟩
      case measure => simp [Go.RowKit.intOf]; omega
    · obtain rfl : j = sn := by omega
      have HJ0 := Lib.hid (show DdI ds w 0 none 0 0 wr from ⟨by
        obtain ⟨D, h⟩ := HI.out.map_
        exact ⟨D, _, by rw [List.take_of_length_le (by omega)] at h; exact h⟩, HI.out.below, [], YRow.nil _ _, rfl, by simp⟩)
      clear HI
      go_wp2_with fail
      go_loopw [7, 27] (fun v i wr => ∃ (q : Nat) (A : Option Addr) (n c : Nat), q ≤ j ∧ i = .int .i64 (q : Nat) ∧ v = .slice A n c ∧ Hid (DdI ds w q A n c wr)) (fun _ i _ => j - (Go.RowKit.intOf i).toNat)
      case atStart => exact ⟨0, none, 0, 0, Nat.zero_le _, rfl, rfl, HJ0⟩
      case round =>
        clear HJ0
        obtain ⟨q, A, n, c, hq, rfl, rfl, HJ⟩ := hrel
        have hsq := HJ.out.below.size
        by_cases hlt2 : q < j
        · obtain ⟨d, hd⟩ := at_ofX hdl hlt2
          have hDr := (HD.out.keep HJ.out.below).at_ q d hd
          have hds := HS.out d (List.mem_of_getElem? hd)
          obtain ⟨b, o, k, g, A', n', c', hA, e0, e1, e2, e3, hr⟩ := hDr
          subst hA
          obtain ⟨d1, dT⟩ := d
          dsimp only at e0 hds hr
          have hdr : ds.drop q = (d1, dT) :: ds.drop (q + 1) := drop_atX hd
          obtain ⟨D, m, hcm⟩ := HJ.out.map_
          obtain ⟨l, hrow, heq, hll⟩ := HJ.out.row
          rw [hdr, showL] at heq
          obtain ⟨W5, hW5⟩ : ∃ W5, wr.alloc (.cells #[.string d1, .int .i64 k, .int .i64 g, .slice A' n' c'] 46) = W5 := ⟨_, rfl⟩
          have hb5 : Below wr.heap.size wr W5 := by rw [← hW5]; exact (Below.refl _ _).alloc (Nat.le_refl _) _
          have hx5 : BoxX W5 wr.heap.size 46 #[.string d1, .int .i64 k, .int .i64 g, .slice A' n' c'] := by rw [← hW5]; exact BoxX.new _ _ _
          have c0 : W5.cell? ⟨wr.heap.size, 0, none⟩ = some (.string d1) := hx5.cell 0
          have hi0 : (0 : Int) ≤ (q : Int) := by omega
          have hi1 : (q : Int) < (j : Int) := by omega
          have hdm : d1.size ≤ maxLen := by unfold maxLen; omega
          have HP := Lib.hid (pNameC d1 hdm W5)
          have HX := Lib.hid (And.intro (hcm.mv (hb5.block _ hcm.own.lt)) (And.intro (hrow.keep hb5) (And.intro (Rd.keep hb5 _ _ hr) (And.intro hx5 (HJ.out.below.trans (hb5.mono hsq))))))
          have HQ := Lib.hid (And.intro heq (And.intro hll hdm))
          obtain ⟨r1, hr1⟩ : ∃ r, nmB d1 = r := ⟨_, rfl⟩
          rw [hr1] at HP
          have HR1 := Lib.hid hr1
          clear hr hd hb5 hx5 hcm HJ hdr heq hll hrow hdm hr1
          go_wp2_with fail
          refine HP.out.mono ?_
          rintro e w6 ⟨rfl, hb6⟩
          have HX6 := Lib.hid (And.intro (HX.out.1.mv (hb6.block _ HX.out.1.own.lt)) (And.intro (HX.out.2.1.keep hb6) (And.intro (Rd.keep hb6 _ _ HX.out.2.2.1) (And.intro (HX.out.2.2.2.1.keep hb6 HX.out.2.2.2.1.lt) (HX.out.2.2.2.2.trans (hb6.mono HX.out.2.2.2.2.size))))))
          clear HP HX hb6 c0 e0 e1 e2 e3 hW5
          cases r1 with
          | false =>
            go_wp2_with fail
            go_ret2
            refine ⟨HX6.out.2.2.2.2, none, 0, 0, 1, rfl, .inr ⟨?_, by decide, rfl, rfl, rfl⟩⟩
            have h := HQ.out.1
            rw [if_neg (by rw [HR1.out]; simp)] at h
            exact h.symm
          | true =>
            have c0 : w6.cell? ⟨wr.heap.size, 0, none⟩ = some (.string d1) := HX6.out.2.2.2.1.cell 0
            have c1 : w6.cell? ⟨wr.heap.size, 1, none⟩ = some (.int .i64 k) := HX6.out.2.2.2.1.cell 1
            have c2 : w6.cell? ⟨wr.heap.size, 2, none⟩ = some (.int .i64 g) := HX6.out.2.2.2.1.cell 2
            have c3 : w6.cell? ⟨wr.heap.size, 3, none⟩ = some (.slice A' n' c') := HX6.out.2.2.2.1.cell 3
            have hrun := HX6.out.1.look HQ.out.2.2
            generalize hcn : cntD d1 ds = cn at *
            have HCN := Lib.hid hcn
            clear hcn
            by_cases hc1 : cn ≤ 1
            rotate_left
            · have d9 : decide ((1 : Int) < (cn : Int)) = true := by simp; omega
              go_wp2_with fail
              go_ret2
              refine ⟨HX6.out.2.2.2.2, none, 0, 0, 1, rfl, .inr ⟨?_, by decide, rfl, rfl, rfl⟩⟩
              have h := HQ.out.1
              rw [if_neg (fun e => by have := e.2; omega)] at h
              exact h.symm
            have d9 : decide ((1 : Int) < (cn : Int)) = false := by simp; omega
            have HT := Lib.hid (sTermC ds dT _ (some ⟨b, o, none⟩) j sc w6 HX6.out.2.2.1 (HD.out.keep HX6.out.2.2.2.2) HS.out)
            have HQ2 := Lib.hid (show (match showT ds dT with | .error e => .error e | .ok l' => showL ds (ds.drop (q + 1)) (l ++ lineD d1 l') nmB) = showD ds by
              have h := HQ.out.1
              rw [if_pos ⟨HR1.out, hc1⟩] at h
              exact h)
            go_wp2_with fail
            refine HT.out.mono ?_
            rintro e w7 ⟨hb7, A7, n7, c7, ec, rfl, hres⟩
            have HX7 := Lib.hid (And.intro (HX6.out.1.mv (hb7.block _ HX6.out.1.own.lt)) (And.intro (HX6.out.2.1.keep hb7) (And.intro (HX6.out.2.2.2.1.keep hb7 HX6.out.2.2.2.1.lt) (HX6.out.2.2.2.2.trans (hb7.mono HX6.out.2.2.2.2.size)))))
            have hs7 := hb7.size
            have hs6 := HX6.out.2.2.2.2.size
            clear HT HX6 hb7 c0 c1 c2 c3 hrun
            rcases hres with ⟨l', hl', rfl, hy7⟩ | ⟨hl', hec, rfl, rfl, rfl⟩
            rotate_left
            · have d8 : (ec == 0) = false := by simpa using hec
              have HE := Lib.hid (And.intro hl' hec)
              clear hl' hec
              go_wp2_with fail
              go_ret2
              refine ⟨HX7.out.2.2.2, none, 0, 0, ec, rfl, .inr ⟨?_, HE.out.2, rfl, rfl, rfl⟩⟩
              have h := HQ2.out
              rw [HE.out.1] at h
              exact h.symm
            have HL := Lib.hid hl'
            have hlen := show_len HS.out hl'
            have hcv := run_string hy7.yl
            have c0 : w7.cell? ⟨wr.heap.size, 0, none⟩ = some (.string d1) := HX7.out.2.2.1.cell 0
            clear hl' hy7
            obtain ⟨tx, htx⟩ : ∃ tx, (⟨l'.toArray⟩ : ByteArray) = tx := ⟨_, rfl⟩
            have htz : tx.size ≤ 2828000 := by rw [← htx]; show l'.toArray.size ≤ 2828000; simpa using hlen
            have hz1 : (d1 ++ ⟨#[32, 58, 32]⟩ : ByteArray).size ≤ 103 := by rw [ByteArray.size_append]; show d1.size + 3 ≤ 103; omega
            have hz2 : ((d1 ++ ⟨#[32, 58, 32]⟩ : ByteArray) ++ tx).size ≤ 2828103 := by rw [ByteArray.size_append]; omega
            have hz3 : (((d1 ++ ⟨#[32, 58, 32]⟩ : ByteArray) ++ tx) ++ ⟨#[46, 10]⟩ : ByteArray).size ≤ 2828105 := by rw [ByteArray.size_append]; show _ + 2 ≤ _; omega
            have hnl := HX7.out.2.1.len
            have hbk := HX7.out.1.own.lt
            obtain ⟨A8, c8, w8, hrun, hrow8, hgr8⟩ := HX7.out.2.1.appS (((d1 ++ ⟨#[32, 58, 32]⟩ : ByteArray) ++ tx) ++ ⟨#[46, 10]⟩) (by omega) (by have := HQ.out.2.1; have := HN.out; omega)
            have HJ8 := Lib.hid (show DdI ds w (q + 1) A8 (n + (((d1 ++ ⟨#[32, 58, 32]⟩ : ByteArray) ++ tx) ++ ⟨#[46, 10]⟩ : ByteArray).size) c8 w8 from by
              have hb8 : (((d1 ++ ⟨#[32, 58, 32]⟩ : ByteArray) ++ tx) ++ ⟨#[46, 10]⟩ : ByteArray).data.toList = lineD d1 l' := by rw [← htx]; exact line_bytes d1 l'
              refine ⟨⟨D, m, HX7.out.1.mv (hgr8.block _ hbk fun e => ?_)⟩, Below.grown HX7.out.2.2.2 hgr8 HX7.out.2.2.2.size (fun r hr => ?_), l ++ lineD d1 l', ?_, ?_, ?_⟩
              · have := (HX7.out.2.1.lt e.symm).1; omega
              · have := (HX7.out.2.1.lt hr).1; omega
              · rw [← hb8]; exact hrow8
              · have h := HQ2.out
                rw [HL.out] at h
                exact h
              · have h5 : (lineD d1 l').length ≤ 2828105 := by
                  rw [← hb8, Array.length_toList]; exact hz3
                rw [List.length_append]
                have := HQ.out.2.1
                omega)
            rw [htx] at hcv
            have HTX := Lib.hid htx
            clear htx hlen hrow8 hgr8 HX7 HQ HQ2 HL hnl hbk
            obtain ⟨z8, hz8⟩ : ∃ z8, n + (((d1 ++ ⟨#[32, 58, 32]⟩ : ByteArray) ++ tx) ++ ⟨#[46, 10]⟩ : ByteArray).size = z8 := ⟨_, rfl⟩
            rw [hz8] at hrun HJ8
            clear hz8
            go_wp2_with (at_builtin; first | (refine Lib.wpList_append_run _ rfl _ _ _ _ rfl _ _ rfl rfl _ _ hrun ?_; clear hrun))
            go_roundw
            case rel => exact ⟨q + 1, A8, _, c8, by omega, by go_num, rfl, HJ8⟩
            case measure => simp [Go.RowKit.intOf]; omega
        · obtain rfl : q = j := by omega
          obtain ⟨l, hrow, heq, hll⟩ := HJ.out.row
          rw [List.drop_of_length_le (by omega)] at heq
          have HR := Lib.hid (And.intro HJ.out.below (And.intro hrow (And.intro heq hll)))
          clear hrow heq hll HJ
          go_wp2_with fail
          go_ret2
          refine ⟨HR.out.1, A, n, c, 0, rfl, .inl ⟨l, HR.out.2.2.1.symm, rfl, by rw [hdl]; exact HR.out.2.2.2, HR.out.2.1.less (by omega)⟩⟩
end Go.Proofs.YtmkahbbcagfbhaaGreatDoor
/-
  Contracts of the laws' own Nat, awake and light, for layer 15. No statement is proved here.
-/
namespace Go.Proofs.YtmkahbbcagfbhaaGreatDoor
open Go.ChangeShapes Go.WideShapes Go.ChangeAt Go.RowKit
set_option linter.unusedVariables false
def natDs : List (ByteArray × T) := [(⟨#[110, 97, 116]⟩, .node 0 0 []), (⟨#[122]⟩, .node 2 0 []), (⟨#[115]⟩, .node 1 0 [.node 2 0 [], .node 2 0 []])]
def awS15 : T := .node 3 0 [.node 5 2 [.node 4 0 []]]
def awA : List UInt8 := [91, 95, 48, 93, 115, 32, 95, 48]
def awB : List UInt8 := [110, 97, 116, 32, 58, 32, 116, 121, 112, 101, 46, 10, 122, 32, 58, 32, 110, 97, 116, 46, 10, 115, 32, 58, 32, 123, 95, 48, 58, 110, 97, 116, 125, 110, 97, 116, 46, 10]
theorem aw_sh : showT natDs awS15 = .ok awA := by kernel_rfl
theorem aw_ds : showD natDs = .ok awB := by kernel_rfl
theorem wfS {x : Int} (h : 0 ≤ x) (h' : x ≤ 1000) : (Lit.int .i64 x).wf = true := by
  have := wrap64_wf x
  rwa [wrap_small (by omega) (by omega)] at this
theorem rd_leafS {w : World} {k h : Int} (hk : 0 ≤ k ∧ k ≤ 1000) (hh : 0 ≤ h ∧ h ≤ 1000) : Rd w (.node k h []) (.agg #[.int .i64 k, .int .i64 h, .slice none 0 0]) :=
  Rd_node.2 ⟨none, 0, 0, rfl, wfS hk.1 hk.2, wfS hh.1 hh.2, rfl, Nat.le_refl _, Nat.zero_le _, fun i t ht => by simp at ht⟩
theorem rd_rowS {w : World} {b : Nat} {ty : TypeId} {cs : Array Value} (h : BoxX w b ty cs) (ts : List T) (hr : ∀ i t, ts[i]? = some t → ∃ v0 v1 v2, cs[i * 3]? = some v0 ∧ cs[i * 3 + 1]? = some v1 ∧ cs[i * 3 + 2]? = some v2 ∧ Rd w t (.agg #[v0, v1, v2])) :
    ∀ i t, ts[i]? = some t → RdAt w (some ⟨b, 0, none⟩) i t := fun i t ht => by
  obtain ⟨v0, v1, v2, h0, h1, h2, hr⟩ := hr i t ht
  exact ⟨b, 0, v0, v1, v2, rfl, by rw [Nat.zero_add, h.cell]; exact h0, by rw [Nat.zero_add, h.cell]; exact h1, by rw [Nat.zero_add, h.cell]; exact h2, hr⟩
theorem nat_size : ∀ d ∈ natDs, d.1.size ≤ 100 := by
  intro d hd
  simp only [natDs, List.mem_cons, List.not_mem_nil, or_false] at hd
  rcases hd with rfl | rfl | rfl
  · show 3 ≤ 100; omega
  · show 1 ≤ 100; omega
  · show 1 ≤ 100; omega
set_option maxRecDepth 100000 in
set_option maxHeartbeats 4000000 in
theorem sNatC (w : World) : Calls Tryz.prog 17 #[] w fun e w' => ∃ q, e = .returned (.slice (some ⟨q, 0, none⟩) 3 3) ∧ DS w' natDs (some ⟨q, 0, none⟩) 3 3 ∧ Below w.heap.size w w' := by
  obtain ⟨W1, hW1⟩ : ∃ W1, w.alloc (.cells #[.int .i64 2, .int .i64 0, .slice none 0 0] 36) = W1 := ⟨_, rfl⟩
  have hb1 : Below w.heap.size w W1 := by rw [← hW1]; exact (Below.refl _ _).alloc (Nat.le_refl _) _
  have x1 : BoxX W1 w.heap.size 36 #[.int .i64 2, .int .i64 0, .slice none 0 0] := by rw [← hW1]; exact BoxX.new _ _ _
  have l1 : W1.heap.size = w.heap.size + 1 := by rw [← hW1]; simp
  obtain ⟨W2, hW2⟩ : ∃ W2, W1.alloc (.cells #[.int .i64 2, .int .i64 0, .slice none 0 0, .int .i64 2, .int .i64 0, .slice none 0 0] 36) = W2 := ⟨_, rfl⟩
  have hb2 : Below W1.heap.size W1 W2 := by rw [← hW2]; exact (Below.refl _ _).alloc (Nat.le_refl _) _
  have x2 : BoxX W2 (w.heap.size + 1) 36 #[.int .i64 2, .int .i64 0, .slice none 0 0, .int .i64 2, .int .i64 0, .slice none 0 0] := by
    have := BoxX.new W1 36 #[.int .i64 2, .int .i64 0, .slice none 0 0, .int .i64 2, .int .i64 0, .slice none 0 0]
    rw [hW2, l1] at this; exact this
  have l2 : W2.heap.size = w.heap.size + 1 + 1 := by rw [← hW2]; simp [l1]
  obtain ⟨W3, hW3⟩ : ∃ W3, W2.alloc (.cells #[.string { data := #[110, 97, 116] }, .int .i64 0, .int .i64 0, .slice none 0 0, .string { data := #[122] }, .int .i64 2, .int .i64 0, .slice none 0 0, .string { data := #[115] }, .int .i64 1, .int .i64 0, .slice (some ⟨w.heap.size + 1, 0, none⟩) 2 2] 46) = W3 := ⟨_, rfl⟩
  have hb3 : Below W2.heap.size W2 W3 := by rw [← hW3]; exact (Below.refl _ _).alloc (Nat.le_refl _) _
  have x3 : BoxX W3 (w.heap.size + 1 + 1) 46 #[.string { data := #[110, 97, 116] }, .int .i64 0, .int .i64 0, .slice none 0 0, .string { data := #[122] }, .int .i64 2, .int .i64 0, .slice none 0 0, .string { data := #[115] }, .int .i64 1, .int .i64 0, .slice (some ⟨w.heap.size + 1, 0, none⟩) 2 2] := by
    have := BoxX.new W2 46 #[.string { data := #[110, 97, 116] }, .int .i64 0, .int .i64 0, .slice none 0 0, .string { data := #[122] }, .int .i64 2, .int .i64 0, .slice none 0 0, .string { data := #[115] }, .int .i64 1, .int .i64 0, .slice (some ⟨w.heap.size + 1, 0, none⟩) 2 2]
    rw [hW3, l2] at this; exact this
  have y2 := x2.keep hb3 x2.lt
  have hbw := hb1.trans ((hb2.trans (hb3.mono hb2.size)).mono hb1.size)
  have hdl : DS W3 natDs (some ⟨w.heap.size + 1 + 1, 0, none⟩) 3 3 := ⟨rfl, Nat.le_refl _, by unfold maxLen; omega, fun d hd => Nat.le_trans (nat_size d hd) (by unfold maxLen; omega), fun i x hx => by
    match i, hx with
    | 0, hx =>
      cases hx
      exact ⟨w.heap.size + 1 + 1, 0, _, _, _, _, _, rfl, x3.cell 0, x3.cell 1, x3.cell 2, x3.cell 3, rd_leafS (by omega) (by omega)⟩
    | 1, hx =>
      cases hx
      exact ⟨w.heap.size + 1 + 1, 0, _, _, _, _, _, rfl, x3.cell 4, x3.cell 5, x3.cell 6, x3.cell 7, rd_leafS (by omega) (by omega)⟩
    | 2, hx =>
      cases hx
      refine ⟨w.heap.size + 1 + 1, 0, _, _, _, _, _, rfl, x3.cell 8, x3.cell 9, x3.cell 10, x3.cell 11, Rd_node.2 ⟨_, _, _, rfl, wfS (by omega) (by omega), wfS (by omega) (by omega), rfl, Nat.le_refl _, by unfold maxLen; omega, rd_rowS y2 _ fun i t ht => ?_⟩⟩
      match i, ht with
      | 0, ht => cases ht; exact ⟨_, _, _, rfl, rfl, rfl, rd_leafS (by omega) (by omega)⟩
      | 1, ht => cases ht; exact ⟨_, _, _, rfl, rfl, rfl, rd_leafS (by omega) (by omega)⟩
      | i + 2, ht => simp at ht
    | i + 3, hx => simp [natDs] at hx⟩
  have HD := Lib.hid hdl
  have HB := Lib.hid hbw
  have c0 := x1.cell 0
  have c1 := x1.cell 1
  have c2 := x1.cell 2
  simp only [List.getElem?_toArray, List.getElem?_cons_zero, List.getElem?_cons_succ] at c0 c1 c2
  have g1 := x1.frozen 1
  have g2 := x1.frozen 2
  clear hdl hbw x1 x2 x3 y2 hb1 hb2 hb3 l1
  subst hW1
  go_enter Tryz.func17, Tryz.ntmps17
  go_wp2_with fail
  clear hW2 hW3
  go_ret
  exact ⟨_, rfl, HD.out, HB.out⟩
set_option maxRecDepth 100000 in
set_option maxHeartbeats 4000000 in
theorem sAwakeC (w : World) : Calls Tryz.prog 5 #[] w fun e w' => e = .returned (.bool true) ∧ Below w.heap.size w w' := by
  obtain ⟨W1, hW1⟩ : ∃ W1, w.alloc (.cells #[.int .i64 4, .int .i64 0, .slice none 0 0] 36) = W1 := ⟨_, rfl⟩
  have hb1 : Below w.heap.size w W1 := by rw [← hW1]; exact (Below.refl _ _).alloc (Nat.le_refl _) _
  have x1 : BoxX W1 w.heap.size 36 #[.int .i64 4, .int .i64 0, .slice none 0 0] := by rw [← hW1]; exact BoxX.new _ _ _
  have l1 : W1.heap.size = w.heap.size + 1 := by rw [← hW1]; simp
  obtain ⟨W2, hW2⟩ : ∃ W2, W1.alloc (.cells #[.int .i64 5, .int .i64 2, .slice (some ⟨w.heap.size, 0, none⟩) 1 1] 36) = W2 := ⟨_, rfl⟩
  have hb2 : Below W1.heap.size W1 W2 := by rw [← hW2]; exact (Below.refl _ _).alloc (Nat.le_refl _) _
  have x2 : BoxX W2 (w.heap.size + 1) 36 #[.int .i64 5, .int .i64 2, .slice (some ⟨w.heap.size, 0, none⟩) 1 1] := by
    have := BoxX.new W1 36 #[.int .i64 5, .int .i64 2, .slice (some ⟨w.heap.size, 0, none⟩) 1 1]
    rw [hW2, l1] at this; exact this
  have l2 : W2.heap.size = w.heap.size + 1 + 1 := by rw [← hW2]; simp [l1]
  obtain ⟨W3, hW3⟩ : ∃ W3, W2.alloc (.cells #[.int .i64 3, .int .i64 0, .slice (some ⟨w.heap.size + 1, 0, none⟩) 1 1] 36) = W3 := ⟨_, rfl⟩
  have hb3 : Below W2.heap.size W2 W3 := by rw [← hW3]; exact (Below.refl _ _).alloc (Nat.le_refl _) _
  have x3 : BoxX W3 (w.heap.size + 1 + 1) 36 #[.int .i64 3, .int .i64 0, .slice (some ⟨w.heap.size + 1, 0, none⟩) 1 1] := by
    have := BoxX.new W2 36 #[.int .i64 3, .int .i64 0, .slice (some ⟨w.heap.size + 1, 0, none⟩) 1 1]
    rw [hW3, l2] at this; exact this
  have l3 : W3.heap.size = w.heap.size + 1 + 1 + 1 := by rw [← hW3]; simp [l2]
  have hbw := hb1.trans ((hb2.trans (hb3.mono hb2.size)).mono hb1.size)
  have y2 := x2.keep hb3 x2.lt
  have y1 := x1.keep (hb2.trans (hb3.mono hb2.size)) x1.lt
  have hrd : Rd W3 awS15 (.agg #[.int .i64 3, .int .i64 0, .slice (some ⟨w.heap.size + 1, 0, none⟩) 1 1]) := by
    refine Rd_node.2 ⟨_, _, _, rfl, wfS (by omega) (by omega), wfS (by omega) (by omega), rfl, Nat.le_refl _, by unfold maxLen; omega, rd_rowS y2 _ fun i t ht => ?_⟩
    match i, ht with
    | 0, ht =>
      cases ht
      refine ⟨_, _, _, rfl, rfl, rfl, Rd_node.2 ⟨_, _, _, rfl, wfS (by omega) (by omega), wfS (by omega) (by omega), rfl, Nat.le_refl _, by unfold maxLen; omega, rd_rowS y1 _ fun i t ht => ?_⟩⟩
      match i, ht with
      | 0, ht => cases ht; exact ⟨_, _, _, rfl, rfl, rfl, rd_leafS (by omega) (by omega)⟩
      | i + 1, ht => simp at ht
    | i + 1, ht => simp at ht
  have HR := Lib.hid hrd
  have HB := Lib.hid hbw
  have c0 := x3.cell 0
  have c1 := x3.cell 1
  have c2 := x3.cell 2
  simp only [List.getElem?_toArray, List.getElem?_cons_zero, List.getElem?_cons_succ] at c0 c1 c2
  clear hbw x1 x2 x3 y1 y2 hb1 hb2 hb3 hrd l3
  subst hW1
  go_enter Tryz.func5, Tryz.ntmps5
  go_wp2_with fail
  clear hW2 hW3
  have HKS : Hid (∀ w' : World, Below W3.heap.size W3 w' → (fun w' => w'.cell? ⟨w.heap.size + 1 + 1, 0, none⟩ = some (.int .i64 3) ∧ w'.cell? ⟨w.heap.size + 1 + 1, 1, none⟩ = some (.int .i64 0) ∧ w'.cell? ⟨w.heap.size + 1 + 1, 2, none⟩ = some (.slice (some ⟨w.heap.size + 1, 0, none⟩) 1 1)) w') := Lib.hid fun w' h => ⟨(h.cell (cell_ltX c0)).trans c0, (h.cell (cell_ltX c1)).trans c1, (h.cell (cell_ltX c2)).trans c2⟩
  have hbd : Below W3.heap.size W3 W3.drew := (Below.refl _ W3).drew
  refine zzR HKS hbd (fun hS => ?_)
  simp only [List.size_toArray, List.length_cons, List.length_nil, Nat.reduceAdd]
  refine wpAnyH_take (i := 0) (v := .agg #[.int .i64 3, .int .i64 0, .slice (some ⟨w.heap.size + 1, 0, none⟩) 1 1]) rfl (by kernel_rfl) (by kernel_rfl) (by kernel_rfl) (fun _ _ _ h => h) (Or.inl ⟨by kernel_rfl, ?_⟩) hS ?_
  · intro w' hSw
    obtain ⟨s0, s1, s2⟩ := hSw
    go_simp
  try simp only [Act.put, List.getElem_toArray, List.getElem_cons_zero, List.setIfInBounds_toArray, List.set_cons_zero, List.set_cons_succ]
  refine wpAnyH_ready (rs := [1]) (by kernel_rfl) (by simp) ?_
  refine AllReadyH.cons rfl (fun KN hK => ?_) AllReadyH.nil
  go_simp
  refine (sNatC _).mono ?_
  rintro e w4 ⟨q, rfl, hds, hb4⟩
  have hb4' := hbd.trans (hb4.mono hbd.size)
  have HT := Lib.hid (sTermC natDs awS15 _ _ 3 3 w4 (Rd.keep hb4' _ _ HR.out) hds nat_size)
  clear hb4 hds
  refine hK.out _ _ (HKS.out _ hb4') (fun hS => ?_)
  clear hK KN
  try simp only [Act.put, zzP]
  refine wpAnyH_ready (rs := [2]) (by kernel_rfl) (by simp) ?_
  refine AllReadyH.cons rfl (fun KN hK => ?_) AllReadyH.nil
  go_simp
  refine HT.out.mono ?_
  rintro e w5 ⟨hb5, A5, n5, c5, ec, rfl, hres⟩
  obtain ⟨rfl, hy5⟩ : ec = 0 ∧ YRow w5 w4.heap.size (.slice A5 n5 c5) n5 awA := by
    rcases hres with ⟨l, h, h2, h3⟩ | ⟨h, _⟩
    · rw [aw_sh] at h; cases h; exact ⟨h2, h3⟩
    · rw [aw_sh] at h; cases h
  have hb5' := hb4'.trans (hb5.mono hb4'.size)
  clear HT hres
  refine hK.out _ _ (HKS.out _ hb5') (fun hS => ?_)
  clear hK KN
  try simp only [Act.put, zzP]
  refine wpAnyH_take (i := 3) (v := .tuple #[.slice A5 n5 c5, .int .i64 0]) rfl (by kernel_rfl) (by kernel_rfl) (by kernel_rfl) (fun _ _ _ h => h) (Or.inl ⟨by kernel_rfl, ?_⟩) hS ?_
  · intro w' hSw
    obtain ⟨s0, s1, s2⟩ := hSw
    go_simp
  try simp only [Act.put, List.getElem_toArray, List.getElem_cons_succ, List.getElem_cons_zero, List.setIfInBounds_toArray, List.set_cons_zero, List.set_cons_succ]
  refine wpAnyH_take (i := 4) (v := .slice A5 n5 c5) rfl (by kernel_rfl) (by kernel_rfl) (by kernel_rfl) (fun _ _ _ h => h) (Or.inl ⟨by kernel_rfl, ?_⟩) hS ?_
  · intro w' hSw
    obtain ⟨s0, s1, s2⟩ := hSw
    go_simp
  try simp only [Act.put, List.getElem_toArray, List.getElem_cons_succ, List.getElem_cons_zero, List.setIfInBounds_toArray, List.set_cons_zero, List.set_cons_succ]
  refine wpAnyH_take (i := 5) (v := .int .i64 0) rfl (by kernel_rfl) (by kernel_rfl) (by kernel_rfl) (fun _ _ _ h => h) (Or.inl ⟨by kernel_rfl, ?_⟩) hS ?_
  · intro w' hSw
    obtain ⟨s0, s1, s2⟩ := hSw
    go_simp
  try simp only [Act.put, List.getElem_toArray, List.getElem_cons_succ, List.getElem_cons_zero, List.setIfInBounds_toArray, List.set_cons_zero, List.set_cons_succ]
  refine wpAnyH_take (i := 6) (v := .slice A5 n5 c5) rfl (by kernel_rfl) (by kernel_rfl) (by kernel_rfl) (fun _ _ _ h => h) (Or.inl ⟨by kernel_rfl, ?_⟩) hS ?_
  · intro w' hSw
    obtain ⟨s0, s1, s2⟩ := hSw
    go_simp
  try simp only [Act.put, List.getElem_toArray, List.getElem_cons_succ, List.getElem_cons_zero, List.setIfInBounds_toArray, List.set_cons_zero, List.set_cons_succ]
  refine wpAnyH_take (i := 7) (v := .int .i64 0) rfl (by kernel_rfl) (by kernel_rfl) (by kernel_rfl) (fun _ _ _ h => h) (Or.inl ⟨by kernel_rfl, ?_⟩) hS ?_
  · intro w' hSw
    obtain ⟨s0, s1, s2⟩ := hSw
    go_simp
  try simp only [Act.put, List.getElem_toArray, List.getElem_cons_succ, List.getElem_cons_zero, List.setIfInBounds_toArray, List.set_cons_zero, List.set_cons_succ]
  refine wpAnyH_done (by kernel_rfl) ?_ _
  try simp only [zzP]
  have HB5 := Lib.hid (HB.out.trans (hb5'.mono HB.out.size))
  have HY5 := Lib.hid hy5
  clear hy5 hb5 hb5' hb4' hS HKS hbd c0 c1 c2
  go_wp2_with fail
  refine (sNatC _).mono ?_
  rintro e w6 ⟨q6, rfl, hds6, hb6⟩
  have HD6 := Lib.hid (sDeclsC natDs _ 3 3 w6 hds6 nat_size (by decide))
  have HB6 := Lib.hid hb6
  clear hds6 hb6
  go_wp2_with fail
  refine HD6.out.mono ?_
  rintro e w7 ⟨hb7, A7, n7, c7, ec, rfl, hres⟩
  obtain ⟨rfl, hy7⟩ : ec = 0 ∧ YRow w7 w6.heap.size (.slice A7 n7 c7) n7 awB := by
    rcases hres with ⟨l, h, h2, _, h3⟩ | ⟨h, _⟩
    · rw [aw_ds] at h; cases h; exact ⟨h2, h3⟩
    · rw [aw_ds] at h; cases h
  have hb57 := HB6.out.trans (hb7.mono HB6.out.size)
  have HB7 := Lib.hid (HB5.out.trans (hb57.mono HB5.out.size))
  have hcv5 := run_string (HY5.out.keep hb57).yl
  have hcv7 := run_string hy7.yl
  clear HD6 hres hb7 hy7 hb57 HB6 HY5 HB5
  go_wp2_with fail
  go_ret
  exact ⟨rfl, HB7.out⟩
set_option maxRecDepth 100000 in
theorem sLightC (ds : List (ByteArray × T)) (A : Option Addr) (n c : Nat) (w : World) (hD : DS w ds A n c) : Calls Tryz.prog 7 #[.slice A n c] w fun e w' => e = .returned (.bool (ds.all fun d => decide (d.1.size ≤ 100))) ∧ Below w.heap.size w w' := by
  have hm := hD.cap
  have hc := hD.le
  have hln := hD.len
  unfold maxLen at hm
  have HX := Lib.hid hD; clear hD
  go_enter Tryz.func7, Tryz.ntmps7
  go_wp2_with fail
  go_loopw [3] (fun i wr => ∃ (j : Nat), j ≤ n ∧ i = .int .i64 j ∧ Hid ((ds.drop j).all (fun d => decide (d.1.size ≤ 100)) = ds.all fun d => decide (d.1.size ≤ 100)) ∧ Below w.heap.size w wr) (fun i _ => n - (Go.RowKit.intOf i).toNat)
  case atStart => exact ⟨0, Nat.zero_le _, rfl, Lib.hid (by simp), Below.refl _ _⟩
  case round =>
    obtain ⟨j, hj, rfl, HS, hb⟩ := hrel
    by_cases hlt : j < n
    · obtain ⟨x, hx⟩ := at_ofX hln hlt
      obtain ⟨b1, o1, k1, h1, A1, n1, c1, hA, c0, _⟩ := (HX.out.keep hb).at_ j x hx
      subst hA
      have hi0 : (0 : Int) ≤ j := by omega
      have hi1 : (j : Int) < n := by omega
      have HS' := HS.out
      rw [drop_atX hx, List.all_cons] at HS'
      have HS2 := Lib.hid HS'
      clear HS' HS hx
      obtain ⟨s, y⟩ := x
      dsimp only at c0 HS2
      by_cases hz : s.size ≤ 100
      · have d1 : decide ((100 : Int) < (s.size : Int)) = false := by simp; omega
        go_wp2_with fail
        go_roundw
        case rel => exact ⟨j + 1, by omega, by go_num, Lib.hid (by have := HS2.out; simpa [hz] using this), hb⟩
        case measure => simp [Go.RowKit.intOf]; omega
      · have d1 : decide ((100 : Int) < (s.size : Int)) = true := by simp; omega
        go_wp2_with fail
        go_ret
        exact ⟨ret_bool (by rw [← HS2.out]; simp [hz]), hb⟩
    · go_wp2_with fail
      go_ret
      exact ⟨ret_bool (by rw [← HS.out, List.drop_of_length_le (by omega)]; rfl), hb⟩
theorem light_of {ds : List (ByteArray × T)} (h : (ds.all fun d => decide (d.1.size ≤ 100)) = true) : ∀ d ∈ ds, d.1.size ≤ 100 := fun d hd => of_decide_eq_true (List.all_eq_true.1 h d hd)
end Go.Proofs.YtmkahbbcagfbhaaGreatDoor
/-
  What is written, in plain words, for the laws: errors, names that stand once. No statement is proved here.
-/
namespace Go.Proofs.YtmkahbbcagfbhaaGreatDoor
open Go.ChangeShapes Go.WideShapes Go.ChangeAt Go.RowKit
set_option linter.unusedVariables false
theorem showL_ok {ds : List (ByteArray × T)} {nm : ByteArray → Bool} : ∀ (r : List (ByteArray × T)) (b l : List UInt8), showL ds r b nm = .ok l → ∀ d ∈ r, nm d.1 = true ∧ cntD d.1 ds ≤ 1 ∧ ∃ l', showT ds d.2 = .ok l'
  | [], b, l, _, d, hd => by cases hd
  | d0 :: r, b, l, h, d, hd => by
    rw [showL] at h
    split at h
    · rename_i h1
      split at h
      · cases h
      · rename_i l' h2
        rcases List.mem_cons.1 hd with rfl | hd
        · exact ⟨h1.1, h1.2, l', h2⟩
        · exact showL_ok r _ _ h d hd
    · cases h
/-- a name that stands twice is counted twice -/
theorem cnt_two {s : ByteArray} : ∀ {ds : List (ByteArray × T)} {i k : Nat} {a b : ByteArray × T}, ds[k]? = some a → ds[i]? = some b → k < i → a.1 = s → b.1 = s → 2 ≤ cntD s ds
  | [], i, k, a, b, h, _, _, _, _ => by simp at h
  | x :: l, i, 0, a, b, hk, hi, hlt, ha, hb => by
    obtain ⟨i, rfl⟩ : ∃ i', i = i' + 1 := ⟨i - 1, by omega⟩
    have e : x = a := by simpa using hk
    subst e
    have h1 : 0 < cntD s l := List.countP_pos_iff.2 ⟨b, List.mem_of_getElem? (by simpa using hi), decide_eq_true hb⟩
    unfold cntD at h1 ⊢
    rw [List.countP_cons, if_pos (decide_eq_true ha)]
    omega
  | x :: l, 0, k + 1, a, b, hk, hi, hlt, ha, hb => by omega
  | x :: l, i + 1, k + 1, a, b, hk, hi, hlt, ha, hb => by
    have := cnt_two (s := s) (ds := l) (i := i) (k := k) (by simpa using hk) (by simpa using hi) (by omega) ha hb
    unfold cntD at this ⊢
    rw [List.countP_cons]
    omega
end Go.Proofs.YtmkahbbcagfbhaaGreatDoor
/-
  What is read has Heads that are declared; what is written of it is read as that: plain. No statement is proved here.
-/
namespace Go.Proofs.YtmkahbbcagfbhaaGreatDoor
open Go.ChangeShapes Go.WideShapes Go.ChangeAt Go.RowKit
set_option linter.unusedVariables false
/-- a property that all terms have which are read -/
structure Clo (sg : List (ByteArray × T)) (M : T → Prop) : Prop where
  sort : M (.node 0 0 [])
  pi : ∀ a b, M a → M b → M (.node 1 0 [a, b])
  lam : ∀ a, M a → M (.node 3 0 [a])
  head : ∀ bs s u, headM sg bs s = .ok u → ∀ us, (∀ x ∈ us, M x) → M (addA u us)
theorem Clo.one {sg : List (ByteArray × T)} {M : T → Prop} (C : Clo sg M) {bs : List ByteArray} {s : ByteArray} {u : T} (h : headM sg bs s = .ok u) : M u := by
  have := C.head bs s u h [] (fun x hx => by cases hx)
  obtain ⟨k, i, rfl, _⟩ := head_sc h
  exact this
/-- whether a declaration is a kind -/
def kdD (ds : List (ByteArray × T)) (h : Int) : Bool := kiB (ds.getD h.toNat (⟨#[]⟩, .node 0 0 [])).2
theorem posD_uniq {s : ByteArray} : ∀ {ds : List (ByteArray × T)} {i : Nat} {d : ByteArray × T}, ds[i]? = some d → d.1 = s → cntD s ds ≤ 1 → posD s ds = some (i, d.2)
  | [], i, d, h, _, _ => by simp at h
  | x :: ds, 0, d, h, hs, hc => by
    have e : x = d := by simpa using h
    subst e
    rw [posD, if_pos hs]
  | x :: ds, i + 1, d, h, hs, hc => by
    have hi : ds[i]? = some d := by simpa using h
    have h1 : 0 < cntD s ds := List.countP_pos_iff.2 ⟨d, List.mem_of_getElem? hi, decide_eq_true hs⟩
    have hx : x.1 ≠ s := fun e => by
      unfold cntD at h1 hc
      rw [List.countP_cons, if_pos (decide_eq_true e)] at hc
      omega
    have hc' : cntD s ds ≤ 1 := by
      unfold cntD at hc ⊢
      rw [List.countP_cons] at hc
      omega
    rw [posD, if_neg hx, posD_uniq hi hs hc']
    rfl
theorem nmB_head {s : ByteArray} (h : nmB s = true) : s.data.toList.head? ≠ some 95 := by
  unfold nmB at h
  simp only [Bool.and_eq_true, decide_eq_true_eq] at h
  exact h.2.2.2.2
/-- names that may be declared, each once -/
structure GdD (ds : List (ByteArray × T)) : Prop where
  nm : ∀ d ∈ ds, nmB d.1 = true
  once : ∀ d ∈ ds, cntD d.1 ds ≤ 1
theorem GdD.at_ {ds : List (ByteArray × T)} (h : GdD ds) : NmOk (nmD ds) (kdD ds) ds ds.length := ⟨fun g hg => by
  have hd : ds[g]? = some ds[g] := List.getElem?_eq_getElem hg
  have hm := List.mem_of_getElem? hd
  have e : nmD ds g = (ds[g]).1 := by rw [nmD, Int.toNat_natCast, List.getD_eq_getElem?_getD, hd]; rfl
  have e2 : kdD ds g = kiB (ds[g]).2 := by rw [kdD, Int.toNat_natCast, List.getD_eq_getElem?_getD, hd]; rfl
  rw [e, e2]
  exact ⟨(nm_of (h.nm _ hm)).ty, nmB_head (h.nm _ hm), (ds[g]).2, posD_uniq hd rfl (h.once _ hm), rfl⟩⟩
theorem GdD.good {ds : List (ByteArray × T)} (h : GdD ds) (g : Nat) (hg : g < ds.length) : GoodT (0, nmD ds g) := by
  have hd : ds[g]? = some ds[g] := List.getElem?_eq_getElem hg
  have e : nmD ds g = (ds[g]).1 := by rw [nmD, Int.toNat_natCast, List.getD_eq_getElem?_getD, hd]; rfl
  rw [e]
  exact good_name (nm_of (h.nm _ (List.mem_of_getElem? hd)))
/-- what is written over such is read as what it was -/
theorem show_read {ds : List (ByteArray × T)} (h : GdD ds) {t : T} {l : List UInt8} (hs : showT ds t = .ok l) (hk : kdB (kdD ds) t = true) (hl : l.length ≤ 20000) : readT ds l = .ok t := by
  obtain ⟨hw, rfl, hn⟩ := wr_of hs
  exact readT_sh h.at_ h.good hw hk hn hl
end Go.Proofs.YtmkahbbcagfbhaaGreatDoor
