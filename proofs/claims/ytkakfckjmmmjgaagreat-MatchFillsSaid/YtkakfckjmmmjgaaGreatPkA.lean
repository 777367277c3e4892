/-
  Texts of one proof, put together. No statement is proved here.
-/
import Derived.Test.YtkakfckjmmmjgaaGreatPd
import Derived.Test.YtkakfckjmmmjgaaGreatWi
import Derived.Test.YtkakfckjmmmjgaaGreatWe
import Derived.Test.YtkakfckjmmmjgaaGreatOl
import Derived.Test.YtkakfckjmmmjgaaGreatChecked
import Derived.Shelf.Sort.Plain
import Derived.Test.YtkakfckjmmmjgaaGreatOa
import Derived.Shelf.Bits.Mul64
import Derived.Test.YtkakfckjmmmjgaaGreatOw
import Derived.Test.YtkakfckjmmmjgaaGreatCs
import Derived.Laws.CopyRow
import Derived.Lib.SlBuf
import Derived.Test.YtkakfckjmmmjgaaGreatSm
import Derived.Test.YtkakfckjmmmjgaaGreatSu

/-
  Terms whose metas become something, as a plain function, and what holds of what it tells: how many nodes, Heads. No statement is proved here.
-/
namespace Go.Proofs.YtkakfckjmmmjgaaGreat
open Go.ChangeShapes Go.WideShapes Go.ChangeAt Go.RowKit
set_option linter.unusedVariables false

/-- a node with its Args, filled -/
def flN (th : List T) (n k h : Int) (ys : List T) : Except Int T :=
  if k = 6 then
    if (th.length : Int) ≤ h then .error 2
    else if ys.all myB = true then
      if apE (th.getD h.toNat (.node 0 0 [])) ys n = 0 then .ok (apT (th.getD h.toNat (.node 0 0 [])) ys n) else .error (apE (th.getD h.toNat (.node 0 0 [])) ys n)
    else .error 4
  else .ok (.node k h ys)
mutual
/-- a term with what its metas become, in a context of n entries -/
def flT (th : List T) : T → Int → Except Int T
  | .node k h xs, n =>
    match flL th k xs.length xs 0 n with
    | .error e => .error e
    | .ok ys => flN th n k h ys
def flL (th : List T) (k : Int) (m : Nat) : List T → Nat → Int → Except Int (List T)
  | [], _, _ => .ok []
  | x :: xs, i, n =>
    match flT th x (n + bd k m i) with
    | .error e => .error e
    | .ok y =>
      match flL th k m xs (i + 1) n with
      | .error e => .error e
      | .ok ys => .ok (y :: ys)
end

/-- what is too great takes no room -/
def kp (c : Nat) (t : T) : T := if 4000 < c then .node 7 0 [] else t
def kpL : Nat → List T → List T
  | _, [] => []
  | c, y :: ys => kp (c + nd y) y :: kpL (c + nd y) ys
/-- a part that is filled, behind so many nodes -/
def pf (th : List T) (n : Int) (c : Nat) (t : T) : Res :=
  match flT th t n with
  | .error e => .error e
  | .ok t' => .ok (kp (c + nd t') t', c + nd t')
/-- a list of what its elements become -/
def eaL (g : Nat → T → Nat → Res) : List T → Nat → Nat → Except Int (List T × Nat)
  | [], _, c => .ok ([], c)
  | x :: xs, i, c =>
    match g i x c with
    | .error e => .error e
    | .ok (y, c1) =>
      match eaL g xs (i + 1) c1 with
      | .error e => .error e
      | .ok (ys, c2) => .ok (y :: ys, c2)

theorem kpL_id : ∀ (ys : List T) (c : Nat), c + ndL ys ≤ 4000 → kpL c ys = ys
  | [], _, _ => rfl
  | y :: ys, c, h => by
    rw [ndL] at h
    rw [kpL, kp, if_neg (by omega), kpL_id ys (c + nd y) (by omega)]
theorem my_leaf7 : myB (.node 7 0 []) = false := by decide
theorem my_kp (y : T) : myB (kp (nd y) y) = myB y := by
  unfold kp
  split
  · rw [my_leaf7]
    cases h : myB y with
    | false => rfl
    | true => have := ((myB_iff y).1 h).2.1; omega
  · rfl
theorem kp_my {y : T} (h : myB y = true) : kp (nd y) y = y := by
  unfold kp
  rw [if_neg (by have := ((myB_iff y).1 h).2.1; omega)]
theorem all_kp (ys : List T) : (ys.map fun y => kp (nd y) y).all myB = ys.all myB := by
  rw [List.all_map]
  congr 1
  funext y
  exact my_kp y
theorem map_kp {ys : List T} (h : ys.all myB = true) : (ys.map fun y => kp (nd y) y) = ys := by
  have := List.map_congr_left (l := ys) (f := fun y => kp (nd y) y) (g := id) fun y hy => kp_my (List.all_eq_true.1 h y hy)
  rw [this, List.map_id]
/-- the Args of a node, part by part -/
theorem ea_fill (th : List T) (n k : Int) (m : Nat) : ∀ (xs : List T) (i c : Nat), eaL (fun i x c => pf th (n + bd k m i) c x) xs i c = match flL th k m xs i n with
    | .error e => .error e
    | .ok ys => .ok (kpL c ys, c + ndL ys)
  | [], i, c => by simp [eaL, flL, kpL, ndL]
  | x :: xs, i, c => by
    rw [eaL, flL, pf]
    cases hx : flT th x (n + bd k m i) with
    | error e => rfl
    | ok y =>
      simp only
      rw [ea_fill th n k m xs (i + 1) (c + nd y)]
      cases flL th k m xs (i + 1) n with
      | error e => rfl
      | ok ys => simp only [kpL, ndL]; rw [Nat.add_assoc]
/-- what becomes of one of a meta's Args -/
def po (th : List T) (n : Int) (c : Nat) (t : T) : Res :=
  match pf th n 0 t with
  | .error e => .error e
  | .ok (y, _) => .ok (y, c)
theorem dpL_mem {t : T} : ∀ {xs : List T}, t ∈ xs → dp t ≤ dpL xs
  | x :: xs, h => by
    rw [dpL]
    rcases List.mem_cons.1 h with rfl | h
    · omega
    · have := dpL_mem h
      omega
theorem bd6 (m i : Nat) : bd 6 m i = 0 := by simp [bd]
/-- the Args of a meta, each by itself -/
theorem ea_own (th : List T) (n : Int) (m : Nat) : ∀ (xs : List T) (i c : Nat), eaL (fun _ x c => po th n c x) xs i c = match flL th 6 m xs i n with
    | .error e => .error e
    | .ok ys => .ok (ys.map (fun y => kp (nd y) y), c)
  | [], i, c => by simp [eaL, flL]
  | x :: xs, i, c => by
    rw [eaL, flL, bd6, Int.add_zero, po, pf]
    cases hx : flT th x n with
    | error e => rfl
    | ok y =>
      simp only
      rw [ea_own th n m xs (i + 1) c]
      cases flL th 6 m xs (i + 1) n with
      | error e => rfl
      | ok ys => simp only [List.map_cons, Nat.zero_add]
/-- a meta -/
theorem pf_meta (th : List T) (n h : Int) (xs : List T) (c : Nat) : pf th n c (.node 6 h xs) = match flL th 6 xs.length xs 0 n with
    | .error e => .error e
    | .ok ys =>
      if (th.length : Int) ≤ h then .error 2
      else if ys.all myB = true then
        if apE (th.getD h.toNat (.node 0 0 [])) ys n = 0 then .ok (kp (c + nd (apT (th.getD h.toNat (.node 0 0 [])) ys n)) (apT (th.getD h.toNat (.node 0 0 [])) ys n), c + nd (apT (th.getD h.toNat (.node 0 0 [])) ys n)) else .error (apE (th.getD h.toNat (.node 0 0 [])) ys n)
      else .error 4 := by
  rw [pf, flT]
  cases flL th 6 xs.length xs 0 n with
  | error e => rfl
  | ok ys =>
    simp only [flN, if_true]
    split
    · rename_i e he
      split at he
      · rename_i h1
        cases he
        rw [if_pos h1]
      · rename_i h1
        rw [if_neg h1]
        split at he
        · rename_i h2
          rw [if_pos h2]
          split at he
          · cases he
          · rename_i h3
            cases he
            rw [if_neg h3]
        · rename_i h2
          cases he
          rw [if_neg h2]
    · rename_i t' he
      split at he
      · cases he
      · rename_i h1
        rw [if_neg h1]
        split at he
        · rename_i h2
          rw [if_pos h2]
          split at he
          · rename_i h3
            cases he
            rw [if_pos h3]
          · cases he
        · cases he
/-- a node that is kept -/
theorem pf_node (th : List T) (n k h : Int) (xs : List T) (c : Nat) (hk : k ≠ 6) : pf th n c (.node k h xs) = match flL th k xs.length xs 0 n with
    | .error e => .error e
    | .ok ys => .ok (kp (c + ndL ys + 1) (.node k h (kpL c ys)), c + ndL ys + 1) := by
  unfold pf
  rw [flT]
  cases flL th k xs.length xs 0 n with
  | error e => rfl
  | ok ys =>
    simp only [flN, if_neg hk]
    have e : c + nd (.node k h ys) = c + ndL ys + 1 := by rw [nd]; omega
    rw [e]
    unfold kp
    split
    · rfl
    · rw [kpL_id ys c (by omega)]

/-! ### What is answered may be -/
theorem ap_zero {t : T} {L : List T} {sh : Int} (h : apE t L sh = 0) : myB t = true ∧ sbB L sh = true ∧ ∃ m, apR t L sh = .ok (apT t L sh, m) ∧ myB (apT t L sh) = true := by
  unfold apE at h
  by_cases hp : (myB t && sbB L sh) = true
  · rw [if_pos hp] at h
    have hp' := hp
    rw [Bool.and_eq_true] at hp'
    refine ⟨hp'.1, hp'.2, ?_⟩
    unfold apT
    rw [if_pos hp]
    cases hr : apR t L sh with
    | error e => rw [hr] at h; exact absurd (by simpa [anE] using h) (ap_err _ _ _ _ _ _ _ hr)
    | ok p =>
      obtain ⟨t', m⟩ := p
      rw [hr] at h
      have hm : myB t' = true := by
        cases hm : myB t' with
        | true => rfl
        | false => simp [anE, hm] at h
      simp only [anT, hm, if_true]
      exact ⟨m, rfl, trivial⟩
  · rw [if_neg hp] at h
    omega
mutual
theorem fl_nd (th : List T) : ∀ (t : T) (n : Int) (t' : T), flT th t n = .ok t' → nd t' ≤ 4000 * nd t
  | .node k h xs, n, t', hr => by
    rw [flT] at hr
    split at hr
    · cases hr
    · rename_i ys hy
      have := flL_nd th k xs.length xs 0 n ys hy
      rw [nd]
      unfold flN at hr
      split at hr
      · split at hr
        · cases hr
        · split at hr
          · split at hr
            · rename_i h0
              cases hr
              obtain ⟨_, _, _, _, hm⟩ := ap_zero h0
              have := ((myB_iff _).1 hm).2.1
              omega
            · cases hr
          · cases hr
      · cases hr
        rw [nd]
        omega
theorem flL_nd (th : List T) (k : Int) (m : Nat) : ∀ (xs : List T) (i : Nat) (n : Int) (ys : List T), flL th k m xs i n = .ok ys → ndL ys ≤ 4000 * ndL xs
  | [], i, n, ys, hr => by
    rw [flL] at hr
    cases hr
    simp [ndL]
  | x :: xs, i, n, ys, hr => by
    rw [flL] at hr
    split at hr
    · cases hr
    · rename_i y hy
      have := fl_nd th x _ y hy
      split at hr
      · cases hr
      · rename_i zs hz
        have := flL_nd th k m xs (i + 1) n zs hz
        cases hr
        rw [ndL, ndL]
        omega
end
theorem flL_len (th : List T) (k : Int) (m : Nat) : ∀ (xs : List T) (i : Nat) (n : Int) (ys : List T), flL th k m xs i n = .ok ys → ys.length = xs.length
  | [], i, n, ys, hr => by
    rw [flL] at hr
    cases hr
    rfl
  | x :: xs, i, n, ys, hr => by
    rw [flL] at hr
    split at hr
    · cases hr
    · split at hr
      · cases hr
      · rename_i zs hz
        have := flL_len th k m xs (i + 1) n zs hz
        cases hr
        simp [this]
mutual
theorem fl_err (th : List T) : ∀ (t : T) (n e : Int), flT th t n = .error e → e ≠ 0
  | .node k h xs, n, e, hr => by
    rw [flT] at hr
    split at hr
    · rename_i e' he
      cases hr
      exact flL_err th k xs.length xs 0 n e he
    · unfold flN at hr
      split at hr
      · split at hr
        · cases hr; omega
        · split at hr
          · split at hr
            · cases hr
            · cases hr; assumption
          · cases hr; omega
      · cases hr
theorem flL_err (th : List T) (k : Int) (m : Nat) : ∀ (xs : List T) (i : Nat) (n e : Int), flL th k m xs i n = .error e → e ≠ 0
  | [], i, n, e, hr => by
    rw [flL] at hr
    cases hr
  | x :: xs, i, n, e, hr => by
    rw [flL] at hr
    split at hr
    · rename_i e' he
      cases hr
      exact fl_err th x _ e he
    · split at hr
      · rename_i e' he
        cases hr
        exact flL_err th k m xs (i + 1) n e he
      · cases hr
end
/-! ### Heads -/
/-- how great a Head may be in what is filled -/
def hB (d : Nat) : Int := 2199023255552 + d * 68719476736
theorem hB_mono {a b : Nat} (h : a ≤ b) : hB a ≤ hB b := by unfold hB; omega
theorem ap_heads {t : T} {L : List T} {sh M : Int} (h : apE t L sh = 0) (ht : okT M t) (hL : ∀ x ∈ L, okT M x) (hs : sh ≤ 1048576) : okT (M + 68719476736) (apT t L sh) := by
  obtain ⟨h1, h2, m, h3, _⟩ := ap_zero h
  unfold sbB at h2
  simp only [Bool.and_eq_true, decide_eq_true_eq, List.all_eq_true] at h2
  have hg := ap_good (B := M + 1048576) fl L sh 0 t 0 (Nat.le_refl _) (by omega) ⟨h2.2, fun x hx => okT_mono (by unfold btB; omega) _ (hL x hx), h2.1.1.2, hs⟩ ⟨((myB_iff t).1 h1).1, okT_mono (by unfold btB; omega) _ ht⟩ _ m h3
  exact okT_mono (by have := hg.2.1; unfold btB; omega) _ hg.2.2.1.ok
mutual
theorem fl_heads {th : List T} (hth : ∀ x ∈ th, okT 2199023255552 x) : ∀ (t : T) (n : Int) (t' : T), 0 ≤ n → n + dp t ≤ 1048576 → okT 2199023255552 t → flT th t n = .ok t' → okT (hB (dp t)) t'
  | .node k h xs, n, t', h0, hn, ho, hr => by
    have hd : dp (.node k h xs) = 1 + dpL xs := by rw [dp]
    rw [flT] at hr
    rw [okT] at ho
    split at hr
    · cases hr
    · rename_i ys hy
      have hys := flL_heads hth k xs.length xs 0 n ys h0 (by omega) ho.2 hy
      have hm : hB (dpL xs) + 68719476736 = hB (dp (.node k h xs)) := by rw [hd]; unfold hB; omega
      have hb : (2199023255552 : Int) ≤ hB (dpL xs) := by unfold hB; omega
      unfold flN at hr
      split at hr
      · split at hr
        · cases hr
        · rename_i hlt
          split at hr
          · split at hr
            · rename_i h0'
              cases hr
              rw [← hm]
              refine ap_heads h0' ?_ (fun x hx => okL_mem hys hx) (by omega)
              rcases Nat.lt_or_ge h.toNat th.length with hl | hl
              · exact okT_mono hb _ (hth _ (getD_mem _ hl))
              · rw [List.getD_eq_getElem?_getD, List.getElem?_eq_none hl]
                simp [okT, okL]
            · cases hr
          · cases hr
      · cases hr
        rw [okT]
        exact ⟨fun e => ⟨(ho.1 e).1, by have := (ho.1 e).2; omega⟩, okL_mono (by omega) _ hys⟩
theorem flL_heads {th : List T} (hth : ∀ x ∈ th, okT 2199023255552 x) (k : Int) (m : Nat) : ∀ (xs : List T) (i : Nat) (n : Int) (ys : List T), 0 ≤ n → n + dpL xs + 1 ≤ 1048576 → okL 2199023255552 xs → flL th k m xs i n = .ok ys → okL (hB (dpL xs)) ys
  | [], i, n, ys, _, _, _, hr => by
    rw [flL] at hr
    cases hr
    rw [okL]
    trivial
  | x :: xs, i, n, ys, h0, hn, ho, hr => by
    rw [flL] at hr
    rw [okL] at ho
    have hd : dp x ≤ dpL (x :: xs) ∧ dpL xs ≤ dpL (x :: xs) := by rw [dpL]; omega
    have hbd : 0 ≤ bd k m i ∧ bd k m i ≤ 1 := by rw [bd_bdn]; have := bdn_le k m i; omega
    split at hr
    · cases hr
    · rename_i y hy
      have h1 := fl_heads hth x _ y (by omega) (by omega) ho.1 hy
      split at hr
      · cases hr
      · rename_i zs hz
        have h2 := flL_heads hth k m xs (i + 1) n zs h0 (by omega) ho.2 hz
        cases hr
        rw [okL]
        exact ⟨okT_mono (hB_mono hd.1) _ h1, okL_mono (hB_mono hd.2) _ h2⟩
end
end Go.Proofs.YtkakfckjmmmjgaaGreat

/-
  Contracts of package meta's small functions: mayNot, keep, and slices.ContainsFunc with mayNot. No statement is proved here.
-/
namespace Go.Proofs.YtkakfckjmmmjgaaGreat
open Go.ChangeShapes Go.WideShapes Go.ChangeAt Go.RowKit
set_option linter.unusedVariables false

theorem mayNotC (t : T) (v : Value) (w : World) (hv : Rd w t v) : Calls Tryz.prog 52 #[v] w fun e w' => e = .returned (.bool (!myB t)) ∧ Below w.heap.size w w' := by
  obtain ⟨k, h, A, n, c, rfl⟩ := hv.full
  have hb : Below w.heap.size w (w.alloc (.cells #[.int .i64 k, .int .i64 h, .slice A n c] 24)) := (Below.refl _ _).alloc (Nat.le_refl _) _
  have HM := Lib.hid (myC t _ _ (Rd.keep hb _ _ hv))
  clear hv
  generalize myB t = r at *
  go_enter Tryz.func52, Tryz.ntmps52
  go_wp2_with fail
  refine HM.out.mono ?_
  rintro e w1 ⟨rfl, hb1⟩
  go_wp2_with fail
  go_ret
  exact ⟨rfl, hb.trans (hb1.mono hb.size)⟩

theorem indexC (xs : List T) (A : Option Addr) (n c : Nat) (w : World) (hn : xs.length = n) (hc : n ≤ c) (hm : c ≤ maxLen) (hx : ∀ i t, xs[i]? = some t → RdAt w A i t) :
    Calls Tryz.prog 65 #[.slice A n c, .func (.func 52) #[] #[]] w fun e w' => ∃ i : Int, e = .returned (.int .i64 i) ∧ decide (0 ≤ i) = (!xs.all myB) ∧ Below w.heap.size w w' := by
  unfold maxLen at hm
  have HN := Lib.hid hn; clear hn
  have HX := Lib.hid hx; clear hx
  go_enter Tryz.func65, Tryz.ntmps65
  go_wp2_with fail
  go_loopw [8] (fun i wr => ∃ (j : Nat), j ≤ n ∧ i = .int .i64 j ∧ Hid ((xs.drop j).all myB = xs.all myB) ∧ Below w.heap.size w wr) (fun i _ => n - (intOf i).toNat)
  case atStart => exact ⟨0, Nat.zero_le _, rfl, Lib.hid (by simp), Below.refl _ _⟩
  case round =>
    obtain ⟨j, hj, rfl, HS, hb⟩ := hrel
    by_cases hlt : j < n
    · obtain ⟨t, ht⟩ := at_of HN.out hlt
      obtain ⟨b, o, k2, h2, A2, n2, c2', rfl, c0, c1, c2, hr⟩ := (RdAt.keep hb (HX.out j t ht)).full
      have HT := Lib.hid ht; clear ht
      have hi0 : (0 : Int) ≤ j := by omega
      have hi1 : (j : Int) < n := by omega
      have HM := Lib.hid (mayNotC t _ _ hr)
      have HS' := HS.out
      rw [drop_at HT.out, List.all_cons] at HS'
      have HS := Lib.hid HS'; clear HS'
      generalize myB t = r at *
      go_wp2_with fail
      clear c0 c1 c2
      refine HM.out.mono ?_
      rintro e w1 ⟨rfl, hb1⟩
      have hbw : Below w.heap.size w w1 := hb.trans (hb1.mono hb.size)
      clear hb1 HM
      cases r
      · go_wp2_with fail
        go_ret
        exact ⟨_, rfl, by rw [← HS.out]; simp, hbw⟩
      · go_wp2_with fail
        go_roundw
        case rel => exact ⟨j + 1, by omega, by go_num, Lib.hid (by simpa using HS.out), hbw⟩
        case measure => simp [intOf]; omega
    · go_wp2_with fail
      go_ret
      exact ⟨_, rfl, by have := HS.out; rw [drop_all HN.out (by omega)] at this; rw [← this]; simp, hb⟩
theorem containsC (xs : List T) (A : Option Addr) (n c : Nat) (w : World) (hn : xs.length = n) (hc : n ≤ c) (hm : c ≤ maxLen) (hx : ∀ i t, xs[i]? = some t → RdAt w A i t) :
    Calls Tryz.prog 51 #[.slice A n c, .func (.func 52) #[] #[]] w fun e w' => e = .returned (.bool (!xs.all myB)) ∧ Below w.heap.size w w' := by
  have HI := Lib.hid (indexC xs A n c w hn hc hm hx)
  clear hx hn hc hm
  generalize (!xs.all myB) = r at *
  go_enter Tryz.func51, Tryz.ntmps51
  go_wp2_with fail
  refine HI.out.mono ?_
  rintro e w1 ⟨i, rfl, hi, hb1⟩
  go_wp2_with fail
  go_ret
  exact ⟨ret_bool (by first | exact hi | rfl | simp), hb1⟩

theorem Fr.putK {X : Nat → Prop} {w w' : World} (h : Fr X w w') {a : Addr} (ha : a.block < w.heap.size → X a.block) (v : Value) : Fr X w (w'.setCell a v) :=
  ⟨h.os, h.tape, h.output, by simpa [World.setCell] using h.size, fun k hk hx => (Below.heap_setCell _ _ _ _ (fun e => by subst e; exact hx (ha hk))).trans (h.block k hk hx)⟩
/-- a part's block -/
abbrev ptB (w : World) (pp : Nat) (A : Option Addr) (m c : Nat) (x : Nat) : Prop := Box w pp 88 #[.slice A m c, .int .i64 x]
theorem ptB.put {w : World} {pp : Nat} {A : Option Addr} {m c x : Nat} (h : ptB w pp A m c x) (y : Nat) : ptB (w.setCell ⟨pp, 1, none⟩ (.int .i64 y)) pp A m c y := Box.setAt h 1 _

theorem keepPC {pp : Nat} {A : Option Addr} {m cL c d : Nat} {k h : Int} {A2 : Option Addr} {n2 c2 : Nat} (w : World) (hp : ptB w pp A m cL c) (hc : c + d ≤ 4611686018427387904) :
    Calls Tryz.prog 69 #[.pointer (some ⟨pp, 0, none⟩), .agg #[.int .i64 k, .int .i64 h, .slice A2 n2 c2], .int .i64 (d : Nat)] w fun e w' =>
      e = .returned (if 4000 < c + d then .agg #[.int .i64 7, .int .i64 0, .slice none 0 0] else .agg #[.int .i64 k, .int .i64 h, .slice A2 n2 c2]) ∧ Fr (fun b => b = pp) w w' ∧ ptB w' pp A m cL (c + d) := by
  have lp := hp.lt
  obtain ⟨c0, c1⟩ := hp.two
  have f1 := hp.frozen 1
  have hw1 : IntKind.i64.wrap ((c : Int) + (d : Int)) = ((c + d : Nat) : Int) := by rw [wrapEq, wrap_small (by omega) (by omega)]; omega
  have xp := hp.put (c + d)
  have sz : (w.setCell ⟨pp, 1, none⟩ (.int .i64 ((c + d : Nat) : Int))).heap.size = w.heap.size := by simp [World.setCell]
  have hfr : Fr (fun b => b = pp) w (w.setCell ⟨pp, 1, none⟩ (.int .i64 ((c + d : Nat) : Int))) := (Fr.refl (fun b => b = pp) w).putK (fun _ => rfl) _
  have HP := Lib.hid xp; clear xp
  have HF := Lib.hid hfr; clear hfr
  have HFin : Hid (∀ o1 o2, Fr (fun b => b = pp) w (((w.setCell ⟨pp, 1, none⟩ (.int .i64 ((c + d : Nat) : Int))).alloc o1).alloc o2) ∧ ptB (((w.setCell ⟨pp, 1, none⟩ (.int .i64 ((c + d : Nat) : Int))).alloc o1).alloc o2) pp A m cL (c + d)) := Lib.hid fun o1 o2 =>
    ⟨(HF.out.then ((Below.refl _ _).alloc (Nat.le_refl _) _)).then ((Below.refl _ _).alloc (Nat.le_refl _) _), Box.alloc (Box.alloc HP.out _) _⟩
  clear hp HF HP hc
  by_cases hgt : 4000 < c + d
  · have hd : decide ((4000 : Int) < ((c + d : Nat) : Int)) = true := by simp; omega
    rw [if_pos hgt]
    clear hgt
    generalize ((c + d : Nat) : Int) = s at *
    go_enter Tryz.func69, Tryz.ntmps69
    go_wp2_with fail
    refine bodyPost_ret (v := .agg #[.int .i64 7, .int .i64 0, .slice none 0 0]) (by simp [results, Tryz.results69, go_sem]) rfl ?_
    exact ⟨rfl, HFin.out _ _⟩
  · have hd : decide ((4000 : Int) < ((c + d : Nat) : Int)) = false := by simp; omega
    rw [if_neg hgt]
    clear hgt
    generalize ((c + d : Nat) : Int) = s at *
    go_enter Tryz.func69, Tryz.ntmps69
    go_wp2_with fail
    refine bodyPost_ret (v := .agg #[.int .i64 k, .int .i64 h, .slice A2 n2 c2]) (by simp [results, Tryz.results69, go_sem]) rfl ?_
    exact ⟨rfl, HFin.out _ _⟩
end Go.Proofs.YtkakfckjmmmjgaaGreat

/-
  Contracts of package meta's each, for each of the closures that it is called with. No statement is proved here.
-/
namespace Go.Proofs.YtkakfckjmmmjgaaGreat
open Go.ChangeShapes Go.WideShapes Go.ChangeAt Go.RowKit
set_option linter.unusedVariables false

/-- how a closure ends: a term and no error, or noughts and an error -/
def CEn (X : Nat → Prop) (St : Nat → World → Prop) (w : World) (r : Res) (e : Ending) (w' : World) : Prop :=
  match r with
  | .error ec => e = .returned (.tuple #[zT, .int .i64 ec]) ∧ ec ≠ 0 ∧ Fr X w w'
  | .ok (t, c) => ∃ k h A n cc, e = .returned (.tuple #[.agg #[.int .i64 k, .int .i64 h, .slice A n cc], .int .i64 0]) ∧ RX (fun b => b < w.heap.size) w' t (.agg #[.int .i64 k, .int .i64 h, .slice A n cc]) ∧ Fr X w w' ∧ St c w'
/-- how each ends -/
def GEn (X : Nat → Prop) (St : Nat → World → Prop) (w : World) (r : Except Int (List T × Nat)) (e : Ending) (w' : World) : Prop :=
  match r with
  | .error ec => e = .returned (.tuple #[.slice none 0 0, .int .i64 ec]) ∧ ec ≠ 0 ∧ Fr X w w'
  | .ok (ys, c) => ∃ A n cc, e = .returned (.tuple #[.slice A n cc, .int .i64 0]) ∧ RXL (fun b => b < w.heap.size) w' ys A n cc ∧ Fr X w w' ∧ St c w'
/-- what holds at the head of each's loop -/
structure MeI (X : Nat → Prop) (St : Nat → World → Prop) (g : Nat → T → Nat → Res) (xs : List T) (c0 M : Nat) (w : World) (n j : Nat) (wr : World) (cs : Array Value) (ys : List T) (c1 : Nat) : Prop where
  row : Box wr w.heap.size 24 cs
  size : cs.size = n * 3
  len : ys.length = j
  kids : Kids wr (fun b => w.heap.size < b) cs ys
  fr : Fr X w wr
  st : St c1 wr
  lo : c1 + 4000 * ndL (xs.drop j) ≤ M
  eq : eaL g xs 0 c0 = contL ys (eaL g (xs.drop j) j c1)
/-- a list of numbers: what each becomes, by its place -/
def eaI (g : Nat → Int → Nat → Res) : List Int → Nat → Nat → Except Int (List T × Nat)
  | [], _, c => .ok ([], c)
  | x :: xs, i, c =>
    match g i x c with
    | .error e => .error e
    | .ok (y, c1) =>
      match eaI g xs (i + 1) c1 with
      | .error e => .error e
      | .ok (ys, c2) => .ok (y :: ys, c2)
structure MiI (X : Nat → Prop) (St : Nat → World → Prop) (g : Nat → Int → Nat → Res) (xs : List Int) (c0 : Nat) (w : World) (n j : Nat) (wr : World) (cs : Array Value) (ys : List T) (c1 : Nat) : Prop where
  row : Box wr w.heap.size 24 cs
  size : cs.size = n * 3
  len : ys.length = j
  kids : Kids wr (fun b => w.heap.size < b) cs ys
  fr : Fr X w wr
  st : St c1 wr
  eq : eaI g xs 0 c0 = contL ys (eaI g (xs.drop j) j c1)
/-- a number in a list in memory -/
def IntAt (w : World) (A : Option Addr) (i : Nat) (x : Int) : Prop := ∃ b o, A = some ⟨b, o, none⟩ ∧ w.cell? ⟨b, o + i, none⟩ = some (.int .i64 x)
theorem at_ofI {xs : List Int} {n j : Nat} (hn : xs.length = n) (h : j < n) : ∃ t, xs[j]? = some t := ⟨_, List.getElem?_eq_getElem (by omega)⟩
theorem drop_atI {xs : List Int} {j : Nat} {t : Int} (h : xs[j]? = some t) : xs.drop j = t :: xs.drop (j + 1) := by
  obtain ⟨h1, h2⟩ := List.getElem?_eq_some_iff.1 h
  rw [List.drop_eq_getElem_cons h1, h2]
theorem drop_allI {xs : List Int} {n j : Nat} (hn : xs.length = n) (h : n ≤ j) : xs.drop j = [] := List.drop_of_length_le (by omega)
theorem Kids.rxlF {w w0 : World} {cs : Array Value} {ys : List T} {n : Nat} {ty : TypeId} (hk : Kids w (fun b => w0.heap.size < b) cs ys) (hb : Box w w0.heap.size ty cs) (hl : ys.length = n) (hm : n ≤ 3518437208780) (hs : cs.size = n * 3) : RXL (fun b => b < w0.heap.size) w ys (some ⟨w0.heap.size, 0, none⟩) n n := by
  refine ⟨hl, Nat.le_refl _, by unfold maxLen; omega, fun i t ht => ?_⟩
  obtain ⟨k, h, A, n', c, e0, e1, e2, hr⟩ := hk i t ht
  refine ⟨w0.heap.size, 0, _, _, _, rfl, Nat.lt_irrefl _, ?_, ?_, ?_, RdF.moveX (fun b hb _ => ⟨by omega, rfl⟩) _ _ hr⟩
  · rw [Nat.zero_add, hb.cell]; exact e0
  · rw [Nat.zero_add, hb.cell]; exact e1
  · rw [Nat.zero_add, hb.cell]; exact e2

set_option maxRecDepth 100000 in
set_option maxHeartbeats 4000000 in
theorem eachFC {X : Nat → Prop} {St : Nat → World → Prop} {p1 p2 p3 : Value} {wB w : World} {A : Option Addr} {n c c0 M : Nat} (xs : List T) (g : Nat → T → Nat → Res) (hb : Below wB.heap.size wB w) (hn : xs.length = n) (hc : n ≤ c) (hm : c ≤ maxLen) (hn40 : n ≤ 3518437208780) (hx : ∀ i t, xs[i]? = some t → RdAt wB A i t)
    (hX : ∀ b, X b → wB.heap.size ≤ b ∧ b < w.heap.size) (hSt : ∀ c W W', W.heap.size ≤ W'.heap.size → (∀ b, X b → W'.heap[b]? = W.heap[b]?) → St c W → St c W') (h0 : St c0 w) (hlo : c0 + 4000 * ndL xs ≤ M) (hg : ∀ i t c t1 c1, xs[i]? = some t → g i t c = .ok (t1, c1) → c1 ≤ c + 4000 * nd t)
    (HF : ∀ (i : Nat) (t : T) (v : Value) (W : World) (c : Nat), xs[i]? = some t → Rd wB t v → Fr X w W → St c W → c + 4000 * ndL (xs.drop i) ≤ M → Calls Tryz.prog 68 #[.int .i64 i, v, p1, p2, p3] W (CEn X St W (g i t c))) :
    Calls Tryz.prog 67 #[.slice A n c, .func (.func 68) #[] #[p1, p2, p3]] w (GEn X St w (eaL g xs 0 c0)) := by
  have hMM := hm
  unfold maxLen at hm
  have HN := Lib.hid hn; clear hn
  have HX := Lib.hid hx; clear hx
  have HF' := Lib.hid HF; clear HF
  have HST := Lib.hid hSt; clear hSt
  have HXB := Lib.hid hX; clear hX
  have H0 := Lib.hid h0; clear h0
  have HB := Lib.hid hb; clear hb
  have HG := Lib.hid hg; clear hg
  have HLO := Lib.hid hlo; clear hlo
  obtain ⟨i0, hi, hz0, hz1, hz2⟩ := info_parts infoTerm
  have hmk : ∀ W : World, (Instr.makeSlice 22 (.int .i64 (n : Int)) (.int .i64 (n : Int))).run Tryz.prog W = .ok (.slice (some ⟨W.heap.size, 0, none⟩) n n) (W.alloc (.cells (madeCells #[.int .i64 0, .int .i64 0, .slice none 0 0] (n * 3)) 24)) := by
    intro W
    have := run_make W 22 24 i0 _ Tryz.underlying22 hi hz0 .i64 .i64 (n : Int) (n : Int) (by omega) (Int.le_refl _) (by rw [hz2]; omega) (by omega)
    rw [hz1] at this
    simpa [Value.cells] using this
  clear hi hz0 hz1 hz2
  by_cases hn0 : n = 0
  · subst hn0
    have hxs : xs = [] := List.length_eq_zero_iff.1 HN.out
    go_enter Tryz.func67, Tryz.ntmps67
    go_wp2_with fail
    go_ret2
    rw [hxs, eaL]
    exact ⟨none, 0, 0, rfl, ⟨rfl, Nat.le_refl _, Nat.zero_le _, fun i t ht => by simp at ht⟩, Fr.refl _ _, H0.out⟩
  · have e0 : ((n : Int) == 0) = false := by rw [beq_eq_false_iff_ne]; omega
    go_enter Tryz.func67, Tryz.ntmps67
    go_wp2_with fail
    have hcs := size_madeCells #[.int .i64 0, .int .i64 0, .slice none 0 0] (n * 3)
    generalize madeCells #[.int .i64 0, .int .i64 0, .slice none 0 0] (n * 3) = cs0 at *
    have hb0 : Below w.heap.size w (w.alloc (.cells cs0 24)) := (Below.refl _ w).alloc (Nat.le_refl _) _
    have x3 := Box.new w 24 cs0
    have hI : MeI X St g xs c0 M w n 0 (w.alloc (.cells cs0 24)) cs0 [] c0 := ⟨x3, hcs, rfl, fun i t ht => by simp at ht, Fr.below hb0, HST.out _ _ _ hb0.size (fun b hxb => hb0.block b (HXB.out b hxb).2) H0.out, by rw [List.drop_zero]; exact HLO.out, by rw [List.drop_zero, contL_nil]⟩
    have HI := Lib.hid hI; clear hI hcs hmk hb0 x3 H0
    go_loopw [19] (fun i wr => ∃ (j : Nat) (cs : Array Value) (ys : List T) (c1 : Nat), j ≤ n ∧ i = .int .i64 j ∧ Hid (MeI X St g xs c0 M w n j wr cs ys c1)) (fun i _ => n - (intOf i).toNat)
    case atStart => exact ⟨0, cs0, [], c0, Nat.zero_le _, rfl, HI⟩
    case round =>
      clear HI
      obtain ⟨j, cs, ys, c1, hj, rfl, HI⟩ := hrel
      by_cases hlt : j < n
      · obtain ⟨t, ht⟩ := at_of HN.out hlt
        have hBr : Below wB.heap.size wB wr := HB.out.trans ((HI.out.fr.to_below (fun i e => (HXB.out i e).1) HB.out.size))
        obtain ⟨b, o, k2, h2, A2, n2, c2', rfl, c0', c1', c2'', hr⟩ := (HX.out j t ht).full
        have q0 := (hBr.cell (cell_lt c0')).trans c0'
        have q1 := (hBr.cell (cell_lt c1')).trans c1'
        have q2 := (hBr.cell (cell_lt c2'')).trans c2''
        clear c0' c1' c2''
        have HR := Lib.hid hr; clear hr
        have HT := Lib.hid ht; clear ht hBr
        have heq := HI.out.eq
        rw [drop_at HT.out, eaL] at heq
        have HEQ := Lib.hid heq; clear heq
        have hi0 : (0 : Int) ≤ j := by omega
        have hi1 : (j : Int) < n := by omega
        go_wp2_with fail
        have hbA : Below wr.heap.size wr (wr.alloc (.cells #[.int .i64 k2, .int .i64 h2, .slice A2 n2 c2'] 24)) := (Below.refl _ wr).alloc (Nat.le_refl _) _
        generalize wr.alloc (.cells #[.int .i64 k2, .int .i64 h2, .slice A2 n2 c2'] 24) = Wa at *
        clear q0 q1 q2
        have lX : ∀ b, X b → b < wr.heap.size := fun b e => Nat.lt_of_lt_of_le (HXB.out b e).2 HI.out.fr.size
        have hcall := HF'.out j t _ Wa c1 HT.out HR.out (HI.out.fr.then hbA) (HST.out _ _ _ hbA.size (fun b e => hbA.block b (lX b e)) HI.out.st) HI.out.lo
        cases hres : g j t c1 with
        | error ec =>
          rw [hres] at hcall
          refine hcall.mono ?_
          rintro e w1 ⟨rfl, hne, hfr⟩
          have hne' : (ec != 0) = true := by simpa using hne
          have HE : Hid (GEn X St w (eaL g xs 0 c0) (.returned (.tuple #[.slice none 0 0, .int .i64 ec])) (w1.alloc (.cells #[.int .i64 0, .int .i64 0, .slice none 0 0] 24))) := Lib.hid (by
            rw [HEQ.out, hres]
            exact ⟨rfl, hne, (((HI.out.fr.then hbA).trans hfr fun _ _ e => e).then ((Below.refl _ _).alloc (Nat.le_refl _) _))⟩)
          clear hres hcall hfr hbA hne
          go_wp2_with fail
          go_ret2
          exact HE.out
        | ok p =>
          obtain ⟨t', c2⟩ := p
          rw [hres] at hcall
          refine hcall.mono ?_
          rintro e w1 ⟨k3, h3, A3, n3, c3, rfl, hrx, hfr, hst⟩
          have s1 := HI.out.fr.size
          have s2 := hbA.size
          have s3 := hfr.size
          have lrow := HI.out.row.lt
          have nrow : ¬ X w.heap.size := fun e => by have := (HXB.out _ e).2; omega
          have z3 : Box w1 w.heap.size 24 cs := (HI.out.row.keep hbA lrow).fr hfr nrow
          have hfr2 : Fr X wr w1 := (Fr.below (X := X) hbA).trans hfr fun _ _ e => e
          obtain ⟨u0, hu0⟩ := z3.there (i := j * 3) (by rw [HI.out.size]; omega)
          obtain ⟨u1, hu1⟩ := z3.there (i := j * 3 + 1) (by rw [HI.out.size]; omega)
          obtain ⟨u2, hu2⟩ := z3.there (i := j * 3 + 2) (by rw [HI.out.size]; omega)
          have f0 := z3.frozen (j * 3)
          have f1 := z3.frozen (j * 3 + 1)
          have f2 := z3.frozen (j * 3 + 2)
          have lz3 := z3.lt
          have HZ := Lib.hid z3; clear z3
          have HRX := Lib.hid hrx; clear hrx
          have HFR := Lib.hid hfr2; clear hfr2 hfr
          have HS2 := Lib.hid hst; clear hst
          have HRES := Lib.hid hres; clear hres hcall hbA
          go_wp2_with fail
          go_roundw
          case rel =>
            have hset : ∀ g, g ≠ w.heap.size → g < w1.heap.size → (((((w1.setCell ⟨w.heap.size, j * 3, none⟩ (.int .i64 k3)).setCell ⟨w.heap.size, j * 3 + 1, none⟩ (.int .i64 h3)).setCell ⟨w.heap.size, j * 3 + 2, none⟩ (.slice A3 n3 c3))).alloc (.cells #[.int .i64 k3, .int .i64 h3, .slice A3 n3 c3] 24)).heap[g]? = w1.heap[g]? := fun g hg hg' => by
              rw [Below.heap_alloc _ _ _ (by simpa using hg'), Below.heap_setCell _ _ _ _ hg, Below.heap_setCell _ _ _ _ hg, Below.heap_setCell _ _ _ _ hg]
            have hfw : Fr X w w1 := HI.out.fr.trans HFR.out fun _ _ e => e
            have hsz : w1.heap.size ≤ (((((w1.setCell ⟨w.heap.size, j * 3, none⟩ (.int .i64 k3)).setCell ⟨w.heap.size, j * 3 + 1, none⟩ (.int .i64 h3)).setCell ⟨w.heap.size, j * 3 + 2, none⟩ (.slice A3 n3 c3))).alloc (.cells #[.int .i64 k3, .int .i64 h3, .slice A3 n3 c3] 24)).heap.size := by simp [World.setCell]
            refine ⟨j + 1, _, ys ++ [t'], c2, by omega, by go_num, Lib.hid ⟨(((HZ.out.setAt _ _).setAt _ _).setAt _ _).alloc _, by simp [HI.out.size], by simp [HI.out.len], ?_, ?_, ?_, ?_, ?_⟩⟩
            · refine Kids.snoc (HI.out.kids.moveX fun b hb hl => ⟨hb, HFR.out.block b hl fun e => by have := (HXB.out b e).2; omega⟩) HI.out.len (fun b hb hl => hset b (by omega) hl) ?_ (by rw [HI.out.size]; omega)
              exact RdF.moveX (fun b hb hl => ⟨by omega, hset b (by omega) hl⟩) _ _ HRX.out
            · exact ⟨hfw.os, hfw.tape, hfw.output, by omega, fun b hb e => (hset b (by omega) (by omega)).trans (hfw.block b hb e)⟩
            · exact HST.out _ _ _ hsz (fun b e => hset b (by have := (HXB.out b e).2; omega) (by have := (HXB.out b e).2; omega)) HS2.out
            · have h1 := HG.out j t c1 t' c2 HT.out HRES.out
              have h2 := HI.out.lo
              rw [drop_at HT.out, ndL] at h2
              omega
            · rw [HEQ.out, HRES.out]
              simp only
              cases eaL g (xs.drop (j + 1)) (j + 1) c2 with
              | error e => rfl
              | ok q => obtain ⟨zs, c4⟩ := q; simp [contL]
          case measure => simp [intOf]; omega
      · obtain rfl : j = n := by omega
        have heq := HI.out.eq
        rw [drop_all HN.out (by omega), eaL] at heq
        have HEQ := Lib.hid heq; clear heq
        go_wp2_with fail
        go_ret2
        rw [HEQ.out]
        simp only [contL, List.append_nil]
        refine ⟨_, _, _, rfl, Kids.rxlF HI.out.kids HI.out.row HI.out.len hn40 HI.out.size, HI.out.fr, HI.out.st⟩
end Go.Proofs.YtkakfckjmmmjgaaGreat

/-
  Contracts of package meta's each, for others of the closures that it is called with. No statement is proved here.
-/
namespace Go.Proofs.YtkakfckjmmmjgaaGreat
open Go.ChangeShapes Go.WideShapes Go.ChangeAt Go.RowKit
set_option linter.unusedVariables false

end Go.Proofs.YtkakfckjmmmjgaaGreat

/-
  Contracts of package meta's each, for others of the closures that it is called with. No statement is proved here.
-/
namespace Go.Proofs.YtkakfckjmmmjgaaGreat
open Go.ChangeShapes Go.WideShapes Go.ChangeAt Go.RowKit
set_option linter.unusedVariables false

set_option maxRecDepth 100000 in
set_option maxHeartbeats 4000000 in
theorem eachBC {X : Nat → Prop} {St : Nat → World → Prop} {p1 p2 : Value} {wB w : World} {A : Option Addr} {n c c0 M : Nat} (xs : List T) (g : Nat → T → Nat → Res) (hb : Below wB.heap.size wB w) (hn : xs.length = n) (hc : n ≤ c) (hm : c ≤ maxLen) (hn40 : n ≤ 3518437208780) (hx : ∀ i t, xs[i]? = some t → RdAt wB A i t)
    (hX : ∀ b, X b → wB.heap.size ≤ b ∧ b < w.heap.size) (hSt : ∀ c W W', W.heap.size ≤ W'.heap.size → (∀ b, X b → W'.heap[b]? = W.heap[b]?) → St c W → St c W') (h0 : St c0 w) (hlo : c0 + 4000 * ndL xs ≤ M) (hg : ∀ i t c t1 c1, xs[i]? = some t → g i t c = .ok (t1, c1) → c1 ≤ c + 4000 * nd t)
    (HF : ∀ (i : Nat) (t : T) (v : Value) (W : World) (c : Nat), xs[i]? = some t → Rd wB t v → Fr X w W → St c W → c + 4000 * ndL (xs.drop i) ≤ M → Calls Tryz.prog 88 #[.int .i64 i, v, p1, p2] W (CEn X St W (g i t c))) :
    Calls Tryz.prog 67 #[.slice A n c, .func (.func 88) #[] #[p1, p2]] w (GEn X St w (eaL g xs 0 c0)) := by
  have hMM := hm
  unfold maxLen at hm
  have HN := Lib.hid hn; clear hn
  have HX := Lib.hid hx; clear hx
  have HF' := Lib.hid HF; clear HF
  have HST := Lib.hid hSt; clear hSt
  have HXB := Lib.hid hX; clear hX
  have H0 := Lib.hid h0; clear h0
  have HB := Lib.hid hb; clear hb
  have HG := Lib.hid hg; clear hg
  have HLO := Lib.hid hlo; clear hlo
  obtain ⟨i0, hi, hz0, hz1, hz2⟩ := info_parts infoTerm
  have hmk : ∀ W : World, (Instr.makeSlice 22 (.int .i64 (n : Int)) (.int .i64 (n : Int))).run Tryz.prog W = .ok (.slice (some ⟨W.heap.size, 0, none⟩) n n) (W.alloc (.cells (madeCells #[.int .i64 0, .int .i64 0, .slice none 0 0] (n * 3)) 24)) := by
    intro W
    have := run_make W 22 24 i0 _ Tryz.underlying22 hi hz0 .i64 .i64 (n : Int) (n : Int) (by omega) (Int.le_refl _) (by rw [hz2]; omega) (by omega)
    rw [hz1] at this
    simpa [Value.cells] using this
  clear hi hz0 hz1 hz2
  by_cases hn0 : n = 0
  · subst hn0
    have hxs : xs = [] := List.length_eq_zero_iff.1 HN.out
    go_enter Tryz.func67, Tryz.ntmps67
    go_wp2_with fail
    go_ret2
    rw [hxs, eaL]
    exact ⟨none, 0, 0, rfl, ⟨rfl, Nat.le_refl _, Nat.zero_le _, fun i t ht => by simp at ht⟩, Fr.refl _ _, H0.out⟩
  · have e0 : ((n : Int) == 0) = false := by rw [beq_eq_false_iff_ne]; omega
    go_enter Tryz.func67, Tryz.ntmps67
    go_wp2_with fail
    have hcs := size_madeCells #[.int .i64 0, .int .i64 0, .slice none 0 0] (n * 3)
    generalize madeCells #[.int .i64 0, .int .i64 0, .slice none 0 0] (n * 3) = cs0 at *
    have hb0 : Below w.heap.size w (w.alloc (.cells cs0 24)) := (Below.refl _ w).alloc (Nat.le_refl _) _
    have x3 := Box.new w 24 cs0
    have hI : MeI X St g xs c0 M w n 0 (w.alloc (.cells cs0 24)) cs0 [] c0 := ⟨x3, hcs, rfl, fun i t ht => by simp at ht, Fr.below hb0, HST.out _ _ _ hb0.size (fun b hxb => hb0.block b (HXB.out b hxb).2) H0.out, by rw [List.drop_zero]; exact HLO.out, by rw [List.drop_zero, contL_nil]⟩
    have HI := Lib.hid hI; clear hI hcs hmk hb0 x3 H0
    go_loopw [19] (fun i wr => ∃ (j : Nat) (cs : Array Value) (ys : List T) (c1 : Nat), j ≤ n ∧ i = .int .i64 j ∧ Hid (MeI X St g xs c0 M w n j wr cs ys c1)) (fun i _ => n - (intOf i).toNat)
    case atStart => exact ⟨0, cs0, [], c0, Nat.zero_le _, rfl, HI⟩
    case round =>
      clear HI
      obtain ⟨j, cs, ys, c1, hj, rfl, HI⟩ := hrel
      by_cases hlt : j < n
      · obtain ⟨t, ht⟩ := at_of HN.out hlt
        have hBr : Below wB.heap.size wB wr := HB.out.trans ((HI.out.fr.to_below (fun i e => (HXB.out i e).1) HB.out.size))
        obtain ⟨b, o, k2, h2, A2, n2, c2', rfl, c0', c1', c2'', hr⟩ := (HX.out j t ht).full
        have q0 := (hBr.cell (cell_lt c0')).trans c0'
        have q1 := (hBr.cell (cell_lt c1')).trans c1'
        have q2 := (hBr.cell (cell_lt c2'')).trans c2''
        clear c0' c1' c2''
        have HR := Lib.hid hr; clear hr
        have HT := Lib.hid ht; clear ht hBr
        have heq := HI.out.eq
        rw [drop_at HT.out, eaL] at heq
        have HEQ := Lib.hid heq; clear heq
        have hi0 : (0 : Int) ≤ j := by omega
        have hi1 : (j : Int) < n := by omega
        go_wp2_with fail
        have hbA : Below wr.heap.size wr (wr.alloc (.cells #[.int .i64 k2, .int .i64 h2, .slice A2 n2 c2'] 24)) := (Below.refl _ wr).alloc (Nat.le_refl _) _
        generalize wr.alloc (.cells #[.int .i64 k2, .int .i64 h2, .slice A2 n2 c2'] 24) = Wa at *
        clear q0 q1 q2
        have lX : ∀ b, X b → b < wr.heap.size := fun b e => Nat.lt_of_lt_of_le (HXB.out b e).2 HI.out.fr.size
        have hcall := HF'.out j t _ Wa c1 HT.out HR.out (HI.out.fr.then hbA) (HST.out _ _ _ hbA.size (fun b e => hbA.block b (lX b e)) HI.out.st) HI.out.lo
        cases hres : g j t c1 with
        | error ec =>
          rw [hres] at hcall
          refine hcall.mono ?_
          rintro e w1 ⟨rfl, hne, hfr⟩
          have hne' : (ec != 0) = true := by simpa using hne
          have HE : Hid (GEn X St w (eaL g xs 0 c0) (.returned (.tuple #[.slice none 0 0, .int .i64 ec])) (w1.alloc (.cells #[.int .i64 0, .int .i64 0, .slice none 0 0] 24))) := Lib.hid (by
            rw [HEQ.out, hres]
            exact ⟨rfl, hne, (((HI.out.fr.then hbA).trans hfr fun _ _ e => e).then ((Below.refl _ _).alloc (Nat.le_refl _) _))⟩)
          clear hres hcall hfr hbA hne
          go_wp2_with fail
          go_ret2
          exact HE.out
        | ok p =>
          obtain ⟨t', c2⟩ := p
          rw [hres] at hcall
          refine hcall.mono ?_
          rintro e w1 ⟨k3, h3, A3, n3, c3, rfl, hrx, hfr, hst⟩
          have s1 := HI.out.fr.size
          have s2 := hbA.size
          have s3 := hfr.size
          have lrow := HI.out.row.lt
          have nrow : ¬ X w.heap.size := fun e => by have := (HXB.out _ e).2; omega
          have z3 : Box w1 w.heap.size 24 cs := (HI.out.row.keep hbA lrow).fr hfr nrow
          have hfr2 : Fr X wr w1 := (Fr.below (X := X) hbA).trans hfr fun _ _ e => e
          obtain ⟨u0, hu0⟩ := z3.there (i := j * 3) (by rw [HI.out.size]; omega)
          obtain ⟨u1, hu1⟩ := z3.there (i := j * 3 + 1) (by rw [HI.out.size]; omega)
          obtain ⟨u2, hu2⟩ := z3.there (i := j * 3 + 2) (by rw [HI.out.size]; omega)
          have f0 := z3.frozen (j * 3)
          have f1 := z3.frozen (j * 3 + 1)
          have f2 := z3.frozen (j * 3 + 2)
          have lz3 := z3.lt
          have HZ := Lib.hid z3; clear z3
          have HRX := Lib.hid hrx; clear hrx
          have HFR := Lib.hid hfr2; clear hfr2 hfr
          have HS2 := Lib.hid hst; clear hst
          have HRES := Lib.hid hres; clear hres hcall hbA
          go_wp2_with fail
          go_roundw
          case rel =>
            have hset : ∀ g, g ≠ w.heap.size → g < w1.heap.size → (((((w1.setCell ⟨w.heap.size, j * 3, none⟩ (.int .i64 k3)).setCell ⟨w.heap.size, j * 3 + 1, none⟩ (.int .i64 h3)).setCell ⟨w.heap.size, j * 3 + 2, none⟩ (.slice A3 n3 c3))).alloc (.cells #[.int .i64 k3, .int .i64 h3, .slice A3 n3 c3] 24)).heap[g]? = w1.heap[g]? := fun g hg hg' => by
              rw [Below.heap_alloc _ _ _ (by simpa using hg'), Below.heap_setCell _ _ _ _ hg, Below.heap_setCell _ _ _ _ hg, Below.heap_setCell _ _ _ _ hg]
            have hfw : Fr X w w1 := HI.out.fr.trans HFR.out fun _ _ e => e
            have hsz : w1.heap.size ≤ (((((w1.setCell ⟨w.heap.size, j * 3, none⟩ (.int .i64 k3)).setCell ⟨w.heap.size, j * 3 + 1, none⟩ (.int .i64 h3)).setCell ⟨w.heap.size, j * 3 + 2, none⟩ (.slice A3 n3 c3))).alloc (.cells #[.int .i64 k3, .int .i64 h3, .slice A3 n3 c3] 24)).heap.size := by simp [World.setCell]
            refine ⟨j + 1, _, ys ++ [t'], c2, by omega, by go_num, Lib.hid ⟨(((HZ.out.setAt _ _).setAt _ _).setAt _ _).alloc _, by simp [HI.out.size], by simp [HI.out.len], ?_, ?_, ?_, ?_, ?_⟩⟩
            · refine Kids.snoc (HI.out.kids.moveX fun b hb hl => ⟨hb, HFR.out.block b hl fun e => by have := (HXB.out b e).2; omega⟩) HI.out.len (fun b hb hl => hset b (by omega) hl) ?_ (by rw [HI.out.size]; omega)
              exact RdF.moveX (fun b hb hl => ⟨by omega, hset b (by omega) hl⟩) _ _ HRX.out
            · exact ⟨hfw.os, hfw.tape, hfw.output, by omega, fun b hb e => (hset b (by omega) (by omega)).trans (hfw.block b hb e)⟩
            · exact HST.out _ _ _ hsz (fun b e => hset b (by have := (HXB.out b e).2; omega) (by have := (HXB.out b e).2; omega)) HS2.out
            · have h1 := HG.out j t c1 t' c2 HT.out HRES.out
              have h2 := HI.out.lo
              rw [drop_at HT.out, ndL] at h2
              omega
            · rw [HEQ.out, HRES.out]
              simp only
              cases eaL g (xs.drop (j + 1)) (j + 1) c2 with
              | error e => rfl
              | ok q => obtain ⟨zs, c4⟩ := q; simp [contL]
          case measure => simp [intOf]; omega
      · obtain rfl : j = n := by omega
        have heq := HI.out.eq
        rw [drop_all HN.out (by omega), eaL] at heq
        have HEQ := Lib.hid heq; clear heq
        go_wp2_with fail
        go_ret2
        rw [HEQ.out]
        simp only [contL, List.append_nil]
        refine ⟨_, _, _, rfl, Kids.rxlF HI.out.kids HI.out.row HI.out.len hn40 HI.out.size, HI.out.fr, HI.out.st⟩
end Go.Proofs.YtkakfckjmmmjgaaGreat

/-
  Contracts of the closures within package meta's fill and become, given that of fill for what they are called with. No statement is proved here.
-/
namespace Go.Proofs.YtkakfckjmmmjgaaGreat
open Go.ChangeShapes Go.WideShapes Go.ChangeAt Go.RowKit
set_option linter.unusedVariables false
set_option maxRecDepth 100000

/-- an answer, or noughts and an error -/
def CO (St : Nat → World → Prop) (B : Nat) (w' : World) (r : Res) (k h : Int) (A : Option Addr) (n cc : Nat) (ec : Int) : Prop :=
  match r with
  | .error e' => ec = e' ∧ e' ≠ 0 ∧ Value.agg #[.int .i64 k, .int .i64 h, .slice A n cc] = zT
  | .ok (t, c) => ec = 0 ∧ RX (fun b => b < B) w' t (.agg #[.int .i64 k, .int .i64 h, .slice A n cc]) ∧ St c w'
theorem CEn.uni {X : Nat → Prop} {St : Nat → World → Prop} {w w' : World} {r : Res} {e : Ending} (h : CEn X St w r e w') : ∃ k h A n cc ec, e = .returned (.tuple #[.agg #[.int .i64 k, .int .i64 h, .slice A n cc], .int .i64 ec]) ∧ CO St w.heap.size w' r k h A n cc ec ∧ Fr X w w' := by
  cases r with
  | error e' =>
    obtain ⟨rfl, hne, hfr⟩ := h
    exact ⟨0, 0, none, 0, 0, e', rfl, ⟨rfl, hne, rfl⟩, hfr⟩
  | ok p =>
    obtain ⟨t, c⟩ := p
    obtain ⟨k, h, A, n, cc, rfl, hr, hfr, hst⟩ := h
    exact ⟨k, h, A, n, cc, 0, rfl, ⟨rfl, hr, hst⟩, hfr⟩
theorem CO.cen {X : Nat → Prop} {St : Nat → World → Prop} {w w' : World} {r : Res} {k h : Int} {A : Option Addr} {n cc : Nat} {ec : Int} (c : CO St w.heap.size w' r k h A n cc ec) (hfr : Fr X w w') : CEn X St w r (.returned (.tuple #[.agg #[.int .i64 k, .int .i64 h, .slice A n cc], .int .i64 ec])) w' := by
  cases r with
  | error e' =>
    obtain ⟨rfl, hne, hz⟩ := c
    exact ⟨by rw [hz], hne, hfr⟩
  | ok p =>
    obtain ⟨t, x⟩ := p
    obtain ⟨rfl, hr, hst⟩ := c
    exact ⟨k, h, A, n, cc, rfl, hr, hfr, hst⟩
theorem CO.move {St St' : Nat → World → Prop} {B B' : Nat} {w w' : World} {r : Res} {k h : Int} {A : Option Addr} {n cc : Nat} {ec : Int} (c : CO St B w r k h A n cc ec) (hB : B' ≤ B) (hm : ∀ b, B ≤ b → b < w.heap.size → w'.heap[b]? = w.heap[b]?) (hst : ∀ t x, r = .ok (t, x) → St x w → St' x w') : CO St' B' w' r k h A n cc ec := by
  cases r with
  | error e' => exact c
  | ok p =>
    obtain ⟨t, x⟩ := p
    obtain ⟨rfl, hr, hs⟩ := c
    exact ⟨rfl, RdF.moveX (fun b hb hl => ⟨by omega, hm b (by omega) hl⟩) _ _ hr, hst t x rfl hs⟩

/-- what is asked of the terms for metas -/
structure ThK (th : List T) (wB : World) (A : Option Addr) (m cL : Nat) : Prop where
  my : ∀ x ∈ th, myB x = true
  ok : ∀ x ∈ th, okT 2199023255552 x
  len : th.length = m
  le : m ≤ cL
  cap : cL ≤ maxLen
  at_ : ∀ i x, th[i]? = some x → RdAt wB A i x
/-- fill's contract for one term -/
def FiC (th : List T) (t : T) : Prop :=
  ∀ (wB w : World) (pp : Nat) (A : Option Addr) (m cL : Nat) (n : Int) (c : Nat) (v : Value), Below wB.heap.size wB w → wB.heap.size ≤ pp → ptB w pp A m cL c → ThK th wB A m cL → Rd wB t v → nodB t = true →
    0 ≤ n → n + dp t ≤ 4000 → okT 2199023255552 t → c + 4000 * nd t ≤ 1125899906842624 →
    Calls Tryz.prog 54 #[.pointer (some ⟨pp, 0, none⟩), v, .int .i64 n] w (CEn (fun b => b = pp) (fun c w' => ptB w' pp A m cL c) w (pf th n c t))

set_option maxHeartbeats 4000000 in
theorem closFC {th : List T} {t : T} (hF : FiC th t) {wB w : World} {pp pP pN pT : Nat} {A : Option Addr} {m cL : Nat} {n : Int} {c : Nat} {k h : Int} {At : Option Addr} {nt ct : Nat} (i : Nat) (v : Value)
    (hb : Below wB.heap.size wB w) (hpB : wB.heap.size ≤ pp) (hp : ptB w pp A m cL c) (hth : ThK th wB A m cL) (hv : Rd wB t v) (hno : nodB t = true) (h0 : 0 ≤ n) (hn : n + 1 + dp t ≤ 4000) (ho : okT 2199023255552 t) (hc : c + 4000 * nd t ≤ 1125899906842624)
    (xP : Box w pP 96 #[.pointer (some ⟨pp, 0, none⟩)]) (xN : Box w pN 3 #[.int .i64 n]) (xT : Box w pT 24 #[.int .i64 k, .int .i64 h, .slice At nt ct]) (hnt : nt ≤ ct) (hct : ct ≤ maxLen) (hi : i ≤ maxLen) (hne1 : pP ≠ pp) (hne2 : pN ≠ pp) (hne3 : pT ≠ pp) :
    Calls Tryz.prog 68 #[.int .i64 i, v, .pointer (some ⟨pP, 0, none⟩), .pointer (some ⟨pN, 0, none⟩), .pointer (some ⟨pT, 0, none⟩)] w (CEn (fun b => b = pp) (fun c w' => ptB w' pp A m cL c) w (pf th (n + bd k nt i) c t)) := by
  obtain ⟨k2, h2, A2, n2, c2, rfl⟩ := hv.full
  have hbd : 0 ≤ bd k nt i ∧ bd k nt i ≤ 1 := by rw [bd_bdn]; have := bdn_le k nt i; omega
  obtain ⟨s, hs⟩ : ∃ s, s = n + bd k nt i := ⟨_, rfl⟩
  have hsum : IntKind.i64.wrap (n + bd k nt i) = s := by rw [hs, wrapEq, wrap_small (by omega) (by omega)]
  obtain ⟨W, hW⟩ : ∃ W, (w.alloc (.cells #[.int .i64 k2, .int .i64 h2, .slice A2 n2 c2] 24)).alloc (.cells #[.int .i64 0, .int .i64 0, .slice none 0 0] 24) = W := ⟨_, rfl⟩
  have hbW : Below w.heap.size w W := by rw [← hW]; exact ((Below.refl _ _).alloc (Nat.le_refl _) _).alloc (by simp) _
  have z1 : Box W w.heap.size 24 #[.int .i64 k2, .int .i64 h2, .slice A2 n2 c2] := by rw [← hW]; exact (Box.new _ _ _).alloc _
  have z2 : Box W (w.heap.size + 1) 24 #[.int .i64 0, .int .i64 0, .slice none 0 0] := by rw [← hW]; exact (Box.new (w.alloc _) _ _).at (by simp)
  have lP := xP.lt
  have lN := xN.lt
  have lT := xT.lt
  have lp := hp.lt
  replace xP := xP.keep hbW lP
  replace xN := xN.keep hbW lN
  replace xT := xT.keep hbW lT
  have HWW := Lib.hid hW; clear hW
  have HBD := Lib.hid fun W' => boundC k h At nt ct hnt hct i hi W'
  have HFI : Hid (∀ W', Below W.heap.size W W' → Calls Tryz.prog 54 #[.pointer (some ⟨pp, 0, none⟩), .agg #[.int .i64 k2, .int .i64 h2, .slice A2 n2 c2], .int .i64 (n + bd k nt i)] W' (CEn (fun b => b = pp) (fun c w' => ptB w' pp A m cL c) W' (pf th (n + bd k nt i) c t))) := Lib.hid fun W' hW' =>
    hF wB W' pp A m cL _ c _ (hb.trans ((hbW.trans (hW'.mono hbW.size)).mono hb.size)) hpB (hp.keep (hbW.trans (hW'.mono hbW.size)) lp) hth hv hno (by omega) (by omega) ho hc
  have HB := Lib.hid hbW; clear hbW hb
  have HP := Lib.hid hp; clear hp
  clear hth hv hF ho hc hn h0 hi hct hnt hpB
  rw [← hs] at HFI ⊢
  clear hs
  generalize bd k nt i = β at *
  generalize pf th s c t = R at *
  go_enter Tryz.func68, Tryz.ntmps68
  go_wp2_with fail
  rw [HWW.out]
  clear HWW
  obtain ⟨a0, a1, a2⟩ := z1.three
  obtain ⟨b0, b1, b2⟩ := xT.three
  have d0 := (xP.one).1
  have e0 := (xN.one).1
  have hcur : Below W.heap.size W W.drew := (Below.refl _ W).drew
  have szW := HB.out.size
  go_region_held3 (fun w' => w'.cell? ⟨w.heap.size, 0, none⟩ = some (.int .i64 k2) ∧ w'.cell? ⟨w.heap.size, 1, none⟩ = some (.int .i64 h2) ∧ w'.cell? ⟨w.heap.size, 2, none⟩ = some (.slice A2 n2 c2) ∧
      w'.cell? ⟨pP, 0, none⟩ = some (.pointer (some ⟨pp, 0, none⟩)) ∧ w'.cell? ⟨pN, 0, none⟩ = some (.int .i64 n) ∧ w'.cell? ⟨pT, 0, none⟩ = some (.int .i64 k) ∧ w'.cell? ⟨pT, 1, none⟩ = some (.int .i64 h) ∧ w'.cell? ⟨pT, 2, none⟩ = some (.slice At nt ct))
    (first | exact ⟨a0, a1, a2, d0, e0, b0, b1, b2⟩ | exact ⟨q1.three.1, q1.three.2.1, q1.three.2.2, qP.one.1, qN.one.1, qT.three.1, qT.three.2.1, qT.three.2.2⟩ | exact ⟨r1.three.1, r1.three.2.1, r1.three.2.2, rP.one.1, rN.one.1, rT.three.1, rT.three.2.1, rT.three.2.2⟩ | exact ⟨o1.three.1, o1.three.2.1, o1.three.2.2, oP.one.1, oN.one.1, oT.three.1, oT.three.2.1, oT.three.2.2⟩)
    (first
      | (go_at_call 57
         refine (HBD.out _).mono ?_
         rintro e w1 ⟨rfl, hb1⟩
         replace hcur := hcur.trans (hb1.mono hcur.size)
         have q1 := z1.keep hcur z1.lt
         have q2 := z2.keep hcur z2.lt
         have qT := xT.keep hcur xT.lt
         have qP := xP.keep hcur xP.lt
         have qN := xN.keep hcur xN.lt
         clear hb1)
      | (go_at_call 54
         refine (HFI.out _ hcur).mono ?_
         intro e w2 hE
         obtain ⟨k3, h3, A3, n3, c3, ec, rfl, hout, hfr⟩ := hE.uni
         have r1 := q1.fr hfr (by omega)
         have r2 := q2.fr hfr (by omega)
         have rT := qT.fr hfr hne3
         have rP := qP.fr hfr hne1
         have rN := qN.fr hfr hne2
         have s2 := r2.lt
         have HO := Lib.hid hout
         have HFR := Lib.hid hfr
         clear hout hE hfr
         obtain ⟨y0, y1, y2⟩ := r2.three
         have f0 := r2.frozen 0
         have f1 := r2.frozen 1
         have f2 := r2.frozen 2
         have o1 := r1.other3 (a := w.heap.size + 1) (by omega) (.int .i64 k3) (.int .i64 h3) (.slice A3 n3 c3)
         have oT := rT.other3 (a := w.heap.size + 1) (by omega) (.int .i64 k3) (.int .i64 h3) (.slice A3 n3 c3)
         have oP := rP.other3 (a := w.heap.size + 1) (by omega) (.int .i64 k3) (.int .i64 h3) (.slice A3 n3 c3)
         have oN := rN.other3 (a := w.heap.size + 1) (by omega) (.int .i64 k3) (.int .i64 h3) (.slice A3 n3 c3)))
  clear o1 oT oP oN
  go_wp2_with fail
  refine bodyPost_ret (v := .tuple #[.agg #[.int .i64 k3, .int .i64 h3, .slice A3 n3 c3], .int .i64 ec]) (by simp [results, Tryz.results68, go_sem, y0, y1, y2]) rfl ?_
  have s3 := hcur.size
  have s4 := HFR.out.size
  have s5 := z2.lt
  refine CO.cen (HO.out.move (by omega) (fun g hg _ => heap_other3 _ _ _ _ _ _ (by omega)) fun _ _ _ hs => Box.other3 hs (by omega) _ _ _) ?_
  exact ((Fr.below (X := fun b => b = pp) (HB.out.trans (hcur.mono HB.out.size))).trans HFR.out fun _ _ e => e).set3 (fun h => by omega) _ _ _

theorem CO.po {th : List T} {n : Int} {c : Nat} {t : T} {St St' : Nat → World → Prop} {B B' : Nat} {w w' : World} {k h : Int} {A : Option Addr} {nn cc : Nat} {ec : Int} (o : CO St B w (pf th n 0 t) k h A nn cc ec) (hB : B' ≤ B) (hm : ∀ b, B ≤ b → b < w.heap.size → w'.heap[b]? = w.heap[b]?) (hst : St' c w') : CO St' B' w' (po th n c t) k h A nn cc ec := by
  unfold Go.Proofs.YtkakfckjmmmjgaaGreat.po
  cases hr : pf th n 0 t with
  | error e' => rw [hr] at o; exact o
  | ok p =>
    obtain ⟨t, x⟩ := p
    rw [hr] at o
    obtain ⟨rfl, hr, hs⟩ := o
    exact ⟨rfl, RdF.moveX (fun b hb hl => ⟨by omega, hm b (by omega) hl⟩) _ _ hr, hst⟩
set_option maxHeartbeats 4000000 in
theorem closBC {th : List T} {t : T} (hF : FiC th t) {wB w : World} {pp pP pN : Nat} {A : Option Addr} {m cL : Nat} {n : Int} {c : Nat} (i : Nat) (v : Value)
    (hb : Below wB.heap.size wB w) (hp : ptB w pp A m cL c) (hth : ThK th wB A m cL) (hv : Rd wB t v) (hno : nodB t = true) (h0 : 0 ≤ n) (hn : n + dp t ≤ 4000) (ho : okT 2199023255552 t) (hc : 4000 * nd t ≤ 1125899906842624)
    (xP : Box w pP 96 #[.pointer (some ⟨pp, 0, none⟩)]) (xN : Box w pN 3 #[.int .i64 n]) :
    Calls Tryz.prog 88 #[.int .i64 i, v, .pointer (some ⟨pP, 0, none⟩), .pointer (some ⟨pN, 0, none⟩)] w (CEn (fun b => b = pp) (fun c w' => ptB w' pp A m cL c) w (po th n c t)) := by
  obtain ⟨k2, h2, A2, n2, c2, rfl⟩ := hv.full
  obtain ⟨W, hW⟩ : ∃ W, ((w.alloc (.cells #[.int .i64 k2, .int .i64 h2, .slice A2 n2 c2] 24)).alloc (.cells #[.int .i64 0, .int .i64 0, .slice none 0 0] 24)).alloc (.cells #[.slice A m cL, .int .i64 0] 88) = W := ⟨_, rfl⟩
  have hbW : Below w.heap.size w W := by rw [← hW]; exact (((Below.refl _ _).alloc (Nat.le_refl _) _).alloc (by simp) _).alloc (by simp; omega) _
  have z1 : Box W w.heap.size 24 #[.int .i64 k2, .int .i64 h2, .slice A2 n2 c2] := by rw [← hW]; exact ((Box.new _ _ _).alloc _).alloc _
  have z2 : Box W (w.heap.size + 1) 24 #[.int .i64 0, .int .i64 0, .slice none 0 0] := by rw [← hW]; exact ((Box.new (w.alloc _) _ _).at (by simp)).alloc _
  have z3 : ptB W (w.heap.size + 1 + 1) A m cL 0 := by rw [← hW]; exact (Box.new ((w.alloc _).alloc _) _ _).at (by simp)
  have lP := xP.lt
  have lN := xN.lt
  have lp := hp.lt
  have hsB := hb.size
  have HFI := Lib.hid (hF wB W (w.heap.size + 1 + 1) A m cL n 0 _ (hb.trans (hbW.mono hb.size)) (by omega) z3 hth hv hno h0 hn ho (by omega))
  have HWW := Lib.hid hW; clear hW
  have HB := Lib.hid hbW; clear hb
  have HP := Lib.hid hp
  have d0 := (xP.one).1
  have e0 := (xN.one).1
  obtain ⟨p0, p1⟩ := hp.two
  obtain ⟨a0, a1, a2⟩ := z1.three
  have lP1 : pP < w.heap.size + 1 := by omega
  have lP2 : pP < w.heap.size + 1 + 1 := by omega
  have lN1 : pN < w.heap.size + 1 := by omega
  have lN2 : pN < w.heap.size + 1 + 1 := by omega
  clear hth hv hF ho hc hn h0 hbW xP xN hp hsB
  go_enter Tryz.func88, Tryz.ntmps88
  go_wp2_with fail
  rw [HWW.out]
  clear HWW
  refine HFI.out.mono ?_
  intro e w2 hE
  obtain ⟨k3, h3, A3, n3, c3, ec, rfl, hout, hfr⟩ := hE.uni
  have s5 := z2.lt
  have r2 := z2.fr hfr (by omega)
  have s2 := r2.lt
  have HO := Lib.hid hout
  have HFR := Lib.hid hfr
  clear hout hE hfr a0 a1 a2 d0 e0 p0 p1 z1 z2 z3 HFI
  obtain ⟨y0, y1, y2⟩ := r2.three
  have f0 := r2.frozen 0
  have f1 := r2.frozen 1
  have f2 := r2.frozen 2
  go_wp2_with fail
  refine bodyPost_ret (v := .tuple #[.agg #[.int .i64 k3, .int .i64 h3, .slice A3 n3 c3], .int .i64 ec]) (by simp [results, Tryz.results88, go_sem, y0, y1, y2]) rfl ?_
  have szW := HB.out.size
  have s4 := HFR.out.size
  have hbw : Below w.heap.size w w2 := HB.out.trans (HFR.out.to_below (fun i e => by omega) HB.out.size)
  refine CO.cen (HO.out.po (by omega) (fun g hg _ => heap_other3 _ _ _ _ _ _ (by omega)) (Box.other3 (HP.out.keep hbw lp) (by omega) _ _ _)) ?_
  exact (Fr.below (X := fun b => b = pp) hbw).set3 (fun h => by omega) _ _ _
end Go.Proofs.YtkakfckjmmmjgaaGreat

/-
  Contract of package meta's become, given that of fill for its Args. No statement is proved here.
-/
namespace Go.Proofs.YtkakfckjmmmjgaaGreat
open Go.ChangeShapes Go.WideShapes Go.ChangeAt Go.RowKit
set_option linter.unusedVariables false
set_option maxRecDepth 100000

theorem node_parts {k h : Int} {xs : List T} (h1 : nodB (.node k h xs) = true) : okN k h xs.length = true ∧ ∀ x ∈ xs, nodB x = true := by
  rw [nodB, Bool.and_eq_true] at h1
  exact ⟨h1.1, fun x hx => nodL_mem h1.2 hx⟩
theorem ok_parts {M k h : Int} {xs : List T} (h1 : okT M (.node k h xs)) : ∀ x ∈ xs, okT M x := fun x hx => by
  rw [okT] at h1
  exact okL_mem h1.2 hx
theorem RXL.adv' {B : Nat} {w w' : World} {xs : List T} {A : Option Addr} {n c : Nat} (h : RXL (fun b => b < B) w xs A n c) (hb : Below w.heap.size w w') : RXL (fun b => b < B) w' xs A n c :=
  ⟨h.len, h.le, h.cap, fun i t ht => RdFAt.moveX (fun b hb' hl => ⟨hb', hb.block b hl⟩) (h.at_ i t ht)⟩
theorem rx_of {B B' : Nat} {w w' : World} {t : T} {v : Value} (h : RdF (fun b => B' ≤ b) w t v) (hB : B ≤ B') (hm : ∀ b, B' ≤ b → b < w.heap.size → w'.heap[b]? = w.heap[b]?) : RX (fun b => b < B) w' t v := RdF.moveX (fun b hb hl => ⟨by omega, hm b hb hl⟩) _ _ h
theorem kpL_len : ∀ (ys : List T) (c : Nat), (kpL c ys).length = ys.length
  | [], _ => rfl
  | y :: ys, c => by rw [kpL, List.length_cons, List.length_cons, kpL_len ys]
/-- what is answered, once Apply has answered -/
theorem kp_rx {B : Nat} {w : World} {t : T} {k h : Int} {A : Option Addr} {n cc x : Nat} (hr : RX (fun b => b < B) w t (.agg #[.int .i64 k, .int .i64 h, .slice A n cc])) : ∃ k' h' A' n' c', (if 4000 < x then Value.agg #[.int .i64 7, .int .i64 0, .slice none 0 0] else .agg #[.int .i64 k, .int .i64 h, .slice A n cc]) = .agg #[.int .i64 k', .int .i64 h', .slice A' n' c'] ∧ RX (fun b => b < B) w (kp x t) (.agg #[.int .i64 k', .int .i64 h', .slice A' n' c']) := by
  unfold kp
  by_cases hx : 4000 < x
  · rw [if_pos hx, if_pos hx]
    exact ⟨7, 0, none, 0, 0, rfl, RdF_node.2 ⟨none, 0, 0, rfl, by decide, by decide, rfl, Nat.le_refl _, Nat.zero_le _, fun i t ht => by simp at ht⟩⟩
  · rw [if_neg hx, if_neg hx]
    exact ⟨k, h, A, n, cc, rfl, hr⟩

set_option maxHeartbeats 1000000 in
theorem becomeC {th : List T} {h : Int} {xs : List T} (hF : ∀ x ∈ xs, FiC th x) {wB w : World} {pp : Nat} {A : Option Addr} {m cL : Nat} {n : Int} {c : Nat} {An : Option Addr} {nn cc : Nat}
    (hb : Below wB.heap.size wB w) (hpB : wB.heap.size ≤ pp) (hp : ptB w pp A m cL c) (hth : ThK th wB A m cL) (hv : Rd wB (.node 6 h xs) (.agg #[.int .i64 6, .int .i64 h, .slice An nn cc])) (hno : nodB (.node 6 h xs) = true)
    (h0 : 0 ≤ n) (hn : n + dp (.node 6 h xs) ≤ 4000) (ho : okT 2199023255552 (.node 6 h xs)) (hc : c + 4000 * nd (.node 6 h xs) ≤ 1125899906842624) :
    Calls Tryz.prog 66 #[.pointer (some ⟨pp, 0, none⟩), .agg #[.int .i64 6, .int .i64 h, .slice An nn cc], .int .i64 n] w (CEn (fun b => b = pp) (fun c w' => ptB w' pp A m cL c) w (pf th n c (.node 6 h xs))) := by
  obtain ⟨An', nn', cc', e, _, wfh, hl, hnc, hcm, hxs⟩ := Rd_node.1 hv
  simp only [Value.agg.injEq] at e
  have e' : An = An' ∧ nn = nn' ∧ cc = cc' := by simpa using e
  obtain ⟨rfl, rfl, rfl⟩ := e'
  clear e
  obtain ⟨hok, hnos⟩ := node_parts hno
  have hh0 : 0 ≤ h := by rcases okN_cases hok with ⟨e, _⟩ | ⟨e, _⟩ | ⟨e, _⟩ | ⟨e, he⟩ | ⟨e, he⟩ | ⟨e, he⟩ | ⟨e, he⟩ <;> first | exact he | omega
  have hos := ok_parts ho
  have hdp : dp (.node 6 h xs) = 1 + dpL xs := by rw [dp]
  have hnd : nd (.node 6 h xs) = 1 + ndL xs := by rw [nd]
  have hlen := (wdL_nd xs).2
  have lp := hp.lt
  have szB := hb.size
  obtain ⟨W, hW⟩ : ∃ W, (((w.alloc (.cells #[.pointer (some ⟨pp, 0, none⟩)] 96)).alloc (.cells #[.int .i64 6, .int .i64 h, .slice An nn cc] 24)).alloc (.cells #[.int .i64 n] 3)).alloc (.cells #[.int .i64 0, .int .i64 0, .slice none 0 0] 24) = W := ⟨_, rfl⟩
  have hbW : Below w.heap.size w W := by rw [← hW]; exact ((((Below.refl _ _).alloc (Nat.le_refl _) _).alloc (by simp) _).alloc (by simp; omega) _).alloc (by simp; omega) _
  have x0 : Box W w.heap.size 96 #[.pointer (some ⟨pp, 0, none⟩)] := by rw [← hW]; exact (((Box.new _ _ _).alloc _).alloc _).alloc _
  have x1 : Box W (w.heap.size + 1) 24 #[.int .i64 6, .int .i64 h, .slice An nn cc] := by rw [← hW]; exact (((Box.new (w.alloc _) _ _).at (by simp)).alloc _).alloc _
  have x2 : Box W (w.heap.size + 1 + 1) 3 #[.int .i64 n] := by rw [← hW]; exact ((Box.new ((w.alloc _).alloc _) _ _).at (by simp)).alloc _
  have x3 : Box W (w.heap.size + 1 + 1 + 1) 24 #[.int .i64 0, .int .i64 0, .slice none 0 0] := by rw [← hW]; exact (Box.new (((w.alloc _).alloc _).alloc _) _ _).at (by simp)
  have hpW := hp.keep hbW lp
  have hE := eachBC (X := fun b => b = pp) (St := fun c w' => ptB w' pp A m cL c) (p1 := .pointer (some ⟨w.heap.size, 0, none⟩)) (p2 := .pointer (some ⟨w.heap.size + 1 + 1, 0, none⟩)) (wB := wB) (w := W) (A := An) (n := nn) (c := cc) (c0 := c) (M := 1125899906842624) xs (fun _ x c => po th n c x)
    (hb.trans (hbW.mono hb.size)) hl hnc hcm (by omega) hxs (fun b e => by subst e; exact ⟨hpB, hpW.lt⟩) (fun c' W1 W2 _ hk hs => (hk pp rfl).trans hs) hpW (by omega)
    (fun i t c t1 c1 _ hr => by
      unfold po at hr
      split at hr
      · cases hr
      · cases hr; omega)
    (fun i t v W' c' ht hrd hfr hst hlo => by
      have hmem := List.mem_of_getElem? ht
      have h1 := dpL_mem hmem
      have h2 := nd_mem hmem
      exact closBC (hF t hmem) i v (hb.trans ((hbW.mono hb.size).trans (hfr.to_below (fun i e => by subst e; exact hpB) (by have := hbW.size; omega)))) hst hth hrd (hnos t hmem) h0 (by omega) (hos t hmem) (by omega) (x0.fr hfr (by omega)) (x2.fr hfr (by omega)))
  rw [ea_own, show flL th 6 xs.length xs 0 n = flL th 6 nn xs 0 n from by rw [hl]] at hE
  have hR := pf_meta th n h xs c
  rw [hl, hth.len] at hR
  generalize pf th n c (.node 6 h xs) = R at *
  have HW := Lib.hid hW; clear hW
  have HB := Lib.hid hb; clear hb
  have HBW := Lib.hid hbW; clear hbW
  have HTH := Lib.hid hth; clear hth
  have HO := Lib.hid ho
  clear hv hno ho hxs hnos hos hF
  go_enter Tryz.func66, Tryz.ntmps66
  go_wp2_with fail
  rw [HW.out]
  clear HW
  refine hE.mono ?_
  clear hE
  obtain ⟨FR, hFR⟩ : ∃ FR, FR = flL th 6 nn xs 0 n := ⟨_, rfl⟩
  have herr : ∀ e, flL th 6 nn xs 0 n = .error e → e ≠ 0 := fun e he => flL_err th 6 nn xs 0 n e he
  have hhd : ∀ ys, flL th 6 nn xs 0 n = .ok ys → ys.length = nn ∧ ∀ y ∈ ys, LoT y := fun ys he => ⟨by rw [flL_len th 6 nn xs 0 n ys he, hl], fun y hy => okT_mono (M := hB (dpL xs)) (by unfold hB; omega) _ (okL_mem (flL_heads (th := th) HTH.out.ok 6 nn xs 0 n ys h0 (by omega) (by have h9 := HO.out; rw [okT] at h9; exact h9.2) he) hy)⟩
  have hnd2 : ∀ ys, flL th 6 nn xs 0 n = .ok ys → ndL ys ≤ 4000 * ndL xs := fun ys he => flL_nd th 6 nn xs 0 n ys he
  rw [← hFR] at herr hhd hnd2 hR ⊢
  have hc4 : c ≤ 1125899906842624 := by omega
  clear hFR hdp hnd hlen hn hc hcm hnc wfh hok szB
  cases FR with
  | error ec =>
    rintro e w1 ⟨rfl, hne, hfr⟩
    have HR := Lib.hid (show R = .error ec from hR); clear hR
    have hne' : (ec != 0) = true := by simpa using hne
    have hfw : Fr (fun b => b = pp) w w1 := (Fr.below (X := fun b => b = pp) HBW.out).trans hfr fun _ _ e => e
    have y3 := x3.fr hfr (by omega)
    have HFW := Lib.hid hfw; clear hfw hfr
    have HNE := Lib.hid hne; clear hne
    clear x0 x1 x2 x3 hpW herr hhd hnd2 hp
    obtain ⟨r0, r1, r2⟩ := y3.three
    have f0 := y3.frozen 0
    have f1 := y3.frozen 1
    have f2 := y3.frozen 2
    have ly := y3.lt
    go_wp2_with fail
    refine bodyPost_ret (v := .tuple #[zT, .int .i64 ec]) (by simp [results, Tryz.results66, go_sem, r0, r1, r2]) rfl ?_
    rw [HR.out]
    exact ⟨rfl, HNE.out, HFW.out.set3 (fun h => by omega) _ _ _⟩
  | ok ys =>
    rintro e w1 ⟨A9, n9, c9, rfl, hrl, hfr, hst⟩
    obtain ⟨hyl, hyo⟩ := hhd ys rfl
    have hfw : Fr (fun b => b = pp) w w1 := (Fr.below (X := fun b => b = pp) HBW.out).trans hfr fun _ _ e => e
    have y0 := x0.fr hfr (by omega)
    have y1 := x1.fr hfr (by omega)
    have y2 := x2.fr hfr (by omega)
    have y3 := x3.fr hfr (by omega)
    have HFW := Lib.hid hfw; clear hfw hfr
    have HRL := Lib.hid hrl; clear hrl
    have HST := Lib.hid (show ptB w1 pp A m cL c from hst)
    obtain ⟨p0, p1⟩ := hst.two
    have lp1 := hst.lt
    clear x0 x1 x2 x3 hpW herr hhd hp hst
    obtain ⟨r0, r1, r2⟩ := y3.three
    obtain ⟨a0, a1, a2⟩ := y1.three
    have d0 := y0.one.1
    have e0 := y2.one.1
    have f0 := y3.frozen 0
    have f1 := y3.frozen 1
    have f2 := y3.frozen 2
    have ly := y3.lt
    have hS : w1.cell? ⟨w.heap.size + 1, 1, none⟩ = some (.int .i64 h) ∧ w1.cell? ⟨w.heap.size, 0, none⟩ = some (.pointer (some ⟨pp, 0, none⟩)) ∧ w1.cell? ⟨pp, 0, none⟩ = some (.slice A m cL) := ⟨a1, d0, p0⟩
    by_cases hlt : (m : Int) ≤ h
    · have d1 : decide ((m : Int) ≤ h) = true := by simpa using hlt
      have HR : Hid (R = .error 2) := Lib.hid (by rw [hR]; simp only [if_pos hlt])
      clear hR
      go_wp2_with fail
      go_region_held3 (fun w' => w'.cell? ⟨w.heap.size + 1, 1, none⟩ = some (.int .i64 h) ∧ w'.cell? ⟨w.heap.size, 0, none⟩ = some (.pointer (some ⟨pp, 0, none⟩)) ∧ w'.cell? ⟨pp, 0, none⟩ = some (.slice A m cL))
        (exact hS) (fail)
      go_wp2_with fail
      refine bodyPost_ret (v := .tuple #[zT, .int .i64 2]) (by simp [results, Tryz.results66, go_sem, r0, r1, r2]) rfl ?_
      rw [HR.out]
      exact ⟨rfl, by decide, (HFW.out.set3 (a := w.heap.size + 1 + 1 + 1) (fun h => by omega) _ _ _).then ((Below.refl _ _).drew)⟩
    · have d1 : decide ((m : Int) ≤ h) = false := by simpa using hlt
      go_wp2_with fail
      go_region_held3 (fun w' => w'.cell? ⟨w.heap.size + 1, 1, none⟩ = some (.int .i64 h) ∧ w'.cell? ⟨w.heap.size, 0, none⟩ = some (.pointer (some ⟨pp, 0, none⟩)) ∧ w'.cell? ⟨pp, 0, none⟩ = some (.slice A m cL))
        (exact hS) (fail)
      have hCN := containsC (ys.map fun y => kp (nd y) y) A9 n9 c9 w1.drew HRL.out.len HRL.out.le HRL.out.cap fun i t ht => RdAt.keep ((Below.refl _ _).drew) (rdFAt_rd (HRL.out.at_ i t ht))
      rw [all_kp] at hCN
      obtain ⟨β, hβ⟩ : ∃ β, ys.all myB = β := ⟨_, rfl⟩
      have HBE := Lib.hid hβ
      rw [hβ] at hCN hR
      clear hβ
      go_wp2_with fail
      refine hCN.mono ?_
      clear hCN
      rintro e w2 ⟨rfl, hb2⟩
      have hb2' : Below w1.heap.size w1 w2 := (Below.refl _ w1).drew.trans (hb2.mono (Nat.le_refl _))
      replace y0 := y0.keep hb2' y0.lt
      replace y1 := y1.keep hb2' y1.lt
      replace y2 := y2.keep hb2' y2.lt
      replace y3 := y3.keep hb2' y3.lt
      replace HST := Lib.hid (HST.out.keep hb2' HST.out.lt)
      replace HFW := Lib.hid (HFW.out.then hb2')
      replace HRL := Lib.hid (HRL.out.adv' hb2')
      clear hb2 hb2' r0 r1 r2 a0 a1 a2 d0 e0 f0 f1 f2 ly p0 p1 lp1 hS
      obtain ⟨r0, r1, r2⟩ := y3.three
      have f0 := y3.frozen 0
      have f1 := y3.frozen 1
      have f2 := y3.frozen 2
      have ly := y3.lt
      cases β
      · have HR : Hid (R = .error 4) := Lib.hid (by
          have hlt' : ¬ (m : Int) ≤ h := by omega
          rw [hR]; simp only [if_neg hlt']; simp)
        clear hR
        go_wp2_with fail
        refine bodyPost_ret (v := .tuple #[zT, .int .i64 4]) (by simp [results, Tryz.results66, go_sem, r0, r1, r2]) rfl ?_
        rw [HR.out]
        exact ⟨rfl, by decide, HFW.out.set3 (fun h => by omega) _ _ _⟩
      · have hmy := HBE.out
        rw [map_kp hmy] at HRL
        have hlh : h.toNat < th.length := by rw [HTH.out.len]; omega
        obtain ⟨x, hx⟩ : ∃ x, th.getD h.toNat (.node 0 0 []) = x := ⟨_, rfl⟩
        have hxm : x ∈ th := by rw [← hx]; exact getD_mem _ hlh
        have hxe : th[h.toNat]? = some x := by rw [← hx, List.getD_eq_getElem?_getD, List.getElem?_eq_getElem hlh]; rfl
        rw [hx] at hR
        obtain ⟨b, o, k2, h2, A2, n2, c2, hAe, c0', c1', c2', hrx⟩ := (HTH.out.at_ _ _ hxe).full
        subst hAe
        have hbB : Below wB.heap.size wB w2 := HB.out.trans (HFW.out.to_below (fun i e => by subst e; exact hpB) HB.out.size)
        have q0 := (hbB.cell (cell_lt c0')).trans c0'
        have q1 := (hbB.cell (cell_lt c1')).trans c1'
        have q2 := (hbB.cell (cell_lt c2')).trans c2'
        have lq := cell_lt q0
        dsimp only at lq
        have HRX := Lib.hid (Rd.keep hbB _ _ hrx)
        have HAP : Hid (∀ W', Hid (Below w2.heap.size w2 W') → Calls Tryz.prog 89 #[.agg #[.int .i64 k2, .int .i64 h2, .slice A2 n2 c2], .agg #[.slice A9 n9 c9, .int .i64 n]] W' (fun e w' => TEnd (apT x ys n) (apE x ys n) W' e w' ∧ Hid (Below w2.heap.size w2 w'))) := Lib.hid fun W' h' => by
          have := ApplyC (w := W') (t := x) (L := ys) (sh := n) (Rd.keep h'.out _ _ HRX.out) HRL.out.len HRL.out.le HRL.out.cap (fun i u hu => RdAt.keep h'.out (rdFAt_rd (HRL.out.at_ i u hu))) (fun _ => okT_mono (by omega) _ (HTH.out.ok x hxm)) (fun y hy _ => hyo y hy)
          exact this.mono fun e w' h'' => ⟨h'', by obtain ⟨_, _, _, _, _, _, _, hb'⟩ := h''; exact cur_trans h' hb'⟩
        have hndx : apE x ys n = 0 → nd (apT x ys n) ≤ 4000 := fun e => by
          obtain ⟨_, _, _, _, hm⟩ := ap_zero e
          exact ((myB_iff _).1 hm).2.1
        have hR' : apE x ys n = 0 ∧ R = .ok (kp (c + nd (apT x ys n)) (apT x ys n), c + nd (apT x ys n)) ∨ apE x ys n ≠ 0 ∧ R = .error (apE x ys n) := by
          rw [hR]
          have hlt' : ¬ (m : Int) ≤ h := by omega
          simp only [if_neg hlt']
          by_cases hz : apE x ys n = 0
          · exact .inl ⟨hz, by simp [hz]⟩
          · exact .inr ⟨hz, by simp [hz]⟩
        clear hR hxe hx hlh hrx hmy
        have HND := Lib.hid hndx; clear hndx
        generalize apT x ys n = RT at *
        generalize apE x ys n = RE at *
        have HRR := Lib.hid hR'; clear hR'
        have HK : Hid (∀ w', Hid (Below w2.heap.size w2 w') → (w'.cell? ⟨w.heap.size, 0, none⟩ = some (.pointer (some ⟨pp, 0, none⟩)) ∧ w'.cell? ⟨pp, 0, none⟩ = some (.slice (some ⟨b, o, none⟩) m cL) ∧ w'.cell? ⟨w.heap.size + 1, 1, none⟩ = some (.int .i64 h) ∧ w'.cell? ⟨b, o + h.toNat * 3, none⟩ = some (.int .i64 k2) ∧ w'.cell? ⟨b, o + h.toNat * 3 + 1, none⟩ = some (.int .i64 h2) ∧ w'.cell? ⟨b, o + h.toNat * 3 + 2, none⟩ = some (.slice A2 n2 c2) ∧ w'.cell? ⟨w.heap.size + 1 + 1, 0, none⟩ = some (.int .i64 n) ∧ Hid (Below w2.heap.size w2 w'))) := Lib.hid fun w' h' => by
          have s0 := y0.keep h'.out y0.lt
          have s1 := y1.keep h'.out y1.lt
          have s2 := y2.keep h'.out y2.lt
          have sp := HST.out.keep h'.out HST.out.lt
          exact ⟨s0.one.1, sp.two.1, s1.three.2.1, (h'.out.cell lq).trans q0, (h'.out.cell (cell_lt q1)).trans q1, (h'.out.cell (cell_lt q2)).trans q2, s2.one.1, h'⟩
        have hcu0 : Hid (Below w2.heap.size w2 w2.drew) := cur_drew
        clear c0' c1' c2'
        have hi0 : h < m := by omega
        go_wp2_with fail
        go_region_held3 (fun w' => w'.cell? ⟨w.heap.size, 0, none⟩ = some (.pointer (some ⟨pp, 0, none⟩)) ∧ w'.cell? ⟨pp, 0, none⟩ = some (.slice (some ⟨b, o, none⟩) m cL) ∧ w'.cell? ⟨w.heap.size + 1, 1, none⟩ = some (.int .i64 h) ∧ w'.cell? ⟨b, o + h.toNat * 3, none⟩ = some (.int .i64 k2) ∧ w'.cell? ⟨b, o + h.toNat * 3 + 1, none⟩ = some (.int .i64 h2) ∧ w'.cell? ⟨b, o + h.toNat * 3 + 2, none⟩ = some (.slice A2 n2 c2) ∧ w'.cell? ⟨w.heap.size + 1 + 1, 0, none⟩ = some (.int .i64 n) ∧ Hid (Below w2.heap.size w2 w'))
          (first | exact HK.out _ (by assumption) | exact HK.out _ (cur_alloc (by assumption) _) | exact HK.out _ (cur_alloc (cur_alloc (by assumption) _) _) | exact HK.out _ (cur_set3 (by assumption) (by omega) _ _ _))
          (first
            | (go_at_call 89
               with_reducible refine Calls.mono (HAP.out _ ?hh) ?_
               case hh => first | assumption | exact Lib.hid (((Below.refl _ _).alloc (Nat.le_refl _) _).drew) | exact Lib.hid (((Below.refl _ _).drew).alloc (Nat.le_refl _) _)
               rintro e w9 ⟨⟨kq, hq, Aq, nq, cq, rfl, hrd, hb9⟩, hcu9⟩
               first | (have zP := Box.keepC (cs := #[.int .i64 0, .int .i64 0, .slice none 0 0]) (ty := 24) (by first | exact zP | exact zP.alloc _ | exact Box.new _ _ _ | exact (Box.new _ _ _).alloc _) hb9; have lzhb9 := zP.lt) | skip
               have hs9 := hcu9.out.size
               have HRq := Lib.hid hrd
               first | (obtain ⟨z0, z1, z2⟩ := zP.three; have fz0 := zP.frozen 0; have fz1 := zP.frozen 1; have fz2 := zP.frozen 2) | skip
               clear hrd hb9))
        all_goals first
          | (obtain ⟨W6, hWf⟩ : ∃ Wf, w9.alloc (.cells #[.int .i64 kq, .int .i64 hq, .slice Aq nq cq] 24) = Wf := ⟨_, rfl⟩
             obtain ⟨pq, hpe⟩ : ∃ p, p = w9.heap.size := ⟨_, rfl⟩
             have hlw : w2.heap.size ≤ pq := by rw [hpe]; exact hs9
             have xq : Box W6 pq 24 #[.int .i64 kq, .int .i64 hq, .slice Aq nq cq] := by rw [hpe, ← hWf]; exact Box.new _ _ _
             have hbF : Below w2.heap.size w2 W6 := by rw [← hWf]; exact (cur_alloc (by assumption) _).out
             have HRX6 : Hid (RX (fun b => b < w2.heap.size) W6 RT (.agg #[.int .i64 kq, .int .i64 hq, .slice Aq nq cq])) := Lib.hid (by rw [← hWf]; exact rx_of HRq.out (by first | omega | (simp; done) | (simp; omega)) fun b hb hl => Below.heap_alloc _ _ _ hl)
             rw [hWf, ← hpe]
             clear hWf hpe)
          | (obtain ⟨W6, hWf⟩ : ∃ Wf, ((w9.setCell ⟨w2.heap.size, 0, none⟩ (.int .i64 kq)).setCell ⟨w2.heap.size, 1, none⟩ (.int .i64 hq)).setCell ⟨w2.heap.size, 2, none⟩ (.slice Aq nq cq) = Wf := ⟨_, rfl⟩
             obtain ⟨pq, hpe⟩ : ∃ p, p = w2.heap.size := ⟨_, rfl⟩
             have hlw : w2.heap.size ≤ pq := by rw [hpe]; exact Nat.le_refl _
             have xq : Box W6 pq 24 #[.int .i64 kq, .int .i64 hq, .slice Aq nq cq] := by rw [hpe, ← hWf]; exact zP.put3 _ _ _
             have hbF : Below w2.heap.size w2 W6 := by rw [← hWf]; exact (cur_set3 (by assumption) (by omega) _ _ _).out
             have HRX6 : Hid (RX (fun b => b < w2.heap.size) W6 RT (.agg #[.int .i64 kq, .int .i64 hq, .slice Aq nq cq])) := Lib.hid (by rw [← hWf]; exact rx_of HRq.out (by first | omega | (simp; done) | (simp; omega)) fun b hb hl => heap_other3 _ _ _ _ _ _ (by simp at hb; omega))
             rw [hWf, ← hpe]
             clear hWf hpe)
        all_goals
          replace y0 := y0.keep hbF y0.lt
          replace y3 := y3.keep hbF y3.lt
          replace HST := Lib.hid (HST.out.keep hbF HST.out.lt)
          replace HFW := Lib.hid (HFW.out.then hbF)
          clear hbF HK HAP HRX
          try clear zP
          clear r0 r1 r2 f0 f1 f2 q0 q1 q2
          have ly3 := y3.lt
          obtain ⟨r0, r1, r2⟩ := y3.three
          have f0 := y3.frozen 0
          have f1 := y3.frozen 1
          have f2 := y3.frozen 2
          have lyq := xq.lt
          rcases HRR.out with ⟨hz, hr⟩ | ⟨hz, hr⟩
          · have hndx := HND.out hz
            subst hz
            have HR := Lib.hid hr; clear hr HRR
            obtain ⟨k', h', A', n', c', heq, hrx⟩ := kp_rx (x := c + nd RT) HRX6.out
            have HRX7 := Lib.hid hrx; clear hrx
            have HSZ : Hid (∀ W', Below W6.heap.size W6 W' → Calls Tryz.prog 90 #[.agg #[.int .i64 kq, .int .i64 hq, .slice Aq nq cq]] W' fun e w' => e = .returned (.int .i64 (nd RT : Nat)) ∧ Below W'.heap.size W' w') := Lib.hid fun W' hW' => by
              have := sizeC RT _ W' (Rd.keep hW' _ _ (RX.rd HRX6.out))
              rw [szW_small (by omega)] at this
              exact this
            have HKP : Hid (∀ W', Below W6.heap.size W6 W' → Calls Tryz.prog 69 #[.pointer (some ⟨pp, 0, none⟩), .agg #[.int .i64 kq, .int .i64 hq, .slice Aq nq cq], .int .i64 (nd RT : Nat)] W' fun e w' => e = .returned (.agg #[.int .i64 k', .int .i64 h', .slice A' n' c']) ∧ Fr (fun b => b = pp) W6 w' ∧ ptB w' pp (some ⟨b, o, none⟩) m cL (c + nd RT)) := Lib.hid fun W' hW' => by
              have := keepPC (d := nd RT) (k := kq) (h := hq) (A2 := Aq) (n2 := nq) (c2 := cq) W' (HST.out.keep hW' HST.out.lt) (by omega)
              rw [heq] at this
              exact this.mono fun e w' ⟨h1, h2, h3⟩ => ⟨h1, (Fr.below (X := fun b => b = pp) hW').trans h2 fun _ _ e => e, h3⟩
            clear heq
            go_wp2_with fail
            have d0 := y0.one.1
            obtain ⟨z0, z1, z2⟩ := xq.three
            have hcur : Below W6.heap.size W6 W6.drew := (Below.refl _ _).drew
            go_region_held3 (fun w' => w'.cell? ⟨w.heap.size, 0, none⟩ = some (.pointer (some ⟨pp, 0, none⟩)) ∧ w'.cell? ⟨pq, 0, none⟩ = some (.int .i64 kq) ∧ w'.cell? ⟨pq, 1, none⟩ = some (.int .i64 hq) ∧ w'.cell? ⟨pq, 2, none⟩ = some (.slice Aq nq cq))
              (first | exact ⟨d0, z0, z1, z2⟩ | exact ⟨m0.one.1, mq.three.1, mq.three.2.1, mq.three.2.2⟩ | exact ⟨n0.one.1, nQ.three.1, nQ.three.2.1, nQ.three.2.2⟩ | exact ⟨o0.one.1, oq.three.1, oq.three.2.1, oq.three.2.2⟩)
              (first
                | (go_at_call 90
                   refine (HSZ.out _ hcur).mono ?_
                   rintro e w7 ⟨rfl, hb7⟩
                   replace hcur := hcur.trans (hb7.mono hcur.size)
                   have m0 := y0.keep hcur y0.lt
                   have mq := xq.keep hcur xq.lt
                   clear hb7)
                | (go_at_call 69
                   refine (HKP.out _ hcur).mono ?_
                   rintro e w8 ⟨rfl, hfr8, hst8⟩
                   have n0 := y0.fr hfr8 (by omega)
                   have nQ := xq.fr hfr8 (by omega)
                   have n3 := y3.fr hfr8 (by omega)
                   have s8 := n3.lt
                   have HFR8 := Lib.hid hfr8
                   have HST8 := Lib.hid hst8
                   clear hfr8 hst8 r0 r1 r2 f0 f1 f2
                   obtain ⟨r0, r1, r2⟩ := n3.three
                   have f0 := n3.frozen 0
                   have f1 := n3.frozen 1
                   have f2 := n3.frozen 2
                   have o0 := n0.other3 (a := w.heap.size + 1 + 1 + 1) (by omega) (.int .i64 k') (.int .i64 h') (.slice A' n' c')
                   have oq := nQ.other3 (a := w.heap.size + 1 + 1 + 1) (by omega) (.int .i64 k') (.int .i64 h') (.slice A' n' c')))
            clear o0 oq n0 nQ z0 z1 z2 d0
            go_wp2_with fail
            refine bodyPost_ret (v := .tuple #[.agg #[.int .i64 k', .int .i64 h', .slice A' n' c'], .int .i64 0]) (by simp [results, Tryz.results66, go_sem, r0, r1, r2]) rfl ?_
            rw [HR.out]
            refine ⟨k', h', A', n', c', rfl, ?_, ((HFW.out.trans HFR8.out fun _ _ e => e).set3 (fun h => by omega) _ _ _), Box.other3 HST8.out (by omega) _ _ _⟩
            exact RdF.moveX (fun b hb hl => ⟨by omega, (heap_other3 _ _ _ _ _ _ (by omega)).trans (HFR8.out.block b hl (by omega))⟩) _ _ HRX7.out
          · have hne' : (RE != 0) = true := by simpa using hz
            have HR := Lib.hid hr
            have HZ := Lib.hid hz
            clear hr hz HRR
            go_wp2_with fail
            refine bodyPost_ret (v := .tuple #[zT, .int .i64 RE]) (by simp [results, Tryz.results66, go_sem, r0, r1, r2]) rfl ?_
            rw [HR.out]
            exact ⟨rfl, HZ.out, HFW.out.set3 (fun h => by omega) _ _ _⟩
end Go.Proofs.YtkakfckjmmmjgaaGreat

/-
  Contract of package meta's fill. No statement is proved here.
-/
namespace Go.Proofs.YtkakfckjmmmjgaaGreat
open Go.ChangeShapes Go.WideShapes Go.ChangeAt Go.RowKit
set_option linter.unusedVariables false
set_option maxRecDepth 100000

set_option maxHeartbeats 4000000 in
theorem fillC (th : List T) : ∀ t, FiC th t := by
  refine T.ind fun k h xs ih => ?_
  intro wB w pp A m cL n c v hb hpB hp hth hv hno h0 hn ho hc
  have hv' := hv
  obtain ⟨An, nn, cc, rfl, wfk, wfh, hl, hnc, hcm, hxs⟩ := Rd_node.1 hv
  have lp := hp.lt
  have szB := hb.size
  obtain ⟨W, hW⟩ : ∃ W, (((w.alloc (.cells #[.pointer (some ⟨pp, 0, none⟩)] 96)).alloc (.cells #[.int .i64 k, .int .i64 h, .slice An nn cc] 24)).alloc (.cells #[.int .i64 n] 3)).alloc (.cells #[.int .i64 0, .int .i64 0, .slice none 0 0] 24) = W := ⟨_, rfl⟩
  have hbW : Below w.heap.size w W := by rw [← hW]; exact ((((Below.refl _ _).alloc (Nat.le_refl _) _).alloc (by simp) _).alloc (by simp; omega) _).alloc (by simp; omega) _
  have x0 : Box W w.heap.size 96 #[.pointer (some ⟨pp, 0, none⟩)] := by rw [← hW]; exact (((Box.new _ _ _).alloc _).alloc _).alloc _
  have x1 : Box W (w.heap.size + 1) 24 #[.int .i64 k, .int .i64 h, .slice An nn cc] := by rw [← hW]; exact (((Box.new (w.alloc _) _ _).at (by simp)).alloc _).alloc _
  have x2 : Box W (w.heap.size + 1 + 1) 3 #[.int .i64 n] := by rw [← hW]; exact ((Box.new ((w.alloc _).alloc _) _ _).at (by simp)).alloc _
  have x3 : Box W (w.heap.size + 1 + 1 + 1) 24 #[.int .i64 0, .int .i64 0, .slice none 0 0] := by rw [← hW]; exact (Box.new (((w.alloc _).alloc _).alloc _) _ _).at (by simp)
  have hpW := hp.keep hbW lp
  have hbBW := hb.trans (hbW.mono hb.size)
  by_cases hk6 : k = 6
  · subst hk6
    have hBC := becomeC ih hbBW hpB hpW hth hv hno h0 hn ho hc
    generalize pf th n c (.node 6 h xs) = R at *
    have HBC := Lib.hid hBC; clear hBC
    have HW := Lib.hid hW; clear hW
    have HBW := Lib.hid hbW; clear hbW
    clear hv hv' hno ho hxs hn hc hth hp hpW hbBW hb ih wfk wfh
    go_enter Tryz.func54, Tryz.ntmps54
    go_wp2_with fail
    rw [HW.out]
    clear HW
    refine HBC.out.mono ?_
    clear HBC
    intro e w2 hE
    obtain ⟨k3, h3, A3, n3, c3, ec, rfl, hout, hfr⟩ := hE.uni
    have r2 := x3.fr hfr (by omega)
    have s2 := r2.lt
    have s5 := x3.lt
    have HO := Lib.hid hout
    have HFR := Lib.hid hfr
    clear hout hE hfr x0 x1 x2 x3
    obtain ⟨y0, y1, y2⟩ := r2.three
    have f0 := r2.frozen 0
    have f1 := r2.frozen 1
    have f2 := r2.frozen 2
    go_wp2_with fail
    refine bodyPost_ret (v := .tuple #[.agg #[.int .i64 k3, .int .i64 h3, .slice A3 n3 c3], .int .i64 ec]) (by simp [results, Tryz.results54, go_sem, y0, y1, y2]) rfl ?_
    have s4 := HFR.out.size
    refine CO.cen (HO.out.move (by omega) (fun g hg _ => heap_other3 _ _ _ _ _ _ (by omega)) fun _ _ _ hs => Box.other3 hs (by omega) _ _ _) ?_
    exact ((Fr.below (X := fun b => b = pp) HBW.out).trans HFR.out fun _ _ e => e).set3 (fun h => by omega) _ _ _
  · have hR := pf_node th n k h xs c hk6
    obtain ⟨_, hnos⟩ := node_parts hno
    have hos := ok_parts ho
    have hdp : dp (.node k h xs) = 1 + dpL xs := by rw [dp]
    have hnd : nd (.node k h xs) = 1 + ndL xs := by rw [nd]
    have hlen := (wdL_nd xs).2
    have hE := eachFC (X := fun b => b = pp) (St := fun c w' => ptB w' pp A m cL c) (p1 := .pointer (some ⟨w.heap.size, 0, none⟩)) (p2 := .pointer (some ⟨w.heap.size + 1 + 1, 0, none⟩)) (p3 := .pointer (some ⟨w.heap.size + 1, 0, none⟩)) (wB := wB) (w := W) (A := An) (n := nn) (c := cc) (c0 := c) (M := 1125899906842624) xs (fun i x c => pf th (n + bd k nn i) c x)
      hbBW hl hnc hcm (by omega) hxs (fun b e => by subst e; exact ⟨hpB, hpW.lt⟩) (fun c' W1 W2 _ hk hs => (hk pp rfl).trans hs) hpW (by omega)
      (fun i t c t1 c1 _ hr => by
        unfold pf at hr
        split at hr
        · cases hr
        · rename_i t' ht'
          cases hr
          have := fl_nd th t _ t' ht'
          omega)
      (fun i t v W' c' ht hrd hfr hst hlo => by
        have hmem := List.mem_of_getElem? ht
        have h1 := dpL_mem hmem
        have h2 := nd_mem hmem
        have hi : i < xs.length := (List.getElem?_eq_some_iff.1 ht).1
        have h3 : nd t ≤ ndL (xs.drop i) := by rw [drop_at ht, ndL]; omega
        have h4 : i ≤ maxLen := by unfold maxLen at hcm ⊢; omega
        exact closFC (ih t hmem) i v (hb.trans ((hbW.mono hb.size).trans (hfr.to_below (fun i e => by subst e; exact hpB) (by have := hbW.size; omega)))) hpB hst hth hrd (hnos t hmem) h0 (by omega) (hos t hmem) (by omega) (x0.fr hfr (by omega)) (x2.fr hfr (by omega)) (x1.fr hfr (by omega)) hnc hcm h4 (by omega) (by omega) (by omega))
    rw [ea_fill, show flL th k nn xs 0 n = flL th k xs.length xs 0 n from by rw [hl]] at hE
    have hnd2 : ∀ ys, flL th k xs.length xs 0 n = .ok ys → ndL ys ≤ 4000 * ndL xs := fun ys he => flL_nd th k xs.length xs 0 n ys he
    have herr : ∀ e, flL th k xs.length xs 0 n = .error e → e ≠ 0 := fun e he => flL_err th k xs.length xs 0 n e he
    obtain ⟨FR, hFR⟩ : ∃ FR, FR = flL th k xs.length xs 0 n := ⟨_, rfl⟩
    generalize pf th n c (.node k h xs) = R at *
    rw [← hFR] at hE hnd2 herr hR
    have hbnd : ∀ ys, FR = .ok ys → c + ndL ys + 1 ≤ 4611686018427387904 := fun ys he => by have := hnd2 ys he; omega
    have HWF := Lib.hid (And.intro wfk wfh)
    have HE := Lib.hid hE; clear hE
    have HW := Lib.hid hW; clear hW
    have HBW := Lib.hid hbW; clear hbW
    clear hv hv' hno ho hxs hn hc hth hp hpW hbBW hb ih hFR hnd2 wfk wfh hos hnos hdp hnd hlen hnc hcm hpB
    have e6 : (k == 6) = false := by simpa using hk6
    clear hk6
    go_enter Tryz.func54, Tryz.ntmps54
    go_wp2_with fail
    rw [HW.out]
    clear HW
    refine HE.out.mono ?_
    clear HE
    cases FR with
    | error ec =>
      rintro e w1 ⟨rfl, hne, hfr⟩
      have HR := Lib.hid (show R = .error ec from hR); clear hR
      have hne' : (ec != 0) = true := by simpa using hne
      have y3 := x3.fr hfr (by omega)
      have HFW := Lib.hid ((Fr.below (X := fun b => b = pp) HBW.out).trans hfr fun _ _ e => e); clear hfr
      have HNE := Lib.hid hne; clear hne
      clear x0 x1 x2 x3 herr hbnd
      obtain ⟨r0, r1, r2⟩ := y3.three
      have f0 := y3.frozen 0
      have f1 := y3.frozen 1
      have f2 := y3.frozen 2
      have ly := y3.lt
      go_wp2_with fail
      refine bodyPost_ret (v := .tuple #[zT, .int .i64 ec]) (by simp [results, Tryz.results54, go_sem, r0, r1, r2]) rfl ?_
      rw [HR.out]
      exact ⟨rfl, HNE.out, HFW.out.set3 (fun h => by omega) _ _ _⟩
    | ok ys =>
      rintro e w1 ⟨A9, n9, c9, rfl, hrl, hfr, hst⟩
      have HR := Lib.hid (show R = .ok (kp (c + ndL ys + 1) (.node k h (kpL c ys)), c + ndL ys + 1) from hR); clear hR
      have hbd := hbnd ys rfl
      have y0 := x0.fr hfr (by omega)
      have y1 := x1.fr hfr (by omega)
      have y3 := x3.fr hfr (by omega)
      have hsz := hfr.size
      have l3 := x3.lt
      have HFW := Lib.hid ((Fr.below (X := fun b => b = pp) HBW.out).trans hfr fun _ _ e => e); clear hfr
      clear x0 x1 x2 x3 herr hbnd
      have hnode : RX (fun b => b < W.heap.size) w1 (.node k h (kpL c ys)) (.agg #[.int .i64 k, .int .i64 h, .slice A9 n9 c9]) := RdF_node.2 ⟨A9, n9, c9, rfl, HWF.out.1, HWF.out.2, hrl.len, hrl.le, hrl.cap, hrl.at_⟩
      have hkp := keepPC (d := 1) (k := k) (h := h) (A2 := A9) (n2 := n9) (c2 := c9) w1 hst hbd
      obtain ⟨k', h', A', n', c', heq, hrx⟩ := kp_rx (x := c + ndL ys + 1) hnode
      rw [heq, show ((1 : Nat) : Int) = 1 from rfl] at hkp
      have HKP := Lib.hid hkp
      have HRX := Lib.hid hrx
      clear hkp heq hrx hnode hrl hst hbd
      obtain ⟨r0, r1, r2⟩ := y3.three
      obtain ⟨a0, a1, a2⟩ := y1.three
      have d0 := y0.one.1
      have f0 := y3.frozen 0
      have f1 := y3.frozen 1
      have f2 := y3.frozen 2
      have ly := y3.lt
      go_wp2_with fail
      refine HKP.out.mono ?_
      clear HKP
      rintro e w2 ⟨rfl, hfr2, hst2⟩
      have z3 := y3.fr hfr2 (by omega)
      have hsz2 := hfr2.size
      have HF2 := Lib.hid hfr2
      have HS2 := Lib.hid hst2
      clear hfr2 hst2 r0 r1 r2 f0 f1 f2 a0 a1 a2 d0 y0 y1 y3
      obtain ⟨r0, r1, r2⟩ := z3.three
      have f0 := z3.frozen 0
      have f1 := z3.frozen 1
      have f2 := z3.frozen 2
      have lz := z3.lt
      go_wp2_with fail
      refine bodyPost_ret (v := .tuple #[.agg #[.int .i64 k', .int .i64 h', .slice A' n' c'], .int .i64 0]) (by simp [results, Tryz.results54, go_sem, r0, r1, r2]) rfl ?_
      rw [HR.out]
      refine ⟨k', h', A', n', c', rfl, ?_, ((HFW.out.trans HF2.out fun _ _ e => e).set3 (fun h => by omega) _ _ _), Box.other3 HS2.out (by omega) _ _ _⟩
      exact RdF.moveX (fun b hb hl => ⟨by omega, (heap_other3 _ _ _ _ _ _ (by omega)).trans (HF2.out.block b hl (by omega))⟩) _ _ HRX.out
end Go.Proofs.YtkakfckjmmmjgaaGreat

/-
  Contracts of package meta's by, of the closure that it tells, and of Fill. No statement is proved here.
-/
namespace Go.Proofs.YtkakfckjmmmjgaaGreat
open Go.ChangeShapes Go.WideShapes Go.ChangeAt Go.RowKit
set_option linter.unusedVariables false
set_option maxRecDepth 100000

/-- may these be terms for metas? -/
def thB (th : List T) : Bool := decide (th.length ≤ 200) && th.all myB
/-- what Fill tells -/
def fiR (th : List T) (n : Int) (t : T) : Except Int T :=
  if (thB th && decide (0 ≤ n) && decide (n ≤ 1000) && myB t) = true then
    match flT th t n with
    | .error e => .error e
    | .ok t' => if myB t' = true then .ok t' else .error 4
  else .error 1
def exT : Except Int T → T
  | .ok t => t
  | .error _ => .node 0 0 []
def exE : Except Int T → Int
  | .ok _ => 0
  | .error e => e
/-- how Fill ends -/
def FnE (r : Except Int T) (w : World) (e : Ending) (w' : World) : Prop :=
  match r with
  | .error ec => e = .returned (.tuple #[zT, .int .i64 ec]) ∧ ec ≠ 0 ∧ Below w.heap.size w w'
  | .ok t => TEnd t 0 w e w'
theorem FnE.tend {r : Except Int T} {w w' : World} {e : Ending} (h : FnE r w e w') : TEnd (exT r) (exE r) w e w' := by
  cases r with
  | error ec =>
    obtain ⟨rfl, _, hb⟩ := h
    exact ⟨0, 0, none, 0, 0, rfl, rd_nil0 _ _, hb⟩
  | ok t => exact h
theorem FnE.below {r : Except Int T} {w w' : World} {e : Ending} (h : FnE r w e w') : Below w.heap.size w w' := by
  cases r with
  | error ec => exact h.2.2
  | ok t =>
    obtain ⟨_, _, _, _, _, _, _, hb⟩ := h
    exact hb
/-- with a count that stays -/
def wc (r : Except Int T) (c : Nat) : Res :=
  match r with
  | .error e => .error e
  | .ok t => .ok (t, c)
theorem FnE.cen {X : Nat → Prop} {r : Except Int T} {c : Nat} {w w' : World} {e : Ending} (h : FnE r w e w') : CEn X (fun _ _ => True) w (wc r c) e w' := by
  cases r with
  | error ec =>
    obtain ⟨rfl, hne, hb⟩ := h
    exact ⟨rfl, hne, Fr.below hb⟩
  | ok t =>
    obtain ⟨k, h, A, n, cc, rfl, hr, hb⟩ := h
    exact ⟨k, h, A, n, cc, rfl, RdF.moveX (fun b hb _ => ⟨by omega, rfl⟩) _ _ hr, Fr.below hb, trivial⟩
theorem fne_of {r : Except Int T} {c : Nat} {w w' : World} {k h : Int} {A : Option Addr} {n cc : Nat} {ec : Int} (o : CO (fun _ _ => True) w.heap.size w' (wc r c) k h A n cc ec) (hb : Below w.heap.size w w') : FnE r w (.returned (.tuple #[.agg #[.int .i64 k, .int .i64 h, .slice A n cc], .int .i64 ec])) w' := by
  cases r with
  | error e' =>
    obtain ⟨rfl, hne, hz⟩ := o
    exact ⟨by rw [hz], hne, hb⟩
  | ok t =>
    obtain ⟨rfl, hr, _⟩ := o
    exact ⟨k, h, A, n, cc, rfl, RdF.moveX (fun b hb _ => ⟨by omega, rfl⟩) _ _ hr, hb⟩
theorem fi_bad {th : List T} {n : Int} {t : T} (h : (thB th && decide (0 ≤ n) && decide (n ≤ 1000) && myB t) = false) : fiR th n t = .error 1 := by
  unfold fiR; rw [h]; rfl
theorem fi_good {th : List T} {n : Int} {t : T} (h1 : thB th = true) (h2 : 0 ≤ n) (h3 : n ≤ 1000) (h4 : myB t = true) : fiR th n t = match flT th t n with
    | .error e => .error e
    | .ok t' => if myB t' = true then .ok t' else .error 4 := by
  unfold fiR; rw [h1, h4]; simp [h2, h3]

set_option maxHeartbeats 4000000 in
theorem byC {th : List T} {A : Option Addr} {m cL : Nat} (w : World) (hn : th.length = m) (hc : m ≤ cL) (hm : cL ≤ maxLen) (hx : ∀ i t, th[i]? = some t → RdAt w A i t) :
    Calls Tryz.prog 38 #[.slice A m cL] w fun e w' => ∃ pm pt, e = .returned (.func (.func 53) #[] #[.pointer (some ⟨pm, 0, none⟩), .pointer (some ⟨pt, 0, none⟩)]) ∧ Box w' pm 4 #[.bool (thB th)] ∧ Box w' pt 22 #[.slice A m cL] ∧ Below w.heap.size w w' := by
  have hmf : ∀ (fn : Fn) (first cap : Array Value) (w : World), (Instr.makeFunc fn first cap).run Tryz.prog w = .ok (.func fn first cap) w := fun _ _ _ _ => rfl
  have hb : Below w.heap.size w (w.alloc (.cells #[.slice A m cL] 22)) := (Below.refl _ _).alloc (Nat.le_refl _) _
  have x0 := Box.new w 22 #[.slice A m cL]
  have HC := Lib.hid (containsC th A m cL (w.alloc (.cells #[.slice A m cL] 22)) hn hc hm fun i t ht => RdAt.keep hb (hx i t ht))
  obtain ⟨β, hβ⟩ : ∃ β, th.all myB = β := ⟨_, rfl⟩
  have hT : thB th = (decide (m ≤ 200) && β) := by rw [thB, hn, hβ]
  rw [hβ] at HC
  rw [hT]
  clear hT hβ hx hn hc hm
  by_cases hl : m ≤ 200
  · have d1 : decide ((m : Int) ≤ 200) = true := by simp; omega
    have d2 : decide (m ≤ 200) = true := by simpa using hl
    rw [d2]
    clear d2 hl
    go_enter Tryz.func38, Tryz.ntmps38
    go_wp2_with fail
    refine HC.out.mono ?_
    clear HC
    rintro e w1 ⟨rfl, hb1⟩
    have y0 := x0.keep hb1 x0.lt
    have hbw := hb.trans (hb1.mono hb.size)
    have hfin : ∀ v, Box (w1.alloc (.cells #[v] 4)) w1.heap.size 4 #[v] ∧ Box (w1.alloc (.cells #[v] 4)) w.heap.size 22 #[.slice A m cL] ∧ Below w.heap.size w (w1.alloc (.cells #[v] 4)) := fun v => ⟨Box.new _ _ _, y0.alloc _, hbw.alloc hbw.size _⟩
    have HFIN := Lib.hid hfin
    clear hfin y0 hbw hb1 hb x0
    cases β
    all_goals
      go_wp2_with fail
      go_ret
      exact ⟨_, _, rfl, (HFIN.out _).1, (HFIN.out _).2.1, (HFIN.out _).2.2⟩
  · have d1 : decide ((m : Int) ≤ 200) = false := by simp; omega
    have d2 : decide (m ≤ 200) = false := by simpa using hl
    rw [d2]
    have HFIN := Lib.hid fun v => (⟨(Box.new _ _ _).at (by simp), x0.alloc _, hb.alloc hb.size _⟩ : Box ((w.alloc (.cells #[.slice A m cL] 22)).alloc (.cells #[v] 4)) (w.heap.size + 1) 4 #[v] ∧ Box ((w.alloc (.cells #[.slice A m cL] 22)).alloc (.cells #[v] 4)) w.heap.size 22 #[.slice A m cL] ∧ Below w.heap.size w ((w.alloc (.cells #[.slice A m cL] 22)).alloc (.cells #[v] 4)))
    clear d2 hl HC x0 hb
    go_enter Tryz.func38, Tryz.ntmps38
    go_wp2_with fail
    go_ret
    exact ⟨_, _, rfl, (HFIN.out _).1, (HFIN.out _).2.1, (HFIN.out _).2.2⟩

set_option maxHeartbeats 8000000 in
theorem byFC {th : List T} {t : T} {A : Option Addr} {m cL : Nat} {n : Int} {pm pt : Nat} {k h : Int} {At : Option Addr} {nt ct : Nat} (w : World) (hn : th.length = m) (hc : m ≤ cL) (hm : cL ≤ maxLen) (hx : ∀ i t, th[i]? = some t → RdAt w A i t)
    (xm : Box w pm 4 #[.bool (thB th)]) (xt : Box w pt 22 #[.slice A m cL]) (hv : Rd w t (.agg #[.int .i64 k, .int .i64 h, .slice At nt ct])) (hok : ∀ x ∈ th, myB x = true → okT 2199023255552 x) (ho : myB t = true → okT 2199023255552 t) :
    Calls Tryz.prog 53 #[.agg #[.int .i64 k, .int .i64 h, .slice At nt ct], .int .i64 n, .pointer (some ⟨pm, 0, none⟩), .pointer (some ⟨pt, 0, none⟩)] w (FnE (fiR th n t) w) := by
  obtain ⟨W, hW⟩ : ∃ W, (w.alloc (.cells #[.int .i64 k, .int .i64 h, .slice At nt ct] 24)).alloc (.cells #[.int .i64 0, .int .i64 0, .slice none 0 0] 24) = W := ⟨_, rfl⟩
  have hb : Below w.heap.size w W := by rw [← hW]; exact ((Below.refl _ _).alloc (Nat.le_refl _) _).alloc (by simp) _
  have x0 : Box W w.heap.size 24 #[.int .i64 k, .int .i64 h, .slice At nt ct] := by rw [← hW]; exact (Box.new _ _ _).alloc _
  have x1 : Box W (w.heap.size + 1) 24 #[.int .i64 0, .int .i64 0, .slice none 0 0] := by rw [← hW]; exact (Box.new (w.alloc _) _ _).at (by simp)
  have lm := xm.lt
  have lt := xt.lt
  have lm1 : pm < w.heap.size + 1 := by omega
  have m0 := xm.one.1
  have HBAD : Hid ((thB th && decide (0 ≤ n) && decide (n ≤ 1000) && myB t) = false → ∀ w', Below w.heap.size w w' → FnE (fiR th n t) w (.returned (.tuple #[zT, .int .i64 1])) w') := Lib.hid fun h w' hb' => by
    rw [fi_bad h]
    exact ⟨rfl, by decide, hb'⟩
  have HMN := Lib.hid (mayNotC t _ W (Rd.keep hb _ _ hv))
  have HGO : Hid (thB th = true → 0 ≤ n → n ≤ 1000 → myB t = true → fiR th n t = (match flT th t n with
    | .error e => .error e
    | .ok t' => if myB t' = true then .ok t' else .error 4) ∧ ∀ W' pp, Below w.heap.size w W' → w.heap.size ≤ pp → ptB W' pp A m cL 0 → Calls Tryz.prog 54 #[.pointer (some ⟨pp, 0, none⟩), .agg #[.int .i64 k, .int .i64 h, .slice At nt ct], .int .i64 n] W' (CEn (fun b => b = pp) (fun c w' => ptB w' pp A m cL c) W' (pf th n 0 t))) := Lib.hid fun h1 h2 h3 h4 => by
    refine ⟨fi_good h1 h2 h3 h4, fun W' pp hb' hpp hpt => ?_⟩
    have hall : ∀ x ∈ th, myB x = true := by
      unfold thB at h1
      rw [Bool.and_eq_true] at h1
      exact List.all_eq_true.1 h1.2
    obtain ⟨a1, a2, a3⟩ := (myB_iff t).1 h4
    exact fillC th t w W' pp A m cL n 0 _ hb' hpp hpt ⟨hall, fun x hx => hok x hx (hall x hx), hn, hc, hm, hx⟩ hv a1 h2 (by omega) (ho h4) (by omega)
  have HXT := Lib.hid xt
  have HB := Lib.hid hb
  clear hx hv hok ho hn hc hm xt xm
  generalize fiR th n t = R at *
  generalize hpf : pf th n 0 t = P at *
  have hpf' : P = match flT th t n with
    | .error e => .error e
    | .ok t' => .ok (kp (nd t') t', nd t') := by rw [← hpf, pf]; simp only [Nat.zero_add] <;> (cases flT th t n <;> rfl)
  generalize flT th t n = FR at *
  clear hpf
  have HPF := Lib.hid hpf'; clear hpf'
  generalize thB th = bT at *
  generalize myB t = bM at *
  have HW := Lib.hid hW; clear hW hb
  obtain ⟨r0, r1, r2⟩ := x1.three
  have f0 := x1.frozen 0
  have f1 := x1.frozen 1
  have f2 := x1.frozen 2
  cases bT
  · go_enter Tryz.func53, Tryz.ntmps53
    go_wp2_with fail
    refine bodyPost_ret (v := .tuple #[zT, .int .i64 1]) (by simp [results, Tryz.results53, go_sem]) rfl ?_
    exact HBAD.out (by simp) _ (((Below.refl _ _).alloc (Nat.le_refl _) _).alloc (by simp) _)
  by_cases h2 : n < 0
  · have d1 : decide (n < 0) = true := by simpa using h2
    have d2 : decide (0 ≤ n) = false := by simp; omega
    rw [d2] at HBAD
    clear d2 h2
    go_enter Tryz.func53, Tryz.ntmps53
    go_wp2_with fail
    refine bodyPost_ret (v := .tuple #[zT, .int .i64 1]) (by simp [results, Tryz.results53, go_sem]) rfl ?_
    exact HBAD.out (by simp) _ (((Below.refl _ _).alloc (Nat.le_refl _) _).alloc (by simp) _)
  have d1 : decide (n < 0) = false := by simpa using h2
  by_cases h3 : 1000 < n
  · have d3 : decide (1000 < n) = true := by simpa using h3
    have d2 : decide (n ≤ 1000) = false := by simp; omega
    rw [d2] at HBAD
    clear d2 h2 h3
    go_enter Tryz.func53, Tryz.ntmps53
    go_wp2_with fail
    refine bodyPost_ret (v := .tuple #[zT, .int .i64 1]) (by simp [results, Tryz.results53, go_sem]) rfl ?_
    exact HBAD.out (by simp) _ (((Below.refl _ _).alloc (Nat.le_refl _) _).alloc (by simp) _)
  have d3 : decide (1000 < n) = false := by simpa using h3
  have HN := Lib.hid (And.intro (show 0 ≤ n by omega) (show n ≤ 1000 by omega)); clear h2 h3
  go_enter Tryz.func53, Tryz.ntmps53
  go_wp2_with fail
  rw [HW.out]
  clear HW
  refine HMN.out.mono ?_
  clear HMN
  rintro e w1 ⟨rfl, hb1⟩
  have y0 := x0.keep hb1 x0.lt
  have y1 := x1.keep hb1 x1.lt
  have hbw := HB.out.trans (hb1.mono HB.out.size)
  have yt := HXT.out.keep hbw lt
  have l1 := y1.lt
  have l0 := y0.lt
  clear x0 x1 hb1 r0 r1 r2 f0 f1 f2 HB HXT
  obtain ⟨r0, r1, r2⟩ := y1.three
  have f0 := y1.frozen 0
  have f1 := y1.frozen 1
  have f2 := y1.frozen 2
  cases bM
  · have HBW := Lib.hid hbw; clear hbw
    go_wp2_with fail
    refine bodyPost_ret (v := .tuple #[zT, .int .i64 1]) (by simp [results, Tryz.results53, go_sem, r0, r1, r2]) rfl ?_
    exact HBAD.out (by simp) _ (below_set3 HBW.out (by omega) _ _ _)
  obtain ⟨hR, hFI⟩ := HGO.out (by trivial) HN.out.1 HN.out.2 (by trivial)
  have HRR := Lib.hid hR; clear hR
  obtain ⟨W2, hW2⟩ : ∃ W2, w1.alloc (.cells #[.slice A m cL, .int .i64 0] 88) = W2 := ⟨_, rfl⟩
  have hb2 : Below w1.heap.size w1 W2 := by rw [← hW2]; exact (Below.refl _ _).alloc (Nat.le_refl _) _
  have z0 := y0.keep hb2 y0.lt
  have z1 := y1.keep hb2 y1.lt
  have lz1 := z1.lt
  have zp : ptB W2 w1.heap.size A m cL 0 := by rw [← hW2]; exact Box.new _ _ _
  have hbw2 := hbw.trans (hb2.mono hbw.size)
  have hsw := hbw.size
  have HF := Lib.hid (hFI W2 w1.heap.size hbw2 hsw zp); clear hFI HGO
  have HBW := Lib.hid hbw2; clear hbw2 hbw hb2
  have HW2 := Lib.hid hW2; clear hW2
  have t0 := yt.one.1
  obtain ⟨a0, a1, a2⟩ := y0.three
  obtain ⟨b0, b1, b2⟩ := z0.three
  go_wp2_with fail
  rw [HW2.out]
  clear HW2
  refine HF.out.mono ?_
  clear HF
  rw [HPF.out]
  clear HPF HBAD
  cases FR with
  | error ec =>
    have HR := Lib.hid (show R = .error ec from HRR.out); clear HRR
    rintro e w3 ⟨rfl, hne, hfr⟩
    have hne' : (ec != 0) = true := by simpa using hne
    have hne2 : (ec == 0) = false := by simpa using hne
    have u1 := z1.fr hfr (by omega)
    have HB3 := Lib.hid (HBW.out.trans (hfr.to_below (B := w.heap.size) (fun i e => by omega) HBW.out.size)); clear hfr
    have HNE := Lib.hid hne; clear hne
    clear y0 y1 yt z0 z1 zp t0 a0 a1 a2 b0 b1 b2 r0 r1 r2 f0 f1 f2
    obtain ⟨r0, r1, r2⟩ := u1.three
    have f0 := u1.frozen 0
    have f1 := u1.frozen 1
    have f2 := u1.frozen 2
    have lu := u1.lt
    have hszw := HB3.out.size
    go_wp2_with fail
    refine bodyPost_ret (v := .tuple #[zT, .int .i64 ec]) (by simp [results, Tryz.results53, go_sem, r0, r1, r2, lu]) rfl ?_
    rw [HR.out]
    refine ⟨rfl, HNE.out, ?_⟩
    exact (below_set3 HB3.out (by omega) _ _ _).alloc (by simp [World.setCell]; omega) _
  | ok t' =>
    rintro e w3 ⟨k3, h3, A3, n3, c3, rfl, hrx, hfr, hst⟩
    have u1 := z1.fr hfr (by omega)
    have HB3 := Lib.hid (HBW.out.trans (hfr.to_below (B := w.heap.size) (fun i e => by omega) HBW.out.size)); clear hfr hst
    have hbD : Below w3.heap.size w3 (w3.alloc (.cells #[.int .i64 k3, .int .i64 h3, .slice A3 n3 c3] 24)) := (Below.refl _ _).alloc (Nat.le_refl _) _
    have u2 := u1.keep hbD u1.lt
    have xq := Box.new w3 24 #[.int .i64 k3, .int .i64 h3, .slice A3 n3 c3]
    have hrD : RX (fun b => b < W2.heap.size) (w3.alloc (.cells #[.int .i64 k3, .int .i64 h3, .slice A3 n3 c3] 24)) (kp (nd t') t') (.agg #[.int .i64 k3, .int .i64 h3, .slice A3 n3 c3]) := RdF.moveX (fun b hb hl => ⟨hb, hbD.block b hl⟩) _ _ hrx
    have HMN := Lib.hid (mayNotC _ _ _ (RX.rd hrD))
    rw [my_kp] at HMN
    have HRD := Lib.hid hrD
    replace HB3 := Lib.hid (HB3.out.trans (hbD.mono HB3.out.size))
    clear y0 y1 yt z0 z1 zp t0 a0 a1 a2 b0 b1 b2 r0 r1 r2 f0 f1 f2 hrx hrD hbD u1
    have hkm : myB t' = true → kp (nd t') t' = t' := kp_my
    generalize kp (nd t') t' = kt at *
    have HKM := Lib.hid hkm; clear hkm
    obtain ⟨bm, hbm⟩ : ∃ bm, myB t' = bm := ⟨_, rfl⟩
    have hR : R = if myB t' = true then .ok t' else .error 4 := HRR.out
    clear HRR
    rw [hbm] at HMN HKM hR
    have HR := Lib.hid hR; clear hR hbm
    have hszw := HB3.out.size
    go_wp2_with fail
    refine HMN.out.mono ?_
    clear HMN
    rintro e w4 ⟨rfl, hb4⟩
    have v1 := u2.keep hb4 u2.lt
    have vq := xq.keep hb4 xq.lt
    replace HRD := Lib.hid (RdF.moveX (ok' := fun b => ¬ b < W2.heap.size) (fun b hb hl => ⟨hb, hb4.block b hl⟩) _ _ HRD.out)
    replace HB3 := Lib.hid (HB3.out.trans (hb4.mono HB3.out.size))
    have hbl := HBW.out.size
    clear hb4 u2 xq
    obtain ⟨r0, r1, r2⟩ := v1.three
    obtain ⟨q0, q1, q2⟩ := vq.three
    have f0 := v1.frozen 0
    have f1 := v1.frozen 1
    have f2 := v1.frozen 2
    have lu := v1.lt
    cases bm
    · go_wp2_with fail
      refine bodyPost_ret (v := .tuple #[zT, .int .i64 4]) (by simp [results, Tryz.results53, go_sem, r0, r1, r2]) rfl ?_
      rw [HR.out]
      exact ⟨rfl, by decide, below_set3 HB3.out (by omega) _ _ _⟩
    · go_wp2_with fail
      refine bodyPost_ret (v := .tuple #[.agg #[.int .i64 k3, .int .i64 h3, .slice A3 n3 c3], .int .i64 0]) (by simp [results, Tryz.results53, go_sem, r0, r1, r2]) rfl ?_
      have hk := HKM.out (by trivial)
      subst hk
      rw [HR.out]
      exact ⟨k3, h3, A3, n3, c3, rfl, RdF.moveX (fun b hb hl => ⟨by omega, heap_other3 _ _ _ _ _ _ (by omega)⟩) _ _ HRD.out, below_set3 HB3.out (by omega) _ _ _⟩
end Go.Proofs.YtkakfckjmmmjgaaGreat

/-
  Contracts of package meta's Fill, Ctx and All. No statement is proved here.
-/
namespace Go.Proofs.YtkakfckjmmmjgaaGreat
open Go.ChangeShapes Go.WideShapes Go.ChangeAt Go.RowKit
set_option linter.unusedVariables false
set_option maxRecDepth 100000

/-- what a caller hands in for metas -/
structure ThI (th : List T) (w : World) (A : Option Addr) (m cL : Nat) : Prop where
  ok : ∀ x ∈ th, myB x = true → okT 2199023255552 x
  len : th.length = m
  le : m ≤ cL
  cap : cL ≤ maxLen
  at_ : ∀ i x, th[i]? = some x → RdAt w A i x
theorem ThI.keep {th : List T} {w w' : World} {A : Option Addr} {m cL : Nat} (h : ThI th w A m cL) (hb : Below w.heap.size w w') : ThI th w' A m cL :=
  ⟨h.ok, h.len, h.le, h.cap, fun i x hx => RdAt.keep hb (h.at_ i x hx)⟩

set_option maxHeartbeats 4000000 in
theorem FillC {th : List T} {t : T} {A : Option Addr} {m cL : Nat} {n : Int} {v : Value} (w : World) (hth : ThI th w A m cL) (hv : Rd w t v) (ho : myB t = true → okT 2199023255552 t) :
    Calls Tryz.prog 17 #[v, .slice A m cL, .int .i64 n] w (FnE (fiR th n t) w) := by
  obtain ⟨k, h, At, nt, ct, rfl⟩ := hv.full
  obtain ⟨W, hW⟩ : ∃ W, (w.alloc (.cells #[.int .i64 k, .int .i64 h, .slice At nt ct] 24)).alloc (.cells #[.int .i64 0, .int .i64 0, .slice none 0 0] 24) = W := ⟨_, rfl⟩
  have hb : Below w.heap.size w W := by rw [← hW]; exact ((Below.refl _ _).alloc (Nat.le_refl _) _).alloc (by simp) _
  have x0 : Box W w.heap.size 24 #[.int .i64 k, .int .i64 h, .slice At nt ct] := by rw [← hW]; exact (Box.new _ _ _).alloc _
  have x1 : Box W (w.heap.size + 1) 24 #[.int .i64 0, .int .i64 0, .slice none 0 0] := by rw [← hW]; exact (Box.new (w.alloc _) _ _).at (by simp)
  have HBY := Lib.hid fun W' (h' : Below w.heap.size w W') => byC W' hth.len hth.le hth.cap (hth.keep h').at_
  have HCL := Lib.hid fun W' (h' : Below w.heap.size w W') pm pt hm ht => byFC (n := n) (pm := pm) (pt := pt) W' hth.len hth.le hth.cap (hth.keep h').at_ hm ht (Rd.keep h' _ _ hv) hth.ok ho
  have HW := Lib.hid hW; clear hW hth hv ho
  generalize fiR th n t = R at *
  obtain ⟨a0, a1, a2⟩ := x0.three
  have HB := Lib.hid hb
  go_enter Tryz.func17, Tryz.ntmps17
  go_wp2_with fail
  rw [HW.out]
  clear HW
  have hcur : Below W.heap.size W W.drew := (Below.refl _ W).drew
  have szW := HB.out.size
  go_region_held3 (fun w' => w'.cell? ⟨w.heap.size, 0, none⟩ = some (.int .i64 k) ∧ w'.cell? ⟨w.heap.size, 1, none⟩ = some (.int .i64 h) ∧ w'.cell? ⟨w.heap.size, 2, none⟩ = some (.slice At nt ct))
    (first | exact ⟨a0, a1, a2⟩ | exact ⟨q1.three.1, q1.three.2.1, q1.three.2.2⟩ | exact ⟨r1.three.1, r1.three.2.1, r1.three.2.2⟩ | exact ⟨o1.three.1, o1.three.2.1, o1.three.2.2⟩)
    (first
      | (go_at_call 38
         refine (HBY.out _ (HB.out.trans (hcur.mono HB.out.size))).mono ?_
         rintro e w1 ⟨pm, pt, rfl, xm, xt, hb1⟩
         replace hcur := hcur.trans (hb1.mono hcur.size)
         have q1 := x0.keep hcur x0.lt
         have q2 := x1.keep hcur x1.lt
         have HXM := Lib.hid xm
         have HXT := Lib.hid xt
         clear hb1 xm xt)
      | (go_at_call 53
         refine (HCL.out _ (HB.out.trans (hcur.mono HB.out.size)) pm pt HXM.out HXT.out).mono ?_
         intro e w2 hE
         have hbE := hE.below
         obtain ⟨k3, h3, A3, n3, c3, ec, rfl, hout, hfr⟩ := (hE.cen (X := fun _ => False) (c := 0)).uni
         have r1 := q1.keep hbE q1.lt
         have r2 := q2.keep hbE q2.lt
         have s2 := r2.lt
         have s3 := hcur.size
         have s5 := x1.lt
         have HO := Lib.hid hout
         have HBE := Lib.hid hbE
         have HCU := Lib.hid hcur
         clear hout hE hfr hbE
         obtain ⟨y0, y1, y2⟩ := r2.three
         have f0 := r2.frozen 0
         have f1 := r2.frozen 1
         have f2 := r2.frozen 2
         have o1 := r1.other3 (a := w.heap.size + 1) (by omega) (.int .i64 k3) (.int .i64 h3) (.slice A3 n3 c3)))
  clear o1
  go_wp2_with fail
  refine bodyPost_ret (v := .tuple #[.agg #[.int .i64 k3, .int .i64 h3, .slice A3 n3 c3], .int .i64 ec]) (by simp [results, Tryz.results17, go_sem, y0, y1, y2]) rfl ?_
  exact fne_of (HO.out.move (B' := w.heap.size) (by omega) (fun g hg _ => heap_other3 _ _ _ _ _ _ (by omega)) fun _ _ _ _ => trivial) (below_set3 ((HB.out.trans (HCU.out.mono HB.out.size)).trans (HBE.out.mono (by omega))) (by omega) _ _ _)
end Go.Proofs.YtkakfckjmmmjgaaGreat

/-
  Contracts of the functions of the laws of layer 4: metas, bare; the chapter's example. No statement is proved here.
-/
namespace Go.Proofs.YtkakfckjmmmjgaaGreat
open Go.ChangeShapes Go.WideShapes Go.ChangeAt Go.RowKit
set_option linter.unusedVariables false
set_option maxRecDepth 100000

mutual
/-- has a term metas? -/
def hasB : T → Bool
  | .node k _ xs => (k == 6) || hasL xs
def hasL : List T → Bool
  | [] => false
  | x :: xs => hasB x || hasL xs
end
mutual
/-- has no meta Args? -/
def barB : T → Bool
  | .node k _ xs => !((k == 6) && decide (0 < xs.length)) && barL xs
def barL : List T → Bool
  | [] => true
  | x :: xs => barB x && barL xs
end


end Go.Proofs.YtkakfckjmmmjgaaGreat

/-
  What the laws of layer 4 need of terms whose metas become something, as plain facts. No statement is proved here.
-/
namespace Go.Proofs.YtkakfckjmmmjgaaGreat
open Go.ChangeShapes Go.WideShapes Go.ChangeAt Go.RowKit
set_option linter.unusedVariables false

theorem up_my {t : T} (h : myB t = true) {b : Int} (hb : 0 ≤ b ∧ b ≤ 1000) : apT t [] b = upT b t 0 ∧ apE t [] b = 0 :=
  ren_tells h (sb_of (by simp) (by omega) (fun x hx => by cases hx)) (ren_up b t 0) (my_up hb.1 h)
theorem bare_meta {h : Int} {xs : List T} (hb : barB (.node 6 h xs) = true) : xs = [] := by
  rw [barB, Bool.and_eq_true] at hb
  have := hb.1
  cases xs with
  | nil => rfl
  | cons x xs => simp at this
theorem bare_args {k h : Int} {xs : List T} (hb : barB (.node k h xs) = true) : barL xs = true := by
  rw [barB, Bool.and_eq_true] at hb
  exact hb.2
/-- a meta without Args -/
theorem fl_bare {th : List T} (hth : ∀ x ∈ th, myB x = true) {h n : Int} (hn : 0 ≤ n ∧ n ≤ 1000) : flT th (.node 6 h []) n = if (th.length : Int) ≤ h then .error 2 else .ok (upT n (th.getD h.toNat (.node 0 0 [])) 0) := by
  rw [flT, flL]
  simp only [flN, if_true, List.all_nil]
  split
  · rfl
  · have hm : myB (th.getD h.toNat (.node 0 0 [])) = true := by
      rcases Nat.lt_or_ge h.toNat th.length with hl | hl
      · exact hth _ (getD_mem _ hl)
      · rw [List.getD_eq_getElem?_getD, List.getElem?_eq_none hl]
        rfl
    obtain ⟨h1, h2⟩ := up_my hm hn
    rw [if_pos h2, h1]
theorem fl_node {th : List T} {k h n : Int} {xs : List T} {t' : T} (hk : k ≠ 6) (hr : flT th (.node k h xs) n = .ok t') : ∃ ys, flL th k xs.length xs 0 n = .ok ys ∧ t' = .node k h ys := by
  rw [flT] at hr
  split at hr
  · cases hr
  · rename_i ys hy
    rw [flN, if_neg hk] at hr
    cases hr
    exact ⟨ys, hy, rfl⟩
theorem flL_cons {th : List T} {k n : Int} {m i : Nat} {x : T} {xs ys : List T} (hr : flL th k m (x :: xs) i n = .ok ys) : ∃ y zs, flT th x (n + bd k m i) = .ok y ∧ flL th k m xs (i + 1) n = .ok zs ∧ ys = y :: zs := by
  rw [flL] at hr
  split at hr
  · cases hr
  · rename_i y hy
    split at hr
    · cases hr
    · rename_i zs hz
      cases hr
      exact ⟨y, zs, hy, hz, rfl⟩
theorem bd_le (k : Int) (m i : Nat) : 0 ≤ bd k m i ∧ bd k m i ≤ 1 := by rw [bd_bdn]; have := bdn_le k m i; omega

/-! ### Scopes -/
mutual
theorem sc_fill {th : List T} (hth : ∀ x ∈ th, myB x = true) {around metas : Int} (ha : 0 ≤ around) (hsc : ∀ x ∈ th, scC x around metas) : ∀ (t : T) (n : Int) (t' : T), barB t = true → 0 ≤ n → n + dp t ≤ 1000 → nodB t = true → scC t (n + around) th.length → flT th t n = .ok t' → scC t' (n + around) metas
  | .node k h xs, n, t', hb, h0, hn, hno, hs, hr => by
    have hdp : dp (.node k h xs) = 1 + dpL xs := by rw [dp]
    by_cases hk : k = 6
    · subst hk
      have := bare_meta hb
      subst this
      rw [fl_bare hth ⟨h0, by omega⟩] at hr
      split at hr
      · cases hr
      · rename_i hlt
        cases hr
        rw [nodB, Bool.and_eq_true] at hno
        have hh0 : 0 ≤ h := by rcases okN_cases hno.1 with ⟨e, _⟩ | ⟨e, _⟩ | ⟨e, _⟩ | ⟨e, he⟩ | ⟨e, he⟩ | ⟨e, he⟩ | ⟨e, he⟩ <;> first | exact he | omega
        have hm := getD_mem (.node 0 0 []) (show h.toNat < th.length by omega)
        rw [Int.add_comm]
        exact sc_up h0 _ 0 around ha (hsc _ hm)
    · obtain ⟨ys, hy, rfl⟩ := fl_node hk hr
      obtain ⟨_, hnos⟩ := node_parts hno
      rw [scC] at hs ⊢
      refine ⟨hs.1, fun e => absurd e hk, ?_⟩
      rw [flL_len th k xs.length xs 0 n ys hy]
      exact scL_fill hth ha hsc k xs.length xs 0 n ys (bare_args hb) h0 (by omega) (fun x hx => hnos x hx) hs.2.2 hy
theorem scL_fill {th : List T} (hth : ∀ x ∈ th, myB x = true) {around metas : Int} (ha : 0 ≤ around) (hsc : ∀ x ∈ th, scC x around metas) (k : Int) (m : Nat) : ∀ (xs : List T) (i : Nat) (n : Int) (ys : List T), barL xs = true → 0 ≤ n → n + dpL xs + 1 ≤ 1000 → (∀ x ∈ xs, nodB x = true) → scCL k m xs i (n + around) th.length → flL th k m xs i n = .ok ys → scCL k m ys i (n + around) metas
  | [], i, n, ys, _, _, _, _, _, hr => by
    rw [flL] at hr
    cases hr
    rw [scCL]
    trivial
  | x :: xs, i, n, ys, hb, h0, hn, hno, hs, hr => by
    obtain ⟨y, zs, hy, hz, rfl⟩ := flL_cons hr
    rw [barL, Bool.and_eq_true] at hb
    rw [dpL] at hn
    rw [scCL] at hs ⊢
    have hbd := bd_le k m i
    have e : n + around + bd k m i = n + bd k m i + around := by omega
    rw [e] at hs ⊢
    exact ⟨sc_fill hth ha hsc x _ y hb.1 (by omega) (by omega) (hno x (List.mem_cons_self ..)) hs.1 hy, scL_fill hth ha hsc k m xs (i + 1) n zs hb.2 h0 (by omega) (fun x hx => hno x (List.mem_cons_of_mem _ hx)) hs.2 hz⟩
end

/-! ### Twice -/
mutual
theorem up_at {a b : Int} (ha : 0 ≤ a) : ∀ (t : T) (s : Int), upT b (upT a t s) (a + s) = upT (a + b) t s
  | .node k h xs, s => by
    rw [upT, upT, upT, upL_len, up_atL ha k xs.length xs 0 s]
    congr 1
    by_cases hk : k = 4 ∧ s ≤ h
    · rw [if_pos hk, if_pos hk, if_pos ⟨hk.1, by omega⟩]
      omega
    · rw [if_neg hk, if_neg hk, if_neg (fun e => hk ⟨e.1, by omega⟩)]
theorem up_atL {a b : Int} (ha : 0 ≤ a) (k : Int) (n : Nat) : ∀ (xs : List T) (i : Nat) (s : Int), upL b k n (upL a k n xs i s) i (a + s) = upL (a + b) k n xs i s
  | [], i, s => by rw [upL, upL, upL]
  | x :: xs, i, s => by
    rw [upL, upL, upL, up_atL ha k n xs (i + 1) s, Int.add_assoc, up_at ha x]
end
mutual
theorem up_fl {et : List T} (he : ∀ x ∈ et, myB x = true) {b : Int} (hb0 : 0 ≤ b) : ∀ (s : T) (f : Int) (r : T), barB s = true → 0 ≤ f → f + b + dp s ≤ 1000 → flT et s f = .ok r → flT et (upT b s f) (f + b) = .ok (upT b r f)
  | .node k h xs, f, r, hb, h0, hn, hr => by
    have hdp : dp (.node k h xs) = 1 + dpL xs := by rw [dp]
    by_cases hk : k = 6
    · subst hk
      have := bare_meta hb
      subst this
      rw [fl_bare he ⟨h0, by omega⟩] at hr
      rw [upT, upL, if_neg (by omega), fl_bare he ⟨by omega, by omega⟩]
      split at hr
      · cases hr
      · rename_i hlt
        cases hr
        rw [if_neg hlt]
        congr 1
        have := up_at (b := b) h0 (et.getD h.toNat (.node 0 0 [])) 0
        rw [Int.add_zero] at this
        exact this.symm
    · obtain ⟨ys, hy, rfl⟩ := fl_node hk hr
      have h1 := up_flL he hb0 k xs.length xs 0 f ys (bare_args hb) h0 (by omega) hy
      rw [upT, flT, upL_len, h1, upT, flL_len et k xs.length xs 0 f ys hy]
      simp only [flN, if_neg hk]
theorem up_flL {et : List T} (he : ∀ x ∈ et, myB x = true) {b : Int} (hb0 : 0 ≤ b) (k : Int) (m : Nat) : ∀ (xs : List T) (i : Nat) (f : Int) (ys : List T), barL xs = true → 0 ≤ f → f + b + dpL xs + 1 ≤ 1000 → flL et k m xs i f = .ok ys → flL et k m (upL b k m xs i f) i (f + b) = .ok (upL b k m ys i f)
  | [], i, f, ys, _, _, _, hr => by
    rw [flL] at hr
    cases hr
    rw [upL, flL]
  | x :: xs, i, f, ys, hb, h0, hn, hr => by
    obtain ⟨y, zs, hy, hz, rfl⟩ := flL_cons hr
    rw [barL, Bool.and_eq_true] at hb
    rw [dpL] at hn
    have hbd := bd_le k m i
    have h1 := up_fl he hb0 x (f + bd k m i) y hb.1 (by omega) (by omega) hy
    have h2 := up_flL he hb0 k m xs (i + 1) f zs hb.2 h0 (by omega) hz
    rw [upL, flL, show f + b + bd k m i = f + bd k m i + b by omega, h1]
    simp only
    rw [h2, upL]
end
mutual
theorem fl_twice {th et l : List T} (hth : ∀ x ∈ th, myB x = true) (he : ∀ x ∈ et, myB x = true) (hl : ∀ x ∈ l, myB x = true) (hlen : l.length = th.length) (hba : ∀ x ∈ th, barB x = true)
    (hil : ∀ (i : Nat) (s : T), th[i]? = some s → ∃ u, l[i]? = some u ∧ flT et s 0 = .ok u) : ∀ (t : T) (n : Int) (x y z : T), barB t = true → nodB t = true → 0 ≤ n → n + dp t ≤ 900 → flT th t n = .ok x → flT et x n = .ok y → flT l t n = .ok z → y = z
  | .node k h xs, n, x, y, z, hb, hno, h0, hn, h1, h2, h3 => by
    have hdp : dp (.node k h xs) = 1 + dpL xs := by rw [dp]
    by_cases hk : k = 6
    · subst hk
      have := bare_meta hb
      subst this
      rw [fl_bare hth ⟨h0, by omega⟩] at h1
      rw [fl_bare hl ⟨h0, by omega⟩] at h3
      split at h1
      · cases h1
      · rename_i hlt
        cases h1
        rw [if_neg (by rw [hlen]; exact hlt)] at h3
        cases h3
        rw [nodB, Bool.and_eq_true] at hno
        have hh0 : 0 ≤ h := by rcases okN_cases hno.1 with ⟨e, _⟩ | ⟨e, _⟩ | ⟨e, _⟩ | ⟨e, he⟩ | ⟨e, he⟩ | ⟨e, he⟩ | ⟨e, he⟩ <;> first | exact he | omega
        have hj : h.toNat < th.length := by omega
        obtain ⟨u, hu, hf⟩ := hil h.toNat _ (List.getElem?_eq_getElem hj)
        have hm : th.getD h.toNat (.node 0 0 []) = th[h.toNat] := by rw [List.getD_eq_getElem?_getD, List.getElem?_eq_getElem hj]; rfl
        have hmm : th[h.toNat] ∈ th := List.getElem_mem hj
        have hd := ((myB_iff _).1 (hth _ hmm)).2.2
        have hup := up_fl he h0 _ 0 u (hba _ hmm) (by omega) (by omega) hf
        rw [hm] at h2
        rw [Int.zero_add] at hup
        rw [hup] at h2
        cases h2
        rw [List.getD_eq_getElem?_getD, hu]
        rfl
    · obtain ⟨ys, hy, rfl⟩ := fl_node hk h1
      obtain ⟨vs, hv, rfl⟩ := fl_node hk h2
      obtain ⟨ws, hw, rfl⟩ := fl_node hk h3
      obtain ⟨_, hnos⟩ := node_parts hno
      rw [flL_len th k xs.length xs 0 n ys hy] at hv
      rw [flL_twice hth he hl hlen hba hil k xs.length xs 0 n ys vs ws (bare_args hb) hnos h0 (by omega) hy hv hw]
theorem flL_twice {th et l : List T} (hth : ∀ x ∈ th, myB x = true) (he : ∀ x ∈ et, myB x = true) (hl : ∀ x ∈ l, myB x = true) (hlen : l.length = th.length) (hba : ∀ x ∈ th, barB x = true)
    (hil : ∀ (i : Nat) (s : T), th[i]? = some s → ∃ u, l[i]? = some u ∧ flT et s 0 = .ok u) (k : Int) (m : Nat) : ∀ (xs : List T) (i : Nat) (n : Int) (ys vs ws : List T), barL xs = true → (∀ x ∈ xs, nodB x = true) → 0 ≤ n → n + dpL xs + 1 ≤ 900 → flL th k m xs i n = .ok ys → flL et k m ys i n = .ok vs → flL l k m xs i n = .ok ws → vs = ws
  | [], i, n, ys, vs, ws, _, _, _, _, h1, h2, h3 => by
    rw [flL] at h1
    cases h1
    rw [flL] at h2 h3
    cases h2
    cases h3
    rfl
  | x :: xs, i, n, ys, vs, ws, hb, hno, h0, hn, h1, h2, h3 => by
    obtain ⟨y, zs, hy, hz, rfl⟩ := flL_cons h1
    obtain ⟨v, us, hv, hu, rfl⟩ := flL_cons h2
    obtain ⟨w, qs, hw, hq, rfl⟩ := flL_cons h3
    rw [barL, Bool.and_eq_true] at hb
    rw [dpL] at hn
    have hbd := bd_le k m i
    rw [fl_twice hth he hl hlen hba hil x _ y v w hb.1 (hno x (List.mem_cons_self ..)) (by omega) (by omega) hy hv hw, flL_twice hth he hl hlen hba hil k m xs (i + 1) n zs us qs hb.2 (fun x hx => hno x (List.mem_cons_of_mem _ hx)) h0 (by omega) hz hu hq]
end

/-! ### None -/
mutual
theorem fl_none (th : List T) : ∀ (t : T) (n : Int), hasB t = false → flT th t n = .ok t
  | .node k h xs, n, hb => by
    rw [hasB, Bool.or_eq_false_iff] at hb
    have hk : k ≠ 6 := by simpa using hb.1
    rw [flT, flL_none th k xs.length xs 0 n hb.2]
    simp only [flN, if_neg hk]
theorem flL_none (th : List T) (k : Int) (m : Nat) : ∀ (xs : List T) (i : Nat) (n : Int), hasL xs = false → flL th k m xs i n = .ok xs
  | [], i, n, _ => by rw [flL]
  | x :: xs, i, n, hb => by
    rw [hasL, Bool.or_eq_false_iff] at hb
    rw [flL, fl_none th x _ hb.1]
    simp only
    rw [flL_none th k m xs (i + 1) n hb.2]
end
mutual
theorem fl_has : ∀ (t : T) (n : Int), nodB t = true → hasB t = true → flT [] t n = .error 2
  | .node k h xs, n, hno, hb => by
    obtain ⟨hok, hnos⟩ := node_parts hno
    rw [flT]
    cases hx : hasL xs with
    | true => rw [flL_has k xs.length xs 0 n hnos hx]
    | false =>
      rw [flL_none [] k xs.length xs 0 n hx]
      rw [hasB, hx, Bool.or_false] at hb
      have hk : k = 6 := by simpa using hb
      subst hk
      have hh0 : 0 ≤ h := by rcases okN_cases hok with ⟨e, _⟩ | ⟨e, _⟩ | ⟨e, _⟩ | ⟨e, he⟩ | ⟨e, he⟩ | ⟨e, he⟩ | ⟨e, he⟩ <;> first | exact he | omega
      simp [flN, hh0]
theorem flL_has (k : Int) (m : Nat) : ∀ (xs : List T) (i : Nat) (n : Int), (∀ x ∈ xs, nodB x = true) → hasL xs = true → flL [] k m xs i n = .error 2
  | [], i, n, _, hb => by simp [hasL] at hb
  | x :: xs, i, n, hno, hb => by
    rw [flL]
    cases hx : hasB x with
    | true => rw [fl_has x _ (hno x (List.mem_cons_self ..)) hx]
    | false =>
      rw [hasL, hx, Bool.false_or] at hb
      rw [fl_none [] x _ hx]
      simp only
      rw [flL_has k m xs (i + 1) n (fun x hx => hno x (List.mem_cons_of_mem _ hx)) hb]
end

/-! ### The whole context -/
theorem hasL_vs (n : Nat) : hasL (vsL n) = false := by
  have : ∀ xs : List T, (∀ x ∈ xs, hasB x = false) → hasL xs = false := by
    intro xs
    induction xs with
    | nil => intro _; rfl
    | cons x xs ih =>
      intro h
      rw [hasL, h x (List.mem_cons_self ..), ih fun y hy => h y (List.mem_cons_of_mem _ hy)]
      rfl
  refine this _ fun x hx => ?_
  obtain ⟨i, hi⟩ := List.getElem?_of_mem hx
  obtain ⟨_, rfl⟩ := vsL_at _ _ _ hi
  simp [hasB, hasL]
theorem hasL_of : ∀ {xs : List T}, (∀ x ∈ xs, hasB x = false) → hasL xs = false
  | [], _ => rfl
  | x :: xs, h => by rw [hasL, h x (List.mem_cons_self ..), hasL_of fun y hy => h y (List.mem_cons_of_mem _ hy)]; rfl
/-- one meta, with Args without metas -/
theorem fi_one {x : T} {L : List T} {n : Int} (hx : myB x = true) (hL : hasL L = false) (hm : myB (.node 6 0 L) = true) (hal : L.all myB = true) (hn : 0 ≤ n ∧ n ≤ 1000) : fiR [x] n (.node 6 0 L) = if apE x L n = 0 then .ok (apT x L n) else .error (apE x L n) := by
  rw [fi_good (by simp [thB, hx]) hn.1 hn.2 hm, flT, flL_none [x] 6 L.length L 0 n hL]
  simp only [flN, if_true, List.length_singleton, hal]
  rw [if_neg (by omega)]
  simp only [Int.toNat_zero, List.getD_cons_zero]
  by_cases hz : apE x L n = 0
  · rw [if_pos hz]
    obtain ⟨_, _, _, _, h4⟩ := ap_zero hz
    simp only [h4, if_true]
  · rw [if_neg hz]
theorem ap_nought {x : T} {L : List T} {n : Int} (h : apE x L n ≠ 0) : apT x L n = .node 0 0 [] := by
  unfold apE at h
  unfold apT
  split
  · rename_i hp
    rw [if_pos hp] at h
    cases hr : apR x L n with
    | error e => rfl
    | ok p =>
      obtain ⟨t, m⟩ := p
      rw [hr] at h
      cases hm : myB t with
      | true => simp [anE, hm] at h
      | false => simp [anT, hm]
  · rfl
end Go.Proofs.YtkakfckjmmmjgaaGreat

/-
  The chapter's example of layer 4, and what the laws need of what Fill tells. No statement is proved here.
-/
namespace Go.Proofs.YtkakfckjmmmjgaaGreat
open Go.ChangeShapes Go.WideShapes Go.ChangeAt Go.RowKit
set_option linter.unusedVariables false
set_option maxRecDepth 100000

theorem fi_ok {th : List T} {n : Int} {t u : T} (h : fiR th n t = .ok u) : thB th = true ∧ 0 ≤ n ∧ n ≤ 1000 ∧ myB t = true ∧ flT th t n = .ok u ∧ myB u = true := by
  by_cases hc : (thB th && decide (0 ≤ n) && decide (n ≤ 1000) && myB t) = true
  · have hc' := hc
    simp only [Bool.and_eq_true, decide_eq_true_eq] at hc'
    rw [fi_good hc'.1.1.1 hc'.1.1.2 hc'.1.2 hc'.2] at h
    refine ⟨hc'.1.1.1, hc'.1.1.2, hc'.1.2, hc'.2, ?_⟩
    split at h
    · cases h
    · rename_i t' ht
      split at h
      · rename_i hm
        cases h
        exact ⟨ht, hm⟩
      · cases h
  · rw [fi_bad (by simpa using hc)] at h
    cases h
theorem thB_all {th : List T} (h : thB th = true) : ∀ x ∈ th, myB x = true := by
  unfold thB at h
  rw [Bool.and_eq_true] at h
  exact List.all_eq_true.1 h.2
theorem scopes_fill {t u : T} {th : List T} {n around : Int} (kt : Kn 300 60 t) (hL : ∀ x ∈ th, Kn 300 60 x) (hs : ∀ x ∈ th, scB x around 5 = true) (hb : barB t = true) (hn : 0 ≤ n ∧ n ≤ 20) (ha : 0 ≤ around ∧ around ≤ 20)
    (ht : scB t (n + around) th.length = true) (hu : fiR th n t = .ok u) : scB u (n + around) 5 = true := by
  obtain ⟨_, _, _, _, h5, h6⟩ := fi_ok hu
  have h4 := ((myB_iff u).1 h6).2.1
  have h7 := kt.dp
  refine (scB_iff 5 u (n + around) (by omega) (by omega)).2 ?_
  exact sc_fill (fun x hx => (hL x hx).my) ha.1 (fun x hx => (scB_iff 5 x around (by omega) (by have := (hL x hx).nd; omega)).1 (hs x hx)) t n u hb hn.1 (by omega) kt.nod ((scB_iff th.length t (n + around) (by omega) (by have := kt.nd; omega)).1 ht) h5

theorem th60 {L : List T} (hL : ∀ x ∈ L, myB x = true) (h : L.length ≤ 200) : thB L = true := by
  unfold thB
  rw [Bool.and_eq_true]
  exact ⟨by simpa using h, List.all_eq_true.2 hL⟩
theorem none_tells {t : T} {L : List T} {n : Int} (ht : myB t = true) (hL : ∀ x ∈ L, myB x = true) (h60 : L.length ≤ 60) (hn : 0 ≤ n ∧ n ≤ 1000) (hb : hasB t = false) : fiR L n t = .ok t := by
  rw [fi_good (th60 hL (by omega)) hn.1 hn.2 ht, fl_none L t n hb]
  simp [ht]
theorem has_tells {t : T} {n : Int} (ht : myB t = true) (hn : 0 ≤ n ∧ n ≤ 1000) (hb : hasB t = true) : fiR [] n t = .error 2 := by
  rw [fi_good rfl hn.1 hn.2 ht, fl_has t n ((myB_iff t).1 ht).1 hb]

theorem nodL_of : ∀ {xs : List T}, (∀ x ∈ xs, nodB x = true) → nodL xs = true
  | [], _ => by rw [nodL]
  | x :: xs, h => by rw [nodL, h x (List.mem_cons_self ..), nodL_of fun y hy => h y (List.mem_cons_of_mem _ hy)]; rfl
theorem ok_node6 {M h : Int} {xs : List T} (hx : ∀ x ∈ xs, okT M x) : okT M (.node 6 h xs) := by
  rw [okT]
  refine ⟨fun e => by omega, ?_⟩
  have : ∀ xs : List T, (∀ x ∈ xs, okT M x) → okL M xs := by
    intro xs
    induction xs with
    | nil => intro _; rw [okL]; trivial
    | cons x xs ih =>
      intro h
      rw [okL]
      exact ⟨h x (List.mem_cons_self ..), ih fun y hy => h y (List.mem_cons_of_mem _ hy)⟩
  exact this xs hx
theorem ok_vs (m : Nat) (h : m ≤ 20) : okT 2199023255552 (.node 6 0 (vsL m)) := ok_node6 fun x hx => by
  obtain ⟨i, hi⟩ := List.getElem?_of_mem hx
  obtain ⟨_, rfl⟩ := vsL_at _ _ _ hi
  simp [okT, okL]
  omega
theorem vs_nd (m : Nat) : ∀ xs : List T, (∀ x ∈ xs, ∃ h, x = .node 4 h []) → ndL xs = xs.length ∧ dpL xs ≤ 1
  | [], _ => by simp [ndL, dpL]
  | x :: xs, h => by
    obtain ⟨i, rfl⟩ := h x (List.mem_cons_self ..)
    have := vs_nd m xs fun y hy => h y (List.mem_cons_of_mem _ hy)
    simp only [ndL, dpL, nd, dp, List.length_cons]
    omega
theorem my_vs (m : Nat) (h : m ≤ 20) : myB (.node 6 0 (vsL m)) = true ∧ ∀ x ∈ vsL m, myB x = true := by
  have hx : ∀ x ∈ vsL m, ∃ i, 0 ≤ i ∧ x = .node 4 i [] := fun x hx => by
    obtain ⟨i, hi⟩ := List.getElem?_of_mem hx
    obtain ⟨h1, rfl⟩ := vsL_at _ _ _ hi
    exact ⟨_, by omega, rfl⟩
  have hm : ∀ x ∈ vsL m, myB x = true := fun x hx' => by
    obtain ⟨i, h0, rfl⟩ := hx x hx'
    exact my_var h0
  obtain ⟨h1, h2⟩ := vs_nd m (vsL m) fun x hx' => by
    obtain ⟨i, _, rfl⟩ := hx x hx'
    exact ⟨i, rfl⟩
  have hl := vsL_len m
  refine ⟨(myB_iff _).2 ⟨?_, by rw [nd]; omega, by rw [dp]; omega⟩, hm⟩
  rw [nodB, nodL_of fun x hx' => ((myB_iff x).1 (hm x hx')).1]
  simp [okN]
theorem fi_whole {x : T} {m : Nat} (hx : myB x = true) (hm : m ≤ 20) : fiR [x] (m : Int) (.node 6 0 (vsL m)) = .ok x := by
  obtain ⟨h1, h2⟩ := my_vs m hm
  have h3 : apT x (vsL m) m = x ∧ apE x (vsL m) m = 0 :=
    ren_tells hx (sb_of (by rw [vsL_len]; omega) (by omega) h2) (ren_id (vsL_id m) x 0) hx
  rw [fi_one hx (hasL_vs m) h1 (List.all_eq_true.2 h2) (by omega), if_pos h3.2, h3.1]
theorem fi_tend {x : T} {L : List T} {n : Int} {w w' : World} {e : Ending} (h : FnE (if apE x L n = 0 then .ok (apT x L n) else .error (apE x L n)) w e w') : TEnd (apT x L n) (apE x L n) w e w' := by
  have h' := h.tend
  by_cases hz : apE x L n = 0
  · rw [if_pos hz] at h'
    rw [hz]
    exact h'
  · rw [if_neg hz] at h'
    rw [ap_nought hz]
    exact h'

/-! ### The chapter's example -/
abbrev amX : T := .node 3 0 [.node 4 1 []]
abbrev amT : T := .node 6 0 [.node 4 3 []]
theorem am_fi : fiR [amX] 5 amT = .ok (.node 3 0 [.node 4 4 []]) := by
  have hr : RenT [.node 4 3 []] 5 amX 0 (.node 3 0 [.node 4 4 []]) := by
    have e0 : bdn 3 [T.node 4 1 []].length 0 = 1 := by decide
    rw [RenT]
    refine ⟨rfl, by rw [if_neg (by omega)], rfl, ?_⟩
    rw [RenL]
    refine ⟨_, [], rfl, ?_, by rw [RenL]⟩
    rw [e0, RenT]
    refine ⟨rfl, ?_, rfl, by rw [RenL]⟩
    rw [if_pos (by omega), mpT, if_neg (by decide)]
    simp [upT, upL]
  obtain ⟨h1, h2⟩ := ren_tells (t := amX) (by decide) (by decide) hr (by decide)
  rw [fi_one (by decide) (by decide) (by decide) (by decide) (by omega), if_pos h2, h1]
end Go.Proofs.YtkakfckjmmmjgaaGreat

/-
  The library's sort of numbers: its contract, laid at this program. No statement is proved here.
-/
namespace Go.Proofs.YtkakfckjmmmjgaaGreat
open Go.Shelf Go.Sort Go.RowKit
set_option linter.unusedVariables false

def sortRen : Ren := ⟨fun | 189 => 49 | 125 => 64 | 257 => 63 | 128 => 86 | 129 => 87 | 294 => 77 | 295 => 78 | 296 => 79 | 297 => 80 | 298 => 81 | 299 => 82 | 216 => 83 | 300 => 84 | 301 => 85 | 328 => 97 | 329 => 98 | 330 => 99 | 331 => 100 | 332 => 101 | 215 => 102 | 343 => 111 | n => n, fun | 28 => 39 | 3 => 3 | 46 => 93 | 0 => 0 | 51 => 115 | 53 => 117 | 4 => 4 | 183 => 107 | 182 => 106 | 131 => 112 | 5 => 5 | 9 => 9 | 218 => 129 | 222 => 133 | 228 => 146 | 229 => 147 | n => n, fun n => n⟩
theorem sortLays : Lays.n189 Tryz.prog sortRen := {
  mixed := by kernel_rfl
  f125 := Tryz.func64.trans (congrArg some (by kernel_rfl))
  f128 := Tryz.func86.trans (congrArg some (by kernel_rfl))
  f129 := Tryz.func87.trans (congrArg some (by kernel_rfl))
  f189 := Tryz.func49.trans (congrArg some (by kernel_rfl))
  f215 := Tryz.func102.trans (congrArg some (by kernel_rfl))
  f216 := Tryz.func83.trans (congrArg some (by kernel_rfl))
  f257 := Tryz.func63.trans (congrArg some (by kernel_rfl))
  f294 := Tryz.func77.trans (congrArg some (by kernel_rfl))
  f295 := Tryz.func78.trans (congrArg some (by kernel_rfl))
  f296 := Tryz.func79.trans (congrArg some (by kernel_rfl))
  f297 := Tryz.func80.trans (congrArg some (by kernel_rfl))
  f298 := Tryz.func81.trans (congrArg some (by kernel_rfl))
  f299 := Tryz.func82.trans (congrArg some (by kernel_rfl))
  f300 := Tryz.func84.trans (congrArg some (by kernel_rfl))
  f301 := Tryz.func85.trans (congrArg some (by kernel_rfl))
  f328 := Tryz.func97.trans (congrArg some (by kernel_rfl))
  f329 := Tryz.func98.trans (congrArg some (by kernel_rfl))
  f330 := Tryz.func99.trans (congrArg some (by kernel_rfl))
  f331 := Tryz.func100.trans (congrArg some (by kernel_rfl))
  f332 := Tryz.func101.trans (congrArg some (by kernel_rfl))
  f343 := Tryz.func111.trans (congrArg some (by kernel_rfl))
  t0 := Tryz.underlying0
  a0 := Tryz.isAgg0
  z0 := Tryz.sizeOf0
  v0 := Tryz.zeroValue0
  t3 := Tryz.underlying3
  a3 := Tryz.isAgg3
  z3 := Tryz.sizeOf3
  v3 := Tryz.zeroValue3
  t4 := Tryz.underlying4
  a4 := Tryz.isAgg4
  z4 := Tryz.sizeOf4
  v4 := Tryz.zeroValue4
  t5 := Tryz.underlying5
  a5 := Tryz.isAgg5
  z5 := Tryz.sizeOf5
  v5 := Tryz.zeroValue5
  t9 := Tryz.underlying9
  a9 := Tryz.isAgg9
  z9 := Tryz.sizeOf9
  v9 := Tryz.zeroValue9
  t28 := Tryz.underlying39
  a28 := Tryz.isAgg39
  z28 := Tryz.sizeOf39
  v28 := Tryz.zeroValue39
  t46 := Tryz.underlying93
  a46 := Tryz.isAgg93
  z46 := Tryz.sizeOf93
  v46 := Tryz.zeroValue93
  t51 := Tryz.underlying115
  a51 := Tryz.isAgg115
  z51 := Tryz.sizeOf115
  v51 := Tryz.zeroValue115
  t53 := Tryz.underlying117
  a53 := Tryz.isAgg117
  z53 := Tryz.sizeOf117
  v53 := Tryz.zeroValue117
  t131 := Tryz.underlying112
  a131 := Tryz.isAgg112
  z131 := Tryz.sizeOf112
  v131 := Tryz.zeroValue112
  t182 := Tryz.underlying106
  a182 := Tryz.isAgg106
  z182 := Tryz.sizeOf106
  v182 := Tryz.zeroValue106
  t183 := Tryz.underlying107
  a183 := Tryz.isAgg107
  z183 := Tryz.sizeOf107
  v183 := Tryz.zeroValue107
  t218 := Tryz.underlying129
  a218 := Tryz.isAgg129
  z218 := Tryz.sizeOf129
  v218 := Tryz.zeroValue129
  t222 := Tryz.underlying133
  a222 := Tryz.isAgg133
  z222 := Tryz.sizeOf133
  v222 := Tryz.zeroValue133
  t228 := Tryz.underlying146
  a228 := Tryz.isAgg146
  z228 := Tryz.sizeOf146
  v228 := Tryz.zeroValue146
  t229 := Tryz.underlying147
  a229 := Tryz.isAgg147
  z229 := Tryz.sizeOf147
  v229 := Tryz.zeroValue147 }
theorem sortC (blk off cap : Nat) (zs : List Int) (w : World) (hH : Holds (Value.int .i64) w blk off zs.toArray) (hblk : blk < w.heap.size) (hsz : zs.length < 4611686018427387904) :
    Calls Tryz.prog 49 #[.slice (some ⟨blk, off, none⟩) zs.length cap] w fun e w' =>
      e = .returned (.tuple #[]) ∧ ∃ n os, w' = grow (putRow (Value.int .i64) (Sort.ahead w n) blk off (zs.mergeSort fun x y => decide (x ≤ y)).toArray) os :=
  Any.slices_Sort_int sortLays blk off cap zs w hH hblk hsz
end Go.Proofs.YtkakfckjmmmjgaaGreat

/-
  Contracts of package occur's set of numbers: add, has, rising; and of nodes. No statement is proved here.
-/
namespace Go.Proofs.YtkakfckjmmmjgaaGreat
open Go.ChangeShapes Go.WideShapes Go.ChangeAt Go.RowKit Go.Maps Go.Sort
set_option linter.unusedVariables false

theorem wf_key {x : Int} (h : (Lit.int .i64 x).wf = true) : keyOf Tryz.prog 3 (.int .i64 x) = some (.int .i64 x) := keyOf_int_mk Tryz.underlying3 h

set_option maxHeartbeats 800000 in
theorem addC (b : Nat) (l : List Int) (x : Int) (w : World) (hs : Sn w b l) (hx : (Lit.int .i64 x).wf = true) (hl : l.length < maxLen) :
    Calls Tryz.prog 35 #[.map (some b), .int .i64 x] w fun e w' => e = .returned (.tuple #[]) ∧ Sn w' b (l ++ [x]) ∧ w.grownBy w' (some b) := by
  obtain ⟨n, D, hown, hn, hD⟩ := hs
  have hkey := wf_key hx
  have hL : n < maxLen := by omega
  have HD := Lib.hid hD; clear hD
  have HL := Lib.hid hL; clear hL
  have HN := Lib.hid hn; clear hn
  clear hl hx
  go_enter Tryz.func35, Tryz.ntmps35
  go_wp2_with (first
    | (at_mapUpdate; refine wpList_mapUpdate_own _ rfl _ _ _ 67 rfl 3 83 lawI Tryz.underlying67 (unitElem (H := Unit)) b n D rfl hown HL.out _ _ _ rfl rfl hkey _ [] unitElem_mk ?_; intro w1 hown1 hgrow1)
    | go_in)
  go_end0
  refine ⟨rfl, ⟨n + 1, _, hown1, by have := HN.out; simp; omega, fun y => ?_⟩, hgrow1⟩
  rw [has_lit hown.isMap, HD.out y]
  simp [or_comm]

set_option maxHeartbeats 800000 in
theorem hasC (b : Nat) (l : List Int) (x : Int) (w : World) (hs : Sn w b l) (hx : (Lit.int .i64 x).wf = true) :
    Calls Tryz.prog 50 #[.map (some b), .int .i64 x] w fun e w' => e = .returned (.bool (l.contains x)) ∧ Below w.heap.size w w' := by
  obtain ⟨n, D, hown, hn, hD⟩ := hs
  have hkey := wf_key hx
  have hE : Maps.has D (.int .i64 x) = l.contains x := by
    rw [Bool.eq_iff_iff, hD x]; simp
  have hb : Below w.heap.size w (w.alloc (.cells #[] 83)) := (Below.refl _ _).alloc (Nat.le_refl _) _
  have HE := Lib.hid hE; clear hE
  clear hx hn hD
  go_enter Tryz.func50, Tryz.ntmps50
  go_wp2_with (first
    | (at_lookup; refine wpList_lookup_own_unit _ rfl _ _ 67 rfl 3 83 lawI Tryz.underlying67 (zeroU _) b n D rfl hown _ _ rfl hkey ?_)
    | go_in)
  go_ret
  exact ⟨ret_bool HE.out, hb⟩

theorem grown_back {B : Nat} {w w' : World} (h : w.grownBy w' none) (hB : B ≤ w.heap.size) : Below B w w' := (Below.refl _ w).grown h hB (fun j hj => by cases hj)

set_option maxRecDepth 100000 in
set_option maxHeartbeats 2000000 in
theorem risingC (b : Nat) (l : List Int) (w : World) (hs : Sn w b l) (hl : l.length ≤ 1048576) :
    Calls Tryz.prog 36 #[.map (some b)] w fun e w' => ∃ v, e = .returned v ∧ Ns w' v (rs l) ∧ Below w.heap.size w w' := by
  obtain ⟨n, D0, hown, hn, hD⟩ := hs
  have hsz : Maps.size D0 ≤ 1048576 := Nat.le_trans hown.size_le (by omega)
  obtain ⟨i0, hi, hz0, hz1, hz2⟩ := info_parts infoI
  have hbl := hown.lt
  have HD := Lib.hid hD; clear hD
  clear hl hn
  go_enter Tryz.func36, Tryz.ntmps36
  go_wp2_with (first
    | (at_len; refine wpList_len_own _ rfl _ 67 rfl 3 83 Tryz.underlying67 _ b n _ rfl hown ?_)
    | (at_make; refine wpList_make_own _ rfl _ _ 39 rfl w.heap.size 3 i0 (.int .i64 0) 1 Tryz.underlying39 hi hz0 hz1 _ _ _ (Maps.size D0) rfl rfl rfl (by rw [hz2]; omega) (by unfold maxLen; omega) (Nat.le_refl _) ?_; intro w1 hrow1 hg1)
    | (at_range; refine wpList_range_own _ rfl _ 67 rfl 3 83 lawI Tryz.underlying67 _ b n _ rfl (hown.kept hg1 (by simp)) ?_; intro w0 hrg0 hg0 hs0)
    | go_in)
  go_frame
  go_loopw [3] (fun v wr => ∃ (left : Lit → Bool) (cnt : Nat) (ss : List Int), wr.ranges Tryz.prog 3 (unitElem (H := Unit)) b w1.heap.size n D0 left cnt ∧ ss.length + cnt ≤ Maps.size D0 ∧
      wr.ownsRow w.heap.size 3 1 v ss.length (ss.map (Value.int .i64)) ∧ v ≠ .slice none 0 0 ∧ CollectedI D0 left ss ∧ Below w.heap.size w wr)
    (fun _ wr => wr.rangeLeft b w1.heap.size)
  case atStart =>
    exact ⟨_, _, [], hrg0, by simp, hrow1.kept hg0 (Or.inr (by simp [Value.ownBlock])), by simp, CollectedI.start D0,
      ((Below.refl _ _).grown hg1 (Nat.le_refl _) (fun j hj => by cases hj)).grown hg0 hg1.size (fun j hj => by cases hj)⟩
  case round =>
    obtain ⟨left, cnt, ss, hrg, hcs, hrow, hnn, hC, hnx⟩ := hrel
    go_wp2_with (first
      | (at_next; refine wpList_next_ranges _ rfl _ rfl 3 lawI (unitElem (H := Unit)) encZ (fun (_ : Unit) => Value.agg #[]) (fun key kl hk => by obtain ⟨x, hx, _⟩ := Maps.keyOf_i64 Tryz.underlying3 hk; exact ⟨x, hx⟩) (fun v y hv => ⟨(), (unitElem_inv hv).1⟩) b w1.heap.size n _ _ _ rfl hrg ?_ ?_)
      | go_in)
    · -- nothing is left: sorted, and handed back
      intro hc0 hl0
      rcases hrow.2 with ⟨hnil, _⟩ | ⟨g, cap, cur, rfl, hbase, hb, h1, h2, h3, h4⟩
      · exact absurd hnil hnn
      have hH : Holds encZ wr g 0 ss.toArray := holds_of_block_i hb (by simpa using h4)
      have hgl : g < wr.heap.size := (Array.getElem?_eq_some_iff.1 hb).1
      have hc := sortC g 0 cap ss wr hH hgl (by omega)
      go_wp2_with (go_at_call 49; refine hc.mono ?_; rintro e w' ⟨rfl, nn, os, rfl⟩)
      go_ret
      refine ⟨_, rfl, ?_, hnx.grown (grownBy_sorted_i _) hnx.size (fun j hj => by cases hj; exact hbase)⟩
      have e1 : ss.mergeSort leI = rs l := rs_sorted hC.1 fun x => by rw [hC.2 x, hl0, ← HD.out x]; simp
      have := ownsRow_sorted_i (n := nn) (os := os) (ts := ss.mergeSort leI) (by simp) hbase hb h1 h2 h3
      rw [← e1]
      exact Ns.of_row (base := w.heap.size) (e := 3) (by simpa using this)
    · -- an entry has come
      intro x kl yd yp w2 cnt2 hkey hlk hv hat hrg2 hlt hg2 hs2 hen
      obtain ⟨x', ex, rfl, _⟩ := Maps.keyOf_i64 Tryz.underlying3 hkey
      obtain rfl : x = x' := encZ_inj ex
      have hrow2 := hrow.kept hg2 (Or.inr (row_ne_iter hrow hrg).symm)
      clear hs2
      go_wp2_with (first
        | (at_builtin; refine wpList_append_own _ rfl _ _ 39 rfl w.heap.size 3 i0 (.int .i64 0) 1 8 Tryz.underlying39 hi hz0 hz1 hz2 rfl (by decide) _ _ _ rfl (hrow2.alloc _) ⟨w2.heap.size, 0, none⟩ 1 1 [encZ x] rfl rfl (cell_one_new _ _ _) (by simp [Value.oneCell', encZ]) (by unfold maxLen at *; omega) (by omega) (by have := hnx.size; have := hg2.size; simp; omega) ?_; intro v' w3 hown' hg3 hnil3; go_frame)
        | go_in)
      have hrg3 := (hrg2.alloc _).kept hg3 (row_ne_low hrow2 hbl) (row_ne_iter hrow2 hrg2)
      go_roundw
      case rel =>
        refine ⟨_, cnt2, ss ++ [x], hrg3, by simp; omega, by simpa using hown', fun hv' => by have := (hnil3.1 hv').2; omega, hC.step hlk hat, ?_⟩
        exact ((hnx.grown hg2 hnx.size (fun j hj => by cases hj; exact hg1.size)).alloc (by have := hnx.size; have := hg2.size; omega) _).grown hg3 (by have := hnx.size; have := hg2.size; simp; omega) (fun j hj => (hrow2.lt j hj).1)
      case measure => rw [hrg3.left_eq, hrg.left_eq]; exact hlt

set_option maxHeartbeats 400000 in
theorem onodesC (k h : Int) (s : Value) (hs : ∃ A n c, s = .slice A n c) (w : World) :
    Calls Tryz.prog 34 #[.agg #[.int .i64 k, .int .i64 h, s]] w fun e w' => e = .returned (.func (.func 47) #[] #[.pointer (some ⟨w.heap.size, 0, none⟩)]) ∧ w' = w.alloc (.cells #[.int .i64 k, .int .i64 h, s] 24) := by
  obtain ⟨A, n, c, rfl⟩ := hs
  go_enter Tryz.func34, Tryz.ntmps34
  go_wp2_with fail
  go_ret
  exact ⟨rfl, rfl⟩
end Go.Proofs.YtkakfckjmmmjgaaGreat

/-
  The walk through a term, node by node, as package occur has it: a function to range over.
-/
namespace Go.Proofs.YtkakfckjmmmjgaaGreat
open Go.ChangeShapes Go.WideShapes Go.ChangeAt Go.RowKit Go.Shelf
set_option linter.unusedVariables false

attribute [local go_sem] Oper.semAt_some

/-- a node as it is handed over: how many nodes bind around it, and what it is -/
structure No (w0 : World) where
  b : Int
  k : Int
  h : Int
  A : Option Addr
  n : Nat
  c : Nat
  t : T
  hr : Rd w0 t (.agg #[.int .i64 k, .int .i64 h, .slice A n c])
  hn : n ≤ 3518437208780

def No.key {w0 : World} (x : No w0) : Int × T := (x.b, x.t)
def encO {w0 : World} (x : No w0) : Array Value := #[.int .i64 x.b, .agg #[.int .i64 x.k, .int .i64 x.h, .slice x.A x.n x.c]]

/-- how a visit may end -/
def OVEnd (w0 : World) (n₁ : Nat) (J Jx : List (No w0) → World → Prop) (pre : List (No w0)) (ks : List (Int × T)) (W : World) (e : Ending) (W' : World) : Prop :=
  (∃ ys, e = .returned (.bool true) ∧ ys.map No.key = ks ∧ J (pre ++ ys) W' ∧ KB w0.heap.size n₁ W W') ∨
  (e = .returned (.bool false) ∧ ∃ q, q.map No.key <+: ks ∧ Jx (pre ++ q) W')

theorem OVEnd.bool {w0 : World} {n₁ : Nat} {J Jx : List (No w0) → World → Prop} {pre : List (No w0)} {ks : List (Int × T)} {W W' : World} {e : Ending} (h : OVEnd w0 n₁ J Jx pre ks W e W') :
    ∃ R : Bool, e = .returned (.bool R) ∧ OVEnd w0 n₁ J Jx pre ks W (.returned (.bool R)) W' := by
  rcases h with ⟨ys, rfl, h⟩ | ⟨rfl, h⟩
  · exact ⟨true, rfl, .inl ⟨ys, rfl, h⟩⟩
  · exact ⟨false, rfl, .inr ⟨rfl, h⟩⟩
theorem OVEnd.from {w0 : World} {n₁ : Nat} {J Jx : List (No w0) → World → Prop} {pre : List (No w0)} {ks : List (Int × T)} {W0 W W' : World} {e : Ending} (hk : KB w0.heap.size n₁ W0 W) (h : OVEnd w0 n₁ J Jx pre ks W e W') :
    OVEnd w0 n₁ J Jx pre ks W0 e W' := by
  rcases h with ⟨ys, rfl, h1, h2, h3⟩ | h
  · exact .inl ⟨ys, rfl, h1, h2, hk.trans h3⟩
  · exact .inr h

set_option maxRecDepth 100000 in
set_option maxHeartbeats 4000000 in
theorem ovisitC (w0 : World) (n₁ l N : Nat) (h01 : w0.heap.size ≤ n₁) (J Jx : List (No w0) → World → Prop) (hJ : ∀ s W W', J s W → Below W.heap.size W W' → J s W')
    (hY : ∀ m pre x W, J pre W → pre.length < N → YieldAt Fence.wide m Tryz.prog l (encO x) W fun e W' =>
      (e = .returned (.bool true) ∧ J (pre ++ [x]) W' ∧ KB w0.heap.size n₁ W W') ∨ (e = .returned (.bool false) ∧ Jx (pre ++ [x]) W')) (t : T) :
    ∀ (b : Int) (v : Value) (pre : List (No w0)) (W : World), wd t ≤ 3518437208780 → Rd w0 t v → CK w0.heap.size w0 W → n₁ ≤ W.heap.size → wrap64 b = b → J pre W → pre.length + (nds t b).length ≤ N →
      Calls Tryz.prog 48 #[v, .int .i64 b, .func (.yield l) #[] #[]] W (OVEnd w0 n₁ J Jx pre (nds t b) W) := by
  induction t using T.ind with
  | step k h xs ih =>
    intro b v pre W hsz hv hck hn1 hwb hj hN
    obtain ⟨A, n, c, rfl, hk, hh, hn, hc, hm, hx⟩ := Rd_node.1 hv
    have hnn : n ≤ 3518437208780 := by rw [wd] at hsz; omega
    have hsx : ∀ t ∈ xs, wd t ≤ 3518437208780 := fun t ht => by rw [wd] at hsz; have := wd_mem ht; omega
    have HSX := Lib.hid hsx; clear hsx hsz
    have hm' := hm
    unfold maxLen at hm
    have hN' := hN
    rw [nds, List.length_cons] at hN
    have hbW : Below W.heap.size W (W.alloc (.cells #[.int .i64 k, .int .i64 h, .slice A n c] 24)) := (Below.refl _ _).alloc (Nat.le_refl _) _
    obtain ⟨x, hxk, hxe⟩ : ∃ x : No w0, x.key = (b, .node k h xs) ∧ encO x = #[.int .i64 b, .agg #[.int .i64 k, .int .i64 h, .slice A n c]] := ⟨⟨b, k, h, A, n, c, _, hv, hnn⟩, rfl, rfl⟩
    clear hnn
    obtain ⟨fn, tmps, assign, body, hy, hR⟩ := hY 0 pre x _ (hJ _ _ _ hj hbW) (by omega)
    rw [hxe] at hy
    clear hv
    have HXK := Lib.hid hxk; clear hxk hxe
    have HN := Lib.hid hn; clear hn
    have HX := Lib.hid hx; clear hx
    have IH := Lib.hid ih; clear ih
    have HJ := Lib.hid hJ; clear hJ
    have HY := Lib.hid hY; clear hY
    have HC := Lib.hid hck; clear hck
    have HW := Lib.hid hwb; clear hwb
    have HM := Lib.hid hm'; clear hm'
    have HJ0 := Lib.hid hj; clear hj
    refine (callsIn_wide (n := 1)).1 (callsIn_of_wp Tryz.func48 rfl trivial ?_ rfl)
    simp only [Tryz.ntmps48, List.size_toArray, List.length_cons, List.length_nil, Nat.reduceAdd, Nat.reduceSub, Array.replicate_succ, Array.replicate_zero, List.push_toArray, List.append_toArray, List.nil_append, List.cons_append]
    gi_wp2_with fail
    refine hR.mono ?_
    clear hR hy
    rintro e W3 (⟨rfl, hJ3, hk3⟩ | ⟨rfl, hJx3⟩)
    · have bx3 := hk3.box (Box.new W _ _) hn1
      have hk3 := (KB.of_below hbW).trans hk3
      clear hbW
      obtain ⟨q0, q1, q2⟩ := bx3.three
      have HJ3 := Lib.hid hJ3; clear hJ3
      gi_wp2_with fail
      gi_loopw [17] (fun i wr => ∃ (j : Nat) (ys : List (No w0)), j ≤ n ∧ i = .int .i64 j ∧ Hid (ys.map No.key ++ ndsL k n (xs.drop j) j b = nds (.node k h xs) b) ∧ J (pre ++ ys) wr ∧ KB w0.heap.size n₁ W wr ∧
        Box wr W.heap.size 24 #[.int .i64 k, .int .i64 h, .slice A n c]) (fun i _ => n - (intOf i).toNat)
      case atStart => exact ⟨0, [x], Nat.zero_le _, rfl, Lib.hid (by rw [nds]; simp [HXK.out, HN.out]), HJ3.out, hk3, bx3⟩
      case round =>
        obtain ⟨j, ys, hj, rfl, HS, hJr, hkr, by3⟩ := hrel
        clear q0 q1 q2
        obtain ⟨q0, q1, q2⟩ := by3.three
        by_cases hlt : j < n
        · obtain ⟨t, ht⟩ := at_of HN.out hlt
          obtain ⟨b', o, k2, h2, A2, n2, c2', rfl, c0, c1, c2, hr⟩ := (HX.out j t ht).full
          have HC' := Lib.hid (HC.out.kb hkr)
          have c0 := HC'.out.cell (cell_lt c0) c0
          have c1 := HC'.out.cell (cell_lt c1) c1
          have c2 := HC'.out.cell (cell_lt c2) c2
          have HT := Lib.hid ht; clear ht
          refine wpIn_wide.2 ?_
          go_wp2_with fail
          have hlt3 := by3.lt
          have HS' := HS.out
          rw [drop_at HT.out, ndsL] at HS'
          have HS := Lib.hid HS'; clear HS'
          have hlen : (pre ++ ys).length + (nds t (wrap64 (b + bd k n j))).length ≤ N := by
            have := congrArg List.length HS.out
            simp only [List.length_append, List.length_map] at this
            simp only [List.length_append]
            omega
          have hz1 : n₁ ≤ wr.heap.size := Nat.le_trans hn1 hkr.size
          have HV : Hid (∀ w1, Below wr.heap.size wr w1 → Calls Tryz.prog 48 #[.agg #[.int .i64 k2, .int .i64 h2, .slice A2 n2 c2'], .int .i64 (wrap64 (b + bd k n j)), .func (.yield l) #[] #[]] w1
              fun e w2 => ∃ R : Bool, e = .returned (.bool R) ∧ OVEnd w0 n₁ J Jx (pre ++ ys) (nds t (wrap64 (b + bd k n j))) wr (.returned (.bool R)) w2) :=
            Lib.hid fun w1 hbw => (IH.out t (List.mem_of_getElem? HT.out) _ _ (pre ++ ys) w1 (HSX.out t (List.mem_of_getElem? HT.out)) hr (HC'.out.kb (KB.of_below (n₁ := n₁) hbw)) (Nat.le_trans hz1 hbw.size) (wrapTwice _) (HJ.out _ _ _ hJr hbw) hlen).mono
              fun e w2 hv => (hv.from (KB.of_below hbw)).bool
          clear hlen
          have HBD := Lib.hid fun W => boundC k h (some ⟨b', o, none⟩) n c hc HM.out j (by unfold maxLen; omega) W
          have e3 := by3.alloc (.cells #[.int .i64 k2, .int .i64 h2, .slice A2 n2 c2'] 24)
          have e8 := Box.new wr 24 #[.int .i64 k2, .int .i64 h2, .slice A2 n2 c2']
          have hbA : Below wr.heap.size wr (wr.alloc (.cells #[.int .i64 k2, .int .i64 h2, .slice A2 n2 c2'] 24)) := (Below.refl _ wr).alloc (Nat.le_refl _) _
          generalize wr.alloc (.cells #[.int .i64 k2, .int .i64 h2, .slice A2 n2 c2'] 24) = Wa at *
          clear q0 q1 q2 c0 c1 c2
          obtain ⟨q0, q1, q2⟩ := e3.three
          obtain ⟨c0, c1, c2⟩ := e8.three
          have l3 := e3.lt
          have l8 := e8.lt
          have p0 := Past.cell c0
          have p1 := Past.cell c1
          have p2 := Past.cell c2
          have p3 := Past.cell q0
          have p4 := Past.cell q1
          have p5 := Past.cell q2
          have hwr : IntKind.i64.wrap (b + bd k n j) = wrap64 (b + bd k n j) := wrapEq _
          refine wp_region_class_tail (C := fun w' => ∃ z : Past Wa, w' = z.wd) 7 (by kernel_rfl) (by kernel_rfl) ⟨⟨Wa.drew, (Below.refl _ _).drew⟩, rfl⟩ ?_
          simp only [List.take_succ_cons, List.take_zero, List.drop_succ_cons, List.drop_zero]
          repeat (go_big_quiet_step ((go_at_call 57; exact calls_past (HBD.out _))))
          refine wpQuiet_nil ?_
          rintro _ ⟨z, rfl⟩
          clear p0 p1 p2 p3 p4 p5
          obtain ⟨w1, hb1⟩ := z
          have hbw : Below wr.heap.size wr w1 := hbA.trans (hb1.mono hbA.size)
          have f3 := e3.keep hb1 l3
          dsimp only
          clear hb1
          go_wp2_with fail
          refine (HV.out _ hbw).mono ?_
          rintro e w2 ⟨R, rfl, hv⟩
          rcases hv with ⟨zs, hR, hks, hj2, hk2⟩ | ⟨hR, q, hq, hx2⟩
          · obtain rfl : R = true := by simpa using hR
            go_wp2_with fail
            go_roundw
            case rel =>
              refine ⟨j + 1, ys ++ zs, by omega, by go_num, Lib.hid ?_, by rw [← List.append_assoc]; exact hj2, hkr.trans hk2, hk2.box by3 (by omega)⟩
              rw [← HS.out, List.map_append, hks, List.append_assoc]
            case measure => simp [intOf]; omega
          · obtain rfl : R = false := by simpa using hR
            go_wp2_with fail
            go_ret
            refine .inr ⟨rfl, ys ++ q, ?_, by rw [← List.append_assoc]; exact hx2⟩
            rw [← HS.out, List.map_append]
            obtain ⟨r, hr'⟩ := hq
            exact ⟨r ++ ndsL k n (xs.drop (j + 1)) (j + 1) b, by rw [← hr']; simp⟩
        · gi_wp2_with fail
          go_ret
          have HS' := HS.out
          rw [drop_all HN.out (by omega), ndsL, List.append_nil] at HS'
          exact .inl ⟨ys, rfl, HS', hJr, hkr⟩
    · gi_wp2_with fail
      go_ret
      exact .inr ⟨rfl, [x], ⟨ndsL k n xs 0 b, by rw [nds]; simp [HXK.out, HN.out]⟩, hJx3⟩

set_option maxHeartbeats 1000000 in
/-- what nodes hands back gives all nodes of the term, in order -/
theorem onodesStops (m : Nat) (w0 w : World) (t : T) (k h : Int) (s : Value) (n₁ Bt : Nat) (hs : wd t ≤ 3518437208780) (hv : Rd w0 t (.agg #[.int .i64 k, .int .i64 h, s])) (hb : Below w0.heap.size w0 w) (h01 : w0.heap.size ≤ n₁) (hn : n₁ ≤ w.heap.size)
    (hB : Box w Bt 24 #[.int .i64 k, .int .i64 h, s]) :
    SeqStopsK Fence.wide m Tryz.prog 47 #[.pointer (some ⟨Bt, 0, none⟩)] (encO (w0 := w0)) (KB w0.heap.size n₁) (fun ys => ys.map No.key = nds t 0) (fun q => q.map No.key <+: nds t 0) (nds t 0).length w := by
  intro l J Jx W hW hJ hJx hY h0
  refine callsIn_wide.2 ?_
  obtain ⟨b0, b1, b2⟩ := (hB.keep hW hB.lt).three
  have hV := ovisitC w0 n₁ l (nds t 0).length h01 J Jx (fun s W W' hs hb => hJ s W W' none hs (grown_of_below hb) (fun r e => by cases e)) (fun m' pre x W1 hj hl => yieldAny m' (hY pre x W1 hj hl)) t 0 _ [] W hs hv
    (CK.of_below (hb.trans (hW.mono hb.size))) (Nat.le_trans hn hW.size) (by unfold wrap64; omega) h0 (by simp)
  have HV := Lib.hid hV; clear hV
  clear hY h0 hJ hJx hv hs
  go_enter Tryz.func47, Tryz.ntmps47
  go_wp2_with fail
  refine HV.out.mono ?_
  rintro e w1 (⟨ys, rfl, h1, h2, h3⟩ | ⟨rfl, q, h1, h2⟩)
  · go_wp2_with fail
    go_end0
    exact ⟨⟨_, rfl⟩, .inl ⟨ys, h1, by simpa using h2⟩⟩
  · go_wp2_with fail
    go_end0
    exact ⟨⟨_, rfl⟩, .inr ⟨q, h1, by simpa using h2⟩⟩
end Go.Proofs.YtkakfckjmmmjgaaGreat

/-
  Contracts of package occur's Vars and Metas. No statement is proved here.
-/
namespace Go.Proofs.YtkakfckjmmmjgaaGreat
open Go.ChangeShapes Go.WideShapes Go.ChangeAt Go.RowKit Go.Shelf
set_option linter.unusedVariables false

attribute [local go_sem] Oper.semAt_some

theorem No.full {w0 : World} (x : No w0) : ∃ xs, x.t = .node x.k x.h xs ∧ (Lit.int .i64 x.h).wf = true ∧ (Lit.int .i64 x.k).wf = true ∧ xs.length = x.n ∧ x.n ≤ x.c ∧ x.c ≤ maxLen ∧ ∀ i t, xs[i]? = some t → RdAt w0 x.A i t := by
  obtain ⟨b, k, h, A, n, c, ⟨k', h', xs⟩, hr, hs⟩ := x
  obtain ⟨A', n', c', e, hk, hh, hl, hc, hm, hx⟩ := Rd_node.1 hr
  have e' : k = k' ∧ h = h' ∧ A = A' ∧ n = n' ∧ c = c' := by simpa using e
  obtain ⟨rfl, rfl, rfl, rfl, rfl⟩ := e'
  exact ⟨xs, rfl, hh, hk, hl, hc, hm, hx⟩
theorem No.fv {w0 : World} (x : No w0) : fv1 x.key = if x.k = 4 ∧ x.b ≤ x.h then [wrap64 (x.h - x.b)] else [] := by
  obtain ⟨xs, e, _⟩ := x.full
  unfold No.key
  rw [e]
  rfl
theorem No.mt {w0 : World} (x : No w0) : mt1 x.key = if x.k = 6 then [x.h] else [] := by
  obtain ⟨xs, e, _⟩ := x.full
  unfold No.key
  rw [e]
  rfl
theorem flat1_le {α : Type} (f : α → List Int) (hf : ∀ x, (f x).length ≤ 1) : ∀ l : List α, (l.flatMap f).length ≤ l.length
  | [] => by simp
  | x :: l => by rw [List.flatMap_cons, List.length_append, List.length_cons]; have := hf x; have := flat1_le f hf l; omega
theorem fv1_le (x : Int × T) : (fv1 x).length ≤ 1 := by obtain ⟨b, k, h, xs⟩ := x; unfold fv1; dsimp only; split <;> simp
theorem mt1_le (x : Int × T) : (mt1 x).length ≤ 1 := by obtain ⟨b, k, h, xs⟩ := x; unfold mt1; dsimp only; split <;> simp
/-- what has been seen -/
def fvP {w0 : World} (pre : List (No w0)) : List Int := (pre.map No.key).flatMap fv1
def mtP {w0 : World} (pre : List (No w0)) : List Int := (pre.map No.key).flatMap mt1
theorem fvP_snoc {w0 : World} (pre : List (No w0)) (x : No w0) : fvP (pre ++ [x]) = fvP pre ++ fv1 x.key := by simp [fvP]
theorem mtP_snoc {w0 : World} (pre : List (No w0)) (x : No w0) : mtP (pre ++ [x]) = mtP pre ++ mt1 x.key := by simp [mtP]
theorem fvP_le {w0 : World} (pre : List (No w0)) : (fvP pre).length ≤ pre.length := by have := flat1_le fv1 fv1_le (pre.map No.key); simpa [fvP] using this
theorem mtP_le {w0 : World} (pre : List (No w0)) : (mtP pre).length ≤ pre.length := by have := flat1_le mt1 mt1_le (pre.map No.key); simpa [mtP] using this
theorem Sn.keptR {w w' : World} {b B : Nat} {l : List Int} {row : Option Nat} (h : Sn w b l) (hg : w.grownBy w' row) (hr : ∀ r, row = some r → B ≤ r ∧ ∃ o : Obj, w.heap[r]? = some o ∧ o.isCells = false) (hb : b < B) : Sn w' b l :=
  h.kept hg fun e => by have := (hr b e.symm).1; omega
theorem Sn.isMap {w : World} {b : Nat} {l : List Int} (h : Sn w b l) : ∃ es cl, w.heap[b]? = some (.map es cl) := by
  obtain ⟨n, D, ⟨es, cl, hb, _⟩, _⟩ := h
  exact ⟨es, cl, hb⟩
theorem KB.of_map {n₀ n₁ b : Nat} {w w' : World} {l : List Int} (h : Sn w b l) (hg : w.grownBy w' (some b)) : KB n₀ n₁ w w' :=
  ⟨hg.size, fun k o _ hk hc => (hg.block k (Array.getElem?_eq_some_iff.1 hk).1 (fun e => by
    cases e
    obtain ⟨es, cl, hm⟩ := h.isMap
    rw [hm] at hk
    cases hk
    cases hc)).trans hk⟩
theorem Sn.boxed {w w' : World} {b B : Nat} {ty : TypeId} {cs : Array Value} {l : List Int} (h : Sn w b l) (hg : w.grownBy w' (some b)) (hx : Box w B ty cs) : Box w' B ty cs :=
  (KB.of_map (n₀ := w.heap.size) (n₁ := 0) h hg).box hx (Nat.zero_le _)
theorem below_map {w0 w w' : World} {b B : Nat} (h : Below B w0 w) (hg : w.grownBy w' (some b)) (hb : B ≤ b) (hB : B ≤ w.heap.size) : Below B w0 w' := h.grown hg hB fun j e => by cases e; exact hb
theorem snR {w : World} {b : Nat} {l m : List Int} (h : Sn w b l) (e : l = m) : Sn w b m := e ▸ h

theorem Ns.put {w : World} {v : Value} {zs : List Int} {D : Nat} {o' : Obj} (h : Ns w v zs) (hD : w.heap[D]? = some (.deferred (some []))) : Ns (w.putObj D o') v zs := by
  obtain ⟨A, c, h1, h2, h3, h4⟩ := h
  refine ⟨A, c, h1, h2, h3, fun i z hz => ?_⟩
  obtain ⟨b, o, e, hc⟩ := h4 i z hz
  refine ⟨b, o, e, ?_⟩
  have hne : D ≠ b := by
    rintro rfl
    unfold World.cell? at hc
    rw [hD] at hc
    cases hc
  rw [← hc]
  exact World.cell?_of_block (by simp only [World.putObj]; rw [Array.getElem?_setIfInBounds_ne hne])


set_option maxRecDepth 100000 in
set_option maxHeartbeats 4000000 in
theorem oMetasC (t : T) (v : Value) (w : World) (hv : Rd w t v) (hs : nd t ≤ 1048576) :
    Calls Tryz.prog 15 #[v] w fun e w' => ∃ u, e = .returned u ∧ Ns w' u (rs ((nds t 0).flatMap mt1)) ∧ Below w.heap.size w w' := by
  obtain ⟨k, h, A, n, c, rfl⟩ := hv.full
  have HV := Lib.hid hv; clear hv
  have HS := Lib.hid hs; clear hs
  have hmm := @run_makeMap Tryz.prog
  refine (callsIn_wide (n := 8)).1 (callsIn_of_wp_marks Tryz.func15 rfl trivial ?_ rfl)
  simp only [Tryz.ntmps15, List.size_toArray, List.length_cons, List.length_nil, Nat.reduceAdd, Nat.reduceSub, Array.replicate_succ, Array.replicate_zero, List.push_toArray, List.append_toArray, List.nil_append, List.cons_append]
  gi_wp2_with (refine ⟨trivial, ?_⟩; gi_at_call 34; refine (callsIn_wide.2 (onodesC k h _ ⟨A, n, c, rfl⟩ _)).mono ?_; rintro e w' ⟨rfl, rfl⟩)
  clear hmm
  obtain ⟨W0, hW0⟩ : ∃ W0, ((((w.alloc (.cells #[.int .i64 k, .int .i64 h, .slice A n c] 24)).alloc (.map #[] 0)).alloc (.cells #[.map (some (w.heap.size + 1))] 67)).alloc (.cells #[.int .i64 k, .int .i64 h, .slice A n c] 24)) = W0 := ⟨_, rfl⟩
  rw [hW0]
  have hbW : Below w.heap.size w W0 := by
    rw [← hW0]; exact ((((Below.refl _ w).alloc (Nat.le_refl _) _).alloc (by simp) _).alloc (by simp; omega) _).alloc (by simp; omega) _
  have sn0 : Sn W0 (w.heap.size + 1) [] := by
    rw [← hW0]
    have := Sn.new (w.alloc (.cells #[.int .i64 k, .int .i64 h, .slice A n c] 24))
    simp only [World.size_alloc] at this
    exact (this.kept (World.grownBy_alloc _ _ none) (by simp)).kept (World.grownBy_alloc _ _ none) (by simp)
  have bx2 : Box W0 (w.heap.size + 1 + 1) 67 #[.map (some (w.heap.size + 1))] := by
    rw [← hW0]; exact ((Box.new ((w.alloc _).alloc _) _ _).at (b' := w.heap.size + 1 + 1) (by simp)).alloc _
  have bx3 : Box W0 (w.heap.size + 1 + 1 + 1) 24 #[.int .i64 k, .int .i64 h, .slice A n c] := by
    rw [← hW0]; exact (Box.new (((w.alloc _).alloc _).alloc _) _ _).at (b' := w.heap.size + 1 + 1 + 1) (by simp)
  clear hW0
  have hl := bx3.lt
  refine wpIn_rangeFunc_ownH rfl (by omega) (gf := 47) (lb := #[.pointer (some ⟨w.heap.size + 1 + 1 + 1, 0, none⟩)]) rfl trivial (enters_of Tryz.func47 (by kernel_rfl) rfl)
    (onodesStops 7 w W0 t k h _ (w.heap.size + 1 + 1 + 1) (w.heap.size + 1 + 1 + 1) (by have h1 := wd_nd t; have h2 := HS.out; omega) HV.out hbW (by omega) (by omega) bx3) KB.trans (fun W l o o' _ h1 h2 _ => KB.putObj W l o o' h1 h2) (Below.refl _ _) (fun _ => rfl)
    (fun pre W => Sn W (w.heap.size + 1) (mtP pre) ∧ Box W (w.heap.size + 1 + 1) 67 #[.map (some (w.heap.size + 1))] ∧ Below w.heap.size w W)
    (fun cd pre W => False)
    (fun s A B row hs hg hr => ⟨hs.1.keptR hg hr (by omega), hs.2.1.kept hg hr, below_kept hs.2.2 hg hr (by omega) hs.2.2.size⟩)
    (fun _ s A B row hs hg hr => hs) ⟨sn0, bx2, hbW⟩
    (fun x a' W => ∃ By, w.heap.size + 1 + 1 + 1 ≤ By ∧ Box W By 24 #[.int .i64 x.k, .int .i64 x.h, .slice x.A x.n x.c] ∧
      a' = { tmps := #[.agg #[.int .i64 k, .int .i64 h, .slice A n c], .pointer (some ⟨w.heap.size, 0, none⟩), .slice none 0 0, .pointer (some ⟨w.heap.size + 1 + 1, 0, none⟩), undef, .pointer (some ⟨By, 0, none⟩), .map (some (w.heap.size + 1)), .agg #[.int .i64 k, .int .i64 h, .slice A n c],
        .func (.func 47) #[] #[.pointer (some ⟨w.heap.size + 1 + 1 + 1, 0, none⟩)], .int .i64 x.b, .agg #[.int .i64 x.k, .int .i64 x.h, .slice x.A x.n x.c], undef, undef, undef, undef, undef, undef, undef, undef, undef], defers := [] })
    (fun _ _ _ A B row hs hg hr => by obtain ⟨By, h2, h4, h5⟩ := hs; exact ⟨By, h2, h4.kept hg hr, h5⟩) ?assign ?body ?done ?stop
  case assign =>
    rintro l pre x W K ⟨hb1, hb2, hB⟩ hK
    have hz := hb2.lt
    have e := hB.size
    simp only [encO, List.zip_toArray, List.zip_cons_cons, List.zip_nil_right, List.foldl_toArray, List.foldl_cons, List.foldl_nil, List.setIfInBounds_toArray, List.set_cons_succ, List.set_cons_zero]
    gi_wp2
    have hbA : Below W.heap.size W (W.alloc (.cells #[.int .i64 x.k, .int .i64 x.h, .slice x.A x.n x.c] 24)) := (Below.refl _ _).alloc (Nat.le_refl _) _
    exact hK _ _ (keepsFrom_of_below hbA) (KB.of_below hbA) ⟨hb1.keep hbA, hb2.alloc _, hB.trans (hbA.mono hB.size)⟩ ⟨W.heap.size, by omega, Box.new _ _ _, rfl⟩
  case body =>
    rintro l pre x a' W hl ⟨r, hr⟩ ⟨hb1, hb2, hB⟩ ⟨By, hBy, hbn, rfl⟩ hlen
    have hsn := mtP_snoc pre x
    rw [x.mt] at hsn
    have HSN := Lib.hid hsn; clear hsn
    generalize pre ++ [x] = px at *
    have hpl : (mtP pre).length < maxLen := by
      have h1 := mtP_le pre
      have h2 := HS.out
      rw [nds_len] at hlen
      unfold maxLen
      omega
    have hxw : (Lit.int .i64 x.h).wf = true := by obtain ⟨xs, _, h1, _⟩ := x.full; exact h1
    obtain ⟨c2, f2⟩ := hb2.one
    obtain ⟨q0, q1, q2⟩ := hbn.three
    have HB1 := Lib.hid hb1
    have HPL := Lib.hid hpl
    have HXW := Lib.hid hxw
    clear hb1 hpl hxw hlen
    obtain ⟨xb, xk, xh, xA, xn, xc, xt, xr, xs⟩ := x
    dsimp only at *
    by_cases k6 : xk = 6
    · subst k6
      by_cases triv : True
      · have hadd := addC (w.heap.size + 1) (mtP pre) xh W HB1.out HXW.out HPL.out
        have HAD := Lib.hid hadd; clear hadd
        gi_wp2_with (refine ⟨trivial, ?_⟩; gi_at_call 35; refine (CallsIn.inRound l (callsIn_wide.2 HAD.out)).mono ?_; rintro e w1 ⟨rfl, hsn1, hg1⟩)
        exact ⟨KeepsFrom.of_grownBy hg1 (fun j hj => by cases hj; omega), KB.of_map HB1.out hg1, snR hsn1 (by rw [HSN.out, if_pos (by simp)]), HB1.out.boxed hg1 hb2, below_map hB hg1 (by omega) hB.size⟩
      · exact absurd trivial triv
    · have e6 : (xk == 6) = false := by simpa using k6
      have HH := Lib.hid k6; clear k6
      gi_wp2_with fail
      exact ⟨KeepsFrom.refl _ _, KB.refl _ _ _, snR HB1.out (by rw [HSN.out, if_neg (by have := HH.out; simp; omega)]; simp), hb2, hB⟩
  case done =>
    rintro D ys W hD hS ⟨hb1, hb2, hB⟩ hK
    obtain ⟨c2, f2⟩ := hb2.one
    have hle : (mtP ys).length ≤ 1048576 := by
      have h1 := mtP_le ys
      have h2 := HS.out
      have h3 := congrArg List.length hS
      rw [List.length_map, nds_len] at h3
      omega
    have HRC := Lib.hid (risingC (w.heap.size + 1) (mtP ys) W hb1 hle)
    have e9 : mtP ys = (nds t 0).flatMap mt1 := by rw [← hS]; rfl
    have HE := Lib.hid e9
    clear e9 hS hle
    gi_wp2_with (refine ⟨trivial, ?_⟩; gi_at_call 36; refine (callsIn_wide.2 HRC.out).mono ?_; rintro e w1 ⟨u, rfl, hn, hb9⟩)
    have hK' : w1.heap[D]? = some (.deferred (some [])) := (hb9.block D (Array.getElem?_eq_some_iff.1 hK).1).trans hK
    have hB' := below_putObj (hB.trans (hb9.mono hB.size)) (show w.heap.size ≤ D by omega) (.deferred none)
    refine ⟨by simp, .inl ⟨_, _, rfl, run_takeDeferred hK', ?_⟩⟩
    refine ⟨_, results_tmp rfl _ _ _, ⟨_, rfl, ?_, hB'⟩⟩
    rw [← HE.out]
    exact hn.put hK'
  case stop =>
    rintro D cd pre W _ _ h _
    exact h.elim

end Go.Proofs.YtkakfckjmmmjgaaGreat

/-
  Contract of package occur's Pattern. No statement is proved here.
-/
namespace Go.Proofs.YtkakfckjmmmjgaaGreat
open Go.ChangeShapes Go.WideShapes Go.ChangeAt Go.RowKit Go.Shelf Go.Maps
set_option linter.unusedVariables false

/-- what Pattern answers -/
def PtEnd (o : Option (List Int)) (w : World) (e : Ending) (w' : World) : Prop :=
  (∃ zs v, o = some zs ∧ e = .returned (.tuple #[v, .bool true]) ∧ Ns w' v zs ∧ Below w.heap.size w w') ∨ (o = none ∧ e = .returned (.tuple #[.slice none 0 0, .bool false]) ∧ Below w.heap.size w w')

theorem ptn_step {below : Int} {seen : List Int} {k h : Int} {ys ts : List T} (hp : pt1 seen below (.node k h ys) = true) : ptn below seen (.node k h ys :: ts) = ptn below (seen ++ [h]) ts := by
  rw [ptn, if_pos hp]; rfl
theorem ptn_stop {below : Int} {seen : List Int} {t : T} {ts : List T} (hp : pt1 seen below t = false) : ptn below seen (t :: ts) = none := by
  rw [ptn, hp]; rfl

theorem row_still {w w' : World} {base : Nat} {e : TypeId} {size : Nat} {v : Value} {n : Nat} {xs : List Value} (h : w.ownsRow base e size v n xs) (hb : Below w.heap.size w w') : w'.ownsRow base e size v n xs :=
  h.kept (grown_of_below hb) (by cases v.ownBlock <;> simp)

set_option maxRecDepth 100000 in
set_option maxHeartbeats 4000000 in
theorem oPatternC (xs : List T) (A : Option Addr) (n c : Nat) (below : Int) (w : World) (hn : xs.length = n) (hc : n ≤ c) (hm : c ≤ maxLen) (hb : n ≤ 3518437208780) (hx : ∀ i t, xs[i]? = some t → RdAt w A i t) :
    Calls Tryz.prog 37 #[.slice A n c, .int .i64 below] w (PtEnd (ptn below [] xs) w) := by
  obtain ⟨i0, hi, hz0, hz1, hz2⟩ := info_parts infoI
  have hmm := @run_makeMap Tryz.prog
  have HX := Lib.hid hx; clear hx
  have HN := Lib.hid hn; clear hn
  have HM := Lib.hid hm; clear hm
  have HNB := Lib.hid hb
  have hb8 : 8 * n ≤ 281474976710656 := by omega
  have hnm : n ≤ maxLen := by unfold maxLen; omega
  have HNM := Lib.hid hnm; clear hnm
  go_enter Tryz.func37, Tryz.ntmps37
  go_wp2_with (first
    | (at_make; refine wpList_make_own _ rfl _ _ 39 rfl (w.heap.size + 1) 3 i0 (.int .i64 0) 1 Tryz.underlying39 hi hz0 hz1 _ _ _ n rfl rfl rfl (by rw [hz2]; exact hb8) HNM.out (by simp) ?_; intro w1 hrow1 hg1)
    | go_in)
  clear hmm
  have sn1 : Sn w1 w.heap.size [] := (Sn.new w).kept hg1 (by simp)
  have hb1 : Below w.heap.size w w1 := ((Below.refl _ w).alloc (Nat.le_refl _) _).grown hg1 (by simp) (fun j hj => by cases hj)
  have hsz1 : w.heap.size + 1 ≤ w1.heap.size := by have := hg1.size; simpa using this
  clear hg1
  go_loopw [7, 16] (fun v i wr => ∃ (j : Nat) (seen : List Int), j ≤ n ∧ i = .int .i64 j ∧ Sn wr w.heap.size seen ∧ wr.ownsRow (w.heap.size + 1) 3 1 v seen.length (seen.map (Value.int .i64)) ∧ seen.length ≤ j ∧ Below w.heap.size w wr ∧ w.heap.size + 1 ≤ wr.heap.size ∧
      Hid (ptn below seen (xs.drop j) = ptn below [] xs)) (fun _ i _ => n - (intOf i).toNat)
  case atStart => exact ⟨0, [], Nat.zero_le _, rfl, sn1, by simpa using hrow1, Nat.le_refl _, hb1, hsz1, Lib.hid rfl⟩
  case round =>
    obtain ⟨j, seen, hj, rfl, hsn, hrow, hsl, hbw, hws, HP⟩ := hrel
    clear hrow1 sn1 hb1 hsz1
    by_cases hlt : j < n
    · obtain ⟨t, ht⟩ := at_of HN.out hlt
      obtain ⟨b', o, k2, h2, A2, n2, c2', rfl, c0, c1, c2, hr⟩ := (HX.out j t ht).full
      have c0 := (hbw.cell (cell_lt c0)).trans c0
      have c1 := (hbw.cell (cell_lt c1)).trans c1
      have c2 := (hbw.cell (cell_lt c2)).trans c2
      obtain ⟨k3, h3, ys⟩ := t
      obtain ⟨A3, n3, c3, e3, hk3, hh3, hl3, hc3, hm3, _⟩ := Rd_node.1 hr
      have e3' : k2 = k3 ∧ h2 = h3 ∧ A2 = A3 ∧ n2 = n3 ∧ c2' = c3 := by simpa using e3
      obtain ⟨rfl, rfl, rfl, rfl, rfl⟩ := e3'
      clear e3 hr hk3 hc3 hm3
      have HP' := HP.out
      rw [drop_at ht] at HP'
      have HL3 := Lib.hid hl3; clear hl3
      have HT := Lib.hid ht; clear ht
      by_cases p1 : pt1 seen below (.node k2 h2 ys) = true
      · rw [ptn_step p1] at HP'
        have HP := Lib.hid HP'; clear HP'
        have hq : k2 = 4 ∧ n2 = 0 ∧ 0 ≤ h2 ∧ h2 < below ∧ seen.contains h2 = false := by
          have hy := HL3.out
          simp only [pt1, Bool.and_eq_true, beq_iff_eq, decide_eq_true_eq, Bool.not_eq_true'] at p1
          exact ⟨p1.1.1.1.1, by omega, p1.1.1.2, p1.1.2, p1.2⟩
        obtain ⟨rfl, rfl, h0, h9, hcn⟩ := hq
        clear p1
        have d0 : decide (h2 < 0) = false := by simpa using h0
        have d9 : decide (below ≤ h2) = false := by simpa using h9
        have HH := Lib.hid h0; clear h0
        have HH9 := Lib.hid h9; clear h9
        have HHC := Lib.hid (hasC w.heap.size seen h2 _ (hsn.keep ((Below.refl _ _).alloc (Nat.le_refl _) (.cells #[.int .i64 4, .int .i64 h2, .slice A2 0 c2'] 24))) hh3)
        rw [hcn] at HHC
        clear hcn
        have bx := Box.new wr 24 #[.int .i64 4, .int .i64 h2, .slice A2 0 c2']
        have hba : Below wr.heap.size wr (wr.alloc (.cells #[.int .i64 4, .int .i64 h2, .slice A2 0 c2'] 24)) := (Below.refl _ _).alloc (Nat.le_refl _) _
        have hsm : seen.length < maxLen := by unfold maxLen; omega
        have HSM := Lib.hid hsm; clear hsm
        go_wp2_with (first
          | (go_at_call 50; refine HHC.out.mono ?_; rintro e w2 ⟨rfl, hb2⟩
             have bx2 := bx.keep hb2 bx.lt
             obtain ⟨q0, q1, q2⟩ := bx2.three
             have hb02 : Below wr.heap.size wr w2 := hba.trans (hb2.mono hba.size)
             have hsn2 := hsn.keep hb02
             have hl2 := bx2.lt
             clear hb2 HHC)
          | (go_at_call 35; refine (addC w.heap.size seen h2 w2 hsn2 hh3 HSM.out).mono ?_; rintro e w3 ⟨rfl, hsn3, hg3⟩
             have bx3 := hsn2.boxed hg3 bx2
             have hrow3 := (row_still hrow hb02).kept hg3 (Or.inr (row_ne_low (row_still hrow hb02) (Nat.lt_succ_self _)).symm)
             have hs3 : w.heap.size + 1 ≤ w3.heap.size := Nat.le_trans hws (Nat.le_trans hb02.size hg3.size)
             have hgl : (seen.length + 1) * 8 ≤ 140737488355328 := by omega
             have hgm : seen.length + 1 ≤ maxLen := by unfold maxLen; omega
             clear q0 q1 q2
             obtain ⟨q0, q1, q2⟩ := bx3.three)
          | (at_builtin; refine wpList_append_own _ rfl _ _ 39 rfl (w.heap.size + 1) 3 i0 (.int .i64 0) 1 8 Tryz.underlying39 hi hz0 hz1 hz2 rfl (by decide) _ _ _ rfl (hrow3.alloc _) ⟨w3.heap.size, 0, none⟩ 1 1 [.int .i64 h2] rfl rfl (cell_one_new _ _ _) (ints_oneCell .i64 [h2]) hgm hgl (by simp; omega) ?_; intro v' w4 hown' hg4 hnil4; go_frame))
        have hr4 := hrow3.alloc (.cells #[.int .i64 h2] 3)
        have hs4 := hg4.size
        simp only [World.size_alloc] at hs4
        have hB3 : Below w.heap.size w w3 := below_map (hbw.trans (hb02.mono hbw.size)) hg3 (Nat.le_refl _) (by have := hb02.size; omega)
        refine ⟨⟨j + 1, seen ++ [h2], by omega, by go_num, (hsn3.kept (World.grownBy_alloc _ _ none) (by simp)).kept hg4 (row_ne_low hr4 (Nat.lt_succ_self _)), by simpa using hown', by simp; omega, ?_, by omega, HP⟩, by simp [intOf]; omega⟩
        exact (hB3.alloc (by omega) _).grown hg4 (by simp; omega) (fun i hi => Nat.le_trans (Nat.le_succ _) (hr4.lt i hi).1)
      · have p1 : pt1 seen below (.node k2 h2 ys) = false := by simpa using p1
        rw [ptn_stop p1] at HP'
        have HP := Lib.hid HP'.symm; clear HP'
        by_cases k4 : k2 = 4
        · subst k4
          by_cases hz : n2 = 0
          · subst hz
            by_cases h0 : h2 < 0
            · have d0 : decide (h2 < 0) = true := by simpa using h0
              have HH := Lib.hid h0; clear h0
              go_wp2_with fail
              refine bodyPost_ret (v := .tuple #[.slice none 0 0, .bool false]) (by simp [results, Tryz.results37, go_sem]) rfl (.inr ⟨HP.out, rfl, hbw.alloc hbw.size _⟩)
            · have d0 : decide (h2 < 0) = false := by simpa using h0
              by_cases h9 : below ≤ h2
              · have d9 : decide (below ≤ h2) = true := by simpa using h9
                have HH := Lib.hid h0; clear h0
                have HH9 := Lib.hid h9; clear h9
                go_wp2_with fail
                refine bodyPost_ret (v := .tuple #[.slice none 0 0, .bool false]) (by simp [results, Tryz.results37, go_sem]) rfl (.inr ⟨HP.out, rfl, hbw.alloc hbw.size _⟩)
              · have d9 : decide (below ≤ h2) = false := by simpa using h9
                have hcn : seen.contains h2 = true := by
                  have h0' : (0 : Int) ≤ h2 := by omega
                  have h9' : h2 < below := by omega
                  have hy : ys.length = 0 := HL3.out
                  simp only [pt1, hy, decide_eq_true h0', decide_eq_true h9', Bool.and_eq_false_iff] at p1
                  simpa using p1
                have HH := Lib.hid h0; clear h0
                have HH9 := Lib.hid h9; clear h9
                have hbw' : Below w.heap.size w (wr.alloc (.cells #[.int .i64 4, .int .i64 h2, .slice A2 0 c2'] 24)) := hbw.alloc hbw.size _
                have HHC := Lib.hid (hasC w.heap.size seen h2 _ (hsn.keep ((Below.refl _ _).alloc (Nat.le_refl _) (.cells #[.int .i64 4, .int .i64 h2, .slice A2 0 c2'] 24))) hh3)
                rw [hcn] at HHC
                clear hcn p1
                go_wp2_with (go_at_call 50; refine HHC.out.mono ?_; rintro e w2 ⟨rfl, hb2⟩)
                refine bodyPost_ret (v := .tuple #[.slice none 0 0, .bool false]) (by simp [results, Tryz.results37, go_sem]) rfl (.inr ⟨HP.out, rfl, hbw'.trans (hb2.mono hbw'.size)⟩)
          · have d1 : decide ((0 : Int) < (n2 : Int)) = true := by simp; omega
            go_wp2_with fail
            refine bodyPost_ret (v := .tuple #[.slice none 0 0, .bool false]) (by simp [results, Tryz.results37, go_sem]) rfl (.inr ⟨HP.out, rfl, hbw.alloc hbw.size _⟩)
        · have e4 : (k2 == 4) = false := by simpa using k4
          have HH := Lib.hid k4; clear k4
          go_wp2_with fail
          refine bodyPost_ret (v := .tuple #[.slice none 0 0, .bool false]) (by simp [results, Tryz.results37, go_sem]) rfl (.inr ⟨HP.out, rfl, hbw.alloc hbw.size _⟩)
    · have HP' := HP.out
      rw [drop_all HN.out (by omega), ptn] at HP'
      have HP := Lib.hid HP'.symm; clear HP'
      go_wp2_with fail
      refine bodyPost_ret (v := .tuple #[u7, .bool true]) (by simp [results, Tryz.results37, go_sem]) rfl (.inl ⟨seen, _, HP.out, rfl, Ns.of_row hrow, hbw⟩)
end Go.Proofs.YtkakfckjmmmjgaaGreat

/-
  The library's product of two numbers: its contract, laid at this program. No statement is proved here.
-/
namespace Go.Proofs.YtkakfckjmmmjgaaGreat
open Go.Shelf Go.RowKit
set_option linter.unusedVariables false

def mulRen : Ren := ⟨fun | 212 => 117 | 263 => 127 | 264 => 128 | n => n, fun | 46 => 93 | 51 => 115 | 53 => 117 | 146 => 173 | 148 => 175 | n => n, fun n => n⟩
theorem mulLays : Lays.n212 Tryz.prog mulRen := {
  mixed := by kernel_rfl
  f212 := Tryz.func117.trans (congrArg some (by kernel_rfl))
  f263 := Tryz.func127.trans (congrArg some (by kernel_rfl))
  f264 := Tryz.func128.trans (congrArg some (by kernel_rfl))
  t46 := Tryz.underlying93
  a46 := Tryz.isAgg93
  z46 := Tryz.sizeOf93
  v46 := Tryz.zeroValue93
  t51 := Tryz.underlying115
  a51 := Tryz.isAgg115
  z51 := Tryz.sizeOf115
  v51 := Tryz.zeroValue115
  t53 := Tryz.underlying117
  a53 := Tryz.isAgg117
  z53 := Tryz.sizeOf117
  v53 := Tryz.zeroValue117
  t146 := Tryz.underlying173
  a146 := Tryz.isAgg173
  z146 := Tryz.sizeOf173
  v146 := Tryz.zeroValue173
  t148 := Tryz.underlying175
  a148 := Tryz.isAgg175
  z148 := Tryz.sizeOf175
  v148 := Tryz.zeroValue175 }
theorem mulC (x y : Nat) (hx : x < 18446744073709551616) (hy : y < 18446744073709551616) (w : World) :
    Calls Tryz.prog 117 #[.int .u64 x, .int .u64 y] w fun e w' => e = .returned (.tuple #[.int .u64 ((x * y / 18446744073709551616 : Nat) : Int), .int .u64 ((x * y % 18446744073709551616 : Nat) : Int)]) ∧ w' = w :=
  Any.bits_Mul mulLays x y hx hy w
end Go.Proofs.YtkakfckjmmmjgaaGreat

/-
  Contract of the library's Repeat at a list of one number. No statement is proved here.
-/
namespace Go.Proofs.YtkakfckjmmmjgaaGreat
open Go.ChangeShapes Go.WideShapes Go.ChangeAt Go.RowKit
set_option linter.unusedVariables false

theorem mulOne (N : Nat) (hN : N ≤ 1000) (w : World) : Calls Tryz.prog 117 #[.int .u64 1, .int .u64 N] w fun e w' => e = .returned (.tuple #[.int .u64 0, .int .u64 N]) ∧ w' = w := by
  have h := mulC 1 N (by omega) (by omega) w
  rw [show 1 * N / 18446744073709551616 = 0 by omega, show 1 * N % 18446744073709551616 = N by omega] at h
  exact h
theorem infoInt : (Tryz.prog.info? 3).map (fun i => (i.zero, i.size, i.bytes)) = some (some (.int .i64 0), 1, 8) := by kernel_rfl
theorem sizeInt : (Tryz.prog.info? 3).map (·.size) = some 1 := by kernel_rfl
/-- one number copied m times into a block -/
theorem copy_box {w : World} {b : Nat} {cs : Array Value} (h : Box w b 3 cs) (o dLen dCap : Nat) (a : Addr) (sLen sCap m : Nat) (x : Int) (ty : TypeId) (hn : m = Nat.min sLen dLen) (hsrc : ∀ j, j < m → w.cell? (a.add j) = some (.int .i64 x)) (hfit : o + m ≤ cs.size) :
    ∃ w' cs', (Builtin.copy_ #[39, 39] ty #[.slice (some ⟨b, o, none⟩) dLen dCap, .slice (some a) sLen sCap]).run Tryz.prog w = .ok (.int .i64 (m : Int)) w' ∧ Box w' b 3 cs' ∧ cs'.size = cs.size ∧
      (∀ i, i < o → cs'[i]? = cs[i]?) ∧ (∀ i, i < m → cs'[o + i]? = some (.int .i64 x)) ∧ (∀ B, B ≤ b → Below B w w') := by
  have hr := run_copy_row Tryz.prog w 39 39 ty 3 b o dLen dCap a sLen sCap cs 3 (List.replicate m (.int .i64 x)) Tryz.underlying39 sizeInt h (by simpa using hn)
    (fun j v hv => by
      obtain ⟨hj, e⟩ := List.getElem?_eq_some_iff.1 hv
      rw [List.getElem_replicate] at e
      rw [← e]
      exact hsrc j (by simpa using hj)) (by simpa using hfit) (fun v hv => by rw [(List.mem_replicate.1 hv).2]; rfl)
  refine ⟨w.setRow b (cs.toList.take o ++ List.replicate m (Value.int .i64 x) ++ cs.toList.drop (o + (List.replicate m (Value.int .i64 x)).length)).toArray, (cs.toList.take o ++ List.replicate m (Value.int .i64 x) ++ cs.toList.drop (o + (List.replicate m (Value.int .i64 x)).length)).toArray, ?_, setRow_heap w b cs _ _ _ h, ?_, ?_, ?_, ?_⟩
  · rw [hr, List.length_replicate]; rfl
  · simp; omega
  · intro i hi
    simp only [List.getElem?_toArray]
    rw [List.append_assoc, List.getElem?_append_left (by simp; omega), List.getElem?_take_of_lt hi, Array.getElem?_toList]
  · intro i hi
    simp only [List.getElem?_toArray]
    have hl : (cs.toList.take o).length = o := by simp; omega
    rw [List.append_assoc, List.getElem?_append_right (by omega), hl, List.getElem?_append_left (by simp; omega), List.getElem?_replicate, if_pos (by omega)]
  · intro B hB
    exact ⟨rfl, rfl, rfl, by simp [World.setRow], fun k hk => setRow_other w b k _ (by omega)⟩
/-- the number, so far -/
structure RpI (N : Nat) (x : Int) (w : World) (k : Nat) (wr : World) : Prop where
  box : ∃ cs, Box wr w.heap.size 3 cs ∧ cs.size = N ∧ ∀ i, i < k → cs[i]? = some (.int .i64 x)
  below : Below w.heap.size w wr
theorem RpI.step {N : Nat} {x : Int} {w wr : World} {k : Nat} (h : RpI N x w k wr) (k' dCap sCap : Nat) (ty : TypeId) (hk : k ≤ N) (hm : k' = Nat.min k (N - k)) :
    ∃ w', (Builtin.copy_ #[39, 39] ty #[.slice (some ⟨w.heap.size, k, none⟩) (N - k) dCap, .slice (some ⟨w.heap.size, 0, none⟩) k sCap]).run Tryz.prog wr = .ok (.int .i64 (k' : Int)) w' ∧ RpI N x w (k + k') w' := by
  obtain ⟨cs, hb, hs, hc⟩ := h.box
  have h1 : k' ≤ k := by rw [hm]; exact Nat.min_le_left ..
  have h2 : k' ≤ N - k := by rw [hm]; exact Nat.min_le_right ..
  obtain ⟨w', cs', e, b', s', l', c', bl'⟩ := copy_box hb k (N - k) dCap ⟨w.heap.size, 0, none⟩ k sCap k' x ty hm (fun j hj => by
    have : (⟨w.heap.size, 0, none⟩ : Addr).add j = ⟨w.heap.size, 0 + j, none⟩ := by unfold Addr.add; split <;> simp_all
    rw [this, hb.cell, Nat.zero_add]; exact hc j (by omega)) (by omega)
  refine ⟨w', e, ⟨cs', b', by omega, fun i hi => ?_⟩, h.below.trans (bl' _ (Nat.le_refl _))⟩
  by_cases hik : i < k
  · rw [l' i hik]; exact hc i hik
  · have := c' (i - k) (by omega)
    rwa [show k + (i - k) = i by omega] at this

set_option maxRecDepth 100000 in
set_option maxHeartbeats 4000000 in
theorem repeatC (b o N : Nat) (x : Int) (w : World) (hN : N ≤ 1000) (hx : w.cell? ⟨b, o, none⟩ = some (.int .i64 x)) :
    Calls Tryz.prog 107 #[.slice (some ⟨b, o, none⟩) 1 1, .int .i64 N] w fun e w' => e = .returned (.slice (some ⟨w.heap.size, 0, none⟩) N N) ∧ RpI N x w N w' := by
  have hmk : ∀ W : World, (Instr.makeSlice 39 (.int .i64 (N : Int)) (.int .i64 (N : Int))).run Tryz.prog W = .ok (.slice (some ⟨W.heap.size, 0, none⟩) N N) (W.alloc (.cells (madeCells #[.int .i64 0] (N * 1)) 3)) := by
    intro W
    obtain ⟨i0, hi, hz0, hz1, hz2⟩ := info_parts infoInt
    have := run_make W 39 3 i0 _ Tryz.underlying39 hi hz0 .i64 .i64 (N : Int) (N : Int) (by omega) (Int.le_refl _) (by rw [hz2]; omega) (by omega)
    rw [hz1] at this
    simpa [Value.cells] using this
  have HM := Lib.hid (mulOne N hN)
  have hw1 : IntKind.u64.wrap (N : Int) = N := by rw [IntKind.wrap_u64]; omega
  have hw2 : IntKind.i64.wrap (N : Int) = N := by rw [wrapEq]; exact wrap_small (by omega) (by omega)
  have d1 : decide ((9223372036854775807 : Int) < N) = false := by simp; omega
  have d2 : decide ((N : Int) < 0) = false := by simp
  go_enter Tryz.func107, Tryz.ntmps107
  have hb : Below w.heap.size w (w.alloc (.cells (madeCells #[.int .i64 0] N) 3)) := (Below.refl _ w).alloc (Nat.le_refl _) _
  have x3 := Box.new w 3 (madeCells #[.int .i64 0] N)
  have hcs := size_madeCells #[.int .i64 0] N
  have hN0 : 0 < N ∨ N = 0 := by omega
  obtain ⟨w1, cs1, hr1, y1, s1, _, c1, bl1⟩ := copy_box x3 0 N N ⟨b, o, none⟩ 1 1 (Nat.min 1 N) x 3 rfl (fun j hj => by
    have h0 : j = 0 := by have := Nat.min_le_left 1 N; have : Nat.min 1 N ≤ 1 := this; omega
    subst h0
    have : (⟨b, o, none⟩ : Addr).add 0 = ⟨b, o, none⟩ := by unfold Addr.add; simp
    rw [this, ((Below.refl _ w).alloc (Nat.le_refl _) _).cell (cell_lt hx)]
    exact hx) (by have : Nat.min 1 N ≤ N := Nat.min_le_right 1 N; omega)
  obtain ⟨k, hk⟩ : ∃ k, k = Nat.min 1 N := ⟨_, rfl⟩
  have HI : Hid (RpI N x w k w1) := Lib.hid ⟨⟨cs1, y1, by omega, fun i hi => by have := c1 i (by omega); rwa [Nat.zero_add] at this⟩, hb.trans (bl1 _ (Nat.le_refl _))⟩
  have HK : Hid (k ≤ N ∧ (0 < N → 0 < k)) := Lib.hid (by
    rw [hk]
    rcases hN0 with h | h
    · have : Nat.min 1 N = 1 := Nat.min_eq_left h
      omega
    · subst h; exact ⟨Nat.min_le_right .., fun h => by omega⟩)
  rw [← hk] at hr1
  clear x3 hcs y1 s1 c1 bl1 hb hk
  go_wp2_with (first
    | (go_at_call 117; refine (HM.out _).mono ?_; rintro e w' ⟨rfl, hw⟩; rw [hw]; clear hw w')
    | (at_builtin; refine Lib.wpList_copy_run _ rfl _ _ _ _ rfl _ _ rfl rfl hr1 ?_))
  clear hr1 hN0
  go_loopw [8] (fun i wr => ∃ (k : Nat), i = .int .i64 k ∧ Hid (k ≤ N ∧ (0 < N → 0 < k)) ∧ Hid (RpI N x w k wr)) (fun i _ => N - (intOf i).toNat)
  case atStart => exact ⟨k, rfl, HK, HI⟩
  case round =>
    clear HI HK
    obtain ⟨k, rfl, HK, HI⟩ := hrel
    by_cases hlt : k < N
    · have hk1 : 0 < k := HK.out.2 (by omega)
      have hk2 : (0 : Int) ≤ k := by omega
      have hk3 : (k : Int) ≤ N := by omega
      obtain ⟨k', hk'⟩ : ∃ k', k' = Nat.min k (N - k) := ⟨_, rfl⟩
      have hmin : k' ≤ N - k ∧ 0 < k' := by
        rw [hk']
        exact ⟨Nat.min_le_right .., Nat.lt_min.2 ⟨hk1, by omega⟩⟩
      obtain ⟨w2, hr2, hi2⟩ := (show RpI N x w k wr.drew from ⟨HI.out.box, HI.out.below.drew⟩).step k' (N - k) N 3 (by omega) hk'
      have HI2 := Lib.hid hi2
      clear hi2 hk'
      have hw3 : IntKind.i64.wrap ((k : Int) + k') = ((k + k' : Nat) : Int) := by rw [wrapEq, wrap_small (by omega) (by omega)]; omega
      go_wp2_with fail
      clear HI HK
      have hgt : True := trivial
      go_region_held3 (fun _ => True)
        (first | exact trivial)
        (first
          | (refine Lib.wp_copy_run _ _ _ _ _ rfl _ _ rfl rfl hr2 ?_))
      go_wp2_with fail
      exact ⟨⟨k + k', by go_num, Lib.hid (by omega), HI2⟩, by simp [intOf]; omega⟩
    · obtain rfl : k = N := by have := HK.out.1; omega
      go_wp2_with fail
      go_ret
      exact ⟨rfl, HI.out⟩
end Go.Proofs.YtkakfckjmmmjgaaGreat

/-
  What a meta must be, as a plain function, and what holds of it. No statement is proved here.
-/
namespace Go.Proofs.YtkakfckjmmmjgaaGreat
open Go.RowKit
set_option linter.unusedVariables false

/-- how many stand behind a number in a list -/
def pls (x : Int) : List Int → Option Int
  | [] => none
  | y :: ys => if y = x then some (ys.length : Int) else pls x ys
theorem pls_lt {x : Int} : ∀ {l : List Int} {p : Int}, pls x l = some p → 0 ≤ p ∧ p < l.length
  | y :: ys, p, h => by
    rw [pls] at h
    rw [List.length_cons]
    split at h
    · cases h; omega
    · have := pls_lt h
      omega
theorem pls_none {x : Int} : ∀ {l : List Int}, pls x l = none ↔ x ∉ l
  | [] => by simp [pls]
  | y :: ys => by
    rw [pls]
    split
    · rename_i h; simp [h]
    · rename_i h
      rw [pls_none, List.mem_cons, not_or]
      exact ⟨fun e => ⟨fun e2 => h e2.symm, e⟩, fun e => e.2⟩
theorem pls_snoc {x v : Int} : ∀ {l : List Int}, v ∉ l → pls x (l ++ [v]) = if v = x then some 0 else (pls x l).map (· + 1)
  | [], h => by rw [List.nil_append, pls, pls]; split <;> rfl
  | y :: ys, h => by
    rw [List.mem_cons, not_or] at h
    rw [List.cons_append, pls, pls, pls_snoc h.2]
    by_cases h1 : y = x
    · rw [if_pos h1, if_pos h1, if_neg (fun e => h.1 (e.trans h1.symm))]
      simp
    · rw [if_neg h1, if_neg h1]
theorem pls_at {x : Int} : ∀ {l : List Int} {p : Int}, pls x l = some p → l[l.length - 1 - p.toNat]? = some x
  | y :: ys, p, h => by
    have hlt := pls_lt h
    rw [pls] at h
    split at h
    · rename_i e
      cases h
      rw [show (y :: ys).length - 1 - ((ys.length : Int)).toNat = 0 by simp]
      simp [e]
    · have h1 := pls_lt h
      have := pls_at h
      rw [List.length_cons, show ys.length + 1 - 1 - p.toNat = (ys.length - 1 - p.toNat) + 1 by omega, List.getElem?_cons_succ]
      exact this
theorem at_pls {x : Int} : ∀ {l : List Int} (j : Nat), l.Nodup → l[j]? = some x → pls x l = some ((l.length : Int) - 1 - j)
  | y :: ys, 0, hn, h => by
    simp only [List.getElem?_cons_zero, Option.some.injEq] at h
    rw [pls, if_pos h, List.length_cons]
    congr 1; omega
  | y :: ys, j + 1, hn, h => by
    rw [List.getElem?_cons_succ] at h
    rw [List.nodup_cons] at hn
    rw [pls, if_neg (fun e => hn.1 (by rw [e]; exact List.mem_of_getElem? h)), at_pls j hn.2 h, List.length_cons]
    congr 1; omega

/-- are these all from 0 to below n, each another one? -/
def vB (n : Int) : List Int → List Int → Bool
  | _, [] => true
  | seen, v :: vs => (decide (0 ≤ v) && decide (v < n) && !seen.contains v) && vB n (seen ++ [v]) vs
theorem vB_iff (n : Int) : ∀ (vs seen : List Int), seen.Nodup → (vB n seen vs = true ↔ (∀ v ∈ vs, 0 ≤ v ∧ v < n) ∧ (seen ++ vs).Nodup)
  | [], seen, h => by simp [vB, h]
  | v :: vs, seen, h => by
    rw [vB, Bool.and_eq_true, Bool.and_eq_true, Bool.and_eq_true, decide_eq_true_eq, decide_eq_true_eq]
    by_cases hm : v ∈ seen
    · constructor
      · rintro ⟨⟨_, h2⟩, _⟩; simp [hm] at h2
      · rintro ⟨_, h2⟩
        exact absurd rfl ((List.nodup_append.1 h2).2.2 v hm v (List.mem_cons_self ..))
    · have hs : (seen ++ [v]).Nodup := by
        rw [List.nodup_append]
        exact ⟨h, by simp, fun a ha b hb e => hm (by rw [List.mem_singleton.1 hb] at e; exact e ▸ ha)⟩
      rw [vB_iff n vs (seen ++ [v]) hs, List.append_assoc, List.singleton_append]
      constructor
      · rintro ⟨⟨⟨h0, h1⟩, _⟩, h2, h3⟩
        refine ⟨fun x hx => ?_, h3⟩
        rcases List.mem_cons.1 hx with rfl | hx
        · exact ⟨h0, h1⟩
        · exact h2 x hx
      · rintro ⟨h1, h2⟩
        have := h1 v (List.mem_cons_self ..)
        exact ⟨⟨this, by simp [hm]⟩, fun x hx => h1 x (List.mem_cons_of_mem _ hx), h2⟩
theorem vB_top {n : Int} {vs : List Int} : vB n [] vs = true ↔ (∀ v ∈ vs, 0 ≤ v ∧ v < n) ∧ vs.Nodup := by
  rw [vB_iff n vs [] List.nodup_nil, List.nil_append]

/-- what a free variable becomes -/
def igo (vs : List Int) (n x : Int) : Option Int := if n ≤ x then some (x - n + vs.length) else pls x vs
/-- it, with wrap-round -/
def igW (vs : List Int) (n x : Int) : Option Int := if n ≤ x then some (wrap64 (wrap64 (x - n) + vs.length)) else pls x vs
theorem igo_bd {vs : List Int} {n x y M : Int} (hM : 0 ≤ M) (hx : x ≤ M) (hn : 0 ≤ n) (h : igo vs n x = some y) : 0 ≤ y ∧ y ≤ M + vs.length := by
  unfold igo at h
  split at h
  · cases h; omega
  · have := pls_lt h; omega
theorem igW_eq {vs : List Int} {n x : Int} (h0 : 0 ≤ x) (hx : x ≤ 1125899906842624) (hn : 0 ≤ n ∧ n ≤ 1000) (hl : (vs.length : Int) ≤ 1099511627776) : igW vs n x = igo vs n x := by
  unfold igW igo
  split
  · rw [wrap_small (x := x - n) (by omega) (by omega), wrap_small (by omega) (by omega)]
  · rfl

mutual
/-- a term whose free variables have become others -/
def ivT (g : Int → Option Int) : T → Int → Option T
  | .node k h xs, s => (if k = 4 ∧ s ≤ h then (g (h - s)).map (fun y => y + s) else some h).bind fun h' => (ivL g k xs.length xs 0 s).map (.node k h')
def ivL (g : Int → Option Int) (k : Int) (n : Nat) : List T → Nat → Int → Option (List T)
  | [], _, _ => some []
  | t :: ts, i, s => (ivT g t (s + bd k n i)).bind fun u => (ivL g k n ts (i + 1) s).map (u :: ·)
end
mutual
theorem rn_iv {tf g : Int → Option Int} {M : Int} (hM : M ≤ 1125899906842624) (hg : ∀ x, 0 ≤ x → x ≤ M → tf x = g x ∧ ∀ y, g x = some y → 0 ≤ y ∧ y ≤ 2251799813685248) : ∀ (t : T) (s : Int), okT M t → 0 ≤ s → s + nd t ≤ 1099511627776 → rn tf t s = ivT g t s
  | .node k h xs, s, ho, hs, hn => by
    rw [okT] at ho
    rw [nd] at hn
    have hh : rnH tf k h s = (if k = 4 ∧ s ≤ h then (g (h - s)).map (fun y => y + s) else some h) := by
      rw [rnH]
      by_cases hc : k = 4 ∧ s ≤ h
      · have h1 := ho.1 hc.1
        obtain ⟨e1, e2⟩ := hg (h - s) (by omega) (by omega)
        rw [if_pos hc, if_pos hc, wrap_small (by omega) (by omega), e1]
        cases hy : g (h - s) with
        | none => rfl
        | some y =>
          have := e2 y hy
          rw [Option.map_some, Option.map_some, wrap_small (by omega) (by omega)]
      · rw [if_neg hc, if_neg hc]
    rw [rn, hh, rnL_iv hM hg k _ xs 0 s ho.2 hs (by omega), ivT]
theorem rnL_iv {tf g : Int → Option Int} {M : Int} (hM : M ≤ 1125899906842624) (hg : ∀ x, 0 ≤ x → x ≤ M → tf x = g x ∧ ∀ y, g x = some y → 0 ≤ y ∧ y ≤ 2251799813685248) (k : Int) (n : Nat) : ∀ (xs : List T) (i : Nat) (s : Int), okL M xs → 0 ≤ s → s + 1 + ndL xs ≤ 1099511627776 → rnL tf k n xs i s = ivL g k n xs i s
  | [], i, s, _, _, _ => by rw [rnL, ivL]
  | t :: ts, i, s, ho, hs, hn => by
    rw [okL] at ho
    rw [ndL] at hn
    have hbd := bd_cases k n i
    rw [rnL, wrap_small (by omega) (by omega), rn_iv hM hg t _ ho.1 (by omega) (by omega), rnL_iv hM hg k n ts (i + 1) s ho.2 hs (by omega), ivL]
end
theorem ivL_len (g : Int → Option Int) (k : Int) (n : Nat) : ∀ (xs : List T) (i : Nat) (s : Int) (ys : List T), ivL g k n xs i s = some ys → ys.length = xs.length
  | [], _, _, ys, h => by rw [ivL] at h; cases h; rfl
  | t :: ts, i, s, ys, h => by
    rw [ivL, Option.bind_eq_some_iff] at h
    obtain ⟨u, _, h⟩ := h
    rw [Option.map_eq_some_iff] at h
    obtain ⟨zs, hz, rfl⟩ := h
    rw [List.length_cons, List.length_cons, ivL_len g k n ts (i + 1) s zs hz]
/-- a node, taken apart -/
theorem iv_node {g : Int → Option Int} {k h s : Int} {xs : List T} {u : T} (e : ivT g (.node k h xs) s = some u) : ∃ h' ys, u = .node k h' ys ∧ ivL g k xs.length xs 0 s = some ys ∧ ys.length = xs.length ∧ ((k = 4 ∧ s ≤ h ∧ ∃ y, g (h - s) = some y ∧ h' = y + s) ∨ (¬ (k = 4 ∧ s ≤ h) ∧ h' = h)) := by
  rw [ivT, Option.bind_eq_some_iff] at e
  obtain ⟨h', e1, e2⟩ := e
  rw [Option.map_eq_some_iff] at e2
  obtain ⟨ys, e2, rfl⟩ := e2
  refine ⟨h', ys, rfl, e2, ivL_len _ _ _ _ _ _ _ e2, ?_⟩
  by_cases hc : k = 4 ∧ s ≤ h
  · rw [if_pos hc, Option.map_eq_some_iff] at e1
    obtain ⟨y, e3, rfl⟩ := e1
    exact .inl ⟨hc.1, hc.2, y, e3, rfl⟩
  · rw [if_neg hc] at e1
    cases e1
    exact .inr ⟨hc, rfl⟩
theorem iv_cons {g : Int → Option Int} {k s : Int} {n i : Nat} {t : T} {ts us : List T} (e : ivL g k n (t :: ts) i s = some us) : ∃ u vs, us = u :: vs ∧ ivT g t (s + bd k n i) = some u ∧ ivL g k n ts (i + 1) s = some vs := by
  rw [ivL, Option.bind_eq_some_iff] at e
  obtain ⟨u, e1, e2⟩ := e
  rw [Option.map_eq_some_iff] at e2
  obtain ⟨vs, e2, rfl⟩ := e2
  exact ⟨u, vs, rfl, e1, e2⟩
mutual
theorem nd_iv {g : Int → Option Int} : ∀ (t : T) (s : Int) (u : T), ivT g t s = some u → nd u = nd t ∧ dp u = dp t
  | .node k h xs, s, u, e => by
    obtain ⟨h', ys, rfl, e2, _, _⟩ := iv_node e
    have := ndL_iv k xs.length xs 0 s ys e2
    rw [nd, nd, dp, dp, this.1, this.2]
    exact ⟨rfl, rfl⟩
theorem ndL_iv {g : Int → Option Int} (k : Int) (n : Nat) : ∀ (xs : List T) (i : Nat) (s : Int) (ys : List T), ivL g k n xs i s = some ys → ndL ys = ndL xs ∧ dpL ys = dpL xs
  | [], _, _, ys, e => by rw [ivL] at e; cases e; exact ⟨rfl, rfl⟩
  | t :: ts, i, s, ys, e => by
    obtain ⟨u, vs, rfl, e1, e2⟩ := iv_cons e
    have h1 := nd_iv t _ u e1
    have h2 := ndL_iv k n ts (i + 1) s vs e2
    rw [ndL, ndL, dpL, dpL, h1.1, h1.2, h2.1, h2.2]
    exact ⟨rfl, rfl⟩
end
mutual
theorem ok_iv {g : Int → Option Int} {M B : Int} (hg : ∀ x, 0 ≤ x → x ≤ M → ∀ y, g x = some y → 0 ≤ y ∧ y ≤ x + B) (hB : 0 ≤ B) : ∀ (t : T) (s : Int) (u : T), 0 ≤ s → okT M t → ivT g t s = some u → okT (M + B) u
  | .node k h xs, s, u, hs, ho, e => by
    rw [okT] at ho
    obtain ⟨h', ys, rfl, e2, _, e3⟩ := iv_node e
    rw [okT]
    refine ⟨fun hk => ?_, okL_iv hg hB k xs.length xs 0 s ys hs ho.2 e2⟩
    have h1 := ho.1 hk
    rcases e3 with ⟨_, hle, y, hy, rfl⟩ | ⟨_, rfl⟩
    · have := hg (h - s) (by omega) (by omega) y hy
      omega
    · omega
theorem okL_iv {g : Int → Option Int} {M B : Int} (hg : ∀ x, 0 ≤ x → x ≤ M → ∀ y, g x = some y → 0 ≤ y ∧ y ≤ x + B) (hB : 0 ≤ B) (k : Int) (n : Nat) : ∀ (xs : List T) (i : Nat) (s : Int) (ys : List T), 0 ≤ s → okL M xs → ivL g k n xs i s = some ys → okL (M + B) ys
  | [], _, _, ys, _, _, e => by rw [ivL] at e; cases e; rw [okL]; trivial
  | t :: ts, i, s, ys, hs, ho, e => by
    rw [okL] at ho
    obtain ⟨u, vs, rfl, e1, e2⟩ := iv_cons e
    have hbd := bd_cases k n i
    rw [okL]
    exact ⟨ok_iv hg hB t _ u (by omega) ho.1 e1, okL_iv hg hB k n ts (i + 1) s vs hs ho.2 e2⟩
end
mutual
theorem nodB_iv {g : Int → Option Int} {M : Int} (hg : ∀ x, 0 ≤ x → x ≤ M → ∀ y, g x = some y → 0 ≤ y) : ∀ (t : T) (s : Int) (u : T), 0 ≤ s → okT M t → nodB t = true → ivT g t s = some u → nodB u = true
  | .node k h xs, s, u, hs, ho, hn, e => by
    rw [okT] at ho
    rw [nodB, Bool.and_eq_true] at hn
    obtain ⟨h', ys, rfl, e2, hl, e3⟩ := iv_node e
    rw [nodB, Bool.and_eq_true, hl]
    refine ⟨?_, nodL_iv hg k xs.length xs 0 s ys hs ho.2 hn.2 e2⟩
    rcases e3 with ⟨rfl, hle, y, hy, rfl⟩ | ⟨_, rfl⟩
    · have h1 := ho.1 rfl
      have h2 := hg (h - s) (by omega) (by omega) y hy
      simp [okN]; omega
    · exact hn.1
theorem nodL_iv {g : Int → Option Int} {M : Int} (hg : ∀ x, 0 ≤ x → x ≤ M → ∀ y, g x = some y → 0 ≤ y) (k : Int) (n : Nat) : ∀ (xs : List T) (i : Nat) (s : Int) (ys : List T), 0 ≤ s → okL M xs → nodL xs = true → ivL g k n xs i s = some ys → nodL ys = true
  | [], _, _, ys, _, _, _, e => by rw [ivL] at e; cases e; rw [nodL]
  | t :: ts, i, s, ys, hs, ho, hn, e => by
    rw [okL] at ho
    rw [nodL, Bool.and_eq_true] at hn
    obtain ⟨u, vs, rfl, e1, e2⟩ := iv_cons e
    have hbd := bd_cases k n i
    rw [nodL, nodB_iv hg t _ u (by omega) ho.1 hn.1 e1, nodL_iv hg k n ts (i + 1) s vs hs ho.2 hn.2 e2]
    rfl
end
mutual
/-- back again -/
theorem iv_iv {f g : Int → Option Int} {M : Int} (hg : ∀ x, 0 ≤ x → x ≤ M → ∀ y, g x = some y → 0 ≤ y ∧ f y = some x) : ∀ (t : T) (s : Int) (u : T), 0 ≤ s → okT M t → ivT g t s = some u → ivT f u s = some t
  | .node k h xs, s, u, hs, ho, e => by
    rw [okT] at ho
    obtain ⟨h', ys, rfl, e2, hl, e3⟩ := iv_node e
    rw [ivT, hl, ivL_iv hg k xs.length xs 0 s ys hs ho.2 e2]
    rcases e3 with ⟨rfl, hle, y, hy, rfl⟩ | ⟨hc, rfl⟩
    · have h1 := ho.1 rfl
      obtain ⟨h2, h3⟩ := hg (h - s) (by omega) (by omega) y hy
      rw [if_pos ⟨rfl, by omega⟩, show y + s - s = y by omega, h3, Option.map_some, Option.bind_some, Option.map_some, show h - s + s = h by omega]
    · rw [if_neg hc, Option.bind_some, Option.map_some]
theorem ivL_iv {f g : Int → Option Int} {M : Int} (hg : ∀ x, 0 ≤ x → x ≤ M → ∀ y, g x = some y → 0 ≤ y ∧ f y = some x) (k : Int) (n : Nat) : ∀ (xs : List T) (i : Nat) (s : Int) (ys : List T), 0 ≤ s → okL M xs → ivL g k n xs i s = some ys → ivL f k n ys i s = some xs
  | [], _, _, ys, _, _, e => by rw [ivL] at e; cases e; rw [ivL]
  | t :: ts, i, s, ys, hs, ho, e => by
    rw [okL] at ho
    obtain ⟨u, vs, rfl, e1, e2⟩ := iv_cons e
    have hbd := bd_cases k n i
    rw [ivL, iv_iv hg t _ u (by omega) ho.1 e1, ivL_iv hg k n ts (i + 1) s vs hs ho.2 e2]
    rfl
end
mutual
/-- what changes nothing -/
theorem iv_id {g : Int → Option Int} {M : Int} (hg : ∀ x, 0 ≤ x → x ≤ M → g x = some x) : ∀ (t : T) (s : Int), 0 ≤ s → okT M t → ivT g t s = some t
  | .node k h xs, s, hs, ho => by
    rw [okT] at ho
    rw [ivT, ivL_id hg k xs.length xs 0 s hs ho.2]
    by_cases hc : k = 4 ∧ s ≤ h
    · have h1 := ho.1 hc.1
      rw [if_pos hc, hg (h - s) (by omega) (by omega), Option.map_some, Option.bind_some, Option.map_some, show h - s + s = h by omega]
    · rw [if_neg hc, Option.bind_some, Option.map_some]
theorem ivL_id {g : Int → Option Int} {M : Int} (hg : ∀ x, 0 ≤ x → x ≤ M → g x = some x) (k : Int) (n : Nat) : ∀ (xs : List T) (i : Nat) (s : Int), 0 ≤ s → okL M xs → ivL g k n xs i s = some xs
  | [], _, _, _, _ => by rw [ivL]
  | t :: ts, i, s, hs, ho => by
    rw [okL] at ho
    have hbd := bd_cases k n i
    rw [ivL, iv_id hg t _ (by omega) ho.1, ivL_id hg k n ts (i + 1) s hs ho.2]
    rfl
end
mutual
/-- under no variables -/
theorem iv_dn (n : Int) : ∀ (t : T) (s : Int), ivT (igo [] n) t s = dnT n t s
  | .node k h xs, s => by
    rw [ivT, dnT, ivL_dn n k xs.length xs 0 s]
    by_cases hc : k = 4 ∧ s ≤ h
    · rw [if_pos hc, igo]
      by_cases hd : n ≤ h - s
      · rw [if_pos hd, if_neg (by omega), if_pos hc, Option.map_some, Option.bind_some, List.length_nil, show h - s - n + ((0 : Nat) : Int) + s = h - n by omega]
      · rw [if_neg hd, if_pos ⟨hc.1, hc.2, by omega⟩, pls]
        rfl
    · rw [if_neg hc, if_neg (fun e => hc ⟨e.1, e.2.1⟩), if_neg hc, Option.bind_some]
theorem ivL_dn (n k : Int) (m : Nat) : ∀ (xs : List T) (i : Nat) (s : Int), ivL (igo [] n) k m xs i s = dnL n k m xs i s
  | [], _, _ => by rw [ivL, dnL]
  | t :: ts, i, s => by rw [ivL, dnL, iv_dn n t, ivL_dn n k m ts]
end

/-- what is told of a term that is nothing -/
def ivO : Option T → Except Int T
  | some u => .ok u
  | none => .error 7
/-- what Invert tells: a term, or an error -/
def ivR (t : T) (vs : List Int) (n : Int) : Except Int T :=
  if (decide (0 ≤ n) && decide (n ≤ 1000) && mayB t && vB n [] vs) = true then ivO (rn (igW vs n) t 0) else .error 1
def ivA : Except Int T → T
  | .ok u => u
  | .error _ => .node 0 0 []
def ivE : Except Int T → Int
  | .ok _ => 0
  | .error e => e
end Go.Proofs.YtkakfckjmmmjgaaGreat

/-
  Contracts of package invert: where each entry goes, what a free variable becomes, and Invert. No statement is proved here.
-/
namespace Go.Proofs.YtkakfckjmmmjgaaGreat
open Go.ChangeShapes Go.WideShapes Go.ChangeAt Go.RowKit
set_option linter.unusedVariables false

/-- where entries go, in memory -/
structure Inv (vs : List Int) (N b : Nat) (w : World) : Prop where
  row : ∃ cs, Box w b 3 cs ∧ cs.size = N ∧ ∀ x, x < N → cs[x]? = some (.int .i64 ((pls (x : Int) vs).getD (-1)))
theorem Inv.keep {vs : List Int} {N b : Nat} {w w' : World} (h : Inv vs N b w) (hb : Below w.heap.size w w') : Inv vs N b w' := by
  obtain ⟨cs, h1, h2, h3⟩ := h.row
  exact ⟨cs, h1.keep hb h1.lt, h2, h3⟩
theorem entersGoes (args : Array Value) (W : World) : Sem.run Tryz.prog (callFunc 93 args) W = .ok (.enter 93 args) W := by
  simp [callFunc, go_sem, Tryz.func93, Tryz.f93]

set_option maxRecDepth 100000 in
set_option maxHeartbeats 4000000 in
theorem goesM (vs : List Int) (N b : Nat) (K : Int) (hK : (vs.length : Int) = K) (hN : N ≤ 1000) (w0 : World) (hi : Inv vs N b w0) : ToB 93 (.agg #[.slice (some ⟨b, 0, none⟩) N N, .int .i64 K]) (igW vs N) w0 := by
  intro x w hx hbw
  have hi' := hi.keep hbw
  obtain ⟨cs, h1, h2, h3⟩ := hi'.row
  have hb : Below w.heap.size w (w.alloc (.cells #[.slice (some ⟨b, 0, none⟩) N N, .int .i64 K] 122)) := (Below.refl _ _).alloc (Nat.le_refl _) _
  by_cases hle : (N : Int) ≤ x
  · have d1 : decide ((N : Int) ≤ x) = true := by simpa using hle
    have e : igW vs N x = some (wrap64 (wrap64 (x - N) + K)) := by rw [igW, if_pos hle, hK]
    rw [e]
    clear h3 hle
    go_enter Tryz.func93, Tryz.ntmps93
    go_wp2_with fail
    go_ret2
    exact ⟨_, rfl, (fun f h => by cases h; rfl), hb⟩
  · have d1 : decide ((N : Int) ≤ x) = false := by simpa using hle
    obtain ⟨y, rfl⟩ : ∃ y : Nat, x = y := ⟨x.toNat, by omega⟩
    have hy : y < N := by omega
    have hi1 : (y : Int) < N := by omega
    have e : igW vs N y = pls y vs := by rw [igW, if_neg hle]
    have hc := h1.cell y
    rw [h3 y hy] at hc
    have hneg : ∀ p, pls (y : Int) vs = some p → p ≠ -1 := fun p h => by have := pls_lt h; omega
    rw [e]
    generalize pls (y : Int) vs = P at *
    clear h3 hle e
    cases P with
    | none =>
      simp only [Option.getD_none] at hc
      have hc' := (((Below.refl _ w).alloc (Nat.le_refl _) (.cells #[.slice (some ⟨b, 0, none⟩) N N, .int .i64 K] 122)).cell (cell_lt hc)).trans hc
      go_enter Tryz.func93, Tryz.ntmps93
      go_wp2_with fail
      go_ret2
      exact ⟨_, rfl, (fun f h => by cases h), hb⟩
    | some p =>
      simp only [Option.getD_some] at hc
      have hc' := (((Below.refl _ w).alloc (Nat.le_refl _) (.cells #[.slice (some ⟨b, 0, none⟩) N N, .int .i64 K] 122)).cell (cell_lt hc)).trans hc
      have hp := hneg p rfl
      have e2 : (p != -1) = true := by simpa using hp
      clear hneg
      go_enter Tryz.func93, Tryz.ntmps93
      go_wp2_with fail
      go_ret2
      exact ⟨_, rfl, (fun f h => by cases h; rfl), hb⟩

theorem pls_end {vs : List Int} {j : Nat} {v : Int} (hv : vs[j]? = some v) (hn : v ∉ vs.take j) (x : Int) : ((pls x (vs.take (j + 1))).map (· + ((vs.length : Int) - (j + 1 : Nat)))).getD (-1) = if x = v then (vs.length : Int) - 1 - j else ((pls x (vs.take j)).map (· + ((vs.length : Int) - j))).getD (-1) := by
  have hj := (List.getElem?_eq_some_iff.1 hv).1
  obtain ⟨_, e⟩ := List.getElem?_eq_some_iff.1 hv
  rw [List.take_succ_eq_append_getElem hj, e, pls_snoc hn]
  by_cases h : v = x
  · rw [if_pos h, if_pos h.symm, Option.map_some, Option.getD_some]; omega
  · rw [if_neg h, if_neg (fun e => h e.symm), Option.map_map]
    congr 2
    funext p
    simp only [Function.comp]
    omega
/-- what holds at the head of inverseOf's loop -/
structure IoI (vs : List Int) (N : Nat) (w : World) (b : Nat) (j : Nat) (wr : World) : Prop where
  res : Box wr w.heap.size 122 #[.slice none 0 0, .int .i64 0]
  row : ∃ cs, Box wr b 3 cs ∧ cs.size = N ∧ ∀ x, x < N → cs[x]? = some (.int .i64 (((pls (x : Int) (vs.take j)).map (· + ((vs.length : Int) - j))).getD (-1)))
  below : Below w.heap.size w wr
  good : vB N (vs.take j) (vs.drop j) = vB N [] vs
  dis : (vs.take j).Nodup

/-- how inverseOf ends -/
def OfEnd (vs : List Int) (n : Int) (w : World) (e : Ending) (w' : World) : Prop :=
  Below w.heap.size w w' ∧ ((vB n [] vs = true ∧ ∃ b, e = .returned (.tuple #[.agg #[.slice (some ⟨b, 0, none⟩) n.toNat n.toNat, .int .i64 vs.length], .bool true]) ∧ Inv vs n.toNat b w') ∨
    (vB n [] vs = false ∧ e = .returned (.tuple #[.agg #[.slice none 0 0, .int .i64 0], .bool false])))
set_option maxRecDepth 100000 in
set_option maxHeartbeats 4000000 in
theorem inverseC (vs : List Int) (A : Option Addr) (nv cv N : Nat) (w : World) (hN : N ≤ 1000) (hn : vs.length = nv) (hc : nv ≤ cv) (hm : cv ≤ maxLen) (hx : ∀ i z, vs[i]? = some z → ∃ b o, A = some ⟨b, o, none⟩ ∧ w.cell? ⟨b, o + i, none⟩ = some (.int .i64 z)) :
    Calls Tryz.prog 91 #[.slice A nv cv, .int .i64 N] w (OfEnd vs N w) := by
  have HX := Lib.hid hx; clear hx
  have HN := Lib.hid hn; clear hn
  unfold maxLen at hm
  have hb : Below w.heap.size w ((w.alloc (.cells #[.slice none 0 0, .int .i64 0] 122)).alloc (.cells #[.int .i64 (-1)] 3)) := ((Below.refl _ _).alloc (Nat.le_refl _) _).alloc (by simp) _
  have x1 : Box ((w.alloc (.cells #[.slice none 0 0, .int .i64 0] 122)).alloc (.cells #[.int .i64 (-1)] 3)) w.heap.size 122 #[.slice none 0 0, .int .i64 0] := (Box.new _ _ _).alloc _
  have x2 : Box ((w.alloc (.cells #[.slice none 0 0, .int .i64 0] 122)).alloc (.cells #[.int .i64 (-1)] 3)) (w.heap.size + 1) 3 #[.int .i64 (-1)] := (Box.new (w.alloc _) _ _).at (by simp)
  obtain ⟨W, hW⟩ : ∃ W, (w.alloc (.cells #[.slice none 0 0, .int .i64 0] 122)).alloc (.cells #[.int .i64 (-1)] 3) = W := ⟨_, rfl⟩
  rw [hW] at hb x1 x2
  have HWS : Hid (w.heap.size + 2 ≤ W.heap.size) := Lib.hid (by rw [← hW]; simp)
  have HWW := Lib.hid hW; clear hW
  have HR := Lib.hid (repeatC (w.heap.size + 1) 0 N (-1) W hN (x2.one).1)
  go_enter Tryz.func91, Tryz.ntmps91
  go_wp2_with fail
  rw [HWW.out]
  clear HWW
  refine HR.out.mono ?_
  rintro e w1 ⟨rfl, hrp⟩
  have HI : Hid (IoI vs N w W.heap.size 0 w1) := Lib.hid (by
    obtain ⟨cs, h1, h2, h3⟩ := hrp.box
    exact ⟨x1.keep hrp.below x1.lt, ⟨cs, h1, h2, fun x hx => by rw [h3 x hx, List.take_zero, pls]; rfl⟩, hb.trans (hrp.below.mono hb.size), by simp, by simp⟩)
  clear hrp x1 x2 HR
  clear hb
  go_wp2_with fail
  go_loopw [14] (fun i wr => ∃ (j : Nat), i = .int .i64 j ∧ j ≤ nv ∧ Hid (IoI vs N w W.heap.size j wr)) (fun i _ => nv - (Go.RowKit.intOf i).toNat)
  case atStart => exact ⟨0, rfl, Nat.zero_le _, HI⟩
  case round =>
    clear HI
    obtain ⟨j, rfl, hj, HI⟩ := hrel
    by_cases hlt : j < nv
    · have hi0 : (0 : Int) ≤ j := by omega
      have hi1 : (j : Int) < nv := by omega
      obtain ⟨v, hv⟩ := at_of HN.out hlt
      obtain ⟨b, o, rfl, hc0⟩ := HX.out j v hv
      have hc1 := (HI.out.below.cell (cell_lt hc0)).trans hc0
      clear hc0
      have hL : (vs.length : Int) = nv := by rw [HN.out]
      have hbl : Below w.heap.size w wr := HI.out.below
      have hrs := HI.out.res
      obtain ⟨r0, r1⟩ := hrs.two
      have lr := hrs.lt
      have f0 := hrs.frozen 0
      have f1 := hrs.frozen 1
      by_cases hv0 : v < 0
      · have d0 : decide (v < 0) = true := by simpa using hv0
        have hbad : vB N [] vs = false := by rw [← HI.out.good, drop_at hv, vB]; simp; intro h; omega
        have HBAD := Lib.hid hbad; clear hbad hv0
        go_wp2_with fail
        refine bodyPost_ret (v := .tuple #[.agg #[.slice none 0 0, .int .i64 0], .bool false]) (by simp [results, Tryz.results91, go_sem, r0, r1]) rfl ?_
        exact ⟨(hbl.setCell (by dsimp only; omega) _).setCell (by dsimp only; omega) _, .inr ⟨HBAD.out, rfl⟩⟩
      · have d0 : decide (v < 0) = false := by simpa using hv0
        by_cases hvN : (N : Int) ≤ v
        · have d1 : decide ((N : Int) ≤ v) = true := by simpa using hvN
          have hbad : vB N [] vs = false := by rw [← HI.out.good, drop_at hv, vB]; simp; intro h h'; omega
          have HBAD := Lib.hid hbad; clear hbad hv0 hvN
          go_wp2_with fail
          refine bodyPost_ret (v := .tuple #[.agg #[.slice none 0 0, .int .i64 0], .bool false]) (by simp [results, Tryz.results91, go_sem, r0, r1]) rfl ?_
          exact ⟨(hbl.setCell (by dsimp only; omega) _).setCell (by dsimp only; omega) _, .inr ⟨HBAD.out, rfl⟩⟩
        · have d1 : decide ((N : Int) ≤ v) = false := by simpa using hvN
          obtain ⟨y, rfl⟩ : ∃ y : Nat, v = y := ⟨v.toNat, by omega⟩
          have hyN : y < N := by omega
          have hy0 : (0 : Int) ≤ y := by omega
          have hy1 : (y : Int) < N := by omega
          obtain ⟨cs, h1, h2, h3⟩ := HI.out.row
          have hcy := h1.cell y
          rw [h3 y hyN] at hcy
          have h3y := h3 y hyN
          by_cases hmem : (y : Int) ∈ vs.take j
          · obtain ⟨p, hp⟩ : ∃ p, pls (y : Int) (vs.take j) = some p := by
              cases hq : pls (y : Int) (vs.take j) with
              | none => exact absurd hmem (pls_none.1 hq)
              | some p => exact ⟨p, rfl⟩
            have hpl := pls_lt hp
            rw [hp, Option.map_some, Option.getD_some] at hcy
            have hjl : j ≤ vs.length := by have := HN.out; omega
            obtain ⟨q, hq⟩ : ∃ q, q = p + ((vs.length : Int) - j) := ⟨_, rfl⟩
            rw [← hq] at hcy
            have hq1 : q ≠ -1 := by omega
            have e2 : (q != -1) = true := by simpa using hq1
            have hbad : vB N [] vs = false := by rw [← HI.out.good, drop_at hv, vB]; simp [hmem]
            have HBAD := Lib.hid hbad; clear hbad hv0 hvN h3 h3y hp hpl hq hmem
            go_wp2_with fail
            refine bodyPost_ret (v := .tuple #[.agg #[.slice none 0 0, .int .i64 0], .bool false]) (by simp [results, Tryz.results91, go_sem, r0, r1]) rfl ?_
            exact ⟨(hbl.setCell (by dsimp only; omega) _).setCell (by dsimp only; omega) _, .inr ⟨HBAD.out, rfl⟩⟩
          · rw [pls_none.2 hmem, Option.map_none, Option.getD_none] at hcy
            have hgood : vB N (vs.take (j + 1)) (vs.drop (j + 1)) = vB N [] vs := by
              rw [← HI.out.good, drop_at hv, vB]
              have hjl := (List.getElem?_eq_some_iff.1 hv).1
              have ev := (List.getElem?_eq_some_iff.1 hv).2
              rw [List.take_succ_eq_append_getElem hjl, ev]
              simp [hmem, hyN]
            have hdis : (vs.take (j + 1)).Nodup := by
              have hjl := (List.getElem?_eq_some_iff.1 hv).1
              have ev := (List.getElem?_eq_some_iff.1 hv).2
              rw [List.take_succ_eq_append_getElem hjl, ev, List.nodup_append]
              exact ⟨HI.out.dis, by simp, fun a ha b hb e => hmem (by rw [List.mem_singleton.1 hb] at e; exact e ▸ ha)⟩
            have hrow : ∀ x, x < N → (cs.setIfInBounds y (.int .i64 ((nv : Int) - 1 - j)))[x]? = some (.int .i64 (((pls (x : Int) (vs.take (j + 1))).map (· + ((vs.length : Int) - (j + 1 : Nat)))).getD (-1))) := fun x hx => by
              rw [pls_end hv hmem, Array.getElem?_setIfInBounds]
              by_cases hxy : y = x
              · subst hxy
                rw [if_pos rfl, if_pos (by omega), if_pos rfl, hL]
              · rw [if_neg hxy, if_neg (by omega)]
                exact h3 x hx
            have HG := Lib.hid (And.intro hgood (And.intro hdis hrow))
            have hw1 : IntKind.i64.wrap ((nv : Int) - 1) = (nv : Int) - 1 := by rw [wrapEq]; exact wrap_small (by omega) (by omega)
            have hw2 : IntKind.i64.wrap ((nv : Int) - 1 - j) = (nv : Int) - 1 - j := by rw [wrapEq]; exact wrap_small (by omega) (by omega)
            have lb := h1.lt
            have fy := h1.frozen y
            have HH2 := Lib.hid h2
            clear hgood hdis hrow h3 h3y hmem hv0 hvN h2
            go_wp2_with fail
            go_roundw
            case rel =>
              have hws := HWS.out
              exact ⟨j + 1, by go_num, by omega, Lib.hid ⟨hrs.other (by dsimp only; omega) _, ⟨_, h1.setAt y _, by simp [HH2.out], HG.out.2.2⟩, hbl.setCell (by dsimp only; omega) _, HG.out.1, HG.out.2.1⟩⟩
            case measure => simp [Go.RowKit.intOf]; omega
    · obtain rfl : j = nv := by omega
      have hgood : vB N [] vs = true := by rw [← HI.out.good, drop_all HN.out (Nat.le_refl _), vB]
      have hbl : Below w.heap.size w wr := HI.out.below
      have hrs := HI.out.res
      obtain ⟨r0, r1⟩ := hrs.two
      have lr := hrs.lt
      have f0 := hrs.frozen 0
      have f1 := hrs.frozen 1
      obtain ⟨cs, h1, h2, h3⟩ := HI.out.row
      have HG := Lib.hid hgood; clear hgood
      have hinv : Inv vs N W.heap.size wr := ⟨cs, h1, h2, fun x hx => by
        rw [h3 x hx, List.take_of_length_le (by have := HN.out; omega), HN.out]
        cases pls (x : Int) vs with
        | none => rfl
        | some p => simp⟩
      have HV := Lib.hid hinv; clear hinv h3
      go_wp2_with fail
      refine bodyPost_ret (v := .tuple #[.agg #[.slice (some ⟨W.heap.size, 0, none⟩) N N, .int .i64 j], .bool true]) (by simp [results, Tryz.results91, go_sem, r0, r1]) rfl ?_
      refine ⟨(hbl.setCell (by dsimp only; omega) _).setCell (by dsimp only; omega) _, .inl ⟨HG.out, W.heap.size, by rw [HN.out]; rfl, ?_⟩⟩
      obtain ⟨cs, h1, h2, h3⟩ := HV.out.row
      have hws := HWS.out
      exact ⟨cs, (h1.other (by dsimp only; omega) _).other (by dsimp only; omega) _, h2, h3⟩
end Go.Proofs.YtkakfckjmmmjgaaGreat

/-
  Contract of package invert's Invert. No statement is proved here.
-/
namespace Go.Proofs.YtkakfckjmmmjgaaGreat
open Go.ChangeShapes Go.WideShapes Go.ChangeAt Go.RowKit
set_option linter.unusedVariables false

/-- how Invert ends -/
def IEnd (R : Except Int T) (w : World) (e : Ending) (w' : World) : Prop :=
  ∃ k h A n c, e = .returned (.tuple #[.agg #[.int .i64 k, .int .i64 h, .slice A n c], .int .i64 (ivE R)]) ∧ RdF (fun b => w.heap.size ≤ b) w' (ivA R) (.agg #[.int .i64 k, .int .i64 h, .slice A n c]) ∧ Below w.heap.size w w'
theorem rd_nought {ok : Nat → Prop} {w : World} : RdF ok w (.node 0 0 []) (.agg #[.int .i64 0, .int .i64 0, .slice none 0 0]) := RdF_node.2 ⟨none, 0, 0, rfl, by decide, by decide, rfl, Nat.le_refl _, Nat.zero_le _, fun i t h => by simp at h⟩
theorem ivR_bad {t : T} {vs : List Int} {n : Int} (h : (decide (0 ≤ n) && decide (n ≤ 1000) && mayB t && vB n [] vs) = false) : ivR t vs n = .error 1 := by rw [ivR, if_neg (by rw [h]; exact Bool.false_ne_true)]
theorem IEnd.bad {R : Except Int T} {w w' : World} {x : Int} (h : R = .error x) (hb : Below w.heap.size w w') : IEnd R w (.returned (.tuple #[.agg #[.int .i64 0, .int .i64 0, .slice none 0 0], .int .i64 x])) w' := by
  subst h
  exact ⟨0, 0, none, 0, 0, rfl, rd_nought, hb⟩

set_option maxRecDepth 100000 in
set_option maxHeartbeats 8000000 in
theorem InvertC (t : T) (vs : List Int) (A : Option Addr) (nv cv : Nat) (x : Int) (v : Value) (w : World) (hvt : Rd w t v) (hs : nd t ≤ 1048576) (hn : vs.length = nv) (hc : nv ≤ cv) (hm : cv ≤ maxLen) (hx : ∀ i z, vs[i]? = some z → ∃ b o, A = some ⟨b, o, none⟩ ∧ w.cell? ⟨b, o + i, none⟩ = some (.int .i64 z)) :
    Calls Tryz.prog 71 #[v, .slice A nv cv, .int .i64 x] w (IEnd (ivR t vs x) w) := by
  obtain ⟨k, h, At, nt, ct, rfl⟩ := hvt.full
  have HX := Lib.hid hx; clear hx
  have HN := Lib.hid hn; clear hn
  have HM := Lib.hid hm; clear hm
  have HC := Lib.hid hc; clear hc
  have HV := Lib.hid hvt; clear hvt
  have HS := Lib.hid hs; clear hs
  obtain ⟨W, hW⟩ : ∃ W, (w.alloc (.cells #[.int .i64 k, .int .i64 h, .slice At nt ct] 24)).alloc (.cells #[.int .i64 0, .int .i64 0, .slice none 0 0] 24) = W := ⟨_, rfl⟩
  have hb : Below w.heap.size w W := by rw [← hW]; exact ((Below.refl _ _).alloc (Nat.le_refl _) _).alloc (by simp) _
  have xT : Box W w.heap.size 24 #[.int .i64 k, .int .i64 h, .slice At nt ct] := by rw [← hW]; exact (Box.new _ _ _).alloc _
  have xR : Box W (w.heap.size + 1) 24 #[.int .i64 0, .int .i64 0, .slice none 0 0] := by rw [← hW]; exact (Box.new (w.alloc _) _ _).at (by simp)
  have HWW := Lib.hid hW; clear hW
  have HMY : Hid (∀ W', Below w.heap.size w W' → Calls Tryz.prog 14 #[.agg #[.int .i64 k, .int .i64 h, .slice At nt ct]] W' fun e w' => e = .returned (.bool (mayB t)) ∧ Below W'.heap.size W' w') := Lib.hid fun W' h' => mayC t _ _ (Rd.keep h' _ _ HV.out) HS.out
  obtain ⟨R, hR⟩ : ∃ R, R = ivR t vs x := ⟨_, rfl⟩
  rw [← hR]
  have HR := Lib.hid hR; clear hR
  obtain ⟨c0, c1, c2⟩ := xT.three
  obtain ⟨r0, r1, r2⟩ := xR.three
  have lR := xR.lt
  have f0 := xR.frozen 0
  have f1 := xR.frozen 1
  have f2 := xR.frozen 2
  by_cases h0 : x < 0
  · have d0 : decide (x < 0) = true := by simpa using h0
    have hbad := Lib.hid (HR.out.trans (ivR_bad (by rw [decide_eq_false (by omega)]; rfl)))
    clear h0
    go_enter Tryz.func71, Tryz.ntmps71
    go_wp2_with fail
    rw [HWW.out]
    go_wp2_with fail
    refine bodyPost_ret (v := .tuple #[.agg #[.int .i64 0, .int .i64 0, .slice none 0 0], .int .i64 1]) (by simp [results, Tryz.results71, go_sem, r0, r1, r2]) rfl ?_
    exact .bad hbad.out hb
  have d0 : decide (x < 0) = false := by simpa using h0
  by_cases h1 : 1000 < x
  · have d1 : decide (1000 < x) = true := by simpa using h1
    have hbad := Lib.hid (HR.out.trans (ivR_bad (by rw [decide_eq_false (p := x ≤ 1000) (by omega), Bool.and_false]; rfl)))
    clear h0 h1
    go_enter Tryz.func71, Tryz.ntmps71
    go_wp2_with fail
    rw [HWW.out]
    go_wp2_with fail
    refine bodyPost_ret (v := .tuple #[.agg #[.int .i64 0, .int .i64 0, .slice none 0 0], .int .i64 1]) (by simp [results, Tryz.results71, go_sem, r0, r1, r2]) rfl ?_
    exact .bad hbad.out hb
  have d1 : decide (1000 < x) = false := by simpa using h1
  obtain ⟨N, rfl⟩ : ∃ N : Nat, x = N := ⟨x.toNat, by omega⟩
  have hN : N ≤ 1000 := by omega
  clear h0 h1
  go_enter Tryz.func71, Tryz.ntmps71
  go_wp2_with fail
  rw [HWW.out]
  clear HWW c0 c1 c2 r0 r1 r2 f0 f1 f2
  refine (HMY.out W hb).mono ?_
  generalize hq : mayB t = M at *
  rintro e w1 ⟨rfl, hb1⟩
  have HMB := Lib.hid hq; clear hq
  replace xT := xT.keep hb1 xT.lt
  replace xR := xR.keep hb1 lR
  replace hb := hb.trans (hb1.mono hb.size)
  clear hb1 lR HMY
  have lR := xR.lt
  cases M
  · have hbad := Lib.hid (HR.out.trans (ivR_bad (by rw [HMB.out]; simp)))
    obtain ⟨r0, r1, r2⟩ := xR.three
    have f0 := xR.frozen 0
    have f1 := xR.frozen 1
    have f2 := xR.frozen 2
    go_wp2_with fail
    refine bodyPost_ret (v := .tuple #[.agg #[.int .i64 0, .int .i64 0, .slice none 0 0], .int .i64 1]) (by simp [results, Tryz.results71, go_sem, r0, r1, r2]) rfl ?_
    exact .bad hbad.out (below_set3 hb (by omega) _ _ _)
  go_wp2_with fail
  refine (inverseC vs A nv cv N w1 hN HN.out HC.out HM.out (fun i z hz => by obtain ⟨b, o, e, h⟩ := HX.out i z hz; exact ⟨b, o, e, (hb.cell (cell_lt h)).trans h⟩)).mono ?_
  rintro e w2 ⟨hb1, ⟨hgood, p, rfl, hinv⟩ | ⟨hbd, rfl⟩⟩
  · replace xT := xT.keep hb1 xT.lt
    replace xR := xR.keep hb1 lR
    replace hb := hb.trans (hb1.mono hb.size)
    have lR := xR.lt
    have lT := xT.lt
    rw [Int.toNat_natCast] at hinv ⊢
    have HIV := Lib.hid hinv; clear hinv
    have HGD := Lib.hid hgood; clear hgood hb1
    obtain ⟨c0, c1, c2⟩ := xT.three
    obtain ⟨K, hK⟩ : ∃ K : Int, (vs.length : Int) = K := ⟨_, rfl⟩
    rw [hK]
    have HK := Lib.hid hK; clear hK
    obtain ⟨Wb, hWb⟩ : ∃ Wb, w2.alloc (.cells #[.slice (some ⟨p, 0, none⟩) N N, .int .i64 K] 122) = Wb := ⟨_, rfl⟩
    have hbA : Below w2.heap.size w2 Wb := by rw [← hWb]; exact (Below.refl _ _).alloc (Nat.le_refl _) _
    have xI : Box Wb w2.heap.size 122 #[.slice (some ⟨p, 0, none⟩) N N, .int .i64 K] := by rw [← hWb]; exact Box.new _ _ _
    have HWB := Lib.hid hWb; clear hWb
    have hbb := hb.trans (hbA.mono hb.size)
    have HRN := Lib.hid (RenumC entersGoes t _ Wb (goesM vs N p K HK.out hN Wb (HIV.out.keep hbA)) HS.out (Rd.keep hbb _ _ HV.out))
    go_wp2_with fail
    rw [HWB.out]
    refine HRN.out.mono ?_
    generalize hq : rn (igW vs (N : Int)) t 0 = O at *
    have HO := Lib.hid hq; clear hq
    intro e w3 hE
    obtain ⟨k3, h3, A3, n3, c3, bo, rfl, hout, hb3⟩ := hE.uni
    have hbw3 := hbA.trans (hb3.mono hbA.size)
    have s2 : w.heap.size + 2 ≤ Wb.heap.size := by have := hbA.size; omega
    have s4 := hb3.size
    replace xR := xR.keep hbw3 lR
    replace hb := hb.trans (hbw3.mono hb.size)
    have s3 := hbw3.size
    have HOUT := Lib.hid hout; clear hout hE hb3 hbA hbb xI HRN HWB
    clear c0 c1 c2 lT lR hbw3
    have lR := xR.lt
    have hiv : ivR t vs N = ivO O := by
      rw [ivR, if_pos (by rw [HMB.out, HGD.out, decide_eq_true (p := (0 : Int) ≤ N) (by omega), decide_eq_true (p := (N : Int) ≤ 1000) (by omega)]; rfl), HO.out]
    have HIR := Lib.hid (HR.out.trans hiv); clear hiv
    obtain ⟨r0, r1, r2⟩ := xR.three
    have f0 := xR.frozen 0
    have f1 := xR.frozen 1
    have f2 := xR.frozen 2
    have z3 := Box.new w3 24 #[.int .i64 k3, .int .i64 h3, .slice A3 n3 c3]
    cases bo
    · have hno : O = none := by
        rcases HOUT.out with ⟨_, _, h, _⟩ | ⟨h, _, _⟩
        · cases h
        · exact h
      subst hno
      go_wp2_with fail
      refine bodyPost_ret (v := .tuple #[.agg #[.int .i64 0, .int .i64 0, .slice none 0 0], .int .i64 7]) (by simp [results, Tryz.results71, go_sem, r0, r1, r2, lR]) rfl ?_
      exact .bad HIR.out ((below_set3 hb (by omega) _ _ _).alloc (by simp; omega) _)
    · obtain ⟨u, hu, hown⟩ : ∃ u, O = some u ∧ OwT w3 Wb.heap.size u (.agg #[.int .i64 k3, .int .i64 h3, .slice A3 n3 c3]) := by
        rcases HOUT.out with ⟨u, h1, _, h3⟩ | ⟨_, h, _⟩
        · exact ⟨u, h1, h3⟩
        · cases h
      subst hu
      have HOW := Lib.hid hown; clear hown HOUT
      go_wp2_with fail
      refine bodyPost_ret (v := .tuple #[.agg #[.int .i64 k3, .int .i64 h3, .slice A3 n3 c3], .int .i64 0]) (by simp [results, Tryz.results71, go_sem, r0, r1, r2, lR]) rfl ?_
      have hR : R = .ok u := HIR.out
      refine ⟨k3, h3, A3, n3, c3, by rw [hR]; rfl, ?_, (below_set3 hb (by omega) _ _ _).alloc (by simp; omega) _⟩
      rw [hR]
      have hr := RdF.move (w' := (((w3.setCell ⟨w.heap.size + 1, 0, none⟩ (.int .i64 k3)).setCell ⟨w.heap.size + 1, 1, none⟩ (.int .i64 h3)).setCell ⟨w.heap.size + 1, 2, none⟩ (.slice A3 n3 c3)).alloc (.cells #[.int .i64 k3, .int .i64 h3, .slice A3 n3 c3] 24)) (fun g hg => (show w.heap.size ≤ g by omega)) (fun g hg hg' => (Below.heap_alloc _ _ _ (by simpa using hg')).trans (heap_other3 _ _ _ _ _ _ (by omega))) _ _ HOW.out.rdF
      exact hr
  · replace xT := xT.keep hb1 xT.lt
    replace xR := xR.keep hb1 lR
    replace hb := hb.trans (hb1.mono hb.size)
    have lR := xR.lt
    have hbad := Lib.hid (HR.out.trans (ivR_bad (by rw [hbd]; simp)))
    clear hbd hb1
    obtain ⟨r0, r1, r2⟩ := xR.three
    have f0 := xR.frozen 0
    have f1 := xR.frozen 1
    have f2 := xR.frozen 2
    go_wp2_with fail
    refine bodyPost_ret (v := .tuple #[.agg #[.int .i64 0, .int .i64 0, .slice none 0 0], .int .i64 1]) (by simp [results, Tryz.results71, go_sem, r0, r1, r2, lR]) rfl ?_
    exact .bad hbad.out ((below_set3 hb (by omega) _ _ _).alloc (by simp; omega) _)
end Go.Proofs.YtkakfckjmmmjgaaGreat

/-
  What a meta must be and substitutions: what is told, under the variables, is the term. No statement is proved here.
-/
namespace Go.Proofs.YtkakfckjmmmjgaaGreat
open Go.RowKit
set_option linter.unusedVariables false

/-- variables as terms -/
def vrs (vs : List Int) : List T := vs.map fun v => .node 4 v []
theorem vrs_len (vs : List Int) : (vrs vs).length = vs.length := by simp [vrs]
theorem vrs_at {vs : List Int} {j : Nat} {x : Int} (h : vs[j]? = some x) : (vrs vs)[j]? = some (.node 4 x []) := by simp [vrs, h]
/-- what a variable is mapped to -/
theorem mp_vrs {vs : List Int} {n x y : Int} {u : Nat} (hv : ∀ v ∈ vs, 0 ≤ v ∧ v < n) (h : igo vs n x = some y) : mpT (vrs vs) n y u = .node 4 (x + u) [] := by
  unfold igo at h
  rw [mpT, vrs_len]
  split at h
  · cases h
    rw [if_pos (by omega)]
    congr 1; omega
  · have hl := pls_lt h
    have ha := vrs_at (pls_at h)
    have h0 := hv x (List.mem_of_getElem? (pls_at h))
    rw [if_neg (by omega), List.getD_eq_getElem?_getD, ha, Option.getD_some, upT, upL, if_pos ⟨rfl, h0.1⟩]
mutual
theorem iv_ren {vs : List Int} {n M : Int} (hv : ∀ v ∈ vs, 0 ≤ v ∧ v < n) (hn : 0 ≤ n) : ∀ (t : T) (s : Nat) (u : T), okT M t → ivT (igo vs n) t s = some u → RenT (vrs vs) n u s t
  | .node k h xs, s, u, ho, e => by
    rw [okT] at ho
    obtain ⟨h', ys, rfl, e2, hl, e3⟩ := iv_node e
    rw [RenT]
    refine ⟨rfl, ?_, hl, by have := iv_renL hv hn k xs.length xs 0 s ys ho.2 e2; rwa [← hl] at this⟩
    rcases e3 with ⟨rfl, hle, y, hy, rfl⟩ | ⟨hc, rfl⟩
    · have h1 := ho.1 rfl
      have h2 : 0 ≤ y := by
        unfold igo at hy
        split at hy
        · cases hy; omega
        · exact (pls_lt hy).1
      rw [if_pos ⟨rfl, by omega⟩, show y + (s : Int) - s = y by omega, mp_vrs hv hy, show h - (s : Int) + s = h by omega]
    · rw [if_neg hc]
theorem iv_renL {vs : List Int} {n M : Int} (hv : ∀ v ∈ vs, 0 ≤ v ∧ v < n) (hn : 0 ≤ n) (k : Int) (m : Nat) : ∀ (xs : List T) (i s : Nat) (us : List T), okL M xs → ivL (igo vs n) k m xs i s = some us → RenL (vrs vs) n k m us i s xs
  | [], i, s, us, _, e => by rw [ivL] at e; cases e; rw [RenL]
  | t :: ts, i, s, us, ho, e => by
    rw [okL] at ho
    obtain ⟨u, zs, rfl, e1, e2⟩ := iv_cons e
    rw [RenL]
    rw [bd_bdn, show (s : Int) + (bdn k m i : Int) = ((s + bdn k m i : Nat) : Int) by omega] at e1
    exact ⟨_, _, rfl, iv_ren hv hn t _ u ho.1 e1, iv_renL hv hn k m ts (i + 1) s zs ho.2 e2⟩
end
theorem vrs_my {vs : List Int} (h : ∀ v ∈ vs, 0 ≤ v) : ∀ x ∈ vrs vs, myB x = true := fun x hx => by
  obtain ⟨v, hv, rfl⟩ := List.mem_map.1 hx
  exact my_var (h v hv)
theorem my_iv {g : Int → Option Int} {M : Int} (hg : ∀ x, 0 ≤ x → x ≤ M → ∀ y, g x = some y → 0 ≤ y) {t u : T} (ho : okT M t) (hm : myB t = true) (e : ivT g t 0 = some u) : myB u = true := by
  obtain ⟨h1, h2, h3⟩ := (myB_iff t).1 hm
  have h4 := nd_iv t 0 u e
  exact (myB_iff u).2 ⟨nodB_iv hg t 0 u (Int.le_refl _) ho h1 e, by omega, by omega⟩
theorem igo_pos {vs : List Int} {n x y : Int} (hn : 0 ≤ n) (h : igo vs n x = some y) : 0 ≤ y := by
  unfold igo at h
  split at h
  · cases h; omega
  · exact (pls_lt h).1
/-- what is told, under these variables, is the term -/
theorem iv_apply {vs : List Int} {n M : Int} {t u : T} (hv : vB n [] vs = true) (hn : 0 ≤ n ∧ n ≤ 1000) (hl : vs.length ≤ 200) (ho : okT M t) (hm : myB t = true) (e : ivT (igo vs n) t 0 = some u) :
    apT u (vrs vs) n = t ∧ apE u (vrs vs) n = 0 ∧ myB u = true := by
  have hv' := (vB_top.1 hv).1
  have hmu := my_iv (M := M) (fun x _ _ y h => igo_pos hn.1 h) ho hm e
  have := ren_tells hmu (sb_of (L := vrs vs) (sh := n) (by rw [vrs_len]; exact hl) (by omega) (vrs_my fun v h => (hv' v h).1)) (iv_ren hv' hn.1 t 0 u ho e) hm
  exact ⟨this.1, this.2, hmu⟩
/-- where a variable of what is told comes from -/
def rho (vs : List Int) (n x : Int) : Option Int := some (if (vs.length : Int) ≤ x then x - vs.length + n else vs.getD (vs.length - 1 - x.toNat) 0)
theorem igo_rho {vs : List Int} {n x y : Int} (hv : vB n [] vs = true) (hx : 0 ≤ x) (h : rho vs n x = some y) : (0 ≤ y ∧ y ≤ x + n) ∧ igo vs n y = some x ∨ n < 0 := by
  obtain ⟨h1, h2⟩ := vB_top.1 hv
  by_cases hn : n < 0
  · exact .inr hn
  refine .inl ?_
  unfold rho at h
  cases h
  by_cases hc : (vs.length : Int) ≤ x
  · rw [if_pos hc, igo, if_pos (by omega)]
    exact ⟨by omega, by congr 1; omega⟩
  · have hl : vs.length - 1 - x.toNat < vs.length := by omega
    rw [if_neg hc, List.getD_eq_getElem?_getD, List.getElem?_eq_getElem hl, Option.getD_some]
    have := h1 _ (List.getElem_mem hl)
    refine ⟨by omega, ?_⟩
    rw [igo, if_neg (by omega), at_pls _ h2 (List.getElem?_eq_getElem hl)]
    congr 1; omega
/-- every term comes from one -/
theorem rho_all {vs : List Int} {n : Int} : ∀ (t : T) (s : Int), ∃ u, ivT (rho vs n) t s = some u := by
  intro t
  induction t using T.ind with
  | step k h xs ih =>
    intro s
    have hl : ∀ (l : List T) (i : Nat), (∀ x ∈ l, x ∈ xs) → ∃ us, ivL (rho vs n) k xs.length l i s = some us := by
      intro l
      induction l with
      | nil => intro i _; exact ⟨[], by rw [ivL]⟩
      | cons x l ih2 =>
        intro i hx
        obtain ⟨u, hu⟩ := ih x (hx x (List.mem_cons_self ..)) (s + bd k xs.length i)
        obtain ⟨us, hus⟩ := ih2 (i + 1) fun y hy => hx y (List.mem_cons_of_mem _ hy)
        exact ⟨_, by rw [ivL, hu, hus]; rfl⟩
    obtain ⟨us, hus⟩ := hl xs 0 fun x hx => hx
    rw [ivT, hus]
    by_cases hc : k = 4 ∧ s ≤ h
    · rw [if_pos hc, rho]
      exact ⟨_, rfl⟩
    · rw [if_neg hc]
      exact ⟨_, rfl⟩
end Go.Proofs.YtkakfckjmmmjgaaGreat
