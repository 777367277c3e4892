/-
  Texts of one proof, put together. No statement is proved here.
-/
import Derived.Test.YtinjeocfnhhlmaaPd
import Derived.Test.YtinjeocfnhhlmaaWi
import Derived.Test.YtinjeocfnhhlmaaWe
import Derived.Test.YtinjeocfnhhlmaaTn
import Derived.Test.YtinjeocfnhhlmaaOl
import Derived.Test.YtinjeocfnhhlmaaTo
import Derived.ChangeSlices
import Derived.Carry

/-
  Terms whose metas become something, as a plain function, and what holds of what it tells: how many nodes, Heads. No statement is proved here.
-/
namespace Go.Proofs.Ytinjeocfnhhlmaa
open Go.ChangeShapes Go.WideShapes Go.ChangeAt Go.RowKit
set_option linter.unusedVariables false

/-- a node with its Args, filled -/
def flN (th : List T) (n k h : Int) (ys : List T) : Except Int T :=
  if k = 6 then
    if (th.length : Int) ≤ h then .error 2
    else if ys.all myB = true then
      if apE (th.getD h.toNat (.node 0 0 [])) ys n = 0 then .ok (apT (th.getD h.toNat (.node 0 0 [])) ys n) else .error (apE (th.getD h.toNat (.node 0 0 [])) ys n)
    else .error 4
  else .ok (.node k h ys)
mutual
/-- a term with what its metas become, in a context of n entries -/
def flT (th : List T) : T → Int → Except Int T
  | .node k h xs, n =>
    match flL th k xs.length xs 0 n with
    | .error e => .error e
    | .ok ys => flN th n k h ys
def flL (th : List T) (k : Int) (m : Nat) : List T → Nat → Int → Except Int (List T)
  | [], _, _ => .ok []
  | x :: xs, i, n =>
    match flT th x (n + bd k m i) with
    | .error e => .error e
    | .ok y =>
      match flL th k m xs (i + 1) n with
      | .error e => .error e
      | .ok ys => .ok (y :: ys)
end

/-- what is too great takes no room -/
def kp (c : Nat) (t : T) : T := if 4000 < c then .node 7 0 [] else t
def kpL : Nat → List T → List T
  | _, [] => []
  | c, y :: ys => kp (c + nd y) y :: kpL (c + nd y) ys
/-- a part that is filled, behind so many nodes -/
def pf (th : List T) (n : Int) (c : Nat) (t : T) : Res :=
  match flT th t n with
  | .error e => .error e
  | .ok t' => .ok (kp (c + nd t') t', c + nd t')
/-- a list of what its elements become -/
def eaL (g : Nat → T → Nat → Res) : List T → Nat → Nat → Except Int (List T × Nat)
  | [], _, c => .ok ([], c)
  | x :: xs, i, c =>
    match g i x c with
    | .error e => .error e
    | .ok (y, c1) =>
      match eaL g xs (i + 1) c1 with
      | .error e => .error e
      | .ok (ys, c2) => .ok (y :: ys, c2)

theorem kpL_id : ∀ (ys : List T) (c : Nat), c + ndL ys ≤ 4000 → kpL c ys = ys
  | [], _, _ => rfl
  | y :: ys, c, h => by
    rw [ndL] at h
    rw [kpL, kp, if_neg (by omega), kpL_id ys (c + nd y) (by omega)]
theorem my_leaf7 : myB (.node 7 0 []) = false := by decide
theorem my_kp (y : T) : myB (kp (nd y) y) = myB y := by
  unfold kp
  split
  · rw [my_leaf7]
    cases h : myB y with
    | false => rfl
    | true => have := ((myB_iff y).1 h).2.1; omega
  · rfl
theorem kp_my {y : T} (h : myB y = true) : kp (nd y) y = y := by
  unfold kp
  rw [if_neg (by have := ((myB_iff y).1 h).2.1; omega)]
theorem all_kp (ys : List T) : (ys.map fun y => kp (nd y) y).all myB = ys.all myB := by
  rw [List.all_map]
  congr 1
  funext y
  exact my_kp y
theorem map_kp {ys : List T} (h : ys.all myB = true) : (ys.map fun y => kp (nd y) y) = ys := by
  have := List.map_congr_left (l := ys) (f := fun y => kp (nd y) y) (g := id) fun y hy => kp_my (List.all_eq_true.1 h y hy)
  rw [this, List.map_id]
/-- the Args of a node, part by part -/
theorem ea_fill (th : List T) (n k : Int) (m : Nat) : ∀ (xs : List T) (i c : Nat), eaL (fun i x c => pf th (n + bd k m i) c x) xs i c = match flL th k m xs i n with
    | .error e => .error e
    | .ok ys => .ok (kpL c ys, c + ndL ys)
  | [], i, c => by simp [eaL, flL, kpL, ndL]
  | x :: xs, i, c => by
    rw [eaL, flL, pf]
    cases hx : flT th x (n + bd k m i) with
    | error e => rfl
    | ok y =>
      simp only
      rw [ea_fill th n k m xs (i + 1) (c + nd y)]
      cases flL th k m xs (i + 1) n with
      | error e => rfl
      | ok ys => simp only [kpL, ndL]; rw [Nat.add_assoc]
/-- what becomes of one of a meta's Args -/
def po (th : List T) (n : Int) (c : Nat) (t : T) : Res :=
  match pf th n 0 t with
  | .error e => .error e
  | .ok (y, _) => .ok (y, c)
theorem dpL_mem {t : T} : ∀ {xs : List T}, t ∈ xs → dp t ≤ dpL xs
  | x :: xs, h => by
    rw [dpL]
    rcases List.mem_cons.1 h with rfl | h
    · omega
    · have := dpL_mem h
      omega
theorem bd6 (m i : Nat) : bd 6 m i = 0 := by simp [bd]
/-- the Args of a meta, each by itself -/
theorem ea_own (th : List T) (n : Int) (m : Nat) : ∀ (xs : List T) (i c : Nat), eaL (fun _ x c => po th n c x) xs i c = match flL th 6 m xs i n with
    | .error e => .error e
    | .ok ys => .ok (ys.map (fun y => kp (nd y) y), c)
  | [], i, c => by simp [eaL, flL]
  | x :: xs, i, c => by
    rw [eaL, flL, bd6, Int.add_zero, po, pf]
    cases hx : flT th x n with
    | error e => rfl
    | ok y =>
      simp only
      rw [ea_own th n m xs (i + 1) c]
      cases flL th 6 m xs (i + 1) n with
      | error e => rfl
      | ok ys => simp only [List.map_cons, Nat.zero_add]
/-- a meta -/
theorem pf_meta (th : List T) (n h : Int) (xs : List T) (c : Nat) : pf th n c (.node 6 h xs) = match flL th 6 xs.length xs 0 n with
    | .error e => .error e
    | .ok ys =>
      if (th.length : Int) ≤ h then .error 2
      else if ys.all myB = true then
        if apE (th.getD h.toNat (.node 0 0 [])) ys n = 0 then .ok (kp (c + nd (apT (th.getD h.toNat (.node 0 0 [])) ys n)) (apT (th.getD h.toNat (.node 0 0 [])) ys n), c + nd (apT (th.getD h.toNat (.node 0 0 [])) ys n)) else .error (apE (th.getD h.toNat (.node 0 0 [])) ys n)
      else .error 4 := by
  rw [pf, flT]
  cases flL th 6 xs.length xs 0 n with
  | error e => rfl
  | ok ys =>
    simp only [flN, if_true]
    split
    · rename_i e he
      split at he
      · rename_i h1
        cases he
        rw [if_pos h1]
      · rename_i h1
        rw [if_neg h1]
        split at he
        · rename_i h2
          rw [if_pos h2]
          split at he
          · cases he
          · rename_i h3
            cases he
            rw [if_neg h3]
        · rename_i h2
          cases he
          rw [if_neg h2]
    · rename_i t' he
      split at he
      · cases he
      · rename_i h1
        rw [if_neg h1]
        split at he
        · rename_i h2
          rw [if_pos h2]
          split at he
          · rename_i h3
            cases he
            rw [if_pos h3]
          · cases he
        · cases he
/-- a node that is kept -/
theorem pf_node (th : List T) (n k h : Int) (xs : List T) (c : Nat) (hk : k ≠ 6) : pf th n c (.node k h xs) = match flL th k xs.length xs 0 n with
    | .error e => .error e
    | .ok ys => .ok (kp (c + ndL ys + 1) (.node k h (kpL c ys)), c + ndL ys + 1) := by
  unfold pf
  rw [flT]
  cases flL th k xs.length xs 0 n with
  | error e => rfl
  | ok ys =>
    simp only [flN, if_neg hk]
    have e : c + nd (.node k h ys) = c + ndL ys + 1 := by rw [nd]; omega
    rw [e]
    unfold kp
    split
    · rfl
    · rw [kpL_id ys c (by omega)]

/-! ### What is answered may be -/
theorem ap_zero {t : T} {L : List T} {sh : Int} (h : apE t L sh = 0) : myB t = true ∧ sbB L sh = true ∧ ∃ m, apR t L sh = .ok (apT t L sh, m) ∧ myB (apT t L sh) = true := by
  unfold apE at h
  by_cases hp : (myB t && sbB L sh) = true
  · rw [if_pos hp] at h
    have hp' := hp
    rw [Bool.and_eq_true] at hp'
    refine ⟨hp'.1, hp'.2, ?_⟩
    unfold apT
    rw [if_pos hp]
    cases hr : apR t L sh with
    | error e => rw [hr] at h; exact absurd (by simpa [anE] using h) (ap_err _ _ _ _ _ _ _ hr)
    | ok p =>
      obtain ⟨t', m⟩ := p
      rw [hr] at h
      have hm : myB t' = true := by
        cases hm : myB t' with
        | true => rfl
        | false => simp [anE, hm] at h
      simp only [anT, hm, if_true]
      exact ⟨m, rfl, trivial⟩
  · rw [if_neg hp] at h
    omega
mutual
theorem fl_nd (th : List T) : ∀ (t : T) (n : Int) (t' : T), flT th t n = .ok t' → nd t' ≤ 4000 * nd t
  | .node k h xs, n, t', hr => by
    rw [flT] at hr
    split at hr
    · cases hr
    · rename_i ys hy
      have := flL_nd th k xs.length xs 0 n ys hy
      rw [nd]
      unfold flN at hr
      split at hr
      · split at hr
        · cases hr
        · split at hr
          · split at hr
            · rename_i h0
              cases hr
              obtain ⟨_, _, _, _, hm⟩ := ap_zero h0
              have := ((myB_iff _).1 hm).2.1
              omega
            · cases hr
          · cases hr
      · cases hr
        rw [nd]
        omega
theorem flL_nd (th : List T) (k : Int) (m : Nat) : ∀ (xs : List T) (i : Nat) (n : Int) (ys : List T), flL th k m xs i n = .ok ys → ndL ys ≤ 4000 * ndL xs
  | [], i, n, ys, hr => by
    rw [flL] at hr
    cases hr
    simp [ndL]
  | x :: xs, i, n, ys, hr => by
    rw [flL] at hr
    split at hr
    · cases hr
    · rename_i y hy
      have := fl_nd th x _ y hy
      split at hr
      · cases hr
      · rename_i zs hz
        have := flL_nd th k m xs (i + 1) n zs hz
        cases hr
        rw [ndL, ndL]
        omega
end
theorem flL_len (th : List T) (k : Int) (m : Nat) : ∀ (xs : List T) (i : Nat) (n : Int) (ys : List T), flL th k m xs i n = .ok ys → ys.length = xs.length
  | [], i, n, ys, hr => by
    rw [flL] at hr
    cases hr
    rfl
  | x :: xs, i, n, ys, hr => by
    rw [flL] at hr
    split at hr
    · cases hr
    · split at hr
      · cases hr
      · rename_i zs hz
        have := flL_len th k m xs (i + 1) n zs hz
        cases hr
        simp [this]
mutual
theorem fl_err (th : List T) : ∀ (t : T) (n e : Int), flT th t n = .error e → e ≠ 0
  | .node k h xs, n, e, hr => by
    rw [flT] at hr
    split at hr
    · rename_i e' he
      cases hr
      exact flL_err th k xs.length xs 0 n e he
    · unfold flN at hr
      split at hr
      · split at hr
        · cases hr; omega
        · split at hr
          · split at hr
            · cases hr
            · cases hr; assumption
          · cases hr; omega
      · cases hr
theorem flL_err (th : List T) (k : Int) (m : Nat) : ∀ (xs : List T) (i : Nat) (n e : Int), flL th k m xs i n = .error e → e ≠ 0
  | [], i, n, e, hr => by
    rw [flL] at hr
    cases hr
  | x :: xs, i, n, e, hr => by
    rw [flL] at hr
    split at hr
    · rename_i e' he
      cases hr
      exact fl_err th x _ e he
    · split at hr
      · rename_i e' he
        cases hr
        exact flL_err th k m xs (i + 1) n e he
      · cases hr
end
/-! ### Heads -/
/-- how great a Head may be in what is filled -/
def hB (d : Nat) : Int := 2199023255552 + d * 68719476736
theorem hB_mono {a b : Nat} (h : a ≤ b) : hB a ≤ hB b := by unfold hB; omega
theorem ap_heads {t : T} {L : List T} {sh M : Int} (h : apE t L sh = 0) (ht : okT M t) (hL : ∀ x ∈ L, okT M x) (hs : sh ≤ 1048576) : okT (M + 68719476736) (apT t L sh) := by
  obtain ⟨h1, h2, m, h3, _⟩ := ap_zero h
  unfold sbB at h2
  simp only [Bool.and_eq_true, decide_eq_true_eq, List.all_eq_true] at h2
  have hg := ap_good (B := M + 1048576) fl L sh 0 t 0 (Nat.le_refl _) (by omega) ⟨h2.2, fun x hx => okT_mono (by unfold btB; omega) _ (hL x hx), h2.1.1.2, hs⟩ ⟨((myB_iff t).1 h1).1, okT_mono (by unfold btB; omega) _ ht⟩ _ m h3
  exact okT_mono (by have := hg.2.1; unfold btB; omega) _ hg.2.2.1.ok
mutual
theorem fl_heads {th : List T} (hth : ∀ x ∈ th, okT 2199023255552 x) : ∀ (t : T) (n : Int) (t' : T), 0 ≤ n → n + dp t ≤ 1048576 → okT 2199023255552 t → flT th t n = .ok t' → okT (hB (dp t)) t'
  | .node k h xs, n, t', h0, hn, ho, hr => by
    have hd : dp (.node k h xs) = 1 + dpL xs := by rw [dp]
    rw [flT] at hr
    rw [okT] at ho
    split at hr
    · cases hr
    · rename_i ys hy
      have hys := flL_heads hth k xs.length xs 0 n ys h0 (by omega) ho.2 hy
      have hm : hB (dpL xs) + 68719476736 = hB (dp (.node k h xs)) := by rw [hd]; unfold hB; omega
      have hb : (2199023255552 : Int) ≤ hB (dpL xs) := by unfold hB; omega
      unfold flN at hr
      split at hr
      · split at hr
        · cases hr
        · rename_i hlt
          split at hr
          · split at hr
            · rename_i h0'
              cases hr
              rw [← hm]
              refine ap_heads h0' ?_ (fun x hx => okL_mem hys hx) (by omega)
              rcases Nat.lt_or_ge h.toNat th.length with hl | hl
              · exact okT_mono hb _ (hth _ (getD_mem _ hl))
              · rw [List.getD_eq_getElem?_getD, List.getElem?_eq_none hl]
                simp [okT, okL]
            · cases hr
          · cases hr
      · cases hr
        rw [okT]
        exact ⟨fun e => ⟨(ho.1 e).1, by have := (ho.1 e).2; omega⟩, okL_mono (by omega) _ hys⟩
theorem flL_heads {th : List T} (hth : ∀ x ∈ th, okT 2199023255552 x) (k : Int) (m : Nat) : ∀ (xs : List T) (i : Nat) (n : Int) (ys : List T), 0 ≤ n → n + dpL xs + 1 ≤ 1048576 → okL 2199023255552 xs → flL th k m xs i n = .ok ys → okL (hB (dpL xs)) ys
  | [], i, n, ys, _, _, _, hr => by
    rw [flL] at hr
    cases hr
    rw [okL]
    trivial
  | x :: xs, i, n, ys, h0, hn, ho, hr => by
    rw [flL] at hr
    rw [okL] at ho
    have hd : dp x ≤ dpL (x :: xs) ∧ dpL xs ≤ dpL (x :: xs) := by rw [dpL]; omega
    have hbd : 0 ≤ bd k m i ∧ bd k m i ≤ 1 := by rw [bd_bdn]; have := bdn_le k m i; omega
    split at hr
    · cases hr
    · rename_i y hy
      have h1 := fl_heads hth x _ y (by omega) (by omega) ho.1 hy
      split at hr
      · cases hr
      · rename_i zs hz
        have h2 := flL_heads hth k m xs (i + 1) n zs h0 (by omega) ho.2 hz
        cases hr
        rw [okL]
        exact ⟨okT_mono (hB_mono hd.1) _ h1, okL_mono (hB_mono hd.2) _ h2⟩
end
end Go.Proofs.Ytinjeocfnhhlmaa

/-
  Contracts of package meta's small functions: mayNot, keep, and slices.ContainsFunc with mayNot. No statement is proved here.
-/
namespace Go.Proofs.Ytinjeocfnhhlmaa
open Go.ChangeShapes Go.WideShapes Go.ChangeAt Go.RowKit
set_option linter.unusedVariables false

theorem mayNotC (t : T) (v : Value) (w : World) (hv : Rd w t v) : Calls Try.prog 109 #[v] w fun e w' => e = .returned (.bool (!myB t)) ∧ Below w.heap.size w w' := by
  obtain ⟨k, h, A, n, c, rfl⟩ := hv.full
  have hb : Below w.heap.size w (w.alloc (.cells #[.int .i64 k, .int .i64 h, .slice A n c] 24)) := (Below.refl _ _).alloc (Nat.le_refl _) _
  have HM := Lib.hid (myC t _ _ (Rd.keep hb _ _ hv))
  clear hv
  generalize myB t = r at *
  go_enter Try.func109, Try.ntmps109
  go_wp2_with fail
  refine HM.out.mono ?_
  rintro e w1 ⟨rfl, hb1⟩
  go_wp2_with fail
  go_ret
  exact ⟨rfl, hb.trans (hb1.mono hb.size)⟩

theorem indexC (xs : List T) (A : Option Addr) (n c : Nat) (w : World) (hn : xs.length = n) (hc : n ≤ c) (hm : c ≤ maxLen) (hx : ∀ i t, xs[i]? = some t → RdAt w A i t) :
    Calls Try.prog 127 #[.slice A n c, .func (.func 109) #[] #[]] w fun e w' => ∃ i : Int, e = .returned (.int .i64 i) ∧ decide (0 ≤ i) = (!xs.all myB) ∧ Below w.heap.size w w' := by
  unfold maxLen at hm
  have HN := Lib.hid hn; clear hn
  have HX := Lib.hid hx; clear hx
  go_enter Try.func127, Try.ntmps127
  go_wp2_with fail
  go_loopw [8] (fun i wr => ∃ (j : Nat), j ≤ n ∧ i = .int .i64 j ∧ Hid ((xs.drop j).all myB = xs.all myB) ∧ Below w.heap.size w wr) (fun i _ => n - (intOf i).toNat)
  case atStart => exact ⟨0, Nat.zero_le _, rfl, Lib.hid (by simp), Below.refl _ _⟩
  case round =>
    obtain ⟨j, hj, rfl, HS, hb⟩ := hrel
    by_cases hlt : j < n
    · obtain ⟨t, ht⟩ := at_of HN.out hlt
      obtain ⟨b, o, k2, h2, A2, n2, c2', rfl, c0, c1, c2, hr⟩ := (RdAt.keep hb (HX.out j t ht)).full
      have HT := Lib.hid ht; clear ht
      have hi0 : (0 : Int) ≤ j := by omega
      have hi1 : (j : Int) < n := by omega
      have HM := Lib.hid (mayNotC t _ _ hr)
      have HS' := HS.out
      rw [drop_at HT.out, List.all_cons] at HS'
      have HS := Lib.hid HS'; clear HS'
      generalize myB t = r at *
      go_wp2_with fail
      clear c0 c1 c2
      refine HM.out.mono ?_
      rintro e w1 ⟨rfl, hb1⟩
      have hbw : Below w.heap.size w w1 := hb.trans (hb1.mono hb.size)
      clear hb1 HM
      cases r
      · go_wp2_with fail
        go_ret
        exact ⟨_, rfl, by rw [← HS.out]; simp, hbw⟩
      · go_wp2_with fail
        go_roundw
        case rel => exact ⟨j + 1, by omega, by go_num, Lib.hid (by simpa using HS.out), hbw⟩
        case measure => simp [intOf]; omega
    · go_wp2_with fail
      go_ret
      exact ⟨_, rfl, by have := HS.out; rw [drop_all HN.out (by omega)] at this; rw [← this]; simp, hb⟩
theorem containsC (xs : List T) (A : Option Addr) (n c : Nat) (w : World) (hn : xs.length = n) (hc : n ≤ c) (hm : c ≤ maxLen) (hx : ∀ i t, xs[i]? = some t → RdAt w A i t) :
    Calls Try.prog 108 #[.slice A n c, .func (.func 109) #[] #[]] w fun e w' => e = .returned (.bool (!xs.all myB)) ∧ Below w.heap.size w w' := by
  have HI := Lib.hid (indexC xs A n c w hn hc hm hx)
  clear hx hn hc hm
  generalize (!xs.all myB) = r at *
  go_enter Try.func108, Try.ntmps108
  go_wp2_with fail
  refine HI.out.mono ?_
  rintro e w1 ⟨i, rfl, hi, hb1⟩
  go_wp2_with fail
  go_ret
  exact ⟨ret_bool (by first | exact hi | rfl | simp), hb1⟩

theorem Fr.putK {X : Nat → Prop} {w w' : World} (h : Fr X w w') {a : Addr} (ha : a.block < w.heap.size → X a.block) (v : Value) : Fr X w (w'.setCell a v) :=
  ⟨h.os, h.tape, h.output, by simpa [World.setCell] using h.size, fun k hk hx => (Below.heap_setCell _ _ _ _ (fun e => by subst e; exact hx (ha hk))).trans (h.block k hk hx)⟩
/-- a part's block -/
abbrev ptB (w : World) (pp : Nat) (A : Option Addr) (m c : Nat) (x : Nat) : Prop := Box w pp 123 #[.slice A m c, .int .i64 x]
theorem ptB.put {w : World} {pp : Nat} {A : Option Addr} {m c x : Nat} (h : ptB w pp A m c x) (y : Nat) : ptB (w.setCell ⟨pp, 1, none⟩ (.int .i64 y)) pp A m c y := Box.setAt h 1 _

theorem keepPC {pp : Nat} {A : Option Addr} {m cL c d : Nat} {k h : Int} {A2 : Option Addr} {n2 c2 : Nat} (w : World) (hp : ptB w pp A m cL c) (hc : c + d ≤ 4611686018427387904) :
    Calls Try.prog 130 #[.pointer (some ⟨pp, 0, none⟩), .agg #[.int .i64 k, .int .i64 h, .slice A2 n2 c2], .int .i64 (d : Nat)] w fun e w' =>
      e = .returned (if 4000 < c + d then .agg #[.int .i64 7, .int .i64 0, .slice none 0 0] else .agg #[.int .i64 k, .int .i64 h, .slice A2 n2 c2]) ∧ Fr (fun b => b = pp) w w' ∧ ptB w' pp A m cL (c + d) := by
  have lp := hp.lt
  obtain ⟨c0, c1⟩ := hp.two
  have f1 := hp.frozen 1
  have hw1 : IntKind.i64.wrap ((c : Int) + (d : Int)) = ((c + d : Nat) : Int) := by rw [wrapEq, wrap_small (by omega) (by omega)]; omega
  have xp := hp.put (c + d)
  have sz : (w.setCell ⟨pp, 1, none⟩ (.int .i64 ((c + d : Nat) : Int))).heap.size = w.heap.size := by simp [World.setCell]
  have hfr : Fr (fun b => b = pp) w (w.setCell ⟨pp, 1, none⟩ (.int .i64 ((c + d : Nat) : Int))) := (Fr.refl (fun b => b = pp) w).putK (fun _ => rfl) _
  have HP := Lib.hid xp; clear xp
  have HF := Lib.hid hfr; clear hfr
  have HFin : Hid (∀ o1 o2, Fr (fun b => b = pp) w (((w.setCell ⟨pp, 1, none⟩ (.int .i64 ((c + d : Nat) : Int))).alloc o1).alloc o2) ∧ ptB (((w.setCell ⟨pp, 1, none⟩ (.int .i64 ((c + d : Nat) : Int))).alloc o1).alloc o2) pp A m cL (c + d)) := Lib.hid fun o1 o2 =>
    ⟨(HF.out.then ((Below.refl _ _).alloc (Nat.le_refl _) _)).then ((Below.refl _ _).alloc (Nat.le_refl _) _), Box.alloc (Box.alloc HP.out _) _⟩
  clear hp HF HP hc
  by_cases hgt : 4000 < c + d
  · have hd : decide ((4000 : Int) < ((c + d : Nat) : Int)) = true := by simp; omega
    rw [if_pos hgt]
    clear hgt
    generalize ((c + d : Nat) : Int) = s at *
    go_enter Try.func130, Try.ntmps130
    go_wp2_with fail
    refine bodyPost_ret (v := .agg #[.int .i64 7, .int .i64 0, .slice none 0 0]) (by simp [results, Try.results130, go_sem]) rfl ?_
    exact ⟨rfl, HFin.out _ _⟩
  · have hd : decide ((4000 : Int) < ((c + d : Nat) : Int)) = false := by simp; omega
    rw [if_neg hgt]
    clear hgt
    generalize ((c + d : Nat) : Int) = s at *
    go_enter Try.func130, Try.ntmps130
    go_wp2_with fail
    refine bodyPost_ret (v := .agg #[.int .i64 k, .int .i64 h, .slice A2 n2 c2]) (by simp [results, Try.results130, go_sem]) rfl ?_
    exact ⟨rfl, HFin.out _ _⟩
end Go.Proofs.Ytinjeocfnhhlmaa

/-
  Contracts of package meta's each, for each of the closures that it is called with. No statement is proved here.
-/
namespace Go.Proofs.Ytinjeocfnhhlmaa
open Go.ChangeShapes Go.WideShapes Go.ChangeAt Go.RowKit
set_option linter.unusedVariables false

/-- how a closure ends: a term and no error, or noughts and an error -/
def CEn (X : Nat → Prop) (St : Nat → World → Prop) (w : World) (r : Res) (e : Ending) (w' : World) : Prop :=
  match r with
  | .error ec => e = .returned (.tuple #[zT, .int .i64 ec]) ∧ ec ≠ 0 ∧ Fr X w w'
  | .ok (t, c) => ∃ k h A n cc, e = .returned (.tuple #[.agg #[.int .i64 k, .int .i64 h, .slice A n cc], .int .i64 0]) ∧ RX (fun b => b < w.heap.size) w' t (.agg #[.int .i64 k, .int .i64 h, .slice A n cc]) ∧ Fr X w w' ∧ St c w'
/-- how each ends -/
def GEn (X : Nat → Prop) (St : Nat → World → Prop) (w : World) (r : Except Int (List T × Nat)) (e : Ending) (w' : World) : Prop :=
  match r with
  | .error ec => e = .returned (.tuple #[.slice none 0 0, .int .i64 ec]) ∧ ec ≠ 0 ∧ Fr X w w'
  | .ok (ys, c) => ∃ A n cc, e = .returned (.tuple #[.slice A n cc, .int .i64 0]) ∧ RXL (fun b => b < w.heap.size) w' ys A n cc ∧ Fr X w w' ∧ St c w'
/-- what holds at the head of each's loop -/
structure MeI (X : Nat → Prop) (St : Nat → World → Prop) (g : Nat → T → Nat → Res) (xs : List T) (c0 M : Nat) (w : World) (n j : Nat) (wr : World) (cs : Array Value) (ys : List T) (c1 : Nat) : Prop where
  row : Box wr w.heap.size 24 cs
  size : cs.size = n * 3
  len : ys.length = j
  kids : Kids wr (fun b => w.heap.size < b) cs ys
  fr : Fr X w wr
  st : St c1 wr
  lo : c1 + 4000 * ndL (xs.drop j) ≤ M
  eq : eaL g xs 0 c0 = contL ys (eaL g (xs.drop j) j c1)
/-- a list of numbers: what each becomes, by its place -/
def eaI (g : Nat → Int → Nat → Res) : List Int → Nat → Nat → Except Int (List T × Nat)
  | [], _, c => .ok ([], c)
  | x :: xs, i, c =>
    match g i x c with
    | .error e => .error e
    | .ok (y, c1) =>
      match eaI g xs (i + 1) c1 with
      | .error e => .error e
      | .ok (ys, c2) => .ok (y :: ys, c2)
structure MiI (X : Nat → Prop) (St : Nat → World → Prop) (g : Nat → Int → Nat → Res) (xs : List Int) (c0 : Nat) (w : World) (n j : Nat) (wr : World) (cs : Array Value) (ys : List T) (c1 : Nat) : Prop where
  row : Box wr w.heap.size 24 cs
  size : cs.size = n * 3
  len : ys.length = j
  kids : Kids wr (fun b => w.heap.size < b) cs ys
  fr : Fr X w wr
  st : St c1 wr
  eq : eaI g xs 0 c0 = contL ys (eaI g (xs.drop j) j c1)
/-- a number in a list in memory -/
def IntAt (w : World) (A : Option Addr) (i : Nat) (x : Int) : Prop := ∃ b o, A = some ⟨b, o, none⟩ ∧ w.cell? ⟨b, o + i, none⟩ = some (.int .i64 x)
theorem at_ofI {xs : List Int} {n j : Nat} (hn : xs.length = n) (h : j < n) : ∃ t, xs[j]? = some t := ⟨_, List.getElem?_eq_getElem (by omega)⟩
theorem drop_atI {xs : List Int} {j : Nat} {t : Int} (h : xs[j]? = some t) : xs.drop j = t :: xs.drop (j + 1) := by
  obtain ⟨h1, h2⟩ := List.getElem?_eq_some_iff.1 h
  rw [List.drop_eq_getElem_cons h1, h2]
theorem drop_allI {xs : List Int} {n j : Nat} (hn : xs.length = n) (h : n ≤ j) : xs.drop j = [] := List.drop_of_length_le (by omega)
theorem Kids.rxlF {w w0 : World} {cs : Array Value} {ys : List T} {n : Nat} {ty : TypeId} (hk : Kids w (fun b => w0.heap.size < b) cs ys) (hb : Box w w0.heap.size ty cs) (hl : ys.length = n) (hm : n ≤ 3518437208780) (hs : cs.size = n * 3) : RXL (fun b => b < w0.heap.size) w ys (some ⟨w0.heap.size, 0, none⟩) n n := by
  refine ⟨hl, Nat.le_refl _, by unfold maxLen; omega, fun i t ht => ?_⟩
  obtain ⟨k, h, A, n', c, e0, e1, e2, hr⟩ := hk i t ht
  refine ⟨w0.heap.size, 0, _, _, _, rfl, Nat.lt_irrefl _, ?_, ?_, ?_, RdF.moveX (fun b hb _ => ⟨by omega, rfl⟩) _ _ hr⟩
  · rw [Nat.zero_add, hb.cell]; exact e0
  · rw [Nat.zero_add, hb.cell]; exact e1
  · rw [Nat.zero_add, hb.cell]; exact e2

set_option maxRecDepth 100000 in
set_option maxHeartbeats 4000000 in
theorem eachFC {X : Nat → Prop} {St : Nat → World → Prop} {p1 p2 p3 : Value} {wB w : World} {A : Option Addr} {n c c0 M : Nat} (xs : List T) (g : Nat → T → Nat → Res) (hb : Below wB.heap.size wB w) (hn : xs.length = n) (hc : n ≤ c) (hm : c ≤ maxLen) (hn40 : n ≤ 3518437208780) (hx : ∀ i t, xs[i]? = some t → RdAt wB A i t)
    (hX : ∀ b, X b → wB.heap.size ≤ b ∧ b < w.heap.size) (hSt : ∀ c W W', W.heap.size ≤ W'.heap.size → (∀ b, X b → W'.heap[b]? = W.heap[b]?) → St c W → St c W') (h0 : St c0 w) (hlo : c0 + 4000 * ndL xs ≤ M) (hg : ∀ i t c t1 c1, xs[i]? = some t → g i t c = .ok (t1, c1) → c1 ≤ c + 4000 * nd t)
    (HF : ∀ (i : Nat) (t : T) (v : Value) (W : World) (c : Nat), xs[i]? = some t → Rd wB t v → Fr X w W → St c W → c + 4000 * ndL (xs.drop i) ≤ M → Calls Try.prog 129 #[.int .i64 i, v, p1, p2, p3] W (CEn X St W (g i t c))) :
    Calls Try.prog 83 #[.slice A n c, .func (.func 129) #[] #[p1, p2, p3]] w (GEn X St w (eaL g xs 0 c0)) := by
  have hMM := hm
  unfold maxLen at hm
  have HN := Lib.hid hn; clear hn
  have HX := Lib.hid hx; clear hx
  have HF' := Lib.hid HF; clear HF
  have HST := Lib.hid hSt; clear hSt
  have HXB := Lib.hid hX; clear hX
  have H0 := Lib.hid h0; clear h0
  have HB := Lib.hid hb; clear hb
  have HG := Lib.hid hg; clear hg
  have HLO := Lib.hid hlo; clear hlo
  obtain ⟨i0, hi, hz0, hz1, hz2⟩ := info_parts infoTerm
  have hmk : ∀ W : World, (Instr.makeSlice 22 (.int .i64 (n : Int)) (.int .i64 (n : Int))).run Try.prog W = .ok (.slice (some ⟨W.heap.size, 0, none⟩) n n) (W.alloc (.cells (madeCells #[.int .i64 0, .int .i64 0, .slice none 0 0] (n * 3)) 24)) := by
    intro W
    have := run_make W 22 24 i0 _ Try.underlying22 hi hz0 .i64 .i64 (n : Int) (n : Int) (by omega) (Int.le_refl _) (by rw [hz2]; omega) (by omega)
    rw [hz1] at this
    simpa [Value.cells] using this
  clear hi hz0 hz1 hz2
  by_cases hn0 : n = 0
  · subst hn0
    have hxs : xs = [] := List.length_eq_zero_iff.1 HN.out
    go_enter Try.func83, Try.ntmps83
    go_wp2_with fail
    go_ret2
    rw [hxs, eaL]
    exact ⟨none, 0, 0, rfl, ⟨rfl, Nat.le_refl _, Nat.zero_le _, fun i t ht => by simp at ht⟩, Fr.refl _ _, H0.out⟩
  · have e0 : ((n : Int) == 0) = false := by rw [beq_eq_false_iff_ne]; omega
    go_enter Try.func83, Try.ntmps83
    go_wp2_with fail
    have hcs := size_madeCells #[.int .i64 0, .int .i64 0, .slice none 0 0] (n * 3)
    generalize madeCells #[.int .i64 0, .int .i64 0, .slice none 0 0] (n * 3) = cs0 at *
    have hb0 : Below w.heap.size w (w.alloc (.cells cs0 24)) := (Below.refl _ w).alloc (Nat.le_refl _) _
    have x3 := Box.new w 24 cs0
    have hI : MeI X St g xs c0 M w n 0 (w.alloc (.cells cs0 24)) cs0 [] c0 := ⟨x3, hcs, rfl, fun i t ht => by simp at ht, Fr.below hb0, HST.out _ _ _ hb0.size (fun b hxb => hb0.block b (HXB.out b hxb).2) H0.out, by rw [List.drop_zero]; exact HLO.out, by rw [List.drop_zero, contL_nil]⟩
    have HI := Lib.hid hI; clear hI hcs hmk hb0 x3 H0
    go_loopw [19] (fun i wr => ∃ (j : Nat) (cs : Array Value) (ys : List T) (c1 : Nat), j ≤ n ∧ i = .int .i64 j ∧ Hid (MeI X St g xs c0 M w n j wr cs ys c1)) (fun i _ => n - (intOf i).toNat)
    case atStart => exact ⟨0, cs0, [], c0, Nat.zero_le _, rfl, HI⟩
    case round =>
      clear HI
      obtain ⟨j, cs, ys, c1, hj, rfl, HI⟩ := hrel
      by_cases hlt : j < n
      · obtain ⟨t, ht⟩ := at_of HN.out hlt
        have hBr : Below wB.heap.size wB wr := HB.out.trans ((HI.out.fr.to_below (fun i e => (HXB.out i e).1) HB.out.size))
        obtain ⟨b, o, k2, h2, A2, n2, c2', rfl, c0', c1', c2'', hr⟩ := (HX.out j t ht).full
        have q0 := (hBr.cell (cell_lt c0')).trans c0'
        have q1 := (hBr.cell (cell_lt c1')).trans c1'
        have q2 := (hBr.cell (cell_lt c2'')).trans c2''
        clear c0' c1' c2''
        have HR := Lib.hid hr; clear hr
        have HT := Lib.hid ht; clear ht hBr
        have heq := HI.out.eq
        rw [drop_at HT.out, eaL] at heq
        have HEQ := Lib.hid heq; clear heq
        have hi0 : (0 : Int) ≤ j := by omega
        have hi1 : (j : Int) < n := by omega
        go_wp2_with fail
        have hbA : Below wr.heap.size wr (wr.alloc (.cells #[.int .i64 k2, .int .i64 h2, .slice A2 n2 c2'] 24)) := (Below.refl _ wr).alloc (Nat.le_refl _) _
        generalize wr.alloc (.cells #[.int .i64 k2, .int .i64 h2, .slice A2 n2 c2'] 24) = Wa at *
        clear q0 q1 q2
        have lX : ∀ b, X b → b < wr.heap.size := fun b e => Nat.lt_of_lt_of_le (HXB.out b e).2 HI.out.fr.size
        have hcall := HF'.out j t _ Wa c1 HT.out HR.out (HI.out.fr.then hbA) (HST.out _ _ _ hbA.size (fun b e => hbA.block b (lX b e)) HI.out.st) HI.out.lo
        cases hres : g j t c1 with
        | error ec =>
          rw [hres] at hcall
          refine hcall.mono ?_
          rintro e w1 ⟨rfl, hne, hfr⟩
          have hne' : (ec != 0) = true := by simpa using hne
          have HE : Hid (GEn X St w (eaL g xs 0 c0) (.returned (.tuple #[.slice none 0 0, .int .i64 ec])) (w1.alloc (.cells #[.int .i64 0, .int .i64 0, .slice none 0 0] 24))) := Lib.hid (by
            rw [HEQ.out, hres]
            exact ⟨rfl, hne, (((HI.out.fr.then hbA).trans hfr fun _ _ e => e).then ((Below.refl _ _).alloc (Nat.le_refl _) _))⟩)
          clear hres hcall hfr hbA hne
          go_wp2_with fail
          go_ret2
          exact HE.out
        | ok p =>
          obtain ⟨t', c2⟩ := p
          rw [hres] at hcall
          refine hcall.mono ?_
          rintro e w1 ⟨k3, h3, A3, n3, c3, rfl, hrx, hfr, hst⟩
          have s1 := HI.out.fr.size
          have s2 := hbA.size
          have s3 := hfr.size
          have lrow := HI.out.row.lt
          have nrow : ¬ X w.heap.size := fun e => by have := (HXB.out _ e).2; omega
          have z3 : Box w1 w.heap.size 24 cs := (HI.out.row.keep hbA lrow).fr hfr nrow
          have hfr2 : Fr X wr w1 := (Fr.below (X := X) hbA).trans hfr fun _ _ e => e
          obtain ⟨u0, hu0⟩ := z3.there (i := j * 3) (by rw [HI.out.size]; omega)
          obtain ⟨u1, hu1⟩ := z3.there (i := j * 3 + 1) (by rw [HI.out.size]; omega)
          obtain ⟨u2, hu2⟩ := z3.there (i := j * 3 + 2) (by rw [HI.out.size]; omega)
          have f0 := z3.frozen (j * 3)
          have f1 := z3.frozen (j * 3 + 1)
          have f2 := z3.frozen (j * 3 + 2)
          have lz3 := z3.lt
          have HZ := Lib.hid z3; clear z3
          have HRX := Lib.hid hrx; clear hrx
          have HFR := Lib.hid hfr2; clear hfr2 hfr
          have HS2 := Lib.hid hst; clear hst
          have HRES := Lib.hid hres; clear hres hcall hbA
          go_wp2_with fail
          go_roundw
          case rel =>
            have hset : ∀ g, g ≠ w.heap.size → g < w1.heap.size → (((((w1.setCell ⟨w.heap.size, j * 3, none⟩ (.int .i64 k3)).setCell ⟨w.heap.size, j * 3 + 1, none⟩ (.int .i64 h3)).setCell ⟨w.heap.size, j * 3 + 2, none⟩ (.slice A3 n3 c3))).alloc (.cells #[.int .i64 k3, .int .i64 h3, .slice A3 n3 c3] 24)).heap[g]? = w1.heap[g]? := fun g hg hg' => by
              rw [Below.heap_alloc _ _ _ (by simpa using hg'), Below.heap_setCell _ _ _ _ hg, Below.heap_setCell _ _ _ _ hg, Below.heap_setCell _ _ _ _ hg]
            have hfw : Fr X w w1 := HI.out.fr.trans HFR.out fun _ _ e => e
            have hsz : w1.heap.size ≤ (((((w1.setCell ⟨w.heap.size, j * 3, none⟩ (.int .i64 k3)).setCell ⟨w.heap.size, j * 3 + 1, none⟩ (.int .i64 h3)).setCell ⟨w.heap.size, j * 3 + 2, none⟩ (.slice A3 n3 c3))).alloc (.cells #[.int .i64 k3, .int .i64 h3, .slice A3 n3 c3] 24)).heap.size := by simp [World.setCell]
            refine ⟨j + 1, _, ys ++ [t'], c2, by omega, by go_num, Lib.hid ⟨(((HZ.out.setAt _ _).setAt _ _).setAt _ _).alloc _, by simp [HI.out.size], by simp [HI.out.len], ?_, ?_, ?_, ?_, ?_⟩⟩
            · refine Kids.snoc (HI.out.kids.moveX fun b hb hl => ⟨hb, HFR.out.block b hl fun e => by have := (HXB.out b e).2; omega⟩) HI.out.len (fun b hb hl => hset b (by omega) hl) ?_ (by rw [HI.out.size]; omega)
              exact RdF.moveX (fun b hb hl => ⟨by omega, hset b (by omega) hl⟩) _ _ HRX.out
            · exact ⟨hfw.os, hfw.tape, hfw.output, by omega, fun b hb e => (hset b (by omega) (by omega)).trans (hfw.block b hb e)⟩
            · exact HST.out _ _ _ hsz (fun b e => hset b (by have := (HXB.out b e).2; omega) (by have := (HXB.out b e).2; omega)) HS2.out
            · have h1 := HG.out j t c1 t' c2 HT.out HRES.out
              have h2 := HI.out.lo
              rw [drop_at HT.out, ndL] at h2
              omega
            · rw [HEQ.out, HRES.out]
              simp only
              cases eaL g (xs.drop (j + 1)) (j + 1) c2 with
              | error e => rfl
              | ok q => obtain ⟨zs, c4⟩ := q; simp [contL]
          case measure => simp [intOf]; omega
      · obtain rfl : j = n := by omega
        have heq := HI.out.eq
        rw [drop_all HN.out (by omega), eaL] at heq
        have HEQ := Lib.hid heq; clear heq
        go_wp2_with fail
        go_ret2
        rw [HEQ.out]
        simp only [contL, List.append_nil]
        refine ⟨_, _, _, rfl, Kids.rxlF HI.out.kids HI.out.row HI.out.len hn40 HI.out.size, HI.out.fr, HI.out.st⟩
end Go.Proofs.Ytinjeocfnhhlmaa

/-
  Contracts of package meta's each, for others of the closures that it is called with. No statement is proved here.
-/
namespace Go.Proofs.Ytinjeocfnhhlmaa
open Go.ChangeShapes Go.WideShapes Go.ChangeAt Go.RowKit
set_option linter.unusedVariables false

set_option maxRecDepth 100000 in
set_option maxHeartbeats 4000000 in
theorem eachAC {X : Nat → Prop} {St : Nat → World → Prop} {p1 p2 : Value} {wB w : World} {A : Option Addr} {n c c0 M : Nat} (xs : List Int) (g : Nat → Int → Nat → Res) (hb : Below wB.heap.size wB w) (hn : xs.length = n) (hc : n ≤ c) (hm : c ≤ maxLen) (hn40 : n ≤ 3518437208780) (hx : ∀ i t, xs[i]? = some t → IntAt wB A i t)
    (hX : ∀ b, X b → wB.heap.size ≤ b ∧ b < w.heap.size) (hSt : ∀ c W W', W.heap.size ≤ W'.heap.size → (∀ b, X b → W'.heap[b]? = W.heap[b]?) → St c W → St c W') (h0 : St c0 w) 
    (HF : ∀ (i : Nat) (t : Int) (W : World) (c : Nat), xs[i]? = some t → Fr X w W → St c W → Calls Try.prog 86 #[.int .i64 i, .int .i64 t, p1, p2] W (CEn X St W (g i t c))) :
    Calls Try.prog 85 #[.slice A n c, .func (.func 86) #[] #[p1, p2]] w (GEn X St w (eaI g xs 0 c0)) := by
  have hMM := hm
  unfold maxLen at hm
  have HN := Lib.hid hn; clear hn
  have HX := Lib.hid hx; clear hx
  have HF' := Lib.hid HF; clear HF
  have HST := Lib.hid hSt; clear hSt
  have HXB := Lib.hid hX; clear hX
  have H0 := Lib.hid h0; clear h0
  have HB := Lib.hid hb; clear hb
  skip
  skip
  obtain ⟨i0, hi, hz0, hz1, hz2⟩ := info_parts infoTerm
  have hmk : ∀ W : World, (Instr.makeSlice 22 (.int .i64 (n : Int)) (.int .i64 (n : Int))).run Try.prog W = .ok (.slice (some ⟨W.heap.size, 0, none⟩) n n) (W.alloc (.cells (madeCells #[.int .i64 0, .int .i64 0, .slice none 0 0] (n * 3)) 24)) := by
    intro W
    have := run_make W 22 24 i0 _ Try.underlying22 hi hz0 .i64 .i64 (n : Int) (n : Int) (by omega) (Int.le_refl _) (by rw [hz2]; omega) (by omega)
    rw [hz1] at this
    simpa [Value.cells] using this
  clear hi hz0 hz1 hz2
  by_cases hn0 : n = 0
  · subst hn0
    have hxs : xs = [] := List.length_eq_zero_iff.1 HN.out
    go_enter Try.func85, Try.ntmps85
    go_wp2_with fail
    go_ret2
    rw [hxs, eaI]
    exact ⟨none, 0, 0, rfl, ⟨rfl, Nat.le_refl _, Nat.zero_le _, fun i t ht => by simp at ht⟩, Fr.refl _ _, H0.out⟩
  · have e0 : ((n : Int) == 0) = false := by rw [beq_eq_false_iff_ne]; omega
    go_enter Try.func85, Try.ntmps85
    go_wp2_with fail
    have hcs := size_madeCells #[.int .i64 0, .int .i64 0, .slice none 0 0] (n * 3)
    generalize madeCells #[.int .i64 0, .int .i64 0, .slice none 0 0] (n * 3) = cs0 at *
    have hb0 : Below w.heap.size w (w.alloc (.cells cs0 24)) := (Below.refl _ w).alloc (Nat.le_refl _) _
    have x3 := Box.new w 24 cs0
    have hI : MiI X St g xs c0 w n 0 (w.alloc (.cells cs0 24)) cs0 [] c0 := ⟨x3, hcs, rfl, fun i t ht => by simp at ht, Fr.below hb0, HST.out _ _ _ hb0.size (fun b hxb => hb0.block b (HXB.out b hxb).2) H0.out, by rw [List.drop_zero, contL_nil]⟩
    have HI := Lib.hid hI; clear hI hcs hmk hb0 x3 H0
    go_loopw [19] (fun i wr => ∃ (j : Nat) (cs : Array Value) (ys : List T) (c1 : Nat), j ≤ n ∧ i = .int .i64 j ∧ Hid (MiI X St g xs c0 w n j wr cs ys c1)) (fun i _ => n - (intOf i).toNat)
    case atStart => exact ⟨0, cs0, [], c0, Nat.zero_le _, rfl, HI⟩
    case round =>
      clear HI
      obtain ⟨j, cs, ys, c1, hj, rfl, HI⟩ := hrel
      by_cases hlt : j < n
      · obtain ⟨t, ht⟩ := at_ofI HN.out hlt
        have hBr : Below wB.heap.size wB wr := HB.out.trans ((HI.out.fr.to_below (fun i e => (HXB.out i e).1) HB.out.size))
        obtain ⟨b, o, rfl, c0'⟩ := HX.out j t ht
        have q0 := (hBr.cell (cell_lt c0')).trans c0'
        clear c0'
        have HT := Lib.hid ht; clear ht hBr
        have heq := HI.out.eq
        rw [drop_atI HT.out, eaI] at heq
        have HEQ := Lib.hid heq; clear heq
        have hi0 : (0 : Int) ≤ j := by omega
        have hi1 : (j : Int) < n := by omega
        go_wp2_with fail
        have hbA : Below wr.heap.size wr wr := Below.refl _ wr
        have lX : ∀ b, X b → b < wr.heap.size := fun b e => Nat.lt_of_lt_of_le (HXB.out b e).2 HI.out.fr.size
        obtain ⟨Wa, hWa⟩ : ∃ Wa, wr = Wa := ⟨_, rfl⟩
        have hcall := HF'.out j t wr c1 HT.out HI.out.fr HI.out.st
        clear hWa Wa q0
        cases hres : g j t c1 with
        | error ec =>
          rw [hres] at hcall
          refine hcall.mono ?_
          rintro e w1 ⟨rfl, hne, hfr⟩
          have hne' : (ec != 0) = true := by simpa using hne
          have HE : Hid (GEn X St w (eaI g xs 0 c0) (.returned (.tuple #[.slice none 0 0, .int .i64 ec])) (w1.alloc (.cells #[.int .i64 0, .int .i64 0, .slice none 0 0] 24))) := Lib.hid (by
            rw [HEQ.out, hres]
            exact ⟨rfl, hne, (((HI.out.fr.then hbA).trans hfr fun _ _ e => e).then ((Below.refl _ _).alloc (Nat.le_refl _) _))⟩)
          clear hres hcall hfr hbA hne
          go_wp2_with fail
          go_ret2
          exact HE.out
        | ok p =>
          obtain ⟨t', c2⟩ := p
          rw [hres] at hcall
          refine hcall.mono ?_
          rintro e w1 ⟨k3, h3, A3, n3, c3, rfl, hrx, hfr, hst⟩
          have s1 := HI.out.fr.size
          have s2 := hbA.size
          have s3 := hfr.size
          have lrow := HI.out.row.lt
          have nrow : ¬ X w.heap.size := fun e => by have := (HXB.out _ e).2; omega
          have z3 : Box w1 w.heap.size 24 cs := (HI.out.row.keep hbA lrow).fr hfr nrow
          have hfr2 : Fr X wr w1 := (Fr.below (X := X) hbA).trans hfr fun _ _ e => e
          obtain ⟨u0, hu0⟩ := z3.there (i := j * 3) (by rw [HI.out.size]; omega)
          obtain ⟨u1, hu1⟩ := z3.there (i := j * 3 + 1) (by rw [HI.out.size]; omega)
          obtain ⟨u2, hu2⟩ := z3.there (i := j * 3 + 2) (by rw [HI.out.size]; omega)
          have f0 := z3.frozen (j * 3)
          have f1 := z3.frozen (j * 3 + 1)
          have f2 := z3.frozen (j * 3 + 2)
          have lz3 := z3.lt
          have HZ := Lib.hid z3; clear z3
          have HRX := Lib.hid hrx; clear hrx
          have HFR := Lib.hid hfr2; clear hfr2 hfr
          have HS2 := Lib.hid hst; clear hst
          have HRES := Lib.hid hres; clear hres hcall hbA
          go_wp2_with fail
          go_roundw
          case rel =>
            have hset : ∀ g, g ≠ w.heap.size → g < w1.heap.size → (((((w1.setCell ⟨w.heap.size, j * 3, none⟩ (.int .i64 k3)).setCell ⟨w.heap.size, j * 3 + 1, none⟩ (.int .i64 h3)).setCell ⟨w.heap.size, j * 3 + 2, none⟩ (.slice A3 n3 c3))).alloc (.cells #[.int .i64 k3, .int .i64 h3, .slice A3 n3 c3] 24)).heap[g]? = w1.heap[g]? := fun g hg hg' => by
              rw [Below.heap_alloc _ _ _ (by simpa using hg'), Below.heap_setCell _ _ _ _ hg, Below.heap_setCell _ _ _ _ hg, Below.heap_setCell _ _ _ _ hg]
            have hfw : Fr X w w1 := HI.out.fr.trans HFR.out fun _ _ e => e
            have hsz : w1.heap.size ≤ (((((w1.setCell ⟨w.heap.size, j * 3, none⟩ (.int .i64 k3)).setCell ⟨w.heap.size, j * 3 + 1, none⟩ (.int .i64 h3)).setCell ⟨w.heap.size, j * 3 + 2, none⟩ (.slice A3 n3 c3))).alloc (.cells #[.int .i64 k3, .int .i64 h3, .slice A3 n3 c3] 24)).heap.size := by simp [World.setCell]
            refine ⟨j + 1, _, ys ++ [t'], c2, by omega, by go_num, Lib.hid ⟨(((HZ.out.setAt _ _).setAt _ _).setAt _ _).alloc _, by simp [HI.out.size], by simp [HI.out.len], ?_, ?_, ?_, ?_⟩⟩
            · refine Kids.snoc (HI.out.kids.moveX fun b hb hl => ⟨hb, HFR.out.block b hl fun e => by have := (HXB.out b e).2; omega⟩) HI.out.len (fun b hb hl => hset b (by omega) hl) ?_ (by rw [HI.out.size]; omega)
              exact RdF.moveX (fun b hb hl => ⟨by omega, hset b (by omega) hl⟩) _ _ HRX.out
            · exact ⟨hfw.os, hfw.tape, hfw.output, by omega, fun b hb e => (hset b (by omega) (by omega)).trans (hfw.block b hb e)⟩
            · exact HST.out _ _ _ hsz (fun b e => hset b (by have := (HXB.out b e).2; omega) (by have := (HXB.out b e).2; omega)) HS2.out
            · rw [HEQ.out, HRES.out]
              simp only
              cases eaI g (xs.drop (j + 1)) (j + 1) c2 with
              | error e => rfl
              | ok q => obtain ⟨zs, c4⟩ := q; simp [contL]
          case measure => simp [intOf]; omega
      · obtain rfl : j = n := by omega
        have heq := HI.out.eq
        rw [drop_allI HN.out (by omega), eaI] at heq
        have HEQ := Lib.hid heq; clear heq
        go_wp2_with fail
        go_ret2
        rw [HEQ.out]
        simp only [contL, List.append_nil]
        refine ⟨_, _, _, rfl, Kids.rxlF HI.out.kids HI.out.row HI.out.len hn40 HI.out.size, HI.out.fr, HI.out.st⟩
end Go.Proofs.Ytinjeocfnhhlmaa

/-
  Contracts of package meta's each, for others of the closures that it is called with. No statement is proved here.
-/
namespace Go.Proofs.Ytinjeocfnhhlmaa
open Go.ChangeShapes Go.WideShapes Go.ChangeAt Go.RowKit
set_option linter.unusedVariables false

set_option maxRecDepth 100000 in
set_option maxHeartbeats 4000000 in
theorem eachBC {X : Nat → Prop} {St : Nat → World → Prop} {p1 p2 : Value} {wB w : World} {A : Option Addr} {n c c0 M : Nat} (xs : List T) (g : Nat → T → Nat → Res) (hb : Below wB.heap.size wB w) (hn : xs.length = n) (hc : n ≤ c) (hm : c ≤ maxLen) (hn40 : n ≤ 3518437208780) (hx : ∀ i t, xs[i]? = some t → RdAt wB A i t)
    (hX : ∀ b, X b → wB.heap.size ≤ b ∧ b < w.heap.size) (hSt : ∀ c W W', W.heap.size ≤ W'.heap.size → (∀ b, X b → W'.heap[b]? = W.heap[b]?) → St c W → St c W') (h0 : St c0 w) (hlo : c0 + 4000 * ndL xs ≤ M) (hg : ∀ i t c t1 c1, xs[i]? = some t → g i t c = .ok (t1, c1) → c1 ≤ c + 4000 * nd t)
    (HF : ∀ (i : Nat) (t : T) (v : Value) (W : World) (c : Nat), xs[i]? = some t → Rd wB t v → Fr X w W → St c W → c + 4000 * ndL (xs.drop i) ≤ M → Calls Try.prog 146 #[.int .i64 i, v, p1, p2] W (CEn X St W (g i t c))) :
    Calls Try.prog 83 #[.slice A n c, .func (.func 146) #[] #[p1, p2]] w (GEn X St w (eaL g xs 0 c0)) := by
  have hMM := hm
  unfold maxLen at hm
  have HN := Lib.hid hn; clear hn
  have HX := Lib.hid hx; clear hx
  have HF' := Lib.hid HF; clear HF
  have HST := Lib.hid hSt; clear hSt
  have HXB := Lib.hid hX; clear hX
  have H0 := Lib.hid h0; clear h0
  have HB := Lib.hid hb; clear hb
  have HG := Lib.hid hg; clear hg
  have HLO := Lib.hid hlo; clear hlo
  obtain ⟨i0, hi, hz0, hz1, hz2⟩ := info_parts infoTerm
  have hmk : ∀ W : World, (Instr.makeSlice 22 (.int .i64 (n : Int)) (.int .i64 (n : Int))).run Try.prog W = .ok (.slice (some ⟨W.heap.size, 0, none⟩) n n) (W.alloc (.cells (madeCells #[.int .i64 0, .int .i64 0, .slice none 0 0] (n * 3)) 24)) := by
    intro W
    have := run_make W 22 24 i0 _ Try.underlying22 hi hz0 .i64 .i64 (n : Int) (n : Int) (by omega) (Int.le_refl _) (by rw [hz2]; omega) (by omega)
    rw [hz1] at this
    simpa [Value.cells] using this
  clear hi hz0 hz1 hz2
  by_cases hn0 : n = 0
  · subst hn0
    have hxs : xs = [] := List.length_eq_zero_iff.1 HN.out
    go_enter Try.func83, Try.ntmps83
    go_wp2_with fail
    go_ret2
    rw [hxs, eaL]
    exact ⟨none, 0, 0, rfl, ⟨rfl, Nat.le_refl _, Nat.zero_le _, fun i t ht => by simp at ht⟩, Fr.refl _ _, H0.out⟩
  · have e0 : ((n : Int) == 0) = false := by rw [beq_eq_false_iff_ne]; omega
    go_enter Try.func83, Try.ntmps83
    go_wp2_with fail
    have hcs := size_madeCells #[.int .i64 0, .int .i64 0, .slice none 0 0] (n * 3)
    generalize madeCells #[.int .i64 0, .int .i64 0, .slice none 0 0] (n * 3) = cs0 at *
    have hb0 : Below w.heap.size w (w.alloc (.cells cs0 24)) := (Below.refl _ w).alloc (Nat.le_refl _) _
    have x3 := Box.new w 24 cs0
    have hI : MeI X St g xs c0 M w n 0 (w.alloc (.cells cs0 24)) cs0 [] c0 := ⟨x3, hcs, rfl, fun i t ht => by simp at ht, Fr.below hb0, HST.out _ _ _ hb0.size (fun b hxb => hb0.block b (HXB.out b hxb).2) H0.out, by rw [List.drop_zero]; exact HLO.out, by rw [List.drop_zero, contL_nil]⟩
    have HI := Lib.hid hI; clear hI hcs hmk hb0 x3 H0
    go_loopw [19] (fun i wr => ∃ (j : Nat) (cs : Array Value) (ys : List T) (c1 : Nat), j ≤ n ∧ i = .int .i64 j ∧ Hid (MeI X St g xs c0 M w n j wr cs ys c1)) (fun i _ => n - (intOf i).toNat)
    case atStart => exact ⟨0, cs0, [], c0, Nat.zero_le _, rfl, HI⟩
    case round =>
      clear HI
      obtain ⟨j, cs, ys, c1, hj, rfl, HI⟩ := hrel
      by_cases hlt : j < n
      · obtain ⟨t, ht⟩ := at_of HN.out hlt
        have hBr : Below wB.heap.size wB wr := HB.out.trans ((HI.out.fr.to_below (fun i e => (HXB.out i e).1) HB.out.size))
        obtain ⟨b, o, k2, h2, A2, n2, c2', rfl, c0', c1', c2'', hr⟩ := (HX.out j t ht).full
        have q0 := (hBr.cell (cell_lt c0')).trans c0'
        have q1 := (hBr.cell (cell_lt c1')).trans c1'
        have q2 := (hBr.cell (cell_lt c2'')).trans c2''
        clear c0' c1' c2''
        have HR := Lib.hid hr; clear hr
        have HT := Lib.hid ht; clear ht hBr
        have heq := HI.out.eq
        rw [drop_at HT.out, eaL] at heq
        have HEQ := Lib.hid heq; clear heq
        have hi0 : (0 : Int) ≤ j := by omega
        have hi1 : (j : Int) < n := by omega
        go_wp2_with fail
        have hbA : Below wr.heap.size wr (wr.alloc (.cells #[.int .i64 k2, .int .i64 h2, .slice A2 n2 c2'] 24)) := (Below.refl _ wr).alloc (Nat.le_refl _) _
        generalize wr.alloc (.cells #[.int .i64 k2, .int .i64 h2, .slice A2 n2 c2'] 24) = Wa at *
        clear q0 q1 q2
        have lX : ∀ b, X b → b < wr.heap.size := fun b e => Nat.lt_of_lt_of_le (HXB.out b e).2 HI.out.fr.size
        have hcall := HF'.out j t _ Wa c1 HT.out HR.out (HI.out.fr.then hbA) (HST.out _ _ _ hbA.size (fun b e => hbA.block b (lX b e)) HI.out.st) HI.out.lo
        cases hres : g j t c1 with
        | error ec =>
          rw [hres] at hcall
          refine hcall.mono ?_
          rintro e w1 ⟨rfl, hne, hfr⟩
          have hne' : (ec != 0) = true := by simpa using hne
          have HE : Hid (GEn X St w (eaL g xs 0 c0) (.returned (.tuple #[.slice none 0 0, .int .i64 ec])) (w1.alloc (.cells #[.int .i64 0, .int .i64 0, .slice none 0 0] 24))) := Lib.hid (by
            rw [HEQ.out, hres]
            exact ⟨rfl, hne, (((HI.out.fr.then hbA).trans hfr fun _ _ e => e).then ((Below.refl _ _).alloc (Nat.le_refl _) _))⟩)
          clear hres hcall hfr hbA hne
          go_wp2_with fail
          go_ret2
          exact HE.out
        | ok p =>
          obtain ⟨t', c2⟩ := p
          rw [hres] at hcall
          refine hcall.mono ?_
          rintro e w1 ⟨k3, h3, A3, n3, c3, rfl, hrx, hfr, hst⟩
          have s1 := HI.out.fr.size
          have s2 := hbA.size
          have s3 := hfr.size
          have lrow := HI.out.row.lt
          have nrow : ¬ X w.heap.size := fun e => by have := (HXB.out _ e).2; omega
          have z3 : Box w1 w.heap.size 24 cs := (HI.out.row.keep hbA lrow).fr hfr nrow
          have hfr2 : Fr X wr w1 := (Fr.below (X := X) hbA).trans hfr fun _ _ e => e
          obtain ⟨u0, hu0⟩ := z3.there (i := j * 3) (by rw [HI.out.size]; omega)
          obtain ⟨u1, hu1⟩ := z3.there (i := j * 3 + 1) (by rw [HI.out.size]; omega)
          obtain ⟨u2, hu2⟩ := z3.there (i := j * 3 + 2) (by rw [HI.out.size]; omega)
          have f0 := z3.frozen (j * 3)
          have f1 := z3.frozen (j * 3 + 1)
          have f2 := z3.frozen (j * 3 + 2)
          have lz3 := z3.lt
          have HZ := Lib.hid z3; clear z3
          have HRX := Lib.hid hrx; clear hrx
          have HFR := Lib.hid hfr2; clear hfr2 hfr
          have HS2 := Lib.hid hst; clear hst
          have HRES := Lib.hid hres; clear hres hcall hbA
          go_wp2_with fail
          go_roundw
          case rel =>
            have hset : ∀ g, g ≠ w.heap.size → g < w1.heap.size → (((((w1.setCell ⟨w.heap.size, j * 3, none⟩ (.int .i64 k3)).setCell ⟨w.heap.size, j * 3 + 1, none⟩ (.int .i64 h3)).setCell ⟨w.heap.size, j * 3 + 2, none⟩ (.slice A3 n3 c3))).alloc (.cells #[.int .i64 k3, .int .i64 h3, .slice A3 n3 c3] 24)).heap[g]? = w1.heap[g]? := fun g hg hg' => by
              rw [Below.heap_alloc _ _ _ (by simpa using hg'), Below.heap_setCell _ _ _ _ hg, Below.heap_setCell _ _ _ _ hg, Below.heap_setCell _ _ _ _ hg]
            have hfw : Fr X w w1 := HI.out.fr.trans HFR.out fun _ _ e => e
            have hsz : w1.heap.size ≤ (((((w1.setCell ⟨w.heap.size, j * 3, none⟩ (.int .i64 k3)).setCell ⟨w.heap.size, j * 3 + 1, none⟩ (.int .i64 h3)).setCell ⟨w.heap.size, j * 3 + 2, none⟩ (.slice A3 n3 c3))).alloc (.cells #[.int .i64 k3, .int .i64 h3, .slice A3 n3 c3] 24)).heap.size := by simp [World.setCell]
            refine ⟨j + 1, _, ys ++ [t'], c2, by omega, by go_num, Lib.hid ⟨(((HZ.out.setAt _ _).setAt _ _).setAt _ _).alloc _, by simp [HI.out.size], by simp [HI.out.len], ?_, ?_, ?_, ?_, ?_⟩⟩
            · refine Kids.snoc (HI.out.kids.moveX fun b hb hl => ⟨hb, HFR.out.block b hl fun e => by have := (HXB.out b e).2; omega⟩) HI.out.len (fun b hb hl => hset b (by omega) hl) ?_ (by rw [HI.out.size]; omega)
              exact RdF.moveX (fun b hb hl => ⟨by omega, hset b (by omega) hl⟩) _ _ HRX.out
            · exact ⟨hfw.os, hfw.tape, hfw.output, by omega, fun b hb e => (hset b (by omega) (by omega)).trans (hfw.block b hb e)⟩
            · exact HST.out _ _ _ hsz (fun b e => hset b (by have := (HXB.out b e).2; omega) (by have := (HXB.out b e).2; omega)) HS2.out
            · have h1 := HG.out j t c1 t' c2 HT.out HRES.out
              have h2 := HI.out.lo
              rw [drop_at HT.out, ndL] at h2
              omega
            · rw [HEQ.out, HRES.out]
              simp only
              cases eaL g (xs.drop (j + 1)) (j + 1) c2 with
              | error e => rfl
              | ok q => obtain ⟨zs, c4⟩ := q; simp [contL]
          case measure => simp [intOf]; omega
      · obtain rfl : j = n := by omega
        have heq := HI.out.eq
        rw [drop_all HN.out (by omega), eaL] at heq
        have HEQ := Lib.hid heq; clear heq
        go_wp2_with fail
        go_ret2
        rw [HEQ.out]
        simp only [contL, List.append_nil]
        refine ⟨_, _, _, rfl, Kids.rxlF HI.out.kids HI.out.row HI.out.len hn40 HI.out.size, HI.out.fr, HI.out.st⟩
set_option maxRecDepth 100000 in
set_option maxHeartbeats 4000000 in
theorem eachCC {X : Nat → Prop} {St : Nat → World → Prop} {p1 p2 : Value} {wB w : World} {A : Option Addr} {n c c0 M : Nat} (xs : List T) (g : Nat → T → Nat → Res) (hb : Below wB.heap.size wB w) (hn : xs.length = n) (hc : n ≤ c) (hm : c ≤ maxLen) (hn40 : n ≤ 3518437208780) (hx : ∀ i t, xs[i]? = some t → RdAt wB A i t)
    (hX : ∀ b, X b → wB.heap.size ≤ b ∧ b < w.heap.size) (hSt : ∀ c W W', W.heap.size ≤ W'.heap.size → (∀ b, X b → W'.heap[b]? = W.heap[b]?) → St c W → St c W') (h0 : St c0 w) (hlo : c0 + 4000 * ndL xs ≤ M) (hg : ∀ i t c t1 c1, xs[i]? = some t → g i t c = .ok (t1, c1) → c1 ≤ c + 4000 * nd t)
    (HF : ∀ (i : Nat) (t : T) (v : Value) (W : World) (c : Nat), xs[i]? = some t → Rd wB t v → Fr X w W → St c W → c + 4000 * ndL (xs.drop i) ≤ M → Calls Try.prog 84 #[.int .i64 i, v, p1, p2] W (CEn X St W (g i t c))) :
    Calls Try.prog 83 #[.slice A n c, .func (.func 84) #[] #[p1, p2]] w (GEn X St w (eaL g xs 0 c0)) := by
  have hMM := hm
  unfold maxLen at hm
  have HN := Lib.hid hn; clear hn
  have HX := Lib.hid hx; clear hx
  have HF' := Lib.hid HF; clear HF
  have HST := Lib.hid hSt; clear hSt
  have HXB := Lib.hid hX; clear hX
  have H0 := Lib.hid h0; clear h0
  have HB := Lib.hid hb; clear hb
  have HG := Lib.hid hg; clear hg
  have HLO := Lib.hid hlo; clear hlo
  obtain ⟨i0, hi, hz0, hz1, hz2⟩ := info_parts infoTerm
  have hmk : ∀ W : World, (Instr.makeSlice 22 (.int .i64 (n : Int)) (.int .i64 (n : Int))).run Try.prog W = .ok (.slice (some ⟨W.heap.size, 0, none⟩) n n) (W.alloc (.cells (madeCells #[.int .i64 0, .int .i64 0, .slice none 0 0] (n * 3)) 24)) := by
    intro W
    have := run_make W 22 24 i0 _ Try.underlying22 hi hz0 .i64 .i64 (n : Int) (n : Int) (by omega) (Int.le_refl _) (by rw [hz2]; omega) (by omega)
    rw [hz1] at this
    simpa [Value.cells] using this
  clear hi hz0 hz1 hz2
  by_cases hn0 : n = 0
  · subst hn0
    have hxs : xs = [] := List.length_eq_zero_iff.1 HN.out
    go_enter Try.func83, Try.ntmps83
    go_wp2_with fail
    go_ret2
    rw [hxs, eaL]
    exact ⟨none, 0, 0, rfl, ⟨rfl, Nat.le_refl _, Nat.zero_le _, fun i t ht => by simp at ht⟩, Fr.refl _ _, H0.out⟩
  · have e0 : ((n : Int) == 0) = false := by rw [beq_eq_false_iff_ne]; omega
    go_enter Try.func83, Try.ntmps83
    go_wp2_with fail
    have hcs := size_madeCells #[.int .i64 0, .int .i64 0, .slice none 0 0] (n * 3)
    generalize madeCells #[.int .i64 0, .int .i64 0, .slice none 0 0] (n * 3) = cs0 at *
    have hb0 : Below w.heap.size w (w.alloc (.cells cs0 24)) := (Below.refl _ w).alloc (Nat.le_refl _) _
    have x3 := Box.new w 24 cs0
    have hI : MeI X St g xs c0 M w n 0 (w.alloc (.cells cs0 24)) cs0 [] c0 := ⟨x3, hcs, rfl, fun i t ht => by simp at ht, Fr.below hb0, HST.out _ _ _ hb0.size (fun b hxb => hb0.block b (HXB.out b hxb).2) H0.out, by rw [List.drop_zero]; exact HLO.out, by rw [List.drop_zero, contL_nil]⟩
    have HI := Lib.hid hI; clear hI hcs hmk hb0 x3 H0
    go_loopw [19] (fun i wr => ∃ (j : Nat) (cs : Array Value) (ys : List T) (c1 : Nat), j ≤ n ∧ i = .int .i64 j ∧ Hid (MeI X St g xs c0 M w n j wr cs ys c1)) (fun i _ => n - (intOf i).toNat)
    case atStart => exact ⟨0, cs0, [], c0, Nat.zero_le _, rfl, HI⟩
    case round =>
      clear HI
      obtain ⟨j, cs, ys, c1, hj, rfl, HI⟩ := hrel
      by_cases hlt : j < n
      · obtain ⟨t, ht⟩ := at_of HN.out hlt
        have hBr : Below wB.heap.size wB wr := HB.out.trans ((HI.out.fr.to_below (fun i e => (HXB.out i e).1) HB.out.size))
        obtain ⟨b, o, k2, h2, A2, n2, c2', rfl, c0', c1', c2'', hr⟩ := (HX.out j t ht).full
        have q0 := (hBr.cell (cell_lt c0')).trans c0'
        have q1 := (hBr.cell (cell_lt c1')).trans c1'
        have q2 := (hBr.cell (cell_lt c2'')).trans c2''
        clear c0' c1' c2''
        have HR := Lib.hid hr; clear hr
        have HT := Lib.hid ht; clear ht hBr
        have heq := HI.out.eq
        rw [drop_at HT.out, eaL] at heq
        have HEQ := Lib.hid heq; clear heq
        have hi0 : (0 : Int) ≤ j := by omega
        have hi1 : (j : Int) < n := by omega
        go_wp2_with fail
        have hbA : Below wr.heap.size wr (wr.alloc (.cells #[.int .i64 k2, .int .i64 h2, .slice A2 n2 c2'] 24)) := (Below.refl _ wr).alloc (Nat.le_refl _) _
        generalize wr.alloc (.cells #[.int .i64 k2, .int .i64 h2, .slice A2 n2 c2'] 24) = Wa at *
        clear q0 q1 q2
        have lX : ∀ b, X b → b < wr.heap.size := fun b e => Nat.lt_of_lt_of_le (HXB.out b e).2 HI.out.fr.size
        have hcall := HF'.out j t _ Wa c1 HT.out HR.out (HI.out.fr.then hbA) (HST.out _ _ _ hbA.size (fun b e => hbA.block b (lX b e)) HI.out.st) HI.out.lo
        cases hres : g j t c1 with
        | error ec =>
          rw [hres] at hcall
          refine hcall.mono ?_
          rintro e w1 ⟨rfl, hne, hfr⟩
          have hne' : (ec != 0) = true := by simpa using hne
          have HE : Hid (GEn X St w (eaL g xs 0 c0) (.returned (.tuple #[.slice none 0 0, .int .i64 ec])) (w1.alloc (.cells #[.int .i64 0, .int .i64 0, .slice none 0 0] 24))) := Lib.hid (by
            rw [HEQ.out, hres]
            exact ⟨rfl, hne, (((HI.out.fr.then hbA).trans hfr fun _ _ e => e).then ((Below.refl _ _).alloc (Nat.le_refl _) _))⟩)
          clear hres hcall hfr hbA hne
          go_wp2_with fail
          go_ret2
          exact HE.out
        | ok p =>
          obtain ⟨t', c2⟩ := p
          rw [hres] at hcall
          refine hcall.mono ?_
          rintro e w1 ⟨k3, h3, A3, n3, c3, rfl, hrx, hfr, hst⟩
          have s1 := HI.out.fr.size
          have s2 := hbA.size
          have s3 := hfr.size
          have lrow := HI.out.row.lt
          have nrow : ¬ X w.heap.size := fun e => by have := (HXB.out _ e).2; omega
          have z3 : Box w1 w.heap.size 24 cs := (HI.out.row.keep hbA lrow).fr hfr nrow
          have hfr2 : Fr X wr w1 := (Fr.below (X := X) hbA).trans hfr fun _ _ e => e
          obtain ⟨u0, hu0⟩ := z3.there (i := j * 3) (by rw [HI.out.size]; omega)
          obtain ⟨u1, hu1⟩ := z3.there (i := j * 3 + 1) (by rw [HI.out.size]; omega)
          obtain ⟨u2, hu2⟩ := z3.there (i := j * 3 + 2) (by rw [HI.out.size]; omega)
          have f0 := z3.frozen (j * 3)
          have f1 := z3.frozen (j * 3 + 1)
          have f2 := z3.frozen (j * 3 + 2)
          have lz3 := z3.lt
          have HZ := Lib.hid z3; clear z3
          have HRX := Lib.hid hrx; clear hrx
          have HFR := Lib.hid hfr2; clear hfr2 hfr
          have HS2 := Lib.hid hst; clear hst
          have HRES := Lib.hid hres; clear hres hcall hbA
          go_wp2_with fail
          go_roundw
          case rel =>
            have hset : ∀ g, g ≠ w.heap.size → g < w1.heap.size → (((((w1.setCell ⟨w.heap.size, j * 3, none⟩ (.int .i64 k3)).setCell ⟨w.heap.size, j * 3 + 1, none⟩ (.int .i64 h3)).setCell ⟨w.heap.size, j * 3 + 2, none⟩ (.slice A3 n3 c3))).alloc (.cells #[.int .i64 k3, .int .i64 h3, .slice A3 n3 c3] 24)).heap[g]? = w1.heap[g]? := fun g hg hg' => by
              rw [Below.heap_alloc _ _ _ (by simpa using hg'), Below.heap_setCell _ _ _ _ hg, Below.heap_setCell _ _ _ _ hg, Below.heap_setCell _ _ _ _ hg]
            have hfw : Fr X w w1 := HI.out.fr.trans HFR.out fun _ _ e => e
            have hsz : w1.heap.size ≤ (((((w1.setCell ⟨w.heap.size, j * 3, none⟩ (.int .i64 k3)).setCell ⟨w.heap.size, j * 3 + 1, none⟩ (.int .i64 h3)).setCell ⟨w.heap.size, j * 3 + 2, none⟩ (.slice A3 n3 c3))).alloc (.cells #[.int .i64 k3, .int .i64 h3, .slice A3 n3 c3] 24)).heap.size := by simp [World.setCell]
            refine ⟨j + 1, _, ys ++ [t'], c2, by omega, by go_num, Lib.hid ⟨(((HZ.out.setAt _ _).setAt _ _).setAt _ _).alloc _, by simp [HI.out.size], by simp [HI.out.len], ?_, ?_, ?_, ?_, ?_⟩⟩
            · refine Kids.snoc (HI.out.kids.moveX fun b hb hl => ⟨hb, HFR.out.block b hl fun e => by have := (HXB.out b e).2; omega⟩) HI.out.len (fun b hb hl => hset b (by omega) hl) ?_ (by rw [HI.out.size]; omega)
              exact RdF.moveX (fun b hb hl => ⟨by omega, hset b (by omega) hl⟩) _ _ HRX.out
            · exact ⟨hfw.os, hfw.tape, hfw.output, by omega, fun b hb e => (hset b (by omega) (by omega)).trans (hfw.block b hb e)⟩
            · exact HST.out _ _ _ hsz (fun b e => hset b (by have := (HXB.out b e).2; omega) (by have := (HXB.out b e).2; omega)) HS2.out
            · have h1 := HG.out j t c1 t' c2 HT.out HRES.out
              have h2 := HI.out.lo
              rw [drop_at HT.out, ndL] at h2
              omega
            · rw [HEQ.out, HRES.out]
              simp only
              cases eaL g (xs.drop (j + 1)) (j + 1) c2 with
              | error e => rfl
              | ok q => obtain ⟨zs, c4⟩ := q; simp [contL]
          case measure => simp [intOf]; omega
      · obtain rfl : j = n := by omega
        have heq := HI.out.eq
        rw [drop_all HN.out (by omega), eaL] at heq
        have HEQ := Lib.hid heq; clear heq
        go_wp2_with fail
        go_ret2
        rw [HEQ.out]
        simp only [contL, List.append_nil]
        refine ⟨_, _, _, rfl, Kids.rxlF HI.out.kids HI.out.row HI.out.len hn40 HI.out.size, HI.out.fr, HI.out.st⟩
end Go.Proofs.Ytinjeocfnhhlmaa

/-
  Contracts of the closures within package meta's fill and become, given that of fill for what they are called with. No statement is proved here.
-/
namespace Go.Proofs.Ytinjeocfnhhlmaa
open Go.ChangeShapes Go.WideShapes Go.ChangeAt Go.RowKit
set_option linter.unusedVariables false
set_option maxRecDepth 100000

/-- an answer, or noughts and an error -/
def CO (St : Nat → World → Prop) (B : Nat) (w' : World) (r : Res) (k h : Int) (A : Option Addr) (n cc : Nat) (ec : Int) : Prop :=
  match r with
  | .error e' => ec = e' ∧ e' ≠ 0 ∧ Value.agg #[.int .i64 k, .int .i64 h, .slice A n cc] = zT
  | .ok (t, c) => ec = 0 ∧ RX (fun b => b < B) w' t (.agg #[.int .i64 k, .int .i64 h, .slice A n cc]) ∧ St c w'
theorem CEn.uni {X : Nat → Prop} {St : Nat → World → Prop} {w w' : World} {r : Res} {e : Ending} (h : CEn X St w r e w') : ∃ k h A n cc ec, e = .returned (.tuple #[.agg #[.int .i64 k, .int .i64 h, .slice A n cc], .int .i64 ec]) ∧ CO St w.heap.size w' r k h A n cc ec ∧ Fr X w w' := by
  cases r with
  | error e' =>
    obtain ⟨rfl, hne, hfr⟩ := h
    exact ⟨0, 0, none, 0, 0, e', rfl, ⟨rfl, hne, rfl⟩, hfr⟩
  | ok p =>
    obtain ⟨t, c⟩ := p
    obtain ⟨k, h, A, n, cc, rfl, hr, hfr, hst⟩ := h
    exact ⟨k, h, A, n, cc, 0, rfl, ⟨rfl, hr, hst⟩, hfr⟩
theorem CO.cen {X : Nat → Prop} {St : Nat → World → Prop} {w w' : World} {r : Res} {k h : Int} {A : Option Addr} {n cc : Nat} {ec : Int} (c : CO St w.heap.size w' r k h A n cc ec) (hfr : Fr X w w') : CEn X St w r (.returned (.tuple #[.agg #[.int .i64 k, .int .i64 h, .slice A n cc], .int .i64 ec])) w' := by
  cases r with
  | error e' =>
    obtain ⟨rfl, hne, hz⟩ := c
    exact ⟨by rw [hz], hne, hfr⟩
  | ok p =>
    obtain ⟨t, x⟩ := p
    obtain ⟨rfl, hr, hst⟩ := c
    exact ⟨k, h, A, n, cc, rfl, hr, hfr, hst⟩
theorem CO.move {St St' : Nat → World → Prop} {B B' : Nat} {w w' : World} {r : Res} {k h : Int} {A : Option Addr} {n cc : Nat} {ec : Int} (c : CO St B w r k h A n cc ec) (hB : B' ≤ B) (hm : ∀ b, B ≤ b → b < w.heap.size → w'.heap[b]? = w.heap[b]?) (hst : ∀ t x, r = .ok (t, x) → St x w → St' x w') : CO St' B' w' r k h A n cc ec := by
  cases r with
  | error e' => exact c
  | ok p =>
    obtain ⟨t, x⟩ := p
    obtain ⟨rfl, hr, hs⟩ := c
    exact ⟨rfl, RdF.moveX (fun b hb hl => ⟨by omega, hm b (by omega) hl⟩) _ _ hr, hst t x rfl hs⟩

/-- what is asked of the terms for metas -/
structure ThK (th : List T) (wB : World) (A : Option Addr) (m cL : Nat) : Prop where
  my : ∀ x ∈ th, myB x = true
  ok : ∀ x ∈ th, okT 2199023255552 x
  len : th.length = m
  le : m ≤ cL
  cap : cL ≤ maxLen
  at_ : ∀ i x, th[i]? = some x → RdAt wB A i x
/-- fill's contract for one term -/
def FiC (th : List T) (t : T) : Prop :=
  ∀ (wB w : World) (pp : Nat) (A : Option Addr) (m cL : Nat) (n : Int) (c : Nat) (v : Value), Below wB.heap.size wB w → wB.heap.size ≤ pp → ptB w pp A m cL c → ThK th wB A m cL → Rd wB t v → nodB t = true →
    0 ≤ n → n + dp t ≤ 4000 → okT 2199023255552 t → c + 4000 * nd t ≤ 1125899906842624 →
    Calls Try.prog 111 #[.pointer (some ⟨pp, 0, none⟩), v, .int .i64 n] w (CEn (fun b => b = pp) (fun c w' => ptB w' pp A m cL c) w (pf th n c t))

set_option maxHeartbeats 4000000 in
theorem closFC {th : List T} {t : T} (hF : FiC th t) {wB w : World} {pp pP pN pT : Nat} {A : Option Addr} {m cL : Nat} {n : Int} {c : Nat} {k h : Int} {At : Option Addr} {nt ct : Nat} (i : Nat) (v : Value)
    (hb : Below wB.heap.size wB w) (hpB : wB.heap.size ≤ pp) (hp : ptB w pp A m cL c) (hth : ThK th wB A m cL) (hv : Rd wB t v) (hno : nodB t = true) (h0 : 0 ≤ n) (hn : n + 1 + dp t ≤ 4000) (ho : okT 2199023255552 t) (hc : c + 4000 * nd t ≤ 1125899906842624)
    (xP : Box w pP 146 #[.pointer (some ⟨pp, 0, none⟩)]) (xN : Box w pN 3 #[.int .i64 n]) (xT : Box w pT 24 #[.int .i64 k, .int .i64 h, .slice At nt ct]) (hnt : nt ≤ ct) (hct : ct ≤ maxLen) (hi : i ≤ maxLen) (hne1 : pP ≠ pp) (hne2 : pN ≠ pp) (hne3 : pT ≠ pp) :
    Calls Try.prog 129 #[.int .i64 i, v, .pointer (some ⟨pP, 0, none⟩), .pointer (some ⟨pN, 0, none⟩), .pointer (some ⟨pT, 0, none⟩)] w (CEn (fun b => b = pp) (fun c w' => ptB w' pp A m cL c) w (pf th (n + bd k nt i) c t)) := by
  obtain ⟨k2, h2, A2, n2, c2, rfl⟩ := hv.full
  have hbd : 0 ≤ bd k nt i ∧ bd k nt i ≤ 1 := by rw [bd_bdn]; have := bdn_le k nt i; omega
  obtain ⟨s, hs⟩ : ∃ s, s = n + bd k nt i := ⟨_, rfl⟩
  have hsum : IntKind.i64.wrap (n + bd k nt i) = s := by rw [hs, wrapEq, wrap_small (by omega) (by omega)]
  obtain ⟨W, hW⟩ : ∃ W, (w.alloc (.cells #[.int .i64 k2, .int .i64 h2, .slice A2 n2 c2] 24)).alloc (.cells #[.int .i64 0, .int .i64 0, .slice none 0 0] 24) = W := ⟨_, rfl⟩
  have hbW : Below w.heap.size w W := by rw [← hW]; exact ((Below.refl _ _).alloc (Nat.le_refl _) _).alloc (by simp) _
  have z1 : Box W w.heap.size 24 #[.int .i64 k2, .int .i64 h2, .slice A2 n2 c2] := by rw [← hW]; exact (Box.new _ _ _).alloc _
  have z2 : Box W (w.heap.size + 1) 24 #[.int .i64 0, .int .i64 0, .slice none 0 0] := by rw [← hW]; exact (Box.new (w.alloc _) _ _).at (by simp)
  have lP := xP.lt
  have lN := xN.lt
  have lT := xT.lt
  have lp := hp.lt
  replace xP := xP.keep hbW lP
  replace xN := xN.keep hbW lN
  replace xT := xT.keep hbW lT
  have HWW := Lib.hid hW; clear hW
  have HBD := Lib.hid fun W' => boundC k h At nt ct hnt hct i hi W'
  have HFI : Hid (∀ W', Below W.heap.size W W' → Calls Try.prog 111 #[.pointer (some ⟨pp, 0, none⟩), .agg #[.int .i64 k2, .int .i64 h2, .slice A2 n2 c2], .int .i64 (n + bd k nt i)] W' (CEn (fun b => b = pp) (fun c w' => ptB w' pp A m cL c) W' (pf th (n + bd k nt i) c t))) := Lib.hid fun W' hW' =>
    hF wB W' pp A m cL _ c _ (hb.trans ((hbW.trans (hW'.mono hbW.size)).mono hb.size)) hpB (hp.keep (hbW.trans (hW'.mono hbW.size)) lp) hth hv hno (by omega) (by omega) ho hc
  have HB := Lib.hid hbW; clear hbW hb
  have HP := Lib.hid hp; clear hp
  clear hth hv hF ho hc hn h0 hi hct hnt hpB
  rw [← hs] at HFI ⊢
  clear hs
  generalize bd k nt i = β at *
  generalize pf th s c t = R at *
  go_enter Try.func129, Try.ntmps129
  go_wp2_with fail
  rw [HWW.out]
  clear HWW
  obtain ⟨a0, a1, a2⟩ := z1.three
  obtain ⟨b0, b1, b2⟩ := xT.three
  have d0 := (xP.one).1
  have e0 := (xN.one).1
  have hcur : Below W.heap.size W W.drew := (Below.refl _ W).drew
  have szW := HB.out.size
  go_region_held3 (fun w' => w'.cell? ⟨w.heap.size, 0, none⟩ = some (.int .i64 k2) ∧ w'.cell? ⟨w.heap.size, 1, none⟩ = some (.int .i64 h2) ∧ w'.cell? ⟨w.heap.size, 2, none⟩ = some (.slice A2 n2 c2) ∧
      w'.cell? ⟨pP, 0, none⟩ = some (.pointer (some ⟨pp, 0, none⟩)) ∧ w'.cell? ⟨pN, 0, none⟩ = some (.int .i64 n) ∧ w'.cell? ⟨pT, 0, none⟩ = some (.int .i64 k) ∧ w'.cell? ⟨pT, 1, none⟩ = some (.int .i64 h) ∧ w'.cell? ⟨pT, 2, none⟩ = some (.slice At nt ct))
    (first | exact ⟨a0, a1, a2, d0, e0, b0, b1, b2⟩ | exact ⟨q1.three.1, q1.three.2.1, q1.three.2.2, qP.one.1, qN.one.1, qT.three.1, qT.three.2.1, qT.three.2.2⟩ | exact ⟨r1.three.1, r1.three.2.1, r1.three.2.2, rP.one.1, rN.one.1, rT.three.1, rT.three.2.1, rT.three.2.2⟩ | exact ⟨o1.three.1, o1.three.2.1, o1.three.2.2, oP.one.1, oN.one.1, oT.three.1, oT.three.2.1, oT.three.2.2⟩)
    (first
      | (go_at_call 123
         refine (HBD.out _).mono ?_
         rintro e w1 ⟨rfl, hb1⟩
         replace hcur := hcur.trans (hb1.mono hcur.size)
         have q1 := z1.keep hcur z1.lt
         have q2 := z2.keep hcur z2.lt
         have qT := xT.keep hcur xT.lt
         have qP := xP.keep hcur xP.lt
         have qN := xN.keep hcur xN.lt
         clear hb1)
      | (go_at_call 111
         refine (HFI.out _ hcur).mono ?_
         intro e w2 hE
         obtain ⟨k3, h3, A3, n3, c3, ec, rfl, hout, hfr⟩ := hE.uni
         have r1 := q1.fr hfr (by omega)
         have r2 := q2.fr hfr (by omega)
         have rT := qT.fr hfr hne3
         have rP := qP.fr hfr hne1
         have rN := qN.fr hfr hne2
         have s2 := r2.lt
         have HO := Lib.hid hout
         have HFR := Lib.hid hfr
         clear hout hE hfr
         obtain ⟨y0, y1, y2⟩ := r2.three
         have f0 := r2.frozen 0
         have f1 := r2.frozen 1
         have f2 := r2.frozen 2
         have o1 := r1.other3 (a := w.heap.size + 1) (by omega) (.int .i64 k3) (.int .i64 h3) (.slice A3 n3 c3)
         have oT := rT.other3 (a := w.heap.size + 1) (by omega) (.int .i64 k3) (.int .i64 h3) (.slice A3 n3 c3)
         have oP := rP.other3 (a := w.heap.size + 1) (by omega) (.int .i64 k3) (.int .i64 h3) (.slice A3 n3 c3)
         have oN := rN.other3 (a := w.heap.size + 1) (by omega) (.int .i64 k3) (.int .i64 h3) (.slice A3 n3 c3)))
  clear o1 oT oP oN
  go_wp2_with fail
  refine bodyPost_ret (v := .tuple #[.agg #[.int .i64 k3, .int .i64 h3, .slice A3 n3 c3], .int .i64 ec]) (by simp [results, Try.results129, go_sem, y0, y1, y2]) rfl ?_
  have s3 := hcur.size
  have s4 := HFR.out.size
  have s5 := z2.lt
  refine CO.cen (HO.out.move (by omega) (fun g hg _ => heap_other3 _ _ _ _ _ _ (by omega)) fun _ _ _ hs => Box.other3 hs (by omega) _ _ _) ?_
  exact ((Fr.below (X := fun b => b = pp) (HB.out.trans (hcur.mono HB.out.size))).trans HFR.out fun _ _ e => e).set3 (fun h => by omega) _ _ _

theorem CO.po {th : List T} {n : Int} {c : Nat} {t : T} {St St' : Nat → World → Prop} {B B' : Nat} {w w' : World} {k h : Int} {A : Option Addr} {nn cc : Nat} {ec : Int} (o : CO St B w (pf th n 0 t) k h A nn cc ec) (hB : B' ≤ B) (hm : ∀ b, B ≤ b → b < w.heap.size → w'.heap[b]? = w.heap[b]?) (hst : St' c w') : CO St' B' w' (po th n c t) k h A nn cc ec := by
  unfold Go.Proofs.Ytinjeocfnhhlmaa.po
  cases hr : pf th n 0 t with
  | error e' => rw [hr] at o; exact o
  | ok p =>
    obtain ⟨t, x⟩ := p
    rw [hr] at o
    obtain ⟨rfl, hr, hs⟩ := o
    exact ⟨rfl, RdF.moveX (fun b hb hl => ⟨by omega, hm b (by omega) hl⟩) _ _ hr, hst⟩
set_option maxHeartbeats 4000000 in
theorem closBC {th : List T} {t : T} (hF : FiC th t) {wB w : World} {pp pP pN : Nat} {A : Option Addr} {m cL : Nat} {n : Int} {c : Nat} (i : Nat) (v : Value)
    (hb : Below wB.heap.size wB w) (hp : ptB w pp A m cL c) (hth : ThK th wB A m cL) (hv : Rd wB t v) (hno : nodB t = true) (h0 : 0 ≤ n) (hn : n + dp t ≤ 4000) (ho : okT 2199023255552 t) (hc : 4000 * nd t ≤ 1125899906842624)
    (xP : Box w pP 146 #[.pointer (some ⟨pp, 0, none⟩)]) (xN : Box w pN 3 #[.int .i64 n]) :
    Calls Try.prog 146 #[.int .i64 i, v, .pointer (some ⟨pP, 0, none⟩), .pointer (some ⟨pN, 0, none⟩)] w (CEn (fun b => b = pp) (fun c w' => ptB w' pp A m cL c) w (po th n c t)) := by
  obtain ⟨k2, h2, A2, n2, c2, rfl⟩ := hv.full
  obtain ⟨W, hW⟩ : ∃ W, ((w.alloc (.cells #[.int .i64 k2, .int .i64 h2, .slice A2 n2 c2] 24)).alloc (.cells #[.int .i64 0, .int .i64 0, .slice none 0 0] 24)).alloc (.cells #[.slice A m cL, .int .i64 0] 123) = W := ⟨_, rfl⟩
  have hbW : Below w.heap.size w W := by rw [← hW]; exact (((Below.refl _ _).alloc (Nat.le_refl _) _).alloc (by simp) _).alloc (by simp; omega) _
  have z1 : Box W w.heap.size 24 #[.int .i64 k2, .int .i64 h2, .slice A2 n2 c2] := by rw [← hW]; exact ((Box.new _ _ _).alloc _).alloc _
  have z2 : Box W (w.heap.size + 1) 24 #[.int .i64 0, .int .i64 0, .slice none 0 0] := by rw [← hW]; exact ((Box.new (w.alloc _) _ _).at (by simp)).alloc _
  have z3 : ptB W (w.heap.size + 1 + 1) A m cL 0 := by rw [← hW]; exact (Box.new ((w.alloc _).alloc _) _ _).at (by simp)
  have lP := xP.lt
  have lN := xN.lt
  have lp := hp.lt
  have hsB := hb.size
  have HFI := Lib.hid (hF wB W (w.heap.size + 1 + 1) A m cL n 0 _ (hb.trans (hbW.mono hb.size)) (by omega) z3 hth hv hno h0 hn ho (by omega))
  have HWW := Lib.hid hW; clear hW
  have HB := Lib.hid hbW; clear hb
  have HP := Lib.hid hp
  have d0 := (xP.one).1
  have e0 := (xN.one).1
  obtain ⟨p0, p1⟩ := hp.two
  obtain ⟨a0, a1, a2⟩ := z1.three
  have lP1 : pP < w.heap.size + 1 := by omega
  have lP2 : pP < w.heap.size + 1 + 1 := by omega
  have lN1 : pN < w.heap.size + 1 := by omega
  have lN2 : pN < w.heap.size + 1 + 1 := by omega
  clear hth hv hF ho hc hn h0 hbW xP xN hp hsB
  go_enter Try.func146, Try.ntmps146
  go_wp2_with fail
  rw [HWW.out]
  clear HWW
  refine HFI.out.mono ?_
  intro e w2 hE
  obtain ⟨k3, h3, A3, n3, c3, ec, rfl, hout, hfr⟩ := hE.uni
  have s5 := z2.lt
  have r2 := z2.fr hfr (by omega)
  have s2 := r2.lt
  have HO := Lib.hid hout
  have HFR := Lib.hid hfr
  clear hout hE hfr a0 a1 a2 d0 e0 p0 p1 z1 z2 z3 HFI
  obtain ⟨y0, y1, y2⟩ := r2.three
  have f0 := r2.frozen 0
  have f1 := r2.frozen 1
  have f2 := r2.frozen 2
  go_wp2_with fail
  refine bodyPost_ret (v := .tuple #[.agg #[.int .i64 k3, .int .i64 h3, .slice A3 n3 c3], .int .i64 ec]) (by simp [results, Try.results146, go_sem, y0, y1, y2]) rfl ?_
  have szW := HB.out.size
  have s4 := HFR.out.size
  have hbw : Below w.heap.size w w2 := HB.out.trans (HFR.out.to_below (fun i e => by omega) HB.out.size)
  refine CO.cen (HO.out.po (by omega) (fun g hg _ => heap_other3 _ _ _ _ _ _ (by omega)) (Box.other3 (HP.out.keep hbw lp) (by omega) _ _ _)) ?_
  exact (Fr.below (X := fun b => b = pp) hbw).set3 (fun h => by omega) _ _ _
end Go.Proofs.Ytinjeocfnhhlmaa

/-
  Contract of package meta's become, given that of fill for its Args. No statement is proved here.
-/
namespace Go.Proofs.Ytinjeocfnhhlmaa
open Go.ChangeShapes Go.WideShapes Go.ChangeAt Go.RowKit
set_option linter.unusedVariables false
set_option maxRecDepth 100000

theorem node_parts {k h : Int} {xs : List T} (h1 : nodB (.node k h xs) = true) : okN k h xs.length = true ∧ ∀ x ∈ xs, nodB x = true := by
  rw [nodB, Bool.and_eq_true] at h1
  exact ⟨h1.1, fun x hx => nodL_mem h1.2 hx⟩
theorem ok_parts {M k h : Int} {xs : List T} (h1 : okT M (.node k h xs)) : ∀ x ∈ xs, okT M x := fun x hx => by
  rw [okT] at h1
  exact okL_mem h1.2 hx
theorem RXL.adv' {B : Nat} {w w' : World} {xs : List T} {A : Option Addr} {n c : Nat} (h : RXL (fun b => b < B) w xs A n c) (hb : Below w.heap.size w w') : RXL (fun b => b < B) w' xs A n c :=
  ⟨h.len, h.le, h.cap, fun i t ht => RdFAt.moveX (fun b hb' hl => ⟨hb', hb.block b hl⟩) (h.at_ i t ht)⟩
theorem rx_of {B B' : Nat} {w w' : World} {t : T} {v : Value} (h : RdF (fun b => B' ≤ b) w t v) (hB : B ≤ B') (hm : ∀ b, B' ≤ b → b < w.heap.size → w'.heap[b]? = w.heap[b]?) : RX (fun b => b < B) w' t v := RdF.moveX (fun b hb hl => ⟨by omega, hm b hb hl⟩) _ _ h
theorem kpL_len : ∀ (ys : List T) (c : Nat), (kpL c ys).length = ys.length
  | [], _ => rfl
  | y :: ys, c => by rw [kpL, List.length_cons, List.length_cons, kpL_len ys]
/-- what is answered, once Apply has answered -/
theorem kp_rx {B : Nat} {w : World} {t : T} {k h : Int} {A : Option Addr} {n cc x : Nat} (hr : RX (fun b => b < B) w t (.agg #[.int .i64 k, .int .i64 h, .slice A n cc])) : ∃ k' h' A' n' c', (if 4000 < x then Value.agg #[.int .i64 7, .int .i64 0, .slice none 0 0] else .agg #[.int .i64 k, .int .i64 h, .slice A n cc]) = .agg #[.int .i64 k', .int .i64 h', .slice A' n' c'] ∧ RX (fun b => b < B) w (kp x t) (.agg #[.int .i64 k', .int .i64 h', .slice A' n' c']) := by
  unfold kp
  by_cases hx : 4000 < x
  · rw [if_pos hx, if_pos hx]
    exact ⟨7, 0, none, 0, 0, rfl, RdF_node.2 ⟨none, 0, 0, rfl, by decide, by decide, rfl, Nat.le_refl _, Nat.zero_le _, fun i t ht => by simp at ht⟩⟩
  · rw [if_neg hx, if_neg hx]
    exact ⟨k, h, A, n, cc, rfl, hr⟩

set_option maxHeartbeats 1000000 in
theorem becomeC {th : List T} {h : Int} {xs : List T} (hF : ∀ x ∈ xs, FiC th x) {wB w : World} {pp : Nat} {A : Option Addr} {m cL : Nat} {n : Int} {c : Nat} {An : Option Addr} {nn cc : Nat}
    (hb : Below wB.heap.size wB w) (hpB : wB.heap.size ≤ pp) (hp : ptB w pp A m cL c) (hth : ThK th wB A m cL) (hv : Rd wB (.node 6 h xs) (.agg #[.int .i64 6, .int .i64 h, .slice An nn cc])) (hno : nodB (.node 6 h xs) = true)
    (h0 : 0 ≤ n) (hn : n + dp (.node 6 h xs) ≤ 4000) (ho : okT 2199023255552 (.node 6 h xs)) (hc : c + 4000 * nd (.node 6 h xs) ≤ 1125899906842624) :
    Calls Try.prog 128 #[.pointer (some ⟨pp, 0, none⟩), .agg #[.int .i64 6, .int .i64 h, .slice An nn cc], .int .i64 n] w (CEn (fun b => b = pp) (fun c w' => ptB w' pp A m cL c) w (pf th n c (.node 6 h xs))) := by
  obtain ⟨An', nn', cc', e, _, wfh, hl, hnc, hcm, hxs⟩ := Rd_node.1 hv
  simp only [Value.agg.injEq] at e
  have e' : An = An' ∧ nn = nn' ∧ cc = cc' := by simpa using e
  obtain ⟨rfl, rfl, rfl⟩ := e'
  clear e
  obtain ⟨hok, hnos⟩ := node_parts hno
  have hh0 : 0 ≤ h := by rcases okN_cases hok with ⟨e, _⟩ | ⟨e, _⟩ | ⟨e, _⟩ | ⟨e, he⟩ | ⟨e, he⟩ | ⟨e, he⟩ | ⟨e, he⟩ <;> first | exact he | omega
  have hos := ok_parts ho
  have hdp : dp (.node 6 h xs) = 1 + dpL xs := by rw [dp]
  have hnd : nd (.node 6 h xs) = 1 + ndL xs := by rw [nd]
  have hlen := (wdL_nd xs).2
  have lp := hp.lt
  have szB := hb.size
  obtain ⟨W, hW⟩ : ∃ W, (((w.alloc (.cells #[.pointer (some ⟨pp, 0, none⟩)] 146)).alloc (.cells #[.int .i64 6, .int .i64 h, .slice An nn cc] 24)).alloc (.cells #[.int .i64 n] 3)).alloc (.cells #[.int .i64 0, .int .i64 0, .slice none 0 0] 24) = W := ⟨_, rfl⟩
  have hbW : Below w.heap.size w W := by rw [← hW]; exact ((((Below.refl _ _).alloc (Nat.le_refl _) _).alloc (by simp) _).alloc (by simp; omega) _).alloc (by simp; omega) _
  have x0 : Box W w.heap.size 146 #[.pointer (some ⟨pp, 0, none⟩)] := by rw [← hW]; exact (((Box.new _ _ _).alloc _).alloc _).alloc _
  have x1 : Box W (w.heap.size + 1) 24 #[.int .i64 6, .int .i64 h, .slice An nn cc] := by rw [← hW]; exact (((Box.new (w.alloc _) _ _).at (by simp)).alloc _).alloc _
  have x2 : Box W (w.heap.size + 1 + 1) 3 #[.int .i64 n] := by rw [← hW]; exact ((Box.new ((w.alloc _).alloc _) _ _).at (by simp)).alloc _
  have x3 : Box W (w.heap.size + 1 + 1 + 1) 24 #[.int .i64 0, .int .i64 0, .slice none 0 0] := by rw [← hW]; exact (Box.new (((w.alloc _).alloc _).alloc _) _ _).at (by simp)
  have hpW := hp.keep hbW lp
  have hE := eachBC (X := fun b => b = pp) (St := fun c w' => ptB w' pp A m cL c) (p1 := .pointer (some ⟨w.heap.size, 0, none⟩)) (p2 := .pointer (some ⟨w.heap.size + 1 + 1, 0, none⟩)) (wB := wB) (w := W) (A := An) (n := nn) (c := cc) (c0 := c) (M := 1125899906842624) xs (fun _ x c => po th n c x)
    (hb.trans (hbW.mono hb.size)) hl hnc hcm (by omega) hxs (fun b e => by subst e; exact ⟨hpB, hpW.lt⟩) (fun c' W1 W2 _ hk hs => (hk pp rfl).trans hs) hpW (by omega)
    (fun i t c t1 c1 _ hr => by
      unfold po at hr
      split at hr
      · cases hr
      · cases hr; omega)
    (fun i t v W' c' ht hrd hfr hst hlo => by
      have hmem := List.mem_of_getElem? ht
      have h1 := dpL_mem hmem
      have h2 := nd_mem hmem
      exact closBC (hF t hmem) i v (hb.trans ((hbW.mono hb.size).trans (hfr.to_below (fun i e => by subst e; exact hpB) (by have := hbW.size; omega)))) hst hth hrd (hnos t hmem) h0 (by omega) (hos t hmem) (by omega) (x0.fr hfr (by omega)) (x2.fr hfr (by omega)))
  rw [ea_own, show flL th 6 xs.length xs 0 n = flL th 6 nn xs 0 n from by rw [hl]] at hE
  have hR := pf_meta th n h xs c
  rw [hl, hth.len] at hR
  generalize pf th n c (.node 6 h xs) = R at *
  have HW := Lib.hid hW; clear hW
  have HB := Lib.hid hb; clear hb
  have HBW := Lib.hid hbW; clear hbW
  have HTH := Lib.hid hth; clear hth
  have HO := Lib.hid ho
  clear hv hno ho hxs hnos hos hF
  go_enter Try.func128, Try.ntmps128
  go_wp2_with fail
  rw [HW.out]
  clear HW
  refine hE.mono ?_
  clear hE
  obtain ⟨FR, hFR⟩ : ∃ FR, FR = flL th 6 nn xs 0 n := ⟨_, rfl⟩
  have herr : ∀ e, flL th 6 nn xs 0 n = .error e → e ≠ 0 := fun e he => flL_err th 6 nn xs 0 n e he
  have hhd : ∀ ys, flL th 6 nn xs 0 n = .ok ys → ys.length = nn ∧ ∀ y ∈ ys, LoT y := fun ys he => ⟨by rw [flL_len th 6 nn xs 0 n ys he, hl], fun y hy => okT_mono (M := hB (dpL xs)) (by unfold hB; omega) _ (okL_mem (flL_heads (th := th) HTH.out.ok 6 nn xs 0 n ys h0 (by omega) (by have h9 := HO.out; rw [okT] at h9; exact h9.2) he) hy)⟩
  have hnd2 : ∀ ys, flL th 6 nn xs 0 n = .ok ys → ndL ys ≤ 4000 * ndL xs := fun ys he => flL_nd th 6 nn xs 0 n ys he
  rw [← hFR] at herr hhd hnd2 hR ⊢
  have hc4 : c ≤ 1125899906842624 := by omega
  clear hFR hdp hnd hlen hn hc hcm hnc wfh hok szB
  cases FR with
  | error ec =>
    rintro e w1 ⟨rfl, hne, hfr⟩
    have HR := Lib.hid (show R = .error ec from hR); clear hR
    have hne' : (ec != 0) = true := by simpa using hne
    have hfw : Fr (fun b => b = pp) w w1 := (Fr.below (X := fun b => b = pp) HBW.out).trans hfr fun _ _ e => e
    have y3 := x3.fr hfr (by omega)
    have HFW := Lib.hid hfw; clear hfw hfr
    have HNE := Lib.hid hne; clear hne
    clear x0 x1 x2 x3 hpW herr hhd hnd2 hp
    obtain ⟨r0, r1, r2⟩ := y3.three
    have f0 := y3.frozen 0
    have f1 := y3.frozen 1
    have f2 := y3.frozen 2
    have ly := y3.lt
    go_wp2_with fail
    refine bodyPost_ret (v := .tuple #[zT, .int .i64 ec]) (by simp [results, Try.results128, go_sem, r0, r1, r2]) rfl ?_
    rw [HR.out]
    exact ⟨rfl, HNE.out, HFW.out.set3 (fun h => by omega) _ _ _⟩
  | ok ys =>
    rintro e w1 ⟨A9, n9, c9, rfl, hrl, hfr, hst⟩
    obtain ⟨hyl, hyo⟩ := hhd ys rfl
    have hfw : Fr (fun b => b = pp) w w1 := (Fr.below (X := fun b => b = pp) HBW.out).trans hfr fun _ _ e => e
    have y0 := x0.fr hfr (by omega)
    have y1 := x1.fr hfr (by omega)
    have y2 := x2.fr hfr (by omega)
    have y3 := x3.fr hfr (by omega)
    have HFW := Lib.hid hfw; clear hfw hfr
    have HRL := Lib.hid hrl; clear hrl
    have HST := Lib.hid (show ptB w1 pp A m cL c from hst)
    obtain ⟨p0, p1⟩ := hst.two
    have lp1 := hst.lt
    clear x0 x1 x2 x3 hpW herr hhd hp hst
    obtain ⟨r0, r1, r2⟩ := y3.three
    obtain ⟨a0, a1, a2⟩ := y1.three
    have d0 := y0.one.1
    have e0 := y2.one.1
    have f0 := y3.frozen 0
    have f1 := y3.frozen 1
    have f2 := y3.frozen 2
    have ly := y3.lt
    have hS : w1.cell? ⟨w.heap.size + 1, 1, none⟩ = some (.int .i64 h) ∧ w1.cell? ⟨w.heap.size, 0, none⟩ = some (.pointer (some ⟨pp, 0, none⟩)) ∧ w1.cell? ⟨pp, 0, none⟩ = some (.slice A m cL) := ⟨a1, d0, p0⟩
    by_cases hlt : (m : Int) ≤ h
    · have d1 : decide ((m : Int) ≤ h) = true := by simpa using hlt
      have HR : Hid (R = .error 2) := Lib.hid (by rw [hR]; simp only [if_pos hlt])
      clear hR
      go_wp2_with fail
      go_region_held3 (fun w' => w'.cell? ⟨w.heap.size + 1, 1, none⟩ = some (.int .i64 h) ∧ w'.cell? ⟨w.heap.size, 0, none⟩ = some (.pointer (some ⟨pp, 0, none⟩)) ∧ w'.cell? ⟨pp, 0, none⟩ = some (.slice A m cL))
        (exact hS) (fail)
      go_wp2_with fail
      refine bodyPost_ret (v := .tuple #[zT, .int .i64 2]) (by simp [results, Try.results128, go_sem, r0, r1, r2]) rfl ?_
      rw [HR.out]
      exact ⟨rfl, by decide, (HFW.out.set3 (a := w.heap.size + 1 + 1 + 1) (fun h => by omega) _ _ _).then ((Below.refl _ _).drew)⟩
    · have d1 : decide ((m : Int) ≤ h) = false := by simpa using hlt
      go_wp2_with fail
      go_region_held3 (fun w' => w'.cell? ⟨w.heap.size + 1, 1, none⟩ = some (.int .i64 h) ∧ w'.cell? ⟨w.heap.size, 0, none⟩ = some (.pointer (some ⟨pp, 0, none⟩)) ∧ w'.cell? ⟨pp, 0, none⟩ = some (.slice A m cL))
        (exact hS) (fail)
      have hCN := containsC (ys.map fun y => kp (nd y) y) A9 n9 c9 w1.drew HRL.out.len HRL.out.le HRL.out.cap fun i t ht => RdAt.keep ((Below.refl _ _).drew) (rdFAt_rd (HRL.out.at_ i t ht))
      rw [all_kp] at hCN
      obtain ⟨β, hβ⟩ : ∃ β, ys.all myB = β := ⟨_, rfl⟩
      have HBE := Lib.hid hβ
      rw [hβ] at hCN hR
      clear hβ
      go_wp2_with fail
      refine hCN.mono ?_
      clear hCN
      rintro e w2 ⟨rfl, hb2⟩
      have hb2' : Below w1.heap.size w1 w2 := (Below.refl _ w1).drew.trans (hb2.mono (Nat.le_refl _))
      replace y0 := y0.keep hb2' y0.lt
      replace y1 := y1.keep hb2' y1.lt
      replace y2 := y2.keep hb2' y2.lt
      replace y3 := y3.keep hb2' y3.lt
      replace HST := Lib.hid (HST.out.keep hb2' HST.out.lt)
      replace HFW := Lib.hid (HFW.out.then hb2')
      replace HRL := Lib.hid (HRL.out.adv' hb2')
      clear hb2 hb2' r0 r1 r2 a0 a1 a2 d0 e0 f0 f1 f2 ly p0 p1 lp1 hS
      obtain ⟨r0, r1, r2⟩ := y3.three
      have f0 := y3.frozen 0
      have f1 := y3.frozen 1
      have f2 := y3.frozen 2
      have ly := y3.lt
      cases β
      · have HR : Hid (R = .error 4) := Lib.hid (by
          have hlt' : ¬ (m : Int) ≤ h := by omega
          rw [hR]; simp only [if_neg hlt']; simp)
        clear hR
        go_wp2_with fail
        refine bodyPost_ret (v := .tuple #[zT, .int .i64 4]) (by simp [results, Try.results128, go_sem, r0, r1, r2]) rfl ?_
        rw [HR.out]
        exact ⟨rfl, by decide, HFW.out.set3 (fun h => by omega) _ _ _⟩
      · have hmy := HBE.out
        rw [map_kp hmy] at HRL
        have hlh : h.toNat < th.length := by rw [HTH.out.len]; omega
        obtain ⟨x, hx⟩ : ∃ x, th.getD h.toNat (.node 0 0 []) = x := ⟨_, rfl⟩
        have hxm : x ∈ th := by rw [← hx]; exact getD_mem _ hlh
        have hxe : th[h.toNat]? = some x := by rw [← hx, List.getD_eq_getElem?_getD, List.getElem?_eq_getElem hlh]; rfl
        rw [hx] at hR
        obtain ⟨b, o, k2, h2, A2, n2, c2, hAe, c0', c1', c2', hrx⟩ := (HTH.out.at_ _ _ hxe).full
        subst hAe
        have hbB : Below wB.heap.size wB w2 := HB.out.trans (HFW.out.to_below (fun i e => by subst e; exact hpB) HB.out.size)
        have q0 := (hbB.cell (cell_lt c0')).trans c0'
        have q1 := (hbB.cell (cell_lt c1')).trans c1'
        have q2 := (hbB.cell (cell_lt c2')).trans c2'
        have lq := cell_lt q0
        dsimp only at lq
        have HRX := Lib.hid (Rd.keep hbB _ _ hrx)
        have HAP : Hid (∀ W', Hid (Below w2.heap.size w2 W') → Calls Try.prog 37 #[.agg #[.int .i64 k2, .int .i64 h2, .slice A2 n2 c2], .agg #[.slice A9 n9 c9, .int .i64 n]] W' (fun e w' => TEnd (apT x ys n) (apE x ys n) W' e w' ∧ Hid (Below w2.heap.size w2 w'))) := Lib.hid fun W' h' => by
          have := ApplyC (w := W') (t := x) (L := ys) (sh := n) (Rd.keep h'.out _ _ HRX.out) HRL.out.len HRL.out.le HRL.out.cap (fun i u hu => RdAt.keep h'.out (rdFAt_rd (HRL.out.at_ i u hu))) (fun _ => okT_mono (by omega) _ (HTH.out.ok x hxm)) (fun y hy _ => hyo y hy)
          exact this.mono fun e w' h'' => ⟨h'', by obtain ⟨_, _, _, _, _, _, _, hb'⟩ := h''; exact cur_trans h' hb'⟩
        have hndx : apE x ys n = 0 → nd (apT x ys n) ≤ 4000 := fun e => by
          obtain ⟨_, _, _, _, hm⟩ := ap_zero e
          exact ((myB_iff _).1 hm).2.1
        have hR' : apE x ys n = 0 ∧ R = .ok (kp (c + nd (apT x ys n)) (apT x ys n), c + nd (apT x ys n)) ∨ apE x ys n ≠ 0 ∧ R = .error (apE x ys n) := by
          rw [hR]
          have hlt' : ¬ (m : Int) ≤ h := by omega
          simp only [if_neg hlt']
          by_cases hz : apE x ys n = 0
          · exact .inl ⟨hz, by simp [hz]⟩
          · exact .inr ⟨hz, by simp [hz]⟩
        clear hR hxe hx hlh hrx hmy
        have HND := Lib.hid hndx; clear hndx
        generalize apT x ys n = RT at *
        generalize apE x ys n = RE at *
        have HRR := Lib.hid hR'; clear hR'
        have HK : Hid (∀ w', Hid (Below w2.heap.size w2 w') → (w'.cell? ⟨w.heap.size, 0, none⟩ = some (.pointer (some ⟨pp, 0, none⟩)) ∧ w'.cell? ⟨pp, 0, none⟩ = some (.slice (some ⟨b, o, none⟩) m cL) ∧ w'.cell? ⟨w.heap.size + 1, 1, none⟩ = some (.int .i64 h) ∧ w'.cell? ⟨b, o + h.toNat * 3, none⟩ = some (.int .i64 k2) ∧ w'.cell? ⟨b, o + h.toNat * 3 + 1, none⟩ = some (.int .i64 h2) ∧ w'.cell? ⟨b, o + h.toNat * 3 + 2, none⟩ = some (.slice A2 n2 c2) ∧ w'.cell? ⟨w.heap.size + 1 + 1, 0, none⟩ = some (.int .i64 n) ∧ Hid (Below w2.heap.size w2 w'))) := Lib.hid fun w' h' => by
          have s0 := y0.keep h'.out y0.lt
          have s1 := y1.keep h'.out y1.lt
          have s2 := y2.keep h'.out y2.lt
          have sp := HST.out.keep h'.out HST.out.lt
          exact ⟨s0.one.1, sp.two.1, s1.three.2.1, (h'.out.cell lq).trans q0, (h'.out.cell (cell_lt q1)).trans q1, (h'.out.cell (cell_lt q2)).trans q2, s2.one.1, h'⟩
        have hcu0 : Hid (Below w2.heap.size w2 w2.drew) := cur_drew
        clear c0' c1' c2'
        have hi0 : h < m := by omega
        go_wp2_with fail
        go_region_held3 (fun w' => w'.cell? ⟨w.heap.size, 0, none⟩ = some (.pointer (some ⟨pp, 0, none⟩)) ∧ w'.cell? ⟨pp, 0, none⟩ = some (.slice (some ⟨b, o, none⟩) m cL) ∧ w'.cell? ⟨w.heap.size + 1, 1, none⟩ = some (.int .i64 h) ∧ w'.cell? ⟨b, o + h.toNat * 3, none⟩ = some (.int .i64 k2) ∧ w'.cell? ⟨b, o + h.toNat * 3 + 1, none⟩ = some (.int .i64 h2) ∧ w'.cell? ⟨b, o + h.toNat * 3 + 2, none⟩ = some (.slice A2 n2 c2) ∧ w'.cell? ⟨w.heap.size + 1 + 1, 0, none⟩ = some (.int .i64 n) ∧ Hid (Below w2.heap.size w2 w'))
          (first | exact HK.out _ (by assumption) | exact HK.out _ (cur_alloc (by assumption) _) | exact HK.out _ (cur_alloc (cur_alloc (by assumption) _) _) | exact HK.out _ (cur_set3 (by assumption) (by omega) _ _ _))
          (first
            | (go_at_call 37
               with_reducible refine Calls.mono (HAP.out _ ?hh) ?_
               case hh => first | assumption | exact Lib.hid (((Below.refl _ _).alloc (Nat.le_refl _) _).drew) | exact Lib.hid (((Below.refl _ _).drew).alloc (Nat.le_refl _) _)
               rintro e w9 ⟨⟨kq, hq, Aq, nq, cq, rfl, hrd, hb9⟩, hcu9⟩
               first | (have zP := Box.keepC (cs := #[.int .i64 0, .int .i64 0, .slice none 0 0]) (ty := 24) (by first | exact zP | exact zP.alloc _ | exact Box.new _ _ _ | exact (Box.new _ _ _).alloc _) hb9; have lzhb9 := zP.lt) | skip
               have hs9 := hcu9.out.size
               have HRq := Lib.hid hrd
               first | (obtain ⟨z0, z1, z2⟩ := zP.three; have fz0 := zP.frozen 0; have fz1 := zP.frozen 1; have fz2 := zP.frozen 2) | skip
               clear hrd hb9))
        all_goals first
          | (obtain ⟨W6, hWf⟩ : ∃ Wf, w9.alloc (.cells #[.int .i64 kq, .int .i64 hq, .slice Aq nq cq] 24) = Wf := ⟨_, rfl⟩
             obtain ⟨pq, hpe⟩ : ∃ p, p = w9.heap.size := ⟨_, rfl⟩
             have hlw : w2.heap.size ≤ pq := by rw [hpe]; exact hs9
             have xq : Box W6 pq 24 #[.int .i64 kq, .int .i64 hq, .slice Aq nq cq] := by rw [hpe, ← hWf]; exact Box.new _ _ _
             have hbF : Below w2.heap.size w2 W6 := by rw [← hWf]; exact (cur_alloc (by assumption) _).out
             have HRX6 : Hid (RX (fun b => b < w2.heap.size) W6 RT (.agg #[.int .i64 kq, .int .i64 hq, .slice Aq nq cq])) := Lib.hid (by rw [← hWf]; exact rx_of HRq.out (by first | omega | (simp; done) | (simp; omega)) fun b hb hl => Below.heap_alloc _ _ _ hl)
             rw [hWf, ← hpe]
             clear hWf hpe)
          | (obtain ⟨W6, hWf⟩ : ∃ Wf, ((w9.setCell ⟨w2.heap.size, 0, none⟩ (.int .i64 kq)).setCell ⟨w2.heap.size, 1, none⟩ (.int .i64 hq)).setCell ⟨w2.heap.size, 2, none⟩ (.slice Aq nq cq) = Wf := ⟨_, rfl⟩
             obtain ⟨pq, hpe⟩ : ∃ p, p = w2.heap.size := ⟨_, rfl⟩
             have hlw : w2.heap.size ≤ pq := by rw [hpe]; exact Nat.le_refl _
             have xq : Box W6 pq 24 #[.int .i64 kq, .int .i64 hq, .slice Aq nq cq] := by rw [hpe, ← hWf]; exact zP.put3 _ _ _
             have hbF : Below w2.heap.size w2 W6 := by rw [← hWf]; exact (cur_set3 (by assumption) (by omega) _ _ _).out
             have HRX6 : Hid (RX (fun b => b < w2.heap.size) W6 RT (.agg #[.int .i64 kq, .int .i64 hq, .slice Aq nq cq])) := Lib.hid (by rw [← hWf]; exact rx_of HRq.out (by first | omega | (simp; done) | (simp; omega)) fun b hb hl => heap_other3 _ _ _ _ _ _ (by simp at hb; omega))
             rw [hWf, ← hpe]
             clear hWf hpe)
        all_goals
          replace y0 := y0.keep hbF y0.lt
          replace y3 := y3.keep hbF y3.lt
          replace HST := Lib.hid (HST.out.keep hbF HST.out.lt)
          replace HFW := Lib.hid (HFW.out.then hbF)
          clear hbF HK HAP HRX
          try clear zP
          clear r0 r1 r2 f0 f1 f2 q0 q1 q2
          have ly3 := y3.lt
          obtain ⟨r0, r1, r2⟩ := y3.three
          have f0 := y3.frozen 0
          have f1 := y3.frozen 1
          have f2 := y3.frozen 2
          have lyq := xq.lt
          rcases HRR.out with ⟨hz, hr⟩ | ⟨hz, hr⟩
          · have hndx := HND.out hz
            subst hz
            have HR := Lib.hid hr; clear hr HRR
            obtain ⟨k', h', A', n', c', heq, hrx⟩ := kp_rx (x := c + nd RT) HRX6.out
            have HRX7 := Lib.hid hrx; clear hrx
            have HSZ : Hid (∀ W', Below W6.heap.size W6 W' → Calls Try.prog 34 #[.agg #[.int .i64 kq, .int .i64 hq, .slice Aq nq cq]] W' fun e w' => e = .returned (.int .i64 (nd RT : Nat)) ∧ Below W'.heap.size W' w') := Lib.hid fun W' hW' => by
              have := sizeC RT _ W' (Rd.keep hW' _ _ (RX.rd HRX6.out))
              rw [szW_small (by omega)] at this
              exact this
            have HKP : Hid (∀ W', Below W6.heap.size W6 W' → Calls Try.prog 130 #[.pointer (some ⟨pp, 0, none⟩), .agg #[.int .i64 kq, .int .i64 hq, .slice Aq nq cq], .int .i64 (nd RT : Nat)] W' fun e w' => e = .returned (.agg #[.int .i64 k', .int .i64 h', .slice A' n' c']) ∧ Fr (fun b => b = pp) W6 w' ∧ ptB w' pp (some ⟨b, o, none⟩) m cL (c + nd RT)) := Lib.hid fun W' hW' => by
              have := keepPC (d := nd RT) (k := kq) (h := hq) (A2 := Aq) (n2 := nq) (c2 := cq) W' (HST.out.keep hW' HST.out.lt) (by omega)
              rw [heq] at this
              exact this.mono fun e w' ⟨h1, h2, h3⟩ => ⟨h1, (Fr.below (X := fun b => b = pp) hW').trans h2 fun _ _ e => e, h3⟩
            clear heq
            go_wp2_with fail
            have d0 := y0.one.1
            obtain ⟨z0, z1, z2⟩ := xq.three
            have hcur : Below W6.heap.size W6 W6.drew := (Below.refl _ _).drew
            go_region_held3 (fun w' => w'.cell? ⟨w.heap.size, 0, none⟩ = some (.pointer (some ⟨pp, 0, none⟩)) ∧ w'.cell? ⟨pq, 0, none⟩ = some (.int .i64 kq) ∧ w'.cell? ⟨pq, 1, none⟩ = some (.int .i64 hq) ∧ w'.cell? ⟨pq, 2, none⟩ = some (.slice Aq nq cq))
              (first | exact ⟨d0, z0, z1, z2⟩ | exact ⟨m0.one.1, mq.three.1, mq.three.2.1, mq.three.2.2⟩ | exact ⟨n0.one.1, nQ.three.1, nQ.three.2.1, nQ.three.2.2⟩ | exact ⟨o0.one.1, oq.three.1, oq.three.2.1, oq.three.2.2⟩)
              (first
                | (go_at_call 34
                   refine (HSZ.out _ hcur).mono ?_
                   rintro e w7 ⟨rfl, hb7⟩
                   replace hcur := hcur.trans (hb7.mono hcur.size)
                   have m0 := y0.keep hcur y0.lt
                   have mq := xq.keep hcur xq.lt
                   clear hb7)
                | (go_at_call 130
                   refine (HKP.out _ hcur).mono ?_
                   rintro e w8 ⟨rfl, hfr8, hst8⟩
                   have n0 := y0.fr hfr8 (by omega)
                   have nQ := xq.fr hfr8 (by omega)
                   have n3 := y3.fr hfr8 (by omega)
                   have s8 := n3.lt
                   have HFR8 := Lib.hid hfr8
                   have HST8 := Lib.hid hst8
                   clear hfr8 hst8 r0 r1 r2 f0 f1 f2
                   obtain ⟨r0, r1, r2⟩ := n3.three
                   have f0 := n3.frozen 0
                   have f1 := n3.frozen 1
                   have f2 := n3.frozen 2
                   have o0 := n0.other3 (a := w.heap.size + 1 + 1 + 1) (by omega) (.int .i64 k') (.int .i64 h') (.slice A' n' c')
                   have oq := nQ.other3 (a := w.heap.size + 1 + 1 + 1) (by omega) (.int .i64 k') (.int .i64 h') (.slice A' n' c')))
            clear o0 oq n0 nQ z0 z1 z2 d0
            go_wp2_with fail
            refine bodyPost_ret (v := .tuple #[.agg #[.int .i64 k', .int .i64 h', .slice A' n' c'], .int .i64 0]) (by simp [results, Try.results128, go_sem, r0, r1, r2]) rfl ?_
            rw [HR.out]
            refine ⟨k', h', A', n', c', rfl, ?_, ((HFW.out.trans HFR8.out fun _ _ e => e).set3 (fun h => by omega) _ _ _), Box.other3 HST8.out (by omega) _ _ _⟩
            exact RdF.moveX (fun b hb hl => ⟨by omega, (heap_other3 _ _ _ _ _ _ (by omega)).trans (HFR8.out.block b hl (by omega))⟩) _ _ HRX7.out
          · have hne' : (RE != 0) = true := by simpa using hz
            have HR := Lib.hid hr
            have HZ := Lib.hid hz
            clear hr hz HRR
            go_wp2_with fail
            refine bodyPost_ret (v := .tuple #[zT, .int .i64 RE]) (by simp [results, Try.results128, go_sem, r0, r1, r2]) rfl ?_
            rw [HR.out]
            exact ⟨rfl, HZ.out, HFW.out.set3 (fun h => by omega) _ _ _⟩
end Go.Proofs.Ytinjeocfnhhlmaa

/-
  Contract of package meta's fill. No statement is proved here.
-/
namespace Go.Proofs.Ytinjeocfnhhlmaa
open Go.ChangeShapes Go.WideShapes Go.ChangeAt Go.RowKit
set_option linter.unusedVariables false
set_option maxRecDepth 100000

set_option maxHeartbeats 4000000 in
theorem fillC (th : List T) : ∀ t, FiC th t := by
  refine T.ind fun k h xs ih => ?_
  intro wB w pp A m cL n c v hb hpB hp hth hv hno h0 hn ho hc
  have hv' := hv
  obtain ⟨An, nn, cc, rfl, wfk, wfh, hl, hnc, hcm, hxs⟩ := Rd_node.1 hv
  have lp := hp.lt
  have szB := hb.size
  obtain ⟨W, hW⟩ : ∃ W, (((w.alloc (.cells #[.pointer (some ⟨pp, 0, none⟩)] 146)).alloc (.cells #[.int .i64 k, .int .i64 h, .slice An nn cc] 24)).alloc (.cells #[.int .i64 n] 3)).alloc (.cells #[.int .i64 0, .int .i64 0, .slice none 0 0] 24) = W := ⟨_, rfl⟩
  have hbW : Below w.heap.size w W := by rw [← hW]; exact ((((Below.refl _ _).alloc (Nat.le_refl _) _).alloc (by simp) _).alloc (by simp; omega) _).alloc (by simp; omega) _
  have x0 : Box W w.heap.size 146 #[.pointer (some ⟨pp, 0, none⟩)] := by rw [← hW]; exact (((Box.new _ _ _).alloc _).alloc _).alloc _
  have x1 : Box W (w.heap.size + 1) 24 #[.int .i64 k, .int .i64 h, .slice An nn cc] := by rw [← hW]; exact (((Box.new (w.alloc _) _ _).at (by simp)).alloc _).alloc _
  have x2 : Box W (w.heap.size + 1 + 1) 3 #[.int .i64 n] := by rw [← hW]; exact ((Box.new ((w.alloc _).alloc _) _ _).at (by simp)).alloc _
  have x3 : Box W (w.heap.size + 1 + 1 + 1) 24 #[.int .i64 0, .int .i64 0, .slice none 0 0] := by rw [← hW]; exact (Box.new (((w.alloc _).alloc _).alloc _) _ _).at (by simp)
  have hpW := hp.keep hbW lp
  have hbBW := hb.trans (hbW.mono hb.size)
  by_cases hk6 : k = 6
  · subst hk6
    have hBC := becomeC ih hbBW hpB hpW hth hv hno h0 hn ho hc
    generalize pf th n c (.node 6 h xs) = R at *
    have HBC := Lib.hid hBC; clear hBC
    have HW := Lib.hid hW; clear hW
    have HBW := Lib.hid hbW; clear hbW
    clear hv hv' hno ho hxs hn hc hth hp hpW hbBW hb ih wfk wfh
    go_enter Try.func111, Try.ntmps111
    go_wp2_with fail
    rw [HW.out]
    clear HW
    refine HBC.out.mono ?_
    clear HBC
    intro e w2 hE
    obtain ⟨k3, h3, A3, n3, c3, ec, rfl, hout, hfr⟩ := hE.uni
    have r2 := x3.fr hfr (by omega)
    have s2 := r2.lt
    have s5 := x3.lt
    have HO := Lib.hid hout
    have HFR := Lib.hid hfr
    clear hout hE hfr x0 x1 x2 x3
    obtain ⟨y0, y1, y2⟩ := r2.three
    have f0 := r2.frozen 0
    have f1 := r2.frozen 1
    have f2 := r2.frozen 2
    go_wp2_with fail
    refine bodyPost_ret (v := .tuple #[.agg #[.int .i64 k3, .int .i64 h3, .slice A3 n3 c3], .int .i64 ec]) (by simp [results, Try.results111, go_sem, y0, y1, y2]) rfl ?_
    have s4 := HFR.out.size
    refine CO.cen (HO.out.move (by omega) (fun g hg _ => heap_other3 _ _ _ _ _ _ (by omega)) fun _ _ _ hs => Box.other3 hs (by omega) _ _ _) ?_
    exact ((Fr.below (X := fun b => b = pp) HBW.out).trans HFR.out fun _ _ e => e).set3 (fun h => by omega) _ _ _
  · have hR := pf_node th n k h xs c hk6
    obtain ⟨_, hnos⟩ := node_parts hno
    have hos := ok_parts ho
    have hdp : dp (.node k h xs) = 1 + dpL xs := by rw [dp]
    have hnd : nd (.node k h xs) = 1 + ndL xs := by rw [nd]
    have hlen := (wdL_nd xs).2
    have hE := eachFC (X := fun b => b = pp) (St := fun c w' => ptB w' pp A m cL c) (p1 := .pointer (some ⟨w.heap.size, 0, none⟩)) (p2 := .pointer (some ⟨w.heap.size + 1 + 1, 0, none⟩)) (p3 := .pointer (some ⟨w.heap.size + 1, 0, none⟩)) (wB := wB) (w := W) (A := An) (n := nn) (c := cc) (c0 := c) (M := 1125899906842624) xs (fun i x c => pf th (n + bd k nn i) c x)
      hbBW hl hnc hcm (by omega) hxs (fun b e => by subst e; exact ⟨hpB, hpW.lt⟩) (fun c' W1 W2 _ hk hs => (hk pp rfl).trans hs) hpW (by omega)
      (fun i t c t1 c1 _ hr => by
        unfold pf at hr
        split at hr
        · cases hr
        · rename_i t' ht'
          cases hr
          have := fl_nd th t _ t' ht'
          omega)
      (fun i t v W' c' ht hrd hfr hst hlo => by
        have hmem := List.mem_of_getElem? ht
        have h1 := dpL_mem hmem
        have h2 := nd_mem hmem
        have hi : i < xs.length := (List.getElem?_eq_some_iff.1 ht).1
        have h3 : nd t ≤ ndL (xs.drop i) := by rw [drop_at ht, ndL]; omega
        have h4 : i ≤ maxLen := by unfold maxLen at hcm ⊢; omega
        exact closFC (ih t hmem) i v (hb.trans ((hbW.mono hb.size).trans (hfr.to_below (fun i e => by subst e; exact hpB) (by have := hbW.size; omega)))) hpB hst hth hrd (hnos t hmem) h0 (by omega) (hos t hmem) (by omega) (x0.fr hfr (by omega)) (x2.fr hfr (by omega)) (x1.fr hfr (by omega)) hnc hcm h4 (by omega) (by omega) (by omega))
    rw [ea_fill, show flL th k nn xs 0 n = flL th k xs.length xs 0 n from by rw [hl]] at hE
    have hnd2 : ∀ ys, flL th k xs.length xs 0 n = .ok ys → ndL ys ≤ 4000 * ndL xs := fun ys he => flL_nd th k xs.length xs 0 n ys he
    have herr : ∀ e, flL th k xs.length xs 0 n = .error e → e ≠ 0 := fun e he => flL_err th k xs.length xs 0 n e he
    obtain ⟨FR, hFR⟩ : ∃ FR, FR = flL th k xs.length xs 0 n := ⟨_, rfl⟩
    generalize pf th n c (.node k h xs) = R at *
    rw [← hFR] at hE hnd2 herr hR
    have hbnd : ∀ ys, FR = .ok ys → c + ndL ys + 1 ≤ 4611686018427387904 := fun ys he => by have := hnd2 ys he; omega
    have HWF := Lib.hid (And.intro wfk wfh)
    have HE := Lib.hid hE; clear hE
    have HW := Lib.hid hW; clear hW
    have HBW := Lib.hid hbW; clear hbW
    clear hv hv' hno ho hxs hn hc hth hp hpW hbBW hb ih hFR hnd2 wfk wfh hos hnos hdp hnd hlen hnc hcm hpB
    have e6 : (k == 6) = false := by simpa using hk6
    clear hk6
    go_enter Try.func111, Try.ntmps111
    go_wp2_with fail
    rw [HW.out]
    clear HW
    refine HE.out.mono ?_
    clear HE
    cases FR with
    | error ec =>
      rintro e w1 ⟨rfl, hne, hfr⟩
      have HR := Lib.hid (show R = .error ec from hR); clear hR
      have hne' : (ec != 0) = true := by simpa using hne
      have y3 := x3.fr hfr (by omega)
      have HFW := Lib.hid ((Fr.below (X := fun b => b = pp) HBW.out).trans hfr fun _ _ e => e); clear hfr
      have HNE := Lib.hid hne; clear hne
      clear x0 x1 x2 x3 herr hbnd
      obtain ⟨r0, r1, r2⟩ := y3.three
      have f0 := y3.frozen 0
      have f1 := y3.frozen 1
      have f2 := y3.frozen 2
      have ly := y3.lt
      go_wp2_with fail
      refine bodyPost_ret (v := .tuple #[zT, .int .i64 ec]) (by simp [results, Try.results111, go_sem, r0, r1, r2]) rfl ?_
      rw [HR.out]
      exact ⟨rfl, HNE.out, HFW.out.set3 (fun h => by omega) _ _ _⟩
    | ok ys =>
      rintro e w1 ⟨A9, n9, c9, rfl, hrl, hfr, hst⟩
      have HR := Lib.hid (show R = .ok (kp (c + ndL ys + 1) (.node k h (kpL c ys)), c + ndL ys + 1) from hR); clear hR
      have hbd := hbnd ys rfl
      have y0 := x0.fr hfr (by omega)
      have y1 := x1.fr hfr (by omega)
      have y3 := x3.fr hfr (by omega)
      have hsz := hfr.size
      have l3 := x3.lt
      have HFW := Lib.hid ((Fr.below (X := fun b => b = pp) HBW.out).trans hfr fun _ _ e => e); clear hfr
      clear x0 x1 x2 x3 herr hbnd
      have hnode : RX (fun b => b < W.heap.size) w1 (.node k h (kpL c ys)) (.agg #[.int .i64 k, .int .i64 h, .slice A9 n9 c9]) := RdF_node.2 ⟨A9, n9, c9, rfl, HWF.out.1, HWF.out.2, hrl.len, hrl.le, hrl.cap, hrl.at_⟩
      have hkp := keepPC (d := 1) (k := k) (h := h) (A2 := A9) (n2 := n9) (c2 := c9) w1 hst hbd
      obtain ⟨k', h', A', n', c', heq, hrx⟩ := kp_rx (x := c + ndL ys + 1) hnode
      rw [heq, show ((1 : Nat) : Int) = 1 from rfl] at hkp
      have HKP := Lib.hid hkp
      have HRX := Lib.hid hrx
      clear hkp heq hrx hnode hrl hst hbd
      obtain ⟨r0, r1, r2⟩ := y3.three
      obtain ⟨a0, a1, a2⟩ := y1.three
      have d0 := y0.one.1
      have f0 := y3.frozen 0
      have f1 := y3.frozen 1
      have f2 := y3.frozen 2
      have ly := y3.lt
      go_wp2_with fail
      refine HKP.out.mono ?_
      clear HKP
      rintro e w2 ⟨rfl, hfr2, hst2⟩
      have z3 := y3.fr hfr2 (by omega)
      have hsz2 := hfr2.size
      have HF2 := Lib.hid hfr2
      have HS2 := Lib.hid hst2
      clear hfr2 hst2 r0 r1 r2 f0 f1 f2 a0 a1 a2 d0 y0 y1 y3
      obtain ⟨r0, r1, r2⟩ := z3.three
      have f0 := z3.frozen 0
      have f1 := z3.frozen 1
      have f2 := z3.frozen 2
      have lz := z3.lt
      go_wp2_with fail
      refine bodyPost_ret (v := .tuple #[.agg #[.int .i64 k', .int .i64 h', .slice A' n' c'], .int .i64 0]) (by simp [results, Try.results111, go_sem, r0, r1, r2]) rfl ?_
      rw [HR.out]
      refine ⟨k', h', A', n', c', rfl, ?_, ((HFW.out.trans HF2.out fun _ _ e => e).set3 (fun h => by omega) _ _ _), Box.other3 HS2.out (by omega) _ _ _⟩
      exact RdF.moveX (fun b hb hl => ⟨by omega, (heap_other3 _ _ _ _ _ _ (by omega)).trans (HF2.out.block b hl (by omega))⟩) _ _ HRX.out
end Go.Proofs.Ytinjeocfnhhlmaa

/-
  Contracts of package meta's by, of the closure that it tells, and of Fill. No statement is proved here.
-/
namespace Go.Proofs.Ytinjeocfnhhlmaa
open Go.ChangeShapes Go.WideShapes Go.ChangeAt Go.RowKit
set_option linter.unusedVariables false
set_option maxRecDepth 100000

/-- may these be terms for metas? -/
def thB (th : List T) : Bool := decide (th.length ≤ 200) && th.all myB
/-- what Fill tells -/
def fiR (th : List T) (n : Int) (t : T) : Except Int T :=
  if (thB th && decide (0 ≤ n) && decide (n ≤ 1000) && myB t) = true then
    match flT th t n with
    | .error e => .error e
    | .ok t' => if myB t' = true then .ok t' else .error 4
  else .error 1
def exT : Except Int T → T
  | .ok t => t
  | .error _ => .node 0 0 []
def exE : Except Int T → Int
  | .ok _ => 0
  | .error e => e
/-- how Fill ends -/
def FnE (r : Except Int T) (w : World) (e : Ending) (w' : World) : Prop :=
  match r with
  | .error ec => e = .returned (.tuple #[zT, .int .i64 ec]) ∧ ec ≠ 0 ∧ Below w.heap.size w w'
  | .ok t => TEnd t 0 w e w'
theorem FnE.tend {r : Except Int T} {w w' : World} {e : Ending} (h : FnE r w e w') : TEnd (exT r) (exE r) w e w' := by
  cases r with
  | error ec =>
    obtain ⟨rfl, _, hb⟩ := h
    exact ⟨0, 0, none, 0, 0, rfl, rd_nil0 _ _, hb⟩
  | ok t => exact h
theorem FnE.below {r : Except Int T} {w w' : World} {e : Ending} (h : FnE r w e w') : Below w.heap.size w w' := by
  cases r with
  | error ec => exact h.2.2
  | ok t =>
    obtain ⟨_, _, _, _, _, _, _, hb⟩ := h
    exact hb
/-- with a count that stays -/
def wc (r : Except Int T) (c : Nat) : Res :=
  match r with
  | .error e => .error e
  | .ok t => .ok (t, c)
theorem FnE.cen {X : Nat → Prop} {r : Except Int T} {c : Nat} {w w' : World} {e : Ending} (h : FnE r w e w') : CEn X (fun _ _ => True) w (wc r c) e w' := by
  cases r with
  | error ec =>
    obtain ⟨rfl, hne, hb⟩ := h
    exact ⟨rfl, hne, Fr.below hb⟩
  | ok t =>
    obtain ⟨k, h, A, n, cc, rfl, hr, hb⟩ := h
    exact ⟨k, h, A, n, cc, rfl, RdF.moveX (fun b hb _ => ⟨by omega, rfl⟩) _ _ hr, Fr.below hb, trivial⟩
theorem fne_of {r : Except Int T} {c : Nat} {w w' : World} {k h : Int} {A : Option Addr} {n cc : Nat} {ec : Int} (o : CO (fun _ _ => True) w.heap.size w' (wc r c) k h A n cc ec) (hb : Below w.heap.size w w') : FnE r w (.returned (.tuple #[.agg #[.int .i64 k, .int .i64 h, .slice A n cc], .int .i64 ec])) w' := by
  cases r with
  | error e' =>
    obtain ⟨rfl, hne, hz⟩ := o
    exact ⟨by rw [hz], hne, hb⟩
  | ok t =>
    obtain ⟨rfl, hr, _⟩ := o
    exact ⟨k, h, A, n, cc, rfl, RdF.moveX (fun b hb _ => ⟨by omega, rfl⟩) _ _ hr, hb⟩
theorem fi_bad {th : List T} {n : Int} {t : T} (h : (thB th && decide (0 ≤ n) && decide (n ≤ 1000) && myB t) = false) : fiR th n t = .error 1 := by
  unfold fiR; rw [h]; rfl
theorem fi_good {th : List T} {n : Int} {t : T} (h1 : thB th = true) (h2 : 0 ≤ n) (h3 : n ≤ 1000) (h4 : myB t = true) : fiR th n t = match flT th t n with
    | .error e => .error e
    | .ok t' => if myB t' = true then .ok t' else .error 4 := by
  unfold fiR; rw [h1, h4]; simp [h2, h3]

set_option maxHeartbeats 4000000 in
theorem byC {th : List T} {A : Option Addr} {m cL : Nat} (w : World) (hn : th.length = m) (hc : m ≤ cL) (hm : cL ≤ maxLen) (hx : ∀ i t, th[i]? = some t → RdAt w A i t) :
    Calls Try.prog 74 #[.slice A m cL] w fun e w' => ∃ pm pt, e = .returned (.func (.func 110) #[] #[.pointer (some ⟨pm, 0, none⟩), .pointer (some ⟨pt, 0, none⟩)]) ∧ Box w' pm 4 #[.bool (thB th)] ∧ Box w' pt 22 #[.slice A m cL] ∧ Below w.heap.size w w' := by
  have hmf : ∀ (fn : Fn) (first cap : Array Value) (w : World), (Instr.makeFunc fn first cap).run Try.prog w = .ok (.func fn first cap) w := fun _ _ _ _ => rfl
  have hb : Below w.heap.size w (w.alloc (.cells #[.slice A m cL] 22)) := (Below.refl _ _).alloc (Nat.le_refl _) _
  have x0 := Box.new w 22 #[.slice A m cL]
  have HC := Lib.hid (containsC th A m cL (w.alloc (.cells #[.slice A m cL] 22)) hn hc hm fun i t ht => RdAt.keep hb (hx i t ht))
  obtain ⟨β, hβ⟩ : ∃ β, th.all myB = β := ⟨_, rfl⟩
  have hT : thB th = (decide (m ≤ 200) && β) := by rw [thB, hn, hβ]
  rw [hβ] at HC
  rw [hT]
  clear hT hβ hx hn hc hm
  by_cases hl : m ≤ 200
  · have d1 : decide ((m : Int) ≤ 200) = true := by simp; omega
    have d2 : decide (m ≤ 200) = true := by simpa using hl
    rw [d2]
    clear d2 hl
    go_enter Try.func74, Try.ntmps74
    go_wp2_with fail
    refine HC.out.mono ?_
    clear HC
    rintro e w1 ⟨rfl, hb1⟩
    have y0 := x0.keep hb1 x0.lt
    have hbw := hb.trans (hb1.mono hb.size)
    have hfin : ∀ v, Box (w1.alloc (.cells #[v] 4)) w1.heap.size 4 #[v] ∧ Box (w1.alloc (.cells #[v] 4)) w.heap.size 22 #[.slice A m cL] ∧ Below w.heap.size w (w1.alloc (.cells #[v] 4)) := fun v => ⟨Box.new _ _ _, y0.alloc _, hbw.alloc hbw.size _⟩
    have HFIN := Lib.hid hfin
    clear hfin y0 hbw hb1 hb x0
    cases β
    all_goals
      go_wp2_with fail
      go_ret
      exact ⟨_, _, rfl, (HFIN.out _).1, (HFIN.out _).2.1, (HFIN.out _).2.2⟩
  · have d1 : decide ((m : Int) ≤ 200) = false := by simp; omega
    have d2 : decide (m ≤ 200) = false := by simpa using hl
    rw [d2]
    have HFIN := Lib.hid fun v => (⟨(Box.new _ _ _).at (by simp), x0.alloc _, hb.alloc hb.size _⟩ : Box ((w.alloc (.cells #[.slice A m cL] 22)).alloc (.cells #[v] 4)) (w.heap.size + 1) 4 #[v] ∧ Box ((w.alloc (.cells #[.slice A m cL] 22)).alloc (.cells #[v] 4)) w.heap.size 22 #[.slice A m cL] ∧ Below w.heap.size w ((w.alloc (.cells #[.slice A m cL] 22)).alloc (.cells #[v] 4)))
    clear d2 hl HC x0 hb
    go_enter Try.func74, Try.ntmps74
    go_wp2_with fail
    go_ret
    exact ⟨_, _, rfl, (HFIN.out _).1, (HFIN.out _).2.1, (HFIN.out _).2.2⟩

set_option maxHeartbeats 8000000 in
theorem byFC {th : List T} {t : T} {A : Option Addr} {m cL : Nat} {n : Int} {pm pt : Nat} {k h : Int} {At : Option Addr} {nt ct : Nat} (w : World) (hn : th.length = m) (hc : m ≤ cL) (hm : cL ≤ maxLen) (hx : ∀ i t, th[i]? = some t → RdAt w A i t)
    (xm : Box w pm 4 #[.bool (thB th)]) (xt : Box w pt 22 #[.slice A m cL]) (hv : Rd w t (.agg #[.int .i64 k, .int .i64 h, .slice At nt ct])) (hok : ∀ x ∈ th, myB x = true → okT 2199023255552 x) (ho : myB t = true → okT 2199023255552 t) :
    Calls Try.prog 110 #[.agg #[.int .i64 k, .int .i64 h, .slice At nt ct], .int .i64 n, .pointer (some ⟨pm, 0, none⟩), .pointer (some ⟨pt, 0, none⟩)] w (FnE (fiR th n t) w) := by
  obtain ⟨W, hW⟩ : ∃ W, (w.alloc (.cells #[.int .i64 k, .int .i64 h, .slice At nt ct] 24)).alloc (.cells #[.int .i64 0, .int .i64 0, .slice none 0 0] 24) = W := ⟨_, rfl⟩
  have hb : Below w.heap.size w W := by rw [← hW]; exact ((Below.refl _ _).alloc (Nat.le_refl _) _).alloc (by simp) _
  have x0 : Box W w.heap.size 24 #[.int .i64 k, .int .i64 h, .slice At nt ct] := by rw [← hW]; exact (Box.new _ _ _).alloc _
  have x1 : Box W (w.heap.size + 1) 24 #[.int .i64 0, .int .i64 0, .slice none 0 0] := by rw [← hW]; exact (Box.new (w.alloc _) _ _).at (by simp)
  have lm := xm.lt
  have lt := xt.lt
  have lm1 : pm < w.heap.size + 1 := by omega
  have m0 := xm.one.1
  have HBAD : Hid ((thB th && decide (0 ≤ n) && decide (n ≤ 1000) && myB t) = false → ∀ w', Below w.heap.size w w' → FnE (fiR th n t) w (.returned (.tuple #[zT, .int .i64 1])) w') := Lib.hid fun h w' hb' => by
    rw [fi_bad h]
    exact ⟨rfl, by decide, hb'⟩
  have HMN := Lib.hid (mayNotC t _ W (Rd.keep hb _ _ hv))
  have HGO : Hid (thB th = true → 0 ≤ n → n ≤ 1000 → myB t = true → fiR th n t = (match flT th t n with
    | .error e => .error e
    | .ok t' => if myB t' = true then .ok t' else .error 4) ∧ ∀ W' pp, Below w.heap.size w W' → w.heap.size ≤ pp → ptB W' pp A m cL 0 → Calls Try.prog 111 #[.pointer (some ⟨pp, 0, none⟩), .agg #[.int .i64 k, .int .i64 h, .slice At nt ct], .int .i64 n] W' (CEn (fun b => b = pp) (fun c w' => ptB w' pp A m cL c) W' (pf th n 0 t))) := Lib.hid fun h1 h2 h3 h4 => by
    refine ⟨fi_good h1 h2 h3 h4, fun W' pp hb' hpp hpt => ?_⟩
    have hall : ∀ x ∈ th, myB x = true := by
      unfold thB at h1
      rw [Bool.and_eq_true] at h1
      exact List.all_eq_true.1 h1.2
    obtain ⟨a1, a2, a3⟩ := (myB_iff t).1 h4
    exact fillC th t w W' pp A m cL n 0 _ hb' hpp hpt ⟨hall, fun x hx => hok x hx (hall x hx), hn, hc, hm, hx⟩ hv a1 h2 (by omega) (ho h4) (by omega)
  have HXT := Lib.hid xt
  have HB := Lib.hid hb
  clear hx hv hok ho hn hc hm xt xm
  generalize fiR th n t = R at *
  generalize hpf : pf th n 0 t = P at *
  have hpf' : P = match flT th t n with
    | .error e => .error e
    | .ok t' => .ok (kp (nd t') t', nd t') := by rw [← hpf, pf]; simp only [Nat.zero_add] <;> (cases flT th t n <;> rfl)
  generalize flT th t n = FR at *
  clear hpf
  have HPF := Lib.hid hpf'; clear hpf'
  generalize thB th = bT at *
  generalize myB t = bM at *
  have HW := Lib.hid hW; clear hW hb
  obtain ⟨r0, r1, r2⟩ := x1.three
  have f0 := x1.frozen 0
  have f1 := x1.frozen 1
  have f2 := x1.frozen 2
  cases bT
  · go_enter Try.func110, Try.ntmps110
    go_wp2_with fail
    refine bodyPost_ret (v := .tuple #[zT, .int .i64 1]) (by simp [results, Try.results110, go_sem]) rfl ?_
    exact HBAD.out (by simp) _ (((Below.refl _ _).alloc (Nat.le_refl _) _).alloc (by simp) _)
  by_cases h2 : n < 0
  · have d1 : decide (n < 0) = true := by simpa using h2
    have d2 : decide (0 ≤ n) = false := by simp; omega
    rw [d2] at HBAD
    clear d2 h2
    go_enter Try.func110, Try.ntmps110
    go_wp2_with fail
    refine bodyPost_ret (v := .tuple #[zT, .int .i64 1]) (by simp [results, Try.results110, go_sem]) rfl ?_
    exact HBAD.out (by simp) _ (((Below.refl _ _).alloc (Nat.le_refl _) _).alloc (by simp) _)
  have d1 : decide (n < 0) = false := by simpa using h2
  by_cases h3 : 1000 < n
  · have d3 : decide (1000 < n) = true := by simpa using h3
    have d2 : decide (n ≤ 1000) = false := by simp; omega
    rw [d2] at HBAD
    clear d2 h2 h3
    go_enter Try.func110, Try.ntmps110
    go_wp2_with fail
    refine bodyPost_ret (v := .tuple #[zT, .int .i64 1]) (by simp [results, Try.results110, go_sem]) rfl ?_
    exact HBAD.out (by simp) _ (((Below.refl _ _).alloc (Nat.le_refl _) _).alloc (by simp) _)
  have d3 : decide (1000 < n) = false := by simpa using h3
  have HN := Lib.hid (And.intro (show 0 ≤ n by omega) (show n ≤ 1000 by omega)); clear h2 h3
  go_enter Try.func110, Try.ntmps110
  go_wp2_with fail
  rw [HW.out]
  clear HW
  refine HMN.out.mono ?_
  clear HMN
  rintro e w1 ⟨rfl, hb1⟩
  have y0 := x0.keep hb1 x0.lt
  have y1 := x1.keep hb1 x1.lt
  have hbw := HB.out.trans (hb1.mono HB.out.size)
  have yt := HXT.out.keep hbw lt
  have l1 := y1.lt
  have l0 := y0.lt
  clear x0 x1 hb1 r0 r1 r2 f0 f1 f2 HB HXT
  obtain ⟨r0, r1, r2⟩ := y1.three
  have f0 := y1.frozen 0
  have f1 := y1.frozen 1
  have f2 := y1.frozen 2
  cases bM
  · have HBW := Lib.hid hbw; clear hbw
    go_wp2_with fail
    refine bodyPost_ret (v := .tuple #[zT, .int .i64 1]) (by simp [results, Try.results110, go_sem, r0, r1, r2]) rfl ?_
    exact HBAD.out (by simp) _ (below_set3 HBW.out (by omega) _ _ _)
  obtain ⟨hR, hFI⟩ := HGO.out (by trivial) HN.out.1 HN.out.2 (by trivial)
  have HRR := Lib.hid hR; clear hR
  obtain ⟨W2, hW2⟩ : ∃ W2, w1.alloc (.cells #[.slice A m cL, .int .i64 0] 123) = W2 := ⟨_, rfl⟩
  have hb2 : Below w1.heap.size w1 W2 := by rw [← hW2]; exact (Below.refl _ _).alloc (Nat.le_refl _) _
  have z0 := y0.keep hb2 y0.lt
  have z1 := y1.keep hb2 y1.lt
  have lz1 := z1.lt
  have zp : ptB W2 w1.heap.size A m cL 0 := by rw [← hW2]; exact Box.new _ _ _
  have hbw2 := hbw.trans (hb2.mono hbw.size)
  have hsw := hbw.size
  have HF := Lib.hid (hFI W2 w1.heap.size hbw2 hsw zp); clear hFI HGO
  have HBW := Lib.hid hbw2; clear hbw2 hbw hb2
  have HW2 := Lib.hid hW2; clear hW2
  have t0 := yt.one.1
  obtain ⟨a0, a1, a2⟩ := y0.three
  obtain ⟨b0, b1, b2⟩ := z0.three
  go_wp2_with fail
  rw [HW2.out]
  clear HW2
  refine HF.out.mono ?_
  clear HF
  rw [HPF.out]
  clear HPF HBAD
  cases FR with
  | error ec =>
    have HR := Lib.hid (show R = .error ec from HRR.out); clear HRR
    rintro e w3 ⟨rfl, hne, hfr⟩
    have hne' : (ec != 0) = true := by simpa using hne
    have hne2 : (ec == 0) = false := by simpa using hne
    have u1 := z1.fr hfr (by omega)
    have HB3 := Lib.hid (HBW.out.trans (hfr.to_below (B := w.heap.size) (fun i e => by omega) HBW.out.size)); clear hfr
    have HNE := Lib.hid hne; clear hne
    clear y0 y1 yt z0 z1 zp t0 a0 a1 a2 b0 b1 b2 r0 r1 r2 f0 f1 f2
    obtain ⟨r0, r1, r2⟩ := u1.three
    have f0 := u1.frozen 0
    have f1 := u1.frozen 1
    have f2 := u1.frozen 2
    have lu := u1.lt
    have hszw := HB3.out.size
    go_wp2_with fail
    refine bodyPost_ret (v := .tuple #[zT, .int .i64 ec]) (by simp [results, Try.results110, go_sem, r0, r1, r2, lu]) rfl ?_
    rw [HR.out]
    refine ⟨rfl, HNE.out, ?_⟩
    exact (below_set3 HB3.out (by omega) _ _ _).alloc (by simp [World.setCell]; omega) _
  | ok t' =>
    rintro e w3 ⟨k3, h3, A3, n3, c3, rfl, hrx, hfr, hst⟩
    have u1 := z1.fr hfr (by omega)
    have HB3 := Lib.hid (HBW.out.trans (hfr.to_below (B := w.heap.size) (fun i e => by omega) HBW.out.size)); clear hfr hst
    have hbD : Below w3.heap.size w3 (w3.alloc (.cells #[.int .i64 k3, .int .i64 h3, .slice A3 n3 c3] 24)) := (Below.refl _ _).alloc (Nat.le_refl _) _
    have u2 := u1.keep hbD u1.lt
    have xq := Box.new w3 24 #[.int .i64 k3, .int .i64 h3, .slice A3 n3 c3]
    have hrD : RX (fun b => b < W2.heap.size) (w3.alloc (.cells #[.int .i64 k3, .int .i64 h3, .slice A3 n3 c3] 24)) (kp (nd t') t') (.agg #[.int .i64 k3, .int .i64 h3, .slice A3 n3 c3]) := RdF.moveX (fun b hb hl => ⟨hb, hbD.block b hl⟩) _ _ hrx
    have HMN := Lib.hid (mayNotC _ _ _ (RX.rd hrD))
    rw [my_kp] at HMN
    have HRD := Lib.hid hrD
    replace HB3 := Lib.hid (HB3.out.trans (hbD.mono HB3.out.size))
    clear y0 y1 yt z0 z1 zp t0 a0 a1 a2 b0 b1 b2 r0 r1 r2 f0 f1 f2 hrx hrD hbD u1
    have hkm : myB t' = true → kp (nd t') t' = t' := kp_my
    generalize kp (nd t') t' = kt at *
    have HKM := Lib.hid hkm; clear hkm
    obtain ⟨bm, hbm⟩ : ∃ bm, myB t' = bm := ⟨_, rfl⟩
    have hR : R = if myB t' = true then .ok t' else .error 4 := HRR.out
    clear HRR
    rw [hbm] at HMN HKM hR
    have HR := Lib.hid hR; clear hR hbm
    have hszw := HB3.out.size
    go_wp2_with fail
    refine HMN.out.mono ?_
    clear HMN
    rintro e w4 ⟨rfl, hb4⟩
    have v1 := u2.keep hb4 u2.lt
    have vq := xq.keep hb4 xq.lt
    replace HRD := Lib.hid (RdF.moveX (ok' := fun b => ¬ b < W2.heap.size) (fun b hb hl => ⟨hb, hb4.block b hl⟩) _ _ HRD.out)
    replace HB3 := Lib.hid (HB3.out.trans (hb4.mono HB3.out.size))
    have hbl := HBW.out.size
    clear hb4 u2 xq
    obtain ⟨r0, r1, r2⟩ := v1.three
    obtain ⟨q0, q1, q2⟩ := vq.three
    have f0 := v1.frozen 0
    have f1 := v1.frozen 1
    have f2 := v1.frozen 2
    have lu := v1.lt
    cases bm
    · go_wp2_with fail
      refine bodyPost_ret (v := .tuple #[zT, .int .i64 4]) (by simp [results, Try.results110, go_sem, r0, r1, r2]) rfl ?_
      rw [HR.out]
      exact ⟨rfl, by decide, below_set3 HB3.out (by omega) _ _ _⟩
    · go_wp2_with fail
      refine bodyPost_ret (v := .tuple #[.agg #[.int .i64 k3, .int .i64 h3, .slice A3 n3 c3], .int .i64 0]) (by simp [results, Try.results110, go_sem, r0, r1, r2]) rfl ?_
      have hk := HKM.out (by trivial)
      subst hk
      rw [HR.out]
      exact ⟨k3, h3, A3, n3, c3, rfl, RdF.moveX (fun b hb hl => ⟨by omega, heap_other3 _ _ _ _ _ _ (by omega)⟩) _ _ HRD.out, below_set3 HB3.out (by omega) _ _ _⟩
end Go.Proofs.Ytinjeocfnhhlmaa

/-
  The document's own Apply of layer 3 again: what it tells lies beside the blocks that its arguments lie beside. No statement is proved here.
-/
namespace Go.Proofs.Ytinjeocfnhhlmaa
open Go.ChangeShapes Go.WideShapes Go.ChangeAt Go.RowKit
set_option linter.unusedVariables false

/-- an answer, beside some blocks -/
def RZn (Z : Nat → Prop) (t : T) (ec : Int) (w : World) (e : Ending) (w' : World) : Prop :=
  ∃ k h A n c, e = .returned (.tuple #[.agg #[.int .i64 k, .int .i64 h, .slice A n c], .int .i64 ec]) ∧ RX Z w' t (.agg #[.int .i64 k, .int .i64 h, .slice A n c]) ∧ Below w.heap.size w w'
abbrev XBk (Z : Nat → Prop) (w w2 : World) (b : Nat) : Prop := Z b ∨ b = w2.heap.size ∨ b = w.heap.size + 2

set_option maxRecDepth 100000 in
set_option maxHeartbeats 4000000 in
theorem rApplyX {Z : Nat → Prop} {t : T} {L : List T} {sh : Int} {A : Option Addr} {n c : Nat} {v : Value} {w : World} (hZ : ∀ b, Z b → b < w.heap.size) (hvz : RX Z w t v) (hlz : RXL Z w L A n c) (hnt : nd t ≤ 1099511627776) (hnL : ∀ x ∈ L, nd x ≤ 1099511627776) (hlo : myB t = true → LoT t) (hlL : ∀ x ∈ L, myB x = true → LoT x) :
    Calls Try.prog 52 #[v, .agg #[.slice A n c, .int .i64 sh]] w (RZn Z (apT t L sh) (apE t L sh) w) := by
  have hv : Rd w t v := RX.rd hvz
  have hn := hlz.len
  have hc := hlz.le
  have hm := hlz.cap
  have hx : ∀ i t, L[i]? = some t → RdAt w A i t := fun i t ht => rdFAt_rd (hlz.at_ i t ht)
  have HVZ := Lib.hid hvz; clear hvz
  have HLZ := Lib.hid hlz; clear hlz
  have HZ := Lib.hid hZ; clear hZ
  obtain ⟨k, h, At, nt, ct, rfl⟩ := hv.full
  obtain ⟨W, hW⟩ : ∃ W, ((w.alloc (.cells #[.int .i64 k, .int .i64 h, .slice At nt ct] 24)).alloc (.cells #[.slice A n c, .int .i64 sh] 45)).alloc (.cells #[.int .i64 0, .int .i64 0, .slice none 0 0] 24) = W := ⟨_, rfl⟩
  have hb : Below w.heap.size w W := by rw [← hW]; exact (((Below.refl _ _).alloc (Nat.le_refl _) _).alloc (by simp) _).alloc (by simp; omega) _
  have x0 : Box W w.heap.size 24 #[.int .i64 k, .int .i64 h, .slice At nt ct] := by rw [← hW]; exact ((Box.new _ _ _).alloc _).alloc _
  have x1 : Box W (w.heap.size + 1) 45 #[.slice A n c, .int .i64 sh] := by rw [← hW]; exact ((Box.new (w.alloc _) _ _).at (by simp)).alloc _
  have x2 : Box W (w.heap.size + 2) 24 #[.int .i64 0, .int .i64 0, .slice none 0 0] := by rw [← hW]; exact (Box.new _ _ _).at (by simp)
  have HW := Lib.hid hW; clear hW
  have HV := Lib.hid hv; clear hv
  have HN := Lib.hid hn; clear hn
  have HX := Lib.hid hx; clear hx
  have HNL := Lib.hid hnL; clear hnL
  have HLO := Lib.hid hlo; clear hlo
  have HLL := Lib.hid hlL; clear hlL
  have HMM := Lib.hid hm; clear hm
  go_enter Try.func52, Try.ntmps52
  go_wp2_with fail
  rw [HW.out]
  clear HW
  refine (refMay t _ _ (Rd.keep hb _ _ HV.out)).mono ?_
  rw [mayB_big hnt]
  rintro e w1 ⟨rfl, hb1⟩
  replace x0 := x0.keep hb1 x0.lt
  replace x1 := x1.keep hb1 x1.lt
  replace x2 := x2.keep hb1 x2.lt
  replace hb := hb.trans (hb1.mono hb.size)
  clear hb1
  obtain ⟨d0, d1⟩ := x1.two
  go_wp2_with fail
  refine (rmayC L A n c sh _ HN.out hc HMM.out (fun i u hu => RdAt.keep hb (HX.out i u hu)) HNL.out).mono ?_
  rintro e w2 ⟨rfl, hb1⟩
  clear d0 d1
  replace x0 := x0.keep hb1 x0.lt
  replace x1 := x1.keep hb1 x1.lt
  replace x2 := x2.keep hb1 x2.lt
  replace hb := hb.trans (hb1.mono hb.size)
  clear hb1
  have szb := hb.size
  obtain ⟨r0, r1, r2⟩ := x2.three
  have f0 := x2.frozen 0
  have f1 := x2.frozen 1
  have f2 := x2.frozen 2
  have l2 := x2.lt
  cases hp : (myB t && sbB L sh)
  · have HR : Hid (apT t L sh = .node 0 0 [] ∧ apE t L sh = 1) := Lib.hid (by unfold apT apE; rw [hp]; exact ⟨rfl, rfl⟩)
    have hpp : myB t = false ∨ myB t = true ∧ sbB L sh = false := by
      cases h1 : myB t
      · exact .inl rfl
      · rw [h1] at hp; exact .inr ⟨rfl, by simpa using hp⟩
    clear hp
    rcases hpp with h1 | ⟨h1, h2⟩
    case' inl => rw [h1]; clear h1
    case' inr => rw [h1, h2]; clear h1 h2
    all_goals
      go_wp2_with fail
      refine bodyPost_ret (v := .tuple #[.agg #[.int .i64 0, .int .i64 0, .slice none 0 0], .int .i64 1]) (by simp [results, Try.results52, go_sem, r0, r1, r2]) rfl ?_
      refine ⟨_, _, _, _, _, by rw [HR.out.2], ?_, below_set3 hb (by omega) _ _ _⟩
      rw [HR.out.1]
      exact rx_leaf' (by decide) (by decide)
  · have h12 : myB t = true ∧ sbB L sh = true := by rw [Bool.and_eq_true] at hp; exact hp
    obtain ⟨h1, h2⟩ := h12
    have HR : Hid (apT t L sh = anT (apR t L sh) ∧ apE t L sh = anE (apR t L sh)) := Lib.hid (by unfold apT apE; rw [hp]; exact ⟨rfl, rfl⟩)
    clear hp
    obtain ⟨p1, p2, p3⟩ := sb_parts h2
    have hsub : Sub (bt 0) L sh := ⟨p3, fun x hx => okT_mono (by rw [bt0]; omega) _ (HLL.out x hx (p3 x hx)), p2.1, p2.2⟩
    have hway : Way (bt 0 - sh) t := way_of h1 (HLO.out h1) (by rw [bt0]; omega)
    have hnt4 := ((myB_iff t).1 h1).2.1
    have hgood := ap_good (B := 562949953421312) fl L sh 0 t 0 (Nat.le_refl _) (by omega) hsub hway
    have HG := Lib.hid (show ∀ t' m, apR t L sh = .ok (t', m) → nd t' ≤ 1099511627776 from fun t' m e => by have := hgood t' m e; omega); clear hgood
    have HSB := Lib.hid hsub; clear hsub
    have HWY := Lib.hid hway; clear hway
    have hbp : Below w2.heap.size w2 (w2.alloc (.cells #[.int .i64 0, .int .i64 0] 105)) := (Below.refl _ _).alloc (Nat.le_refl _) _
    obtain ⟨c0, c1, c2⟩ := x0.three
    obtain ⟨d0, d1⟩ := x1.two
    have l0 := x0.lt
    have l1 := x1.lt
    rw [h1, h2]
    go_wp2_with fail
    have hrt : RX (XBk Z w w2) (w2.alloc (.cells #[.int .i64 0, .int .i64 0] 105)) t (.agg #[.int .i64 k, .int .i64 h, .slice At nt ct]) := RdF.moveX (fun b hb' hl => ⟨fun e => by
      rcases e with e | e | e
      · exact hb' e
      · omega
      · omega, (hb.trans (hbp.mono szb)).block b hl⟩) _ _ HVZ.out
    have hrL : RXL (XBk Z w w2) (w2.alloc (.cells #[.int .i64 0, .int .i64 0] 105)) (unN 0 L) A n c := by
      rw [unN_zero]
      exact ⟨HLZ.out.len, HLZ.out.le, HLZ.out.cap, fun i u hu => RdFAt.moveX (fun b hb' hl => ⟨fun e => by
        rcases e with e | e | e
        · exact hb' e
        · omega
        · omega, (hb.trans (hbp.mono szb)).block b hl⟩) (HLZ.out.at_ i u hu)⟩
    have hwk : wk2 (w2.alloc (.cells #[.int .i64 0, .int .i64 0] 105)) w2.heap.size 0 0 := Box.new w2 _ _
    have hA := qpC fl L sh 0 t 0 (.agg #[.int .i64 k, .int .i64 h, .slice At nt ct]) (w2.alloc (.cells #[.int .i64 0, .int .i64 0] 105)) w2.heap.size (XBk Z w w2) A n c (by rw [fl_eq]; omega) (Nat.le_refl _) (by omega) (by omega) HSB.out HWY.out (by omega) (.inr (.inl rfl)) (fun b e => by
      have := hwk.lt
      rcases e with e | e | e
      · have := HZ.out b e; omega
      · omega
      · omega) hwk hrL hrt
    rw [show sh + ((0 : Nat) : Int) = sh by omega, show ap fl L sh 0 t 0 = apR t L sh from rfl] at hA
    refine hA.mono ?_
    clear hA hrt hrL hwk
    rintro e w5 ⟨k5, h5, A5, n5, c5, rfl, hfr, hcs⟩
    have hfr5 : Fr (fun b => b = w2.heap.size) w2 w5 := (Fr.below (X := fun b => b = w2.heap.size) hbp).trans hfr fun i _ e => e
    have y2 := x2.fr hfr5 (by omega)
    have hq : QR w2.heap.size (XBk Z w w2) w5 k5 h5 A5 n5 c5 (apR t L sh) := hcs
    have hl2 : w.heap.size + 2 < w2.heap.size := l2
    have hbq : Below w5.heap.size w5 (w5.alloc (.cells #[.int .i64 k5, .int .i64 h5, .slice A5 n5 c5] 24)) := (Below.refl _ _).alloc (Nat.le_refl _) _
    have hq6 := hq.keep hbq
    have y6 := y2.keep hbq y2.lt
    have HFR5 := Lib.hid (hfr5.then hbq)
    clear hq hcs hfr hfr5 hbp c0 c1 c2 d0 d1 l0 l1 r0 r1 r2 f0 f1 f2 x0 x1 x2 l2 y2
    go_wp2_with fail
    refine (rdoneC _ hq6 HG.out).mono ?_
    clear hq6
    rintro e w6 ⟨k6, h6, A6, n6, c6, rfl, hrd6, hfr6⟩
    have z2 := y6.fr hfr6 (by omega)
    have HFR6 := Lib.hid (HFR5.out.trans hfr6 fun i _ e => e)
    have HRD := Lib.hid hrd6; clear hrd6 hfr6 hbq y6
    obtain ⟨r0, r1, r2⟩ := z2.three
    have f0 := z2.frozen 0
    have f1 := z2.frozen 1
    have f2 := z2.frozen 2
    have l2 := z2.lt
    go_wp2_with fail
    refine bodyPost_ret (v := .tuple #[.agg #[.int .i64 k6, .int .i64 h6, .slice A6 n6 c6], .int .i64 (anE (apR t L sh))]) (by simp [results, Try.results52, go_sem, r0, r1, r2, l2]) rfl ?_
    refine ⟨_, _, _, _, _, by rw [HR.out.2], ?_, ?_⟩
    · rw [HR.out.1]
      exact RX.mono (RX.adv (RX.adv HRD.out (Adv.set3 (X := XBk Z w w2) (a := w.heap.size + 2) (.inr (.inr rfl)) _ _ _)) (Adv.below ((Below.refl _ _).alloc (Nat.le_refl _) _))) (fun i _ e => .inl e)
    · exact (below_set3 (hb.trans (HFR6.out.to_below (B := w.heap.size) (fun i e => by omega) (by omega))) (a := w.heap.size + 2) (by omega) _ _ _).alloc (by simp [World.setCell]; have := HFR6.out.size; omega) _
end Go.Proofs.Ytinjeocfnhhlmaa

/-
  Contract of the document's own fill of layer 4. No statement is proved here.
-/
namespace Go.Proofs.Ytinjeocfnhhlmaa
open Go.ChangeShapes Go.WideShapes Go.ChangeAt Go.RowKit
set_option linter.unusedVariables false
set_option maxRecDepth 100000

/-- how the document's fill ends: what it tells lies beside some blocks -/
def FzE (Z : Nat → Prop) (r : Except Int T) (w : World) (e : Ending) (w' : World) : Prop :=
  match r with
  | .error ec => ∃ k h A n c, e = .returned (.tuple #[.agg #[.int .i64 k, .int .i64 h, .slice A n c], .int .i64 ec]) ∧ ec ≠ 0 ∧ Below w.heap.size w w'
  | .ok t => ∃ k h A n c, e = .returned (.tuple #[.agg #[.int .i64 k, .int .i64 h, .slice A n c], .int .i64 0]) ∧ RX Z w' t (.agg #[.int .i64 k, .int .i64 h, .slice A n c]) ∧ Below w.heap.size w w'
/-- what it tells, in one form -/
def FzO (Z : Nat → Prop) (r : Except Int T) (w' : World) (k h : Int) (A : Option Addr) (n c : Nat) (ec : Int) : Prop :=
  match r with
  | .error e' => ec = e' ∧ e' ≠ 0
  | .ok t => ec = 0 ∧ RX Z w' t (.agg #[.int .i64 k, .int .i64 h, .slice A n c])
theorem FzE.uni {Z : Nat → Prop} {r : Except Int T} {w w' : World} {e : Ending} (h : FzE Z r w e w') : ∃ k h A n c ec, e = .returned (.tuple #[.agg #[.int .i64 k, .int .i64 h, .slice A n c], .int .i64 ec]) ∧ FzO Z r w' k h A n c ec ∧ Below w.heap.size w w' := by
  cases r with
  | error e' =>
    obtain ⟨k, h, A, n, c, rfl, hne, hb⟩ := h
    exact ⟨k, h, A, n, c, e', rfl, ⟨rfl, hne⟩, hb⟩
  | ok t =>
    obtain ⟨k, h, A, n, c, rfl, hr, hb⟩ := h
    exact ⟨k, h, A, n, c, 0, rfl, ⟨rfl, hr⟩, hb⟩
theorem FzO.move {Z Z' : Nat → Prop} {r : Except Int T} {w w' : World} {k h : Int} {A : Option Addr} {n c : Nat} {ec : Int} (o : FzO Z r w k h A n c ec) (hm : ∀ b, ¬ Z b → b < w.heap.size → ¬ Z' b ∧ w'.heap[b]? = w.heap[b]?) : FzO Z' r w' k h A n c ec := by
  cases r with
  | error e' => exact o
  | ok t => exact ⟨o.1, RdF.moveX hm _ _ o.2⟩
/-- what is asked of the terms for metas -/
structure ThD (Z : Nat → Prop) (th : List T) (w : World) (A : Option Addr) (m cL : Nat) : Prop where
  my : ∀ x ∈ th, myB x = true
  ok : ∀ x ∈ th, okT 2199023255552 x
  row : RXL Z w th A m cL
def consL (ys : List T) (r : Except Int (List T)) : Except Int (List T) :=
  match r with
  | .error e => .error e
  | .ok zs => .ok (ys ++ zs)
theorem consL_nil (r : Except Int (List T)) : consL [] r = r := by cases r <;> rfl
theorem consL_consL (ys zs : List T) (r : Except Int (List T)) : consL ys (consL zs r) = consL (ys ++ zs) r := by
  cases r with
  | error e => rfl
  | ok q => simp [consL]
theorem flL_one {th : List T} {k n : Int} {m i : Nat} {x : T} {xs : List T} : flL th k m (x :: xs) i n = match flT th x (n + bd k m i) with
    | .error e => .error e
    | .ok y => consL [y] (flL th k m xs (i + 1) n) := by
  rw [flL]
  cases flT th x (n + bd k m i) with
  | error e => rfl
  | ok y =>
    simp only
    cases flL th k m xs (i + 1) n with
    | error e => rfl
    | ok q => rfl
/-- the document's fill, for one term -/
def RiC (th : List T) (t : T) : Prop :=
  ∀ (Z : Nat → Prop) (w : World) (A : Option Addr) (m cL : Nat) (n : Int) (v : Value), (∀ b, Z b → b < w.heap.size) → ThD Z th w A m cL → RX Z w t v → nodB t = true → 0 ≤ n → n + dp t ≤ 4000 → okT 2199023255552 t → 4000 * nd t ≤ 274877906944 →
    Calls Try.prog 82 #[v, .slice A m cL, .int .i64 n] w (FzE Z (flT th t n) w)
abbrev Z3 (Z : Nat → Prop) (w : World) (b : Nat) : Prop := Z b ∨ b = w.heap.size ∨ b = w.heap.size + 1 ∨ b = w.heap.size + 1 + 1
abbrev Zw (Z : Nat → Prop) (w wr : World) (b : Nat) : Prop := Z b ∨ (w.heap.size ≤ b ∧ b < wr.heap.size)
/-- what holds at the head of the loop -/
structure RiI (Z : Nat → Prop) (th : List T) (k h n : Int) (xs : List T) (An : Option Addr) (nn cc : Nat) (w : World) (j : Nat) (wr : World) (v : Value) (cs : List Value) (ys : List T) : Prop where
  tb : Box wr w.heap.size 24 #[.int .i64 k, .int .i64 h, .slice An nn cc]
  res : Box wr (w.heap.size + 1) 24 #[.int .i64 0, .int .i64 0, .slice none 0 0]
  nob : Box wr (w.heap.size + 1 + 1) 24 #[.int .i64 0, .int .i64 0, .slice none 0 0]
  row : GRow (Z3 Z w) wr (w.heap.size + 3) v j cs ys
  below : Below w.heap.size w wr
  eq : flL th k nn xs 0 n = consL ys (flL th k nn (xs.drop j) j n)

set_option maxHeartbeats 2000000 in
theorem riC {th : List T} {k h : Int} {xs : List T} (ih : ∀ x ∈ xs, RiC th x) : RiC th (.node k h xs) := by
  intro Z w A m cL n v hZ hth hvz hno h0 hn ho hc
  have hv := RX.rd hvz
  obtain ⟨An, nn, cc, rfl, wfk, wfh, hl, hnc, hcm, hxs⟩ := RdF_node.1 hvz
  have hMM := hcm
  unfold maxLen at hcm
  obtain ⟨hok, hnos⟩ := node_parts hno
  have hos := ok_parts ho
  have hdp : dp (.node k h xs) = 1 + dpL xs := by rw [dp]
  have hnd : nd (.node k h xs) = 1 + ndL xs := by rw [nd]
  have hlen := (wdL_nd xs).2
  have hnn : nn ≤ 100000000 := by omega
  obtain ⟨W, hW⟩ : ∃ W, ((w.alloc (.cells #[.int .i64 k, .int .i64 h, .slice An nn cc] 24)).alloc (.cells #[.int .i64 0, .int .i64 0, .slice none 0 0] 24)).alloc (.cells #[.int .i64 0, .int .i64 0, .slice none 0 0] 24) = W := ⟨_, rfl⟩
  have hb : Below w.heap.size w W := by rw [← hW]; exact (((Below.refl _ _).alloc (Nat.le_refl _) _).alloc (by simp) _).alloc (by simp; omega) _
  have x0 : Box W w.heap.size 24 #[.int .i64 k, .int .i64 h, .slice An nn cc] := by rw [← hW]; exact ((Box.new _ _ _).alloc _).alloc _
  have x1 : Box W (w.heap.size + 1) 24 #[.int .i64 0, .int .i64 0, .slice none 0 0] := by rw [← hW]; exact ((Box.new (w.alloc _) _ _).at (by simp)).alloc _
  have x2 : Box W (w.heap.size + 1 + 1) 24 #[.int .i64 0, .int .i64 0, .slice none 0 0] := by rw [← hW]; exact (Box.new ((w.alloc _).alloc _) _ _).at (by simp)
  have HI : Hid (RiI Z th k h n xs An nn cc w 0 W (.slice none 0 0) [] []) := Lib.hid ⟨x0, x1, x2, GRow.nil _ _ _, hb, by rw [consL_nil, List.drop_zero]⟩
  have HW := Lib.hid hW; clear hW x0 x1 x2 hb
  have HZ := Lib.hid hZ; clear hZ
  have HTH := Lib.hid hth; clear hth
  have HV := Lib.hid hvz; clear hvz hv
  have HXS := Lib.hid hxs; clear hxs
  have HN := Lib.hid hl; clear hl
  have HIH := Lib.hid ih; clear ih
  have HNO := Lib.hid (And.intro hnos hos); clear hnos hos
  have HWF := Lib.hid (And.intro wfk wfh); clear wfk wfh
  go_enter Try.func82, Try.ntmps82
  go_wp2_with fail
  rw [HW.out]
  clear HW
  go_loopw [9, 10] (fun v i wr => ∃ (j : Nat) (Av : Option Addr) (cv : Nat) (cs : List Value) (ys : List T), j ≤ nn ∧ i = .int .i64 j ∧ v = .slice Av j cv ∧ Hid (RiI Z th k h n xs An nn cc w j wr (.slice Av j cv) cs ys)) (fun _ i _ => nn - (intOf i).toNat)
  case atStart => exact ⟨0, none, 0, [], [], Nat.zero_le _, rfl, rfl, HI⟩
  case round =>
    clear HI
    obtain ⟨j, Av, cv, cs, ys, hj, rfl, rfl, HI⟩ := hrel
    have y0 := HI.out.tb
    have y1 := HI.out.res
    have y2 := HI.out.nob
    have hbr := HI.out.below
    have l0 := y0.lt
    have l1 := y1.lt
    have l2 := y2.lt
    obtain ⟨a0, a1, a2⟩ := y0.three
    by_cases hlt : j < nn
    · obtain ⟨x, hx⟩ := at_of HN.out hlt
      obtain ⟨bA, oA, k2, h2, A2, n2, c2, rfl, e0, e1, e2, hr⟩ := (HXS.out j x hx).full
      have hmem := List.mem_of_getElem? hx
      have d1 := dpL_mem hmem
      have d2 := nd_mem hmem
      replace e0 := (hbr.cell (cell_lt e0)).trans e0
      replace e1 := (hbr.cell (cell_lt e1)).trans e1
      replace e2 := (hbr.cell (cell_lt e2)).trans e2
      have hbd : 0 ≤ bd k nn j ∧ bd k nn j ≤ 1 := by rw [bd_bdn]; have := bdn_le k nn j; omega
      obtain ⟨s, hs⟩ : ∃ s, s = n + bd k nn j := ⟨_, rfl⟩
      have hsum : IntKind.i64.wrap (n + bd k nn j) = s := by rw [hs, wrapEq, wrap_small (by omega) (by omega)]
      have HBI := Lib.hid fun (W' : World) => refBinds k h (some ⟨bA, oA, none⟩) nn cc hnc hMM j (by unfold maxLen; omega) W'
      have HCALL : Hid (∀ W', Hid (Below wr.heap.size wr W') → Calls Try.prog 82 #[.agg #[.int .i64 k2, .int .i64 h2, .slice A2 n2 c2], .slice A m cL, .int .i64 (n + bd k nn j)] W' (fun e w' => FzE (Zw Z w W') (flT th x (n + bd k nn j)) W' e w' ∧ Hid (Below wr.heap.size wr w'))) := Lib.hid fun W' h' => by
        have hbw := hbr.trans (h'.out.mono hbr.size)
        have hsz := h'.out.size
        have hmv : ∀ b, ¬ Z b → b < w.heap.size → ¬ Zw Z w W' b ∧ W'.heap[b]? = w.heap[b]? := fun b hb hl => ⟨fun e => by
          rcases e with e | e
          · exact hb e
          · omega, hbw.block b hl⟩
        have h9 := HIH.out x hmem (Zw Z w W') W' A m cL (n + bd k nn j) _ (fun b e => by
          rcases e with e | e
          · have := HZ.out b e; have := hbw.size; omega
          · exact e.2) ⟨HTH.out.my, HTH.out.ok, ⟨HTH.out.row.len, HTH.out.row.le, HTH.out.row.cap, fun i u hu => RdFAt.moveX hmv (HTH.out.row.at_ i u hu)⟩⟩ (RdF.moveX hmv _ _ hr) (HNO.out.1 x hmem) (by omega) (by omega) (HNO.out.2 x hmem) (by omega)
        exact h9.mono fun e w' h'' => ⟨h'', by obtain ⟨_, _, _, _, _, _, _, _, hb'⟩ := h''.uni; exact cur_trans h' hb'⟩
      have heq := HI.out.eq
      rw [drop_at hx, flL_one] at heq
      have HEQ := Lib.hid heq; clear heq
      have HX := Lib.hid hx; clear hx
      have HK : Hid (∀ w', Hid (Below wr.heap.size wr w') → (w'.cell? ⟨w.heap.size, 0, none⟩ = some (.int .i64 k) ∧ w'.cell? ⟨w.heap.size, 1, none⟩ = some (.int .i64 h) ∧ w'.cell? ⟨w.heap.size, 2, none⟩ = some (.slice (some ⟨bA, oA, none⟩) nn cc) ∧ w'.cell? ⟨bA, oA + j * 3, none⟩ = some (.int .i64 k2) ∧ w'.cell? ⟨bA, oA + j * 3 + 1, none⟩ = some (.int .i64 h2) ∧ w'.cell? ⟨bA, oA + j * 3 + 2, none⟩ = some (.slice A2 n2 c2) ∧ Hid (Below wr.heap.size wr w'))) := Lib.hid fun w' h' =>
        ⟨(h'.out.cell (cell_lt a0)).trans a0, (h'.out.cell (cell_lt a1)).trans a1, (h'.out.cell (cell_lt a2)).trans a2, (h'.out.cell (cell_lt e0)).trans e0, (h'.out.cell (cell_lt e1)).trans e1, (h'.out.cell (cell_lt e2)).trans e2, h'⟩
      have hcu0 : Hid (Below wr.heap.size wr wr.drew) := cur_drew
      have hi0 : (0 : Int) ≤ j := by omega
      have hi1 : (j : Int) < nn := by omega
      clear hr hbd d1 d2
      rw [← hs] at HCALL HEQ
      clear hs
      generalize bd k nn j = β at *
      generalize flT th x s = R at *
      go_wp2_with fail
      clear e0 e1 e2 a0 a1 a2
      go_region_held3 (fun w' => w'.cell? ⟨w.heap.size, 0, none⟩ = some (.int .i64 k) ∧ w'.cell? ⟨w.heap.size, 1, none⟩ = some (.int .i64 h) ∧ w'.cell? ⟨w.heap.size, 2, none⟩ = some (.slice (some ⟨bA, oA, none⟩) nn cc) ∧ w'.cell? ⟨bA, oA + j * 3, none⟩ = some (.int .i64 k2) ∧ w'.cell? ⟨bA, oA + j * 3 + 1, none⟩ = some (.int .i64 h2) ∧ w'.cell? ⟨bA, oA + j * 3 + 2, none⟩ = some (.slice A2 n2 c2) ∧ Hid (Below wr.heap.size wr w'))
        (first | exact HK.out _ (by assumption) | exact HK.out _ (cur_alloc (by assumption) _) | exact HK.out _ (cur_alloc (cur_alloc (by assumption) _) _) | exact HK.out _ (Lib.hid (((Below.refl _ _).alloc (Nat.le_refl _) _).drew)) | exact HK.out _ (cur_set3 (by assumption) (by omega) _ _ _))
        (first
          | (go_at_call 102
             with_reducible refine Calls.mono (HBI.out _) ?_
             rintro e w8 ⟨rfl, hb8⟩
             have hcu8 : Hid (Below wr.heap.size wr w8) := by first | exact cur_trans (by assumption) hb8 | exact cur_trans (cur_alloc (by assumption) _) hb8 | exact cur_trans (Lib.hid (((Below.refl _ _).alloc (Nat.le_refl _) _).drew)) hb8 | exact Lib.hid ((((Below.refl _ _).drew).alloc (Nat.le_refl _) _).trans (hb8.mono (by simp)))
             first | (have zP := Box.keepC (cs := #[.int .i64 0, .int .i64 0, .slice none 0 0]) (ty := 24) (by first | exact zP | exact zP.alloc _ | exact Box.new _ _ _ | exact (Box.new _ _ _).alloc _ | exact Box.drewI (Box.new _ _ _)) hb8; have lz8 := zP.lt) | skip
             have hs8 := hcu8.out.size
             clear hb8)
          | (go_at_call 82
             with_reducible refine Calls.mono (HCALL.out _ ?hh) ?_
             case hh => first | assumption | exact cur_alloc (by assumption) _
             rintro e w9 ⟨hE, hcu9⟩
             obtain ⟨kq, hq, Aq, nq, cq, ec, rfl, hout, hb9⟩ := hE.uni
             first | (have zP := Box.keepC (cs := #[.int .i64 0, .int .i64 0, .slice none 0 0]) (ty := 24) (by first | exact zP | exact zP.alloc _ | exact Box.new _ _ _ | exact (Box.new _ _ _).alloc _ | exact Box.drewI (Box.new _ _ _)) hb9; have lz9 := zP.lt) | skip
             have hs9 := hcu9.out.size
             have HOq := Lib.hid hout
             first | (obtain ⟨z0, z1, z2⟩ := zP.three; have fz0 := zP.frozen 0; have fz1 := zP.frozen 1; have fz2 := zP.frozen 2) | skip
             clear hout hb9 hE))
      all_goals first
        | (obtain ⟨W6, hWf⟩ : ∃ Wf, w9.alloc (.cells #[.int .i64 kq, .int .i64 hq, .slice Aq nq cq] 24) = Wf := ⟨_, rfl⟩
           obtain ⟨pq, hpe⟩ : ∃ p, p = w9.heap.size := ⟨_, rfl⟩
           have hlw : wr.heap.size ≤ pq := by rw [hpe]; exact hs9
           have xq : Box W6 pq 24 #[.int .i64 kq, .int .i64 hq, .slice Aq nq cq] := by rw [hpe, ← hWf]; exact Box.new _ _ _
           have hbF : Below wr.heap.size wr W6 := by rw [← hWf]; exact (cur_alloc (by assumption) _).out
           have HO6 : Hid (FzO (Zw Z w wr) R W6 kq hq Aq nq cq ec) := Lib.hid (by
             rw [← hWf]
             exact HOq.out.move fun b hb hl => ⟨fun e => hb (by
               rcases e with e | e
               · exact .inl e
               · exact .inr ⟨e.1, by first | omega | (simp; omega)⟩), Below.heap_alloc _ _ _ hl⟩)
           rw [hWf, ← hpe]
           clear hWf hpe)
        | (obtain ⟨W6, hWf⟩ : ∃ Wf, ((w9.setCell ⟨w8.heap.size, 0, none⟩ (.int .i64 kq)).setCell ⟨w8.heap.size, 1, none⟩ (.int .i64 hq)).setCell ⟨w8.heap.size, 2, none⟩ (.slice Aq nq cq) = Wf := ⟨_, rfl⟩
           obtain ⟨pq, hpe⟩ : ∃ p, p = w8.heap.size := ⟨_, rfl⟩
           have hlw : wr.heap.size ≤ pq := by rw [hpe]; exact hs8
           have xq : Box W6 pq 24 #[.int .i64 kq, .int .i64 hq, .slice Aq nq cq] := by rw [hpe, ← hWf]; exact zP.put3 _ _ _
           have hbF : Below wr.heap.size wr W6 := by rw [← hWf]; exact (cur_set3 (by assumption) (by omega) _ _ _).out
           have HO6 : Hid (FzO (Zw Z w wr) R W6 kq hq Aq nq cq ec) := Lib.hid (by
             rw [← hWf]
             exact HOq.out.move fun b hb hl => ⟨fun e => hb (by
               rcases e with e | e
               · exact .inl e
               · exact .inr ⟨e.1, by first | omega | (simp; omega)⟩), heap_other3 _ _ _ _ _ _ (fun e => hb (.inr ⟨by omega, by first | omega | (simp; omega)⟩))⟩)
           rw [hWf, ← hpe]
           clear hWf hpe)
        | (obtain ⟨W6, hWf⟩ : ∃ Wf, ((w9.setCell ⟨wr.heap.size, 0, none⟩ (.int .i64 kq)).setCell ⟨wr.heap.size, 1, none⟩ (.int .i64 hq)).setCell ⟨wr.heap.size, 2, none⟩ (.slice Aq nq cq) = Wf := ⟨_, rfl⟩
           obtain ⟨pq, hpe⟩ : ∃ p, p = wr.heap.size := ⟨_, rfl⟩
           have hlw : wr.heap.size ≤ pq := by rw [hpe]; exact Nat.le_refl _
           have xq : Box W6 pq 24 #[.int .i64 kq, .int .i64 hq, .slice Aq nq cq] := by rw [hpe, ← hWf]; exact zP.put3 _ _ _
           have hbF : Below wr.heap.size wr W6 := by rw [← hWf]; exact (cur_set3 (by assumption) (by omega) _ _ _).out
           have HO6 : Hid (FzO (Zw Z w wr) R W6 kq hq Aq nq cq ec) := Lib.hid (by
             rw [← hWf]
             exact HOq.out.move fun b hb hl => ⟨fun e => hb (by
               rcases e with e | e
               · exact .inl e
               · exact .inr ⟨e.1, by first | omega | (simp; omega)⟩), heap_other3 _ _ _ _ _ _ (fun e => hb (.inr ⟨by omega, by first | omega | (simp; omega)⟩))⟩)
           rw [hWf, ← hpe]
           clear hWf hpe)
      all_goals
        have z1 := y1.keep hbF y1.lt
        have z2 := y2.keep hbF y2.lt
        have z0 := y0.keep hbF y0.lt
        have hb6 := hbr.trans (hbF.mono hbr.size)
        have hg6 : GRow (Z3 Z w) W6 (w.heap.size + 3) (.slice Av j cv) j cs ys := HI.out.row.move (fun b hb _ => hbF.block b hb) (fun g hg e => by
          have h1 := (HI.out.row.lt hg).1
          rcases e with e | e | e | e
          · have := HZ.out g e; omega
          · omega
          · omega
          · omega)
        have hob : ∀ g, Value.ownBlock (.slice Av j cv) = some g → w.heap.size + 3 ≤ g ∧ g < wr.heap.size := fun g hg => HI.out.row.lt hg
        have hsz6 := hbF.size
        have lz0 := z0.lt
        have lz1 := z1.lt
        have lz2 := z2.lt
        have lxq := xq.lt
        have HOB := Lib.hid hob; clear hob
        clear hbF
        try clear zP
        obtain ⟨b0, b1, b2⟩ := z2.three
        obtain ⟨c0, c1, c2⟩ := xq.three
        obtain ⟨r0, r1, r2⟩ := z1.three
        have f0 := z1.frozen 0
        have f1 := z1.frozen 1
        have f2 := z1.frozen 2
        cases R with
        | error e' =>
          obtain ⟨rfl, hne⟩ := HO6.out
          have hne' : (ec != 0) = true := by simpa using hne
          have HNE := Lib.hid hne
          have HB6 := Lib.hid hb6
          clear hg6 hb6 hne
          go_wp2_with fail
          refine bodyPost_ret (v := .tuple #[zT, .int .i64 ec]) (by simp [results, Try.results82, go_sem, r0, r1, r2]) rfl ?_
          have hfl : flT th (.node k h xs) n = .error ec := by rw [flT, HN.out, HEQ.out]; rfl
          rw [hfl]
          exact ⟨0, 0, none, 0, 0, rfl, HNE.out, below_set3 HB6.out (by omega) _ _ _⟩
        | ok y =>
          obtain ⟨rfl, hry⟩ := HO6.out
          have hrys : RdF (fun b => ¬ Z3 Z w b ∧ some b ≠ Value.ownBlock (.slice Av j cv)) W6 y (.agg #[.int .i64 kq, .int .i64 hq, .slice Aq nq cq]) := RdF.moveX (fun b hb _ => ⟨⟨fun e => hb (by
            rcases e with e | e | e | e
            · exact .inl e
            · exact .inr (by omega)
            · exact .inr (by omega)
            · exact .inr (by omega)), fun e => hb (.inr (by have := HOB.out b e.symm; omega))⟩, rfl⟩) _ _ hry
          obtain ⟨g, cap, w4, hrun, hrow, hold, hb4⟩ := hg6.push hrys (by omega) (by omega)
          have HJ : Hid (RiI Z th k h n xs (some ⟨bA, oA, none⟩) nn cc w (j + 1) w4 (.slice (some ⟨g, 0, none⟩) (j + 1) cap) (cs ++ [.int .i64 kq, .int .i64 hq, .slice Aq nq cq]) (ys ++ [y])) := Lib.hid
            ⟨(hb4.block _ (by omega)).trans z0, (hb4.block _ (by omega)).trans z1, (hb4.block _ (by omega)).trans z2, hrow, hb6.trans (hb4.mono (by omega)), by rw [HEQ.out]; simp only; rw [consL_consL]⟩
          clear hg6 hrys hrow hold hb4 hry hb6
          go_wp2_with (at_builtin; refine Lib.wpList_append_run _ rfl _ _ _ _ rfl _ _ rfl rfl _ _ hrun ?_)
          go_roundw
          case rel => exact ⟨j + 1, some ⟨g, 0, none⟩, cap, _, _, by omega, by go_num, rfl, HJ⟩
          case measure => simp [intOf]; omega
    · obtain rfl : j = nn := by omega
      have hend : flL th k j xs 0 n = .ok ys := by
        rw [HI.out.eq, drop_all HN.out (Nat.le_refl _), flL]
        simp [consL]
      have hfl : flT th (.node k h xs) n = flN th n k h ys := by rw [flT, HN.out, hend]
      have hrl := HI.out.row.rxl (fun b hb => by
        rcases hb with e | e | e | e
        · have := HZ.out b e; omega
        · omega
        · omega
        · omega)
      have HRL := Lib.hid hrl
      have HFL := Lib.hid hfl
      have HEND := Lib.hid hend
      clear hrl hfl hend
      have hnys := fun ys' he => flL_nd th k j xs 0 n ys' he
      have hhys := fun ys' he => flL_heads (th := th) HTH.out.ok k j xs 0 n ys' h0 (by omega) (by rw [okT] at ho; exact ho.2) he
      have hnd5 : ndL ys ≤ 274877906944 := by have := hnys ys HEND.out; omega
      have hLo : ∀ y ∈ ys, LoT y := fun y hy => okT_mono (M := hB (dpL xs)) (by unfold hB; omega) _ (okL_mem (hhys ys HEND.out) hy)
      have HND := Lib.hid hnd5
      have HLO := Lib.hid hLo
      clear hnys hhys hLo hnd5
      obtain ⟨b0, b1, b2⟩ := y2.three
      obtain ⟨r0, r1, r2⟩ := y1.three
      have f0 := y1.frozen 0
      have f1 := y1.frozen 1
      have f2 := y1.frozen 2
      by_cases hk6 : k = 6
      case neg =>
        have e6 : (k != 6) = true := by simpa using hk6
        have hfl2 : flT th (.node k h xs) n = .ok (.node k h ys) := by rw [HFL.out, flN, if_neg hk6]
        have HFL2 := Lib.hid hfl2
        clear hk6 hfl2
        go_wp2_with fail
        refine bodyPost_ret (v := .tuple #[.agg #[.int .i64 k, .int .i64 h, .slice Av j cv], .int .i64 0]) (by simp [results, Try.results82, go_sem, r0, r1, r2]) rfl ?_
        rw [HFL2.out]
        refine ⟨k, h, Av, j, cv, rfl, RdF_node.2 ⟨Av, j, cv, rfl, HWF.out.1, HWF.out.2, HRL.out.len, HRL.out.le, HRL.out.cap, fun i t ht => RdFAt.moveX (fun b hb hl => ⟨fun e => hb (.inl e), heap_other3 _ _ _ _ _ _ (fun e => hb (.inr (.inr (.inl e))))⟩) (HRL.out.at_ i t ht)⟩, below_set3 hbr (by omega) _ _ _⟩
      subst hk6
      have hh0 : 0 ≤ h := by rcases okN_cases hok with ⟨e, _⟩ | ⟨e, _⟩ | ⟨e, _⟩ | ⟨e, he⟩ | ⟨e, he⟩ | ⟨e, he⟩ | ⟨e, he⟩ <;> first | exact he | omega
      have hml := HTH.out.row.len
      by_cases hmh : (m : Int) ≤ h
      · have d1 : decide ((m : Int) ≤ h) = true := by simpa using hmh
        have hfl2 : flT th (.node 6 h xs) n = .error 2 := by rw [HFL.out, flN, if_pos rfl, if_pos (by omega)]
        have HFL2 := Lib.hid hfl2
        clear hfl2 hmh
        go_wp2_with fail
        refine bodyPost_ret (v := .tuple #[zT, .int .i64 2]) (by simp [results, Try.results82, go_sem, r0, r1, r2]) rfl ?_
        rw [HFL2.out]
        exact ⟨0, 0, none, 0, 0, rfl, by decide, below_set3 hbr (by omega) _ _ _⟩
      have d1 : decide ((m : Int) ≤ h) = false := by simpa using hmh
      have hfl2 : flT th (.node 6 h xs) n = if ys.all myB = true then (if apE (th.getD h.toNat (.node 0 0 [])) ys n = 0 then .ok (apT (th.getD h.toNat (.node 0 0 [])) ys n) else .error (apE (th.getD h.toNat (.node 0 0 [])) ys n)) else .error 4 := by rw [HFL.out, flN, if_pos rfl, if_neg (by omega)]
      have HFL2 := Lib.hid hfl2
      clear hfl2
      have HMH := Lib.hid hmh; clear hmh
      have HB1 := Lib.hid hbr
      have Y0 := Lib.hid y0
      have Y1 := Lib.hid y1
      have Y2 := Lib.hid y2
      go_wp2_with fail
      clear b0 b1 b2 r0 r1 r2 f0 f1 f2 a0 a1 a2 y0 y1 y2 hbr HI
      obtain ⟨wz, rfl⟩ : ∃ wz, wz = wr := ⟨_, rfl⟩
      go_loopw [13] (fun i wr => ∃ (i' : Nat), i' ≤ j ∧ i = .int .i64 i' ∧ Hid ((ys.drop i').all myB = ys.all myB) ∧ Hid (Below wz.heap.size wz wr)) (fun i _ => j - (intOf i).toNat)
      case atStart => exact ⟨0, Nat.zero_le _, rfl, Lib.hid (by simp), Lib.hid (Below.refl _ _)⟩
      case round =>
        obtain ⟨i, hi, rfl, HS, HBR⟩ := hrel
        have z0 := Y0.out.keep HBR.out Y0.out.lt
        have z1 := Y1.out.keep HBR.out Y1.out.lt
        have z2 := Y2.out.keep HBR.out Y2.out.lt
        have hbw := HB1.out.trans (HBR.out.mono HB1.out.size)
        have lz0 := z0.lt
        have lz1 := z1.lt
        have lz2 := z2.lt
        obtain ⟨a0, a1, a2⟩ := z0.three
        obtain ⟨b0, b1, b2⟩ := z2.three
        obtain ⟨r0, r1, r2⟩ := z1.three
        have f0 := z1.frozen 0
        have f1 := z1.frozen 1
        have f2 := z1.frozen 2
        by_cases hlt : i < j
        · obtain ⟨y, hy⟩ := at_of HRL.out.len hlt
          obtain ⟨bY, oY, k2, h2, A2, n2, c2, rfl, e0, e1, e2, hr⟩ := (RdAt.keep HBR.out (rdFAt_rd (HRL.out.at_ i y hy))).full
          have hM := refMay y _ _ hr
          rw [mayB_big (by have := nd_mem (List.mem_of_getElem? hy); have := HND.out; omega)] at hM
          have HM := Lib.hid hM; clear hM
          have hs := HS.out
          rw [drop_at hy, List.all_cons] at hs
          have HS2 := Lib.hid hs; clear hs
          generalize myB y = bm at *
          have hi0 : (0 : Int) ≤ i := by omega
          have hi1 : (i : Int) < j := by omega
          clear hr hy
          go_wp2_with fail
          refine HM.out.mono ?_
          clear HM
          rintro e w5 ⟨rfl, hb5⟩
          have v1 := z1.keep hb5 lz1
          have v2 := z2.keep hb5 lz2
          have HB5 := Lib.hid (hbw.trans (hb5.mono hbw.size))
          have HBR5 := Lib.hid (HBR.out.trans (hb5.mono HBR.out.size))
          clear a0 a1 a2 b0 b1 b2 r0 r1 r2 f0 f1 f2 e0 e1 e2 hb5
          obtain ⟨b0, b1, b2⟩ := v2.three
          obtain ⟨r0, r1, r2⟩ := v1.three
          have f0 := v1.frozen 0
          have f1 := v1.frozen 1
          have f2 := v1.frozen 2
          cases bm
          · go_wp2_with fail
            refine bodyPost_ret (v := .tuple #[zT, .int .i64 4]) (by simp [results, Try.results82, go_sem, r0, r1, r2]) rfl ?_
            have hall : ys.all myB = false := by rw [← HS2.out]; rfl
            rw [HFL2.out, hall]
            exact ⟨0, 0, none, 0, 0, rfl, by decide, below_set3 HB5.out (by omega) _ _ _⟩
          · go_wp2_with fail
            go_roundw
            case rel => exact ⟨i + 1, by omega, by go_num, Lib.hid (by simpa using HS2.out), HBR5⟩
            case measure => simp [intOf]; omega
        · have hij : i = j := by omega
          subst hij
          have hall : ys.all myB = true := by rw [← HS.out, drop_all HRL.out.len (Nat.le_refl _)]; rfl
          have hlh : h.toNat < th.length := by have := HMH.out; omega
          obtain ⟨x, hx⟩ : ∃ x, th.getD h.toNat (.node 0 0 []) = x := ⟨_, rfl⟩
          have hxm : x ∈ th := by rw [← hx]; exact getD_mem _ hlh
          have hxe : th[h.toNat]? = some x := by rw [← hx, List.getD_eq_getElem?_getD, List.getElem?_eq_getElem hlh]; rfl
          have hfl3 := HFL2.out
          rw [hall, if_pos rfl, hx] at hfl3
          have hmv : ∀ b, ¬ Z b → b < w.heap.size → ¬ Z3 Z w b ∧ wr.heap[b]? = w.heap[b]? := fun b hb hl => ⟨fun e => by
            rcases e with e | e | e | e
            · exact hb e
            · omega
            · omega
            · omega, hbw.block b hl⟩
          obtain ⟨bX, oX, k2, h2, A2, n2, c2, hAe, e0, e1, e2, hrx⟩ := (RdFAt.moveX hmv (HTH.out.row.at_ _ _ hxe)).full
          subst hAe
          have hmy := List.all_eq_true.1 hall
          have hAP := rApplyX (Z := Z3 Z w) (w := wr) (t := x) (L := ys) (sh := n) (fun b e => by
            rcases e with e | e | e | e
            · have := HZ.out b e; have := hbw.size; omega
            · omega
            · omega
            · omega) hrx ⟨HRL.out.len, HRL.out.le, HRL.out.cap, fun i u hu => RdFAt.moveX (fun b hb hl => ⟨hb, HBR.out.block b hl⟩) (HRL.out.at_ i u hu)⟩ (by have := ((myB_iff x).1 (HTH.out.my x hxm)).2.1; omega) (fun y hy => by have := ((myB_iff y).1 (hmy y hy)).2.1; omega) (fun _ => okT_mono (by omega) _ (HTH.out.ok x hxm)) (fun y hy _ => HLO.out y hy)
          have HAP := Lib.hid hAP; clear hAP
          have HFL3 := Lib.hid hfl3; clear hfl3 hmv hrx hxe hx hlh hmy hall
          have hi0 : h < m := by have := HMH.out; omega
          generalize apT x ys n = RT at *
          generalize apE x ys n = RE at *
          go_wp2_with fail
          refine HAP.out.mono ?_
          clear HAP
          rintro e w5 ⟨kq, hq, Aq, nq, cq, rfl, hrd, hb5⟩
          have v1 := z1.keep hb5 lz1
          have lv1 := v1.lt
          have HRD := Lib.hid hrd
          have HB5 := Lib.hid (hbw.trans (hb5.mono hbw.size))
          clear a0 a1 a2 b0 b1 b2 r0 r1 r2 f0 f1 f2 e0 e1 e2 hb5 hrd
          obtain ⟨r0, r1, r2⟩ := v1.three
          have f0 := v1.frozen 0
          have f1 := v1.frozen 1
          have f2 := v1.frozen 2
          go_wp2_with fail
          refine bodyPost_ret (v := .tuple #[.agg #[.int .i64 kq, .int .i64 hq, .slice Aq nq cq], .int .i64 RE]) (by simp [results, Try.results82, go_sem, r0, r1, r2, lv1]) rfl ?_
          have hBF := (below_set3 HB5.out (a := w.heap.size + 1) (by omega) (.int .i64 kq) (.int .i64 hq) (.slice Aq nq cq)).alloc (by simp [World.setCell]; omega) (.cells #[.int .i64 kq, .int .i64 hq, .slice Aq nq cq] 24)
          rw [HFL3.out]
          by_cases hz : RE = 0
          · subst hz
            rw [if_pos rfl]
            exact ⟨kq, hq, Aq, nq, cq, rfl, RdF.moveX (fun b hb hl => ⟨fun e => hb (.inl e), (Below.heap_alloc _ _ _ (by simpa [World.setCell] using hl)).trans (heap_other3 _ _ _ _ _ _ (fun e => hb (.inr (.inr (.inl e)))))⟩) _ _ HRD.out, hBF⟩
          · rw [if_neg hz]
            exact ⟨kq, hq, Aq, nq, cq, rfl, hz, hBF⟩
theorem rfillC (th : List T) : ∀ t, RiC th t := T.ind fun k h xs ih => riC ih
end Go.Proofs.Ytinjeocfnhhlmaa

/-
  Contract of the document's own Fill of layer 4. No statement is proved here.
-/
namespace Go.Proofs.Ytinjeocfnhhlmaa
open Go.ChangeShapes Go.WideShapes Go.ChangeAt Go.RowKit
set_option linter.unusedVariables false
set_option maxRecDepth 100000

/-- how the document's Fill ends: noughts beside an error -/
def FzF (Z : Nat → Prop) (r : Except Int T) (w : World) (e : Ending) (w' : World) : Prop :=
  match r with
  | .error ec => e = .returned (.tuple #[zT, .int .i64 ec]) ∧ ec ≠ 0 ∧ Below w.heap.size w w'
  | .ok t => ∃ k h A n c, e = .returned (.tuple #[.agg #[.int .i64 k, .int .i64 h, .slice A n c], .int .i64 0]) ∧ RX Z w' t (.agg #[.int .i64 k, .int .i64 h, .slice A n c]) ∧ Below w.heap.size w w'
theorem FzF.fze {Z : Nat → Prop} {r : Except Int T} {w w' : World} {e : Ending} (h : FzF Z r w e w') : FzE Z r w e w' := by
  cases r with
  | error ec => exact ⟨0, 0, none, 0, 0, h.1, h.2.1, h.2.2⟩
  | ok t => exact h
theorem FzF.ren {Z : Nat → Prop} {r : Except Int T} {w w' : World} {e : Ending} (h : FzF Z r w e w') : REn (exT r) (exE r) w e w' := by
  cases r with
  | error ec =>
    obtain ⟨rfl, _, hb⟩ := h
    exact ⟨0, 0, none, 0, 0, rfl, RdF.rd _ _ (rd_nil0 (fun _ => True) _), hb⟩
  | ok t =>
    obtain ⟨k, h, A, n, c, rfl, hr, hb⟩ := h
    exact ⟨k, h, A, n, c, rfl, RX.rd hr, hb⟩
set_option maxHeartbeats 4000000 in
theorem rFillC {Z : Nat → Prop} {th : List T} {t : T} {A : Option Addr} {m cL : Nat} {n : Int} {v : Value} (w : World) (hZ : ∀ b, Z b → b < w.heap.size) (hrow : RXL Z w th A m cL) (hvz : RX Z w t v) (hnt : nd t ≤ 1099511627776) (hnth : ∀ x ∈ th, nd x ≤ 1099511627776)
    (hok : ∀ x ∈ th, myB x = true → okT 2199023255552 x) (ho : myB t = true → okT 2199023255552 t) :
    Calls Try.prog 40 #[v, .slice A m cL, .int .i64 n] w (FzF Z (fiR th n t) w) := by
  obtain ⟨k, h, At, nt, ct, rfl⟩ := (RX.rd hvz).full
  have hlen := hrow.len
  have hle := hrow.le
  have hcap := hrow.cap
  unfold maxLen at hcap
  obtain ⟨W, hW⟩ : ∃ W, (w.alloc (.cells #[.int .i64 k, .int .i64 h, .slice At nt ct] 24)).alloc (.cells #[.int .i64 0, .int .i64 0, .slice none 0 0] 24) = W := ⟨_, rfl⟩
  have hb : Below w.heap.size w W := by rw [← hW]; exact ((Below.refl _ _).alloc (Nat.le_refl _) _).alloc (by simp) _
  have x0 : Box W w.heap.size 24 #[.int .i64 k, .int .i64 h, .slice At nt ct] := by rw [← hW]; exact (Box.new _ _ _).alloc _
  have x1 : Box W (w.heap.size + 1) 24 #[.int .i64 0, .int .i64 0, .slice none 0 0] := by rw [← hW]; exact (Box.new (w.alloc _) _ _).at (by simp)
  have hM := refMay t _ _ (Rd.keep hb _ _ (RX.rd hvz))
  rw [mayB_big hnt] at hM
  have HM := Lib.hid hM; clear hM
  have HBAD : Hid ((thB th && decide (0 ≤ n) && decide (n ≤ 1000) && myB t) = false → ∀ w', Below w.heap.size w w' → FzF Z (fiR th n t) w (.returned (.tuple #[zT, .int .i64 1])) w') := Lib.hid fun h w' hb' => by
    rw [fi_bad h]
    exact ⟨rfl, by decide, hb'⟩
  have HGO : Hid (th.all myB = true → th.length ≤ 200 → 0 ≤ n → n ≤ 1000 → myB t = true → (fiR th n t = match flT th t n with
    | .error e => .error e
    | .ok t' => if myB t' = true then .ok t' else .error 4) ∧ (∀ u, flT th t n = .ok u → nd u ≤ 1099511627776) ∧ ∀ W', Below w.heap.size w W' → Calls Try.prog 82 #[.agg #[.int .i64 k, .int .i64 h, .slice At nt ct], .slice A m cL, .int .i64 n] W' (FzE (Zw Z w W') (flT th t n) W')) := Lib.hid fun h0 h1 h2 h3 h4 => by
    obtain ⟨a1, a2, a3⟩ := (myB_iff t).1 h4
    refine ⟨fi_good (by unfold thB; rw [h0]; simpa using h1) h2 h3 h4, fun u hu => by have := fl_nd th t n u hu; omega, fun W' hb' => ?_⟩
    have hall := List.all_eq_true.1 h0
    have hmv : ∀ b, ¬ Z b → b < w.heap.size → ¬ Zw Z w W' b ∧ W'.heap[b]? = w.heap[b]? := fun b hb hl => ⟨fun e => by
      rcases e with e | e
      · exact hb e
      · omega, hb'.block b hl⟩
    exact rfillC th t (Zw Z w W') W' A m cL n _ (fun b e => by
      rcases e with e | e
      · have := hZ b e; have := hb'.size; omega
      · exact e.2) ⟨hall, fun x hx => hok x hx (hall x hx), ⟨hrow.len, hrow.le, hrow.cap, fun i u hu => RdFAt.moveX hmv (hrow.at_ i u hu)⟩⟩ (RdF.moveX hmv _ _ hvz) a1 h2 (by omega) (ho h4) (by omega)
  have HROW := Lib.hid hrow; clear hrow
  have HNT := Lib.hid hnth; clear hnth
  have HW := Lib.hid hW; clear hW
  clear hvz hok ho hnt hZ
  generalize fiR th n t = R at *
  generalize flT th t n = FR at *
  generalize myB t = bM at *
  go_enter Try.func40, Try.ntmps40
  go_wp2_with fail
  rw [HW.out]
  clear HW
  refine HM.out.mono ?_
  clear HM
  rintro e w1 ⟨rfl, hb1⟩
  have y0 := x0.keep hb1 x0.lt
  have y1 := x1.keep hb1 x1.lt
  have hbw := hb.trans (hb1.mono hb.size)
  have l0 := y0.lt
  have l1 := y1.lt
  clear x0 x1 hb1 hb
  obtain ⟨a0, a1, a2⟩ := y0.three
  obtain ⟨r0, r1, r2⟩ := y1.three
  have f0 := y1.frozen 0
  have f1 := y1.frozen 1
  have f2 := y1.frozen 2
  cases bM
  · have HBW := Lib.hid hbw; clear hbw
    go_wp2_with fail
    refine bodyPost_ret (v := .tuple #[zT, .int .i64 1]) (by simp [results, Try.results40, go_sem, r0, r1, r2]) rfl ?_
    exact HBAD.out (by simp) _ (below_set3 HBW.out (by omega) _ _ _)
  by_cases h2 : n < 0
  · have d1 : decide (n < 0) = true := by simpa using h2
    have d2 : decide (0 ≤ n) = false := by simp; omega
    rw [d2] at HBAD
    have HBW := Lib.hid hbw; clear hbw
    clear d2 h2
    go_wp2_with fail
    refine bodyPost_ret (v := .tuple #[zT, .int .i64 1]) (by simp [results, Try.results40, go_sem, r0, r1, r2]) rfl ?_
    exact HBAD.out (by simp) _ (below_set3 HBW.out (by omega) _ _ _)
  have d1 : decide (n < 0) = false := by simpa using h2
  by_cases h3 : 1000 < n
  · have d3 : decide (1000 < n) = true := by simpa using h3
    have d2 : decide (n ≤ 1000) = false := by simp; omega
    rw [d2] at HBAD
    have HBW := Lib.hid hbw; clear hbw
    clear d2 h2 h3
    go_wp2_with fail
    refine bodyPost_ret (v := .tuple #[zT, .int .i64 1]) (by simp [results, Try.results40, go_sem, r0, r1, r2]) rfl ?_
    exact HBAD.out (by simp) _ (below_set3 HBW.out (by omega) _ _ _)
  have d3 : decide (1000 < n) = false := by simpa using h3
  by_cases h4 : (200 : Int) < m
  · have d4 : decide ((200 : Int) < m) = true := by simpa using h4
    have hth : thB th = false := by unfold thB; rw [show decide (th.length ≤ 200) = false by simp; omega]; rfl
    rw [hth] at HBAD
    have HBW := Lib.hid hbw; clear hbw
    clear h2 h3 h4 hth
    go_wp2_with fail
    refine bodyPost_ret (v := .tuple #[zT, .int .i64 1]) (by simp [results, Try.results40, go_sem, r0, r1, r2]) rfl ?_
    exact HBAD.out (by simp) _ (below_set3 HBW.out (by omega) _ _ _)
  have d4 : decide ((200 : Int) < m) = false := by simpa using h4
  have HN := Lib.hid (And.intro (show 0 ≤ n by omega) (And.intro (show n ≤ 1000 by omega) (show th.length ≤ 200 by omega))); clear h2 h3 h4
  have HBW := Lib.hid hbw
  have Y0 := Lib.hid y0
  have Y1 := Lib.hid y1
  go_wp2_with fail
  clear a0 a1 a2 r0 r1 r2 f0 f1 f2 y0 y1 hbw
  go_loopw [9] (fun i wr => ∃ (j : Nat), j ≤ m ∧ i = .int .i64 j ∧ Hid ((th.drop j).all myB = th.all myB) ∧ Hid (Below w1.heap.size w1 wr)) (fun i _ => m - (intOf i).toNat)
  case atStart => exact ⟨0, Nat.zero_le _, rfl, Lib.hid (by simp), Lib.hid (Below.refl _ _)⟩
  case round =>
    obtain ⟨j, hj, rfl, HS, HBR⟩ := hrel
    have hbr := HBW.out.trans (HBR.out.mono HBW.out.size)
    have z0 := Y0.out.keep HBR.out Y0.out.lt
    have z1 := Y1.out.keep HBR.out Y1.out.lt
    have lz0 := z0.lt
    have lz1 := z1.lt
    obtain ⟨a0, a1, a2⟩ := z0.three
    by_cases hlt : j < m
    · obtain ⟨y, hy⟩ := at_of hlen hlt
      obtain ⟨bY, oY, k2, h2, A2, n2, c2, rfl, e0, e1, e2, hr⟩ := (RdAt.keep hbr (rdFAt_rd (HROW.out.at_ j y hy))).full
      have hM := refMay y _ _ hr
      rw [mayB_big (HNT.out y (List.mem_of_getElem? hy))] at hM
      have HM := Lib.hid hM; clear hM
      have hs := HS.out
      rw [drop_at hy, List.all_cons] at hs
      have HS2 := Lib.hid hs; clear hs
      generalize myB y = bm at *
      have hi0 : (0 : Int) ≤ j := by omega
      have hi1 : (j : Int) < m := by omega
      clear hr hy
      go_wp2_with fail
      refine HM.out.mono ?_
      clear HM
      rintro e w5 ⟨rfl, hb5⟩
      have v1 := z1.keep hb5 lz1
      have HB5 := Lib.hid (hbr.trans (hb5.mono hbr.size))
      have HBR5 := Lib.hid (HBR.out.trans (hb5.mono HBR.out.size))
      clear a0 a1 a2 e0 e1 e2 hb5
      obtain ⟨r0, r1, r2⟩ := v1.three
      have f0 := v1.frozen 0
      have f1 := v1.frozen 1
      have f2 := v1.frozen 2
      cases bm
      · go_wp2_with fail
        refine bodyPost_ret (v := .tuple #[zT, .int .i64 1]) (by simp [results, Try.results40, go_sem, r0, r1, r2]) rfl ?_
        have hall : th.all myB = false := by rw [← HS2.out]; rfl
        exact HBAD.out (by unfold thB; rw [hall]; simp) _ (below_set3 HB5.out (by omega) _ _ _)
      · go_wp2_with fail
        go_roundw
        case rel => exact ⟨j + 1, by omega, by go_num, Lib.hid (by simpa using HS2.out), HBR5⟩
        case measure => simp [intOf]; omega
    · have hjm : j = m := by omega
      subst hjm
      have hall : th.all myB = true := by rw [← HS.out, drop_all hlen (Nat.le_refl _)]; rfl
      obtain ⟨hR, hnu, hF⟩ := HGO.out hall HN.out.2.2 HN.out.1 HN.out.2.1 (by trivial)
      have HF := Lib.hid (hF wr hbr); clear hF HGO
      have HRR := Lib.hid hR; clear hR
      have HNU := Lib.hid hnu; clear hnu
      have HB2 := Lib.hid hbr
      go_wp2_with fail
      refine HF.out.mono ?_
      clear HF
      intro e w5 hE
      obtain ⟨kq, hq, Aq, nq, cq, ec, rfl, hout, hb5⟩ := hE.uni
      have v1 := z1.keep hb5 lz1
      have lv1 := v1.lt
      have HO := Lib.hid hout
      have hbD : Below w5.heap.size w5 (w5.alloc (.cells #[.int .i64 kq, .int .i64 hq, .slice Aq nq cq] 24)) := (Below.refl _ _).alloc (Nat.le_refl _) _
      have HB5 := Lib.hid (hbr.trans (hb5.mono hbr.size))
      have hsz := hb5.size
      clear a0 a1 a2 hout hE hb5 z0 z1 hbr
      obtain ⟨r0, r1, r2⟩ := v1.three
      have f0 := v1.frozen 0
      have f1 := v1.frozen 1
      have f2 := v1.frozen 2
      cases FR with
      | error e' =>
        obtain ⟨rfl, hne⟩ := HO.out
        have hne' : (ec != 0) = true := by simpa using hne
        have HR := Lib.hid (show R = .error ec from HRR.out)
        have HNE := Lib.hid hne
        clear HRR hne hbD
        go_wp2_with fail
        refine bodyPost_ret (v := .tuple #[zT, .int .i64 ec]) (by simp [results, Try.results40, go_sem, r0, r1, r2, lv1]) rfl ?_
        rw [HR.out]
        exact ⟨rfl, HNE.out, (below_set3 HB5.out (by omega) _ _ _).alloc (by have := HB5.out.size; simp [World.setCell]; omega) _⟩
      | ok u =>
        obtain ⟨rfl, hru⟩ := HO.out
        have hrD := RdF.moveX (ok' := fun b => ¬ Zw Z w wr b) (fun b hb hl => ⟨hb, hbD.block b hl⟩) _ _ hru
        have hM := refMay u _ _ (RX.rd hrD)
        rw [mayB_big (HNU.out u rfl)] at hM
        have HM := Lib.hid hM
        have hR : R = if myB u = true then .ok u else .error 4 := HRR.out
        clear HRR
        have HRD := Lib.hid hrD
        have u1 := v1.keep hbD lv1
        have xq := Box.new w5 24 #[.int .i64 kq, .int .i64 hq, .slice Aq nq cq]
        have HB6 := Lib.hid (HB5.out.trans (hbD.mono HB5.out.size))
        obtain ⟨bm, hbm⟩ : ∃ bm, myB u = bm := ⟨_, rfl⟩
        rw [hbm] at HM hR
        have HR := Lib.hid hR
        clear hM hR hrD hru hbD r0 r1 r2 f0 f1 f2 v1
        go_wp2_with fail
        refine HM.out.mono ?_
        clear HM
        rintro e w7 ⟨rfl, hb7⟩
        have t1 := u1.keep hb7 u1.lt
        have tq := xq.keep hb7 xq.lt
        have lt1 := t1.lt
        have HB7 := Lib.hid (HB6.out.trans (hb7.mono HB6.out.size))
        have HRD7 := Lib.hid (RdF.moveX (ok' := fun b => ¬ Zw Z w wr b) (fun b hb hl => ⟨hb, hb7.block b hl⟩) _ _ HRD.out)
        clear hb7 u1 xq HRD
        obtain ⟨r0, r1, r2⟩ := t1.three
        obtain ⟨q0, q1, q2⟩ := tq.three
        have f0 := t1.frozen 0
        have f1 := t1.frozen 1
        have f2 := t1.frozen 2
        cases bm
        · go_wp2_with fail
          refine bodyPost_ret (v := .tuple #[zT, .int .i64 4]) (by simp [results, Try.results40, go_sem, r0, r1, r2]) rfl ?_
          rw [HR.out]
          exact ⟨rfl, by decide, below_set3 HB7.out (by omega) _ _ _⟩
        · go_wp2_with fail
          refine bodyPost_ret (v := .tuple #[.agg #[.int .i64 kq, .int .i64 hq, .slice Aq nq cq], .int .i64 0]) (by simp [results, Try.results40, go_sem, r0, r1, r2]) rfl ?_
          rw [HR.out]
          exact ⟨kq, hq, Aq, nq, cq, rfl, RdF.moveX (fun b hb hl => ⟨fun e => hb (.inl e), heap_other3 _ _ _ _ _ _ (fun e => hb (.inr (by omega)))⟩) _ _ HRD7.out, below_set3 HB7.out (by omega) _ _ _⟩
end Go.Proofs.Ytinjeocfnhhlmaa

/-
  Contracts of package meta's Fill, Ctx and All. No statement is proved here.
-/
namespace Go.Proofs.Ytinjeocfnhhlmaa
open Go.ChangeShapes Go.WideShapes Go.ChangeAt Go.RowKit
set_option linter.unusedVariables false
set_option maxRecDepth 100000

/-- what a caller hands in for metas -/
structure ThI (th : List T) (w : World) (A : Option Addr) (m cL : Nat) : Prop where
  ok : ∀ x ∈ th, myB x = true → okT 2199023255552 x
  len : th.length = m
  le : m ≤ cL
  cap : cL ≤ maxLen
  at_ : ∀ i x, th[i]? = some x → RdAt w A i x
theorem ThI.keep {th : List T} {w w' : World} {A : Option Addr} {m cL : Nat} (h : ThI th w A m cL) (hb : Below w.heap.size w w') : ThI th w' A m cL :=
  ⟨h.ok, h.len, h.le, h.cap, fun i x hx => RdAt.keep hb (h.at_ i x hx)⟩

set_option maxHeartbeats 4000000 in
theorem FillC {th : List T} {t : T} {A : Option Addr} {m cL : Nat} {n : Int} {v : Value} (w : World) (hth : ThI th w A m cL) (hv : Rd w t v) (ho : myB t = true → okT 2199023255552 t) :
    Calls Try.prog 31 #[v, .slice A m cL, .int .i64 n] w (FnE (fiR th n t) w) := by
  obtain ⟨k, h, At, nt, ct, rfl⟩ := hv.full
  obtain ⟨W, hW⟩ : ∃ W, (w.alloc (.cells #[.int .i64 k, .int .i64 h, .slice At nt ct] 24)).alloc (.cells #[.int .i64 0, .int .i64 0, .slice none 0 0] 24) = W := ⟨_, rfl⟩
  have hb : Below w.heap.size w W := by rw [← hW]; exact ((Below.refl _ _).alloc (Nat.le_refl _) _).alloc (by simp) _
  have x0 : Box W w.heap.size 24 #[.int .i64 k, .int .i64 h, .slice At nt ct] := by rw [← hW]; exact (Box.new _ _ _).alloc _
  have x1 : Box W (w.heap.size + 1) 24 #[.int .i64 0, .int .i64 0, .slice none 0 0] := by rw [← hW]; exact (Box.new (w.alloc _) _ _).at (by simp)
  have HBY := Lib.hid fun W' (h' : Below w.heap.size w W') => byC W' hth.len hth.le hth.cap (hth.keep h').at_
  have HCL := Lib.hid fun W' (h' : Below w.heap.size w W') pm pt hm ht => byFC (n := n) (pm := pm) (pt := pt) W' hth.len hth.le hth.cap (hth.keep h').at_ hm ht (Rd.keep h' _ _ hv) hth.ok ho
  have HW := Lib.hid hW; clear hW hth hv ho
  generalize fiR th n t = R at *
  obtain ⟨a0, a1, a2⟩ := x0.three
  have HB := Lib.hid hb
  go_enter Try.func31, Try.ntmps31
  go_wp2_with fail
  rw [HW.out]
  clear HW
  have hcur : Below W.heap.size W W.drew := (Below.refl _ W).drew
  have szW := HB.out.size
  go_region_held3 (fun w' => w'.cell? ⟨w.heap.size, 0, none⟩ = some (.int .i64 k) ∧ w'.cell? ⟨w.heap.size, 1, none⟩ = some (.int .i64 h) ∧ w'.cell? ⟨w.heap.size, 2, none⟩ = some (.slice At nt ct))
    (first | exact ⟨a0, a1, a2⟩ | exact ⟨q1.three.1, q1.three.2.1, q1.three.2.2⟩ | exact ⟨r1.three.1, r1.three.2.1, r1.three.2.2⟩ | exact ⟨o1.three.1, o1.three.2.1, o1.three.2.2⟩)
    (first
      | (go_at_call 74
         refine (HBY.out _ (HB.out.trans (hcur.mono HB.out.size))).mono ?_
         rintro e w1 ⟨pm, pt, rfl, xm, xt, hb1⟩
         replace hcur := hcur.trans (hb1.mono hcur.size)
         have q1 := x0.keep hcur x0.lt
         have q2 := x1.keep hcur x1.lt
         have HXM := Lib.hid xm
         have HXT := Lib.hid xt
         clear hb1 xm xt)
      | (go_at_call 110
         refine (HCL.out _ (HB.out.trans (hcur.mono HB.out.size)) pm pt HXM.out HXT.out).mono ?_
         intro e w2 hE
         have hbE := hE.below
         obtain ⟨k3, h3, A3, n3, c3, ec, rfl, hout, hfr⟩ := (hE.cen (X := fun _ => False) (c := 0)).uni
         have r1 := q1.keep hbE q1.lt
         have r2 := q2.keep hbE q2.lt
         have s2 := r2.lt
         have s3 := hcur.size
         have s5 := x1.lt
         have HO := Lib.hid hout
         have HBE := Lib.hid hbE
         have HCU := Lib.hid hcur
         clear hout hE hfr hbE
         obtain ⟨y0, y1, y2⟩ := r2.three
         have f0 := r2.frozen 0
         have f1 := r2.frozen 1
         have f2 := r2.frozen 2
         have o1 := r1.other3 (a := w.heap.size + 1) (by omega) (.int .i64 k3) (.int .i64 h3) (.slice A3 n3 c3)))
  clear o1
  go_wp2_with fail
  refine bodyPost_ret (v := .tuple #[.agg #[.int .i64 k3, .int .i64 h3, .slice A3 n3 c3], .int .i64 ec]) (by simp [results, Try.results31, go_sem, y0, y1, y2]) rfl ?_
  exact fne_of (HO.out.move (B' := w.heap.size) (by omega) (fun g hg _ => heap_other3 _ _ _ _ _ _ (by omega)) fun _ _ _ _ => trivial) (below_set3 ((HB.out.trans (HCU.out.mono HB.out.size)).trans (HBE.out.mono (by omega))) (by omega) _ _ _)
end Go.Proofs.Ytinjeocfnhhlmaa

/-
  Contracts of the functions of the laws of layer 4: metas, bare; the chapter's example. No statement is proved here.
-/
namespace Go.Proofs.Ytinjeocfnhhlmaa
open Go.ChangeShapes Go.WideShapes Go.ChangeAt Go.RowKit
set_option linter.unusedVariables false
set_option maxRecDepth 100000

mutual
/-- has a term metas? -/
def hasB : T → Bool
  | .node k _ xs => (k == 6) || hasL xs
def hasL : List T → Bool
  | [] => false
  | x :: xs => hasB x || hasL xs
end
mutual
/-- has no meta Args? -/
def barB : T → Bool
  | .node k _ xs => !((k == 6) && decide (0 < xs.length)) && barL xs
def barL : List T → Bool
  | [] => true
  | x :: xs => barB x && barL xs
end

set_option maxHeartbeats 4000000 in
theorem metasC : ∀ (t : T) (v : Value) (w : World), Rd w t v → Calls Try.prog 46 #[v] w fun e w' => e = .returned (.bool (hasB t)) ∧ Below w.heap.size w w' := by
  refine T.ind fun k h xs ih v w hv => ?_
  obtain ⟨A, n, c, rfl, wfk, wfh, hl, hc, hm, hx⟩ := Rd_node.1 hv
  unfold maxLen at hm
  obtain ⟨W, hW⟩ : ∃ W, w.alloc (.cells #[.int .i64 k, .int .i64 h, .slice A n c] 24) = W := ⟨_, rfl⟩
  have hb : Below w.heap.size w W := by rw [← hW]; exact (Below.refl _ _).alloc (Nat.le_refl _) _
  have x0 : Box W w.heap.size 24 #[.int .i64 k, .int .i64 h, .slice A n c] := by rw [← hW]; exact Box.new _ _ _
  have HW := Lib.hid hW; clear hW
  have HN := Lib.hid hl; clear hl
  have HX := Lib.hid hx; clear hx hv
  have IH := Lib.hid ih; clear ih
  rw [hasB]
  by_cases hk : k = 6
  · subst hk
    clear x0
    go_enter Try.func46, Try.ntmps46
    go_wp2_with fail
    go_ret
    exact ⟨ret_bool (by simp), (Below.refl _ _).alloc (Nat.le_refl _) _⟩
  · have e1 : (k == 6) = false := by simpa using hk
    rw [e1, Bool.false_or]
    clear hk
    go_enter Try.func46, Try.ntmps46
    go_wp2_with fail
    rw [HW.out]
    clear HW
    have HB := Lib.hid hb; clear hb
    have HX0 := Lib.hid x0; clear x0
    go_loopw [3] (fun i wr => ∃ (j : Nat), j ≤ n ∧ i = .int .i64 j ∧ Hid (hasL (xs.drop j) = hasL xs) ∧ Hid (Below W.heap.size W wr)) (fun i _ => n - (intOf i).toNat)
    case atStart => exact ⟨0, Nat.zero_le _, rfl, Lib.hid (by simp), Lib.hid (Below.refl _ _)⟩
    case round =>
      obtain ⟨j, hj, rfl, HS, HBR⟩ := hrel
      have hbw := HB.out.trans (HBR.out.mono HB.out.size)
      have y0 := HX0.out.keep HBR.out HX0.out.lt
      obtain ⟨a0, a1, a2⟩ := y0.three
      have ly := y0.lt
      by_cases hlt : j < n
      · obtain ⟨t, ht⟩ := at_of HN.out hlt
        obtain ⟨b, o, k2, h2, A2, n2, c2', rfl, c0, c1, c2, hr⟩ := (RdAt.keep hbw (HX.out j t ht)).full
        have HC := Lib.hid (IH.out t (List.mem_of_getElem? ht) _ _ hr)
        have hs := HS.out
        rw [drop_at ht, hasL] at hs
        have HS2 := Lib.hid hs; clear hs
        generalize hasB t = r at *
        clear ht hr
        have hi0 : (0 : Int) ≤ j := by omega
        have hi1 : (j : Int) < n := by omega
        go_wp2_with fail
        refine HC.out.mono ?_
        clear HC
        rintro e w1 ⟨rfl, hb1⟩
        have HB1 := Lib.hid hb1; clear hb1
        cases r
        · go_wp2_with fail
          go_roundw
          case rel => exact ⟨j + 1, by omega, by go_num, Lib.hid (by simpa using HS2.out), Lib.hid (HBR.out.trans (HB1.out.mono HBR.out.size))⟩
          case measure => simp [intOf]; omega
        · go_wp2_with fail
          go_ret
          exact ⟨ret_bool (by simpa using HS2.out), hbw.trans (HB1.out.mono hbw.size)⟩
      · go_wp2_with fail
        go_ret
        exact ⟨ret_bool (by have := HS.out; rw [drop_all HN.out (by omega)] at this; exact this), hbw⟩

set_option maxHeartbeats 4000000 in
theorem bareC : ∀ (t : T) (v : Value) (w : World), Rd w t v → Calls Try.prog 48 #[v] w fun e w' => e = .returned (.bool (barB t)) ∧ Below w.heap.size w w' := by
  refine T.ind fun k h xs ih v w hv => ?_
  obtain ⟨A, n, c, rfl, wfk, wfh, hl, hc, hm, hx⟩ := Rd_node.1 hv
  unfold maxLen at hm
  obtain ⟨W, hW⟩ : ∃ W, w.alloc (.cells #[.int .i64 k, .int .i64 h, .slice A n c] 24) = W := ⟨_, rfl⟩
  have hb : Below w.heap.size w W := by rw [← hW]; exact (Below.refl _ _).alloc (Nat.le_refl _) _
  have x0 : Box W w.heap.size 24 #[.int .i64 k, .int .i64 h, .slice A n c] := by rw [← hW]; exact Box.new _ _ _
  have hEQ : barB (.node k h xs) = (!((k == 6) && decide (0 < n)) && barL xs) := by rw [barB, hl]
  rw [hEQ]
  clear hEQ
  have HW := Lib.hid hW; clear hW
  have HN := Lib.hid hl; clear hl
  have HX := Lib.hid hx; clear hx hv
  have IH := Lib.hid ih; clear ih
  have hcase : (k = 6 ∧ 0 < n) ∨ (k ≠ 6) ∨ (k = 6 ∧ n = 0) := by omega
  rcases hcase with ⟨rfl, h0⟩ | hcase
  · have d1 : decide (0 < n) = true := by simpa using h0
    rw [d1]
    clear x0
    go_enter Try.func48, Try.ntmps48
    go_wp2_with fail
    go_ret
    exact ⟨ret_bool (by simp), (Below.refl _ _).alloc (Nat.le_refl _) _⟩
  · rcases hcase with hk | ⟨rfl, h0⟩
    case' inl =>
      have e1 : (k == 6) = false := by simpa using hk
      rw [e1]
      clear hk
    case' inr =>
      have e2 : decide (0 < n) = false := by simp [h0]
      rw [e2]
      clear h0
    all_goals
      simp only [Bool.and_false, Bool.false_and, Bool.not_false, Bool.true_and]
      go_enter Try.func48, Try.ntmps48
      go_wp2_with fail
      rw [HW.out]
      clear HW
      have HB := Lib.hid hb; clear hb
      have HX0 := Lib.hid x0; clear x0
      go_loopw [3] (fun i wr => ∃ (j : Nat), j ≤ n ∧ i = .int .i64 j ∧ Hid (barL (xs.drop j) = barL xs) ∧ Hid (Below W.heap.size W wr)) (fun i _ => n - (intOf i).toNat)
      case atStart => exact ⟨0, Nat.zero_le _, rfl, Lib.hid (by simp), Lib.hid (Below.refl _ _)⟩
      case round =>
        obtain ⟨j, hj, rfl, HS, HBR⟩ := hrel
        have hbw := HB.out.trans (HBR.out.mono HB.out.size)
        have y0 := HX0.out.keep HBR.out HX0.out.lt
        obtain ⟨a0, a1, a2⟩ := y0.three
        have ly := y0.lt
        by_cases hlt : j < n
        · obtain ⟨t, ht⟩ := at_of HN.out hlt
          obtain ⟨b, o, k2, h2, A2, n2, c2', rfl, c0, c1, c2, hr⟩ := (RdAt.keep hbw (HX.out j t ht)).full
          have HC := Lib.hid (IH.out t (List.mem_of_getElem? ht) _ _ hr)
          have hs := HS.out
          rw [drop_at ht, barL] at hs
          have HS2 := Lib.hid hs; clear hs
          generalize barB t = r at *
          clear ht hr
          have hi0 : (0 : Int) ≤ j := by omega
          have hi1 : (j : Int) < n := by omega
          go_wp2_with fail
          refine HC.out.mono ?_
          clear HC
          rintro e w1 ⟨rfl, hb1⟩
          have HB1 := Lib.hid hb1; clear hb1
          cases r
          · go_wp2_with fail
            go_ret
            exact ⟨ret_bool (by simpa using HS2.out), hbw.trans (HB1.out.mono hbw.size)⟩
          · go_wp2_with fail
            go_roundw
            case rel => exact ⟨j + 1, by omega, by go_num, Lib.hid (by simpa using HS2.out), Lib.hid (HBR.out.trans (HB1.out.mono HBR.out.size))⟩
            case measure => simp [intOf]; omega
        · go_wp2_with fail
          go_ret
          exact ⟨ret_bool (by have := HS.out; rw [drop_all HN.out (by omega)] at this; exact this), hbw⟩
end Go.Proofs.Ytinjeocfnhhlmaa

/-
  What the laws of layer 4 need of terms whose metas become something, as plain facts. No statement is proved here.
-/
namespace Go.Proofs.Ytinjeocfnhhlmaa
open Go.ChangeShapes Go.WideShapes Go.ChangeAt Go.RowKit
set_option linter.unusedVariables false

theorem up_my {t : T} (h : myB t = true) {b : Int} (hb : 0 ≤ b ∧ b ≤ 1000) : apT t [] b = upT b t 0 ∧ apE t [] b = 0 :=
  ren_tells h (sb_of (by simp) (by omega) (fun x hx => by cases hx)) (ren_up b t 0) (my_up hb.1 h)
theorem bare_meta {h : Int} {xs : List T} (hb : barB (.node 6 h xs) = true) : xs = [] := by
  rw [barB, Bool.and_eq_true] at hb
  have := hb.1
  cases xs with
  | nil => rfl
  | cons x xs => simp at this
theorem bare_args {k h : Int} {xs : List T} (hb : barB (.node k h xs) = true) : barL xs = true := by
  rw [barB, Bool.and_eq_true] at hb
  exact hb.2
/-- a meta without Args -/
theorem fl_bare {th : List T} (hth : ∀ x ∈ th, myB x = true) {h n : Int} (hn : 0 ≤ n ∧ n ≤ 1000) : flT th (.node 6 h []) n = if (th.length : Int) ≤ h then .error 2 else .ok (upT n (th.getD h.toNat (.node 0 0 [])) 0) := by
  rw [flT, flL]
  simp only [flN, if_true, List.all_nil]
  split
  · rfl
  · have hm : myB (th.getD h.toNat (.node 0 0 [])) = true := by
      rcases Nat.lt_or_ge h.toNat th.length with hl | hl
      · exact hth _ (getD_mem _ hl)
      · rw [List.getD_eq_getElem?_getD, List.getElem?_eq_none hl]
        rfl
    obtain ⟨h1, h2⟩ := up_my hm hn
    rw [if_pos h2, h1]
theorem fl_node {th : List T} {k h n : Int} {xs : List T} {t' : T} (hk : k ≠ 6) (hr : flT th (.node k h xs) n = .ok t') : ∃ ys, flL th k xs.length xs 0 n = .ok ys ∧ t' = .node k h ys := by
  rw [flT] at hr
  split at hr
  · cases hr
  · rename_i ys hy
    rw [flN, if_neg hk] at hr
    cases hr
    exact ⟨ys, hy, rfl⟩
theorem flL_cons {th : List T} {k n : Int} {m i : Nat} {x : T} {xs ys : List T} (hr : flL th k m (x :: xs) i n = .ok ys) : ∃ y zs, flT th x (n + bd k m i) = .ok y ∧ flL th k m xs (i + 1) n = .ok zs ∧ ys = y :: zs := by
  rw [flL] at hr
  split at hr
  · cases hr
  · rename_i y hy
    split at hr
    · cases hr
    · rename_i zs hz
      cases hr
      exact ⟨y, zs, hy, hz, rfl⟩
theorem bd_le (k : Int) (m i : Nat) : 0 ≤ bd k m i ∧ bd k m i ≤ 1 := by rw [bd_bdn]; have := bdn_le k m i; omega

/-! ### Scopes -/
mutual
theorem sc_fill {th : List T} (hth : ∀ x ∈ th, myB x = true) {around metas : Int} (ha : 0 ≤ around) (hsc : ∀ x ∈ th, scC x around metas) : ∀ (t : T) (n : Int) (t' : T), barB t = true → 0 ≤ n → n + dp t ≤ 1000 → nodB t = true → scC t (n + around) th.length → flT th t n = .ok t' → scC t' (n + around) metas
  | .node k h xs, n, t', hb, h0, hn, hno, hs, hr => by
    have hdp : dp (.node k h xs) = 1 + dpL xs := by rw [dp]
    by_cases hk : k = 6
    · subst hk
      have := bare_meta hb
      subst this
      rw [fl_bare hth ⟨h0, by omega⟩] at hr
      split at hr
      · cases hr
      · rename_i hlt
        cases hr
        rw [nodB, Bool.and_eq_true] at hno
        have hh0 : 0 ≤ h := by rcases okN_cases hno.1 with ⟨e, _⟩ | ⟨e, _⟩ | ⟨e, _⟩ | ⟨e, he⟩ | ⟨e, he⟩ | ⟨e, he⟩ | ⟨e, he⟩ <;> first | exact he | omega
        have hm := getD_mem (.node 0 0 []) (show h.toNat < th.length by omega)
        rw [Int.add_comm]
        exact sc_up h0 _ 0 around ha (hsc _ hm)
    · obtain ⟨ys, hy, rfl⟩ := fl_node hk hr
      obtain ⟨_, hnos⟩ := node_parts hno
      rw [scC] at hs ⊢
      refine ⟨hs.1, fun e => absurd e hk, ?_⟩
      rw [flL_len th k xs.length xs 0 n ys hy]
      exact scL_fill hth ha hsc k xs.length xs 0 n ys (bare_args hb) h0 (by omega) (fun x hx => hnos x hx) hs.2.2 hy
theorem scL_fill {th : List T} (hth : ∀ x ∈ th, myB x = true) {around metas : Int} (ha : 0 ≤ around) (hsc : ∀ x ∈ th, scC x around metas) (k : Int) (m : Nat) : ∀ (xs : List T) (i : Nat) (n : Int) (ys : List T), barL xs = true → 0 ≤ n → n + dpL xs + 1 ≤ 1000 → (∀ x ∈ xs, nodB x = true) → scCL k m xs i (n + around) th.length → flL th k m xs i n = .ok ys → scCL k m ys i (n + around) metas
  | [], i, n, ys, _, _, _, _, _, hr => by
    rw [flL] at hr
    cases hr
    rw [scCL]
    trivial
  | x :: xs, i, n, ys, hb, h0, hn, hno, hs, hr => by
    obtain ⟨y, zs, hy, hz, rfl⟩ := flL_cons hr
    rw [barL, Bool.and_eq_true] at hb
    rw [dpL] at hn
    rw [scCL] at hs ⊢
    have hbd := bd_le k m i
    have e : n + around + bd k m i = n + bd k m i + around := by omega
    rw [e] at hs ⊢
    exact ⟨sc_fill hth ha hsc x _ y hb.1 (by omega) (by omega) (hno x (List.mem_cons_self ..)) hs.1 hy, scL_fill hth ha hsc k m xs (i + 1) n zs hb.2 h0 (by omega) (fun x hx => hno x (List.mem_cons_of_mem _ hx)) hs.2 hz⟩
end

/-! ### Twice -/
mutual
theorem up_at {a b : Int} (ha : 0 ≤ a) : ∀ (t : T) (s : Int), upT b (upT a t s) (a + s) = upT (a + b) t s
  | .node k h xs, s => by
    rw [upT, upT, upT, upL_len, up_atL ha k xs.length xs 0 s]
    congr 1
    by_cases hk : k = 4 ∧ s ≤ h
    · rw [if_pos hk, if_pos hk, if_pos ⟨hk.1, by omega⟩]
      omega
    · rw [if_neg hk, if_neg hk, if_neg (fun e => hk ⟨e.1, by omega⟩)]
theorem up_atL {a b : Int} (ha : 0 ≤ a) (k : Int) (n : Nat) : ∀ (xs : List T) (i : Nat) (s : Int), upL b k n (upL a k n xs i s) i (a + s) = upL (a + b) k n xs i s
  | [], i, s => by rw [upL, upL, upL]
  | x :: xs, i, s => by
    rw [upL, upL, upL, up_atL ha k n xs (i + 1) s, Int.add_assoc, up_at ha x]
end
mutual
theorem up_fl {et : List T} (he : ∀ x ∈ et, myB x = true) {b : Int} (hb0 : 0 ≤ b) : ∀ (s : T) (f : Int) (r : T), barB s = true → 0 ≤ f → f + b + dp s ≤ 1000 → flT et s f = .ok r → flT et (upT b s f) (f + b) = .ok (upT b r f)
  | .node k h xs, f, r, hb, h0, hn, hr => by
    have hdp : dp (.node k h xs) = 1 + dpL xs := by rw [dp]
    by_cases hk : k = 6
    · subst hk
      have := bare_meta hb
      subst this
      rw [fl_bare he ⟨h0, by omega⟩] at hr
      rw [upT, upL, if_neg (by omega), fl_bare he ⟨by omega, by omega⟩]
      split at hr
      · cases hr
      · rename_i hlt
        cases hr
        rw [if_neg hlt]
        congr 1
        have := up_at (b := b) h0 (et.getD h.toNat (.node 0 0 [])) 0
        rw [Int.add_zero] at this
        exact this.symm
    · obtain ⟨ys, hy, rfl⟩ := fl_node hk hr
      have h1 := up_flL he hb0 k xs.length xs 0 f ys (bare_args hb) h0 (by omega) hy
      rw [upT, flT, upL_len, h1, upT, flL_len et k xs.length xs 0 f ys hy]
      simp only [flN, if_neg hk]
theorem up_flL {et : List T} (he : ∀ x ∈ et, myB x = true) {b : Int} (hb0 : 0 ≤ b) (k : Int) (m : Nat) : ∀ (xs : List T) (i : Nat) (f : Int) (ys : List T), barL xs = true → 0 ≤ f → f + b + dpL xs + 1 ≤ 1000 → flL et k m xs i f = .ok ys → flL et k m (upL b k m xs i f) i (f + b) = .ok (upL b k m ys i f)
  | [], i, f, ys, _, _, _, hr => by
    rw [flL] at hr
    cases hr
    rw [upL, flL]
  | x :: xs, i, f, ys, hb, h0, hn, hr => by
    obtain ⟨y, zs, hy, hz, rfl⟩ := flL_cons hr
    rw [barL, Bool.and_eq_true] at hb
    rw [dpL] at hn
    have hbd := bd_le k m i
    have h1 := up_fl he hb0 x (f + bd k m i) y hb.1 (by omega) (by omega) hy
    have h2 := up_flL he hb0 k m xs (i + 1) f zs hb.2 h0 (by omega) hz
    rw [upL, flL, show f + b + bd k m i = f + bd k m i + b by omega, h1]
    simp only
    rw [h2, upL]
end
mutual
theorem fl_twice {th et l : List T} (hth : ∀ x ∈ th, myB x = true) (he : ∀ x ∈ et, myB x = true) (hl : ∀ x ∈ l, myB x = true) (hlen : l.length = th.length) (hba : ∀ x ∈ th, barB x = true)
    (hil : ∀ (i : Nat) (s : T), th[i]? = some s → ∃ u, l[i]? = some u ∧ flT et s 0 = .ok u) : ∀ (t : T) (n : Int) (x y z : T), barB t = true → nodB t = true → 0 ≤ n → n + dp t ≤ 900 → flT th t n = .ok x → flT et x n = .ok y → flT l t n = .ok z → y = z
  | .node k h xs, n, x, y, z, hb, hno, h0, hn, h1, h2, h3 => by
    have hdp : dp (.node k h xs) = 1 + dpL xs := by rw [dp]
    by_cases hk : k = 6
    · subst hk
      have := bare_meta hb
      subst this
      rw [fl_bare hth ⟨h0, by omega⟩] at h1
      rw [fl_bare hl ⟨h0, by omega⟩] at h3
      split at h1
      · cases h1
      · rename_i hlt
        cases h1
        rw [if_neg (by rw [hlen]; exact hlt)] at h3
        cases h3
        rw [nodB, Bool.and_eq_true] at hno
        have hh0 : 0 ≤ h := by rcases okN_cases hno.1 with ⟨e, _⟩ | ⟨e, _⟩ | ⟨e, _⟩ | ⟨e, he⟩ | ⟨e, he⟩ | ⟨e, he⟩ | ⟨e, he⟩ <;> first | exact he | omega
        have hj : h.toNat < th.length := by omega
        obtain ⟨u, hu, hf⟩ := hil h.toNat _ (List.getElem?_eq_getElem hj)
        have hm : th.getD h.toNat (.node 0 0 []) = th[h.toNat] := by rw [List.getD_eq_getElem?_getD, List.getElem?_eq_getElem hj]; rfl
        have hmm : th[h.toNat] ∈ th := List.getElem_mem hj
        have hd := ((myB_iff _).1 (hth _ hmm)).2.2
        have hup := up_fl he h0 _ 0 u (hba _ hmm) (by omega) (by omega) hf
        rw [hm] at h2
        rw [Int.zero_add] at hup
        rw [hup] at h2
        cases h2
        rw [List.getD_eq_getElem?_getD, hu]
        rfl
    · obtain ⟨ys, hy, rfl⟩ := fl_node hk h1
      obtain ⟨vs, hv, rfl⟩ := fl_node hk h2
      obtain ⟨ws, hw, rfl⟩ := fl_node hk h3
      obtain ⟨_, hnos⟩ := node_parts hno
      rw [flL_len th k xs.length xs 0 n ys hy] at hv
      rw [flL_twice hth he hl hlen hba hil k xs.length xs 0 n ys vs ws (bare_args hb) hnos h0 (by omega) hy hv hw]
theorem flL_twice {th et l : List T} (hth : ∀ x ∈ th, myB x = true) (he : ∀ x ∈ et, myB x = true) (hl : ∀ x ∈ l, myB x = true) (hlen : l.length = th.length) (hba : ∀ x ∈ th, barB x = true)
    (hil : ∀ (i : Nat) (s : T), th[i]? = some s → ∃ u, l[i]? = some u ∧ flT et s 0 = .ok u) (k : Int) (m : Nat) : ∀ (xs : List T) (i : Nat) (n : Int) (ys vs ws : List T), barL xs = true → (∀ x ∈ xs, nodB x = true) → 0 ≤ n → n + dpL xs + 1 ≤ 900 → flL th k m xs i n = .ok ys → flL et k m ys i n = .ok vs → flL l k m xs i n = .ok ws → vs = ws
  | [], i, n, ys, vs, ws, _, _, _, _, h1, h2, h3 => by
    rw [flL] at h1
    cases h1
    rw [flL] at h2 h3
    cases h2
    cases h3
    rfl
  | x :: xs, i, n, ys, vs, ws, hb, hno, h0, hn, h1, h2, h3 => by
    obtain ⟨y, zs, hy, hz, rfl⟩ := flL_cons h1
    obtain ⟨v, us, hv, hu, rfl⟩ := flL_cons h2
    obtain ⟨w, qs, hw, hq, rfl⟩ := flL_cons h3
    rw [barL, Bool.and_eq_true] at hb
    rw [dpL] at hn
    have hbd := bd_le k m i
    rw [fl_twice hth he hl hlen hba hil x _ y v w hb.1 (hno x (List.mem_cons_self ..)) (by omega) (by omega) hy hv hw, flL_twice hth he hl hlen hba hil k m xs (i + 1) n zs us qs hb.2 (fun x hx => hno x (List.mem_cons_of_mem _ hx)) h0 (by omega) hz hu hq]
end

/-! ### None -/
mutual
theorem fl_none (th : List T) : ∀ (t : T) (n : Int), hasB t = false → flT th t n = .ok t
  | .node k h xs, n, hb => by
    rw [hasB, Bool.or_eq_false_iff] at hb
    have hk : k ≠ 6 := by simpa using hb.1
    rw [flT, flL_none th k xs.length xs 0 n hb.2]
    simp only [flN, if_neg hk]
theorem flL_none (th : List T) (k : Int) (m : Nat) : ∀ (xs : List T) (i : Nat) (n : Int), hasL xs = false → flL th k m xs i n = .ok xs
  | [], i, n, _ => by rw [flL]
  | x :: xs, i, n, hb => by
    rw [hasL, Bool.or_eq_false_iff] at hb
    rw [flL, fl_none th x _ hb.1]
    simp only
    rw [flL_none th k m xs (i + 1) n hb.2]
end
mutual
theorem fl_has : ∀ (t : T) (n : Int), nodB t = true → hasB t = true → flT [] t n = .error 2
  | .node k h xs, n, hno, hb => by
    obtain ⟨hok, hnos⟩ := node_parts hno
    rw [flT]
    cases hx : hasL xs with
    | true => rw [flL_has k xs.length xs 0 n hnos hx]
    | false =>
      rw [flL_none [] k xs.length xs 0 n hx]
      rw [hasB, hx, Bool.or_false] at hb
      have hk : k = 6 := by simpa using hb
      subst hk
      have hh0 : 0 ≤ h := by rcases okN_cases hok with ⟨e, _⟩ | ⟨e, _⟩ | ⟨e, _⟩ | ⟨e, he⟩ | ⟨e, he⟩ | ⟨e, he⟩ | ⟨e, he⟩ <;> first | exact he | omega
      simp [flN, hh0]
theorem flL_has (k : Int) (m : Nat) : ∀ (xs : List T) (i : Nat) (n : Int), (∀ x ∈ xs, nodB x = true) → hasL xs = true → flL [] k m xs i n = .error 2
  | [], i, n, _, hb => by simp [hasL] at hb
  | x :: xs, i, n, hno, hb => by
    rw [flL]
    cases hx : hasB x with
    | true => rw [fl_has x _ (hno x (List.mem_cons_self ..)) hx]
    | false =>
      rw [hasL, hx, Bool.false_or] at hb
      rw [fl_none [] x _ hx]
      simp only
      rw [flL_has k m xs (i + 1) n (fun x hx => hno x (List.mem_cons_of_mem _ hx)) hb]
end

/-! ### The whole context -/
theorem hasL_vs (n : Nat) : hasL (vsL n) = false := by
  have : ∀ xs : List T, (∀ x ∈ xs, hasB x = false) → hasL xs = false := by
    intro xs
    induction xs with
    | nil => intro _; rfl
    | cons x xs ih =>
      intro h
      rw [hasL, h x (List.mem_cons_self ..), ih fun y hy => h y (List.mem_cons_of_mem _ hy)]
      rfl
  refine this _ fun x hx => ?_
  obtain ⟨i, hi⟩ := List.getElem?_of_mem hx
  obtain ⟨_, rfl⟩ := vsL_at _ _ _ hi
  simp [hasB, hasL]
theorem hasL_of : ∀ {xs : List T}, (∀ x ∈ xs, hasB x = false) → hasL xs = false
  | [], _ => rfl
  | x :: xs, h => by rw [hasL, h x (List.mem_cons_self ..), hasL_of fun y hy => h y (List.mem_cons_of_mem _ hy)]; rfl
/-- one meta, with Args without metas -/
theorem fi_one {x : T} {L : List T} {n : Int} (hx : myB x = true) (hL : hasL L = false) (hm : myB (.node 6 0 L) = true) (hal : L.all myB = true) (hn : 0 ≤ n ∧ n ≤ 1000) : fiR [x] n (.node 6 0 L) = if apE x L n = 0 then .ok (apT x L n) else .error (apE x L n) := by
  rw [fi_good (by simp [thB, hx]) hn.1 hn.2 hm, flT, flL_none [x] 6 L.length L 0 n hL]
  simp only [flN, if_true, List.length_singleton, hal]
  rw [if_neg (by omega)]
  simp only [Int.toNat_zero, List.getD_cons_zero]
  by_cases hz : apE x L n = 0
  · rw [if_pos hz]
    obtain ⟨_, _, _, _, h4⟩ := ap_zero hz
    simp only [h4, if_true]
  · rw [if_neg hz]
theorem ap_nought {x : T} {L : List T} {n : Int} (h : apE x L n ≠ 0) : apT x L n = .node 0 0 [] := by
  unfold apE at h
  unfold apT
  split
  · rename_i hp
    rw [if_pos hp] at h
    cases hr : apR x L n with
    | error e => rfl
    | ok p =>
      obtain ⟨t, m⟩ := p
      rw [hr] at h
      cases hm : myB t with
      | true => simp [anE, hm] at h
      | false => simp [anT, hm]
  · rfl
end Go.Proofs.Ytinjeocfnhhlmaa

/-
  The chapter's example of layer 4, and what the laws need of what Fill tells. No statement is proved here.
-/
namespace Go.Proofs.Ytinjeocfnhhlmaa
open Go.ChangeShapes Go.WideShapes Go.ChangeAt Go.RowKit
set_option linter.unusedVariables false
set_option maxRecDepth 100000

theorem fi_ok {th : List T} {n : Int} {t u : T} (h : fiR th n t = .ok u) : thB th = true ∧ 0 ≤ n ∧ n ≤ 1000 ∧ myB t = true ∧ flT th t n = .ok u ∧ myB u = true := by
  by_cases hc : (thB th && decide (0 ≤ n) && decide (n ≤ 1000) && myB t) = true
  · have hc' := hc
    simp only [Bool.and_eq_true, decide_eq_true_eq] at hc'
    rw [fi_good hc'.1.1.1 hc'.1.1.2 hc'.1.2 hc'.2] at h
    refine ⟨hc'.1.1.1, hc'.1.1.2, hc'.1.2, hc'.2, ?_⟩
    split at h
    · cases h
    · rename_i t' ht
      split at h
      · rename_i hm
        cases h
        exact ⟨ht, hm⟩
      · cases h
  · rw [fi_bad (by simpa using hc)] at h
    cases h
theorem thB_all {th : List T} (h : thB th = true) : ∀ x ∈ th, myB x = true := by
  unfold thB at h
  rw [Bool.and_eq_true] at h
  exact List.all_eq_true.1 h.2
theorem scopes_fill {t u : T} {th : List T} {n around : Int} (kt : Kn 300 60 t) (hL : ∀ x ∈ th, Kn 300 60 x) (hs : ∀ x ∈ th, scB x around 5 = true) (hb : barB t = true) (hn : 0 ≤ n ∧ n ≤ 20) (ha : 0 ≤ around ∧ around ≤ 20)
    (ht : scB t (n + around) th.length = true) (hu : fiR th n t = .ok u) : scB u (n + around) 5 = true := by
  obtain ⟨_, _, _, _, h5, h6⟩ := fi_ok hu
  have h4 := ((myB_iff u).1 h6).2.1
  have h7 := kt.dp
  refine (scB_iff 5 u (n + around) (by omega) (by omega)).2 ?_
  exact sc_fill (fun x hx => (hL x hx).my) ha.1 (fun x hx => (scB_iff 5 x around (by omega) (by have := (hL x hx).nd; omega)).1 (hs x hx)) t n u hb hn.1 (by omega) kt.nod ((scB_iff th.length t (n + around) (by omega) (by have := kt.nd; omega)).1 ht) h5

theorem th60 {L : List T} (hL : ∀ x ∈ L, myB x = true) (h : L.length ≤ 200) : thB L = true := by
  unfold thB
  rw [Bool.and_eq_true]
  exact ⟨by simpa using h, List.all_eq_true.2 hL⟩
theorem none_tells {t : T} {L : List T} {n : Int} (ht : myB t = true) (hL : ∀ x ∈ L, myB x = true) (h60 : L.length ≤ 60) (hn : 0 ≤ n ∧ n ≤ 1000) (hb : hasB t = false) : fiR L n t = .ok t := by
  rw [fi_good (th60 hL (by omega)) hn.1 hn.2 ht, fl_none L t n hb]
  simp [ht]
theorem has_tells {t : T} {n : Int} (ht : myB t = true) (hn : 0 ≤ n ∧ n ≤ 1000) (hb : hasB t = true) : fiR [] n t = .error 2 := by
  rw [fi_good rfl hn.1 hn.2 ht, fl_has t n ((myB_iff t).1 ht).1 hb]

theorem nodL_of : ∀ {xs : List T}, (∀ x ∈ xs, nodB x = true) → nodL xs = true
  | [], _ => by rw [nodL]
  | x :: xs, h => by rw [nodL, h x (List.mem_cons_self ..), nodL_of fun y hy => h y (List.mem_cons_of_mem _ hy)]; rfl
theorem ok_node6 {M h : Int} {xs : List T} (hx : ∀ x ∈ xs, okT M x) : okT M (.node 6 h xs) := by
  rw [okT]
  refine ⟨fun e => by omega, ?_⟩
  have : ∀ xs : List T, (∀ x ∈ xs, okT M x) → okL M xs := by
    intro xs
    induction xs with
    | nil => intro _; rw [okL]; trivial
    | cons x xs ih =>
      intro h
      rw [okL]
      exact ⟨h x (List.mem_cons_self ..), ih fun y hy => h y (List.mem_cons_of_mem _ hy)⟩
  exact this xs hx
theorem ok_vs (m : Nat) (h : m ≤ 20) : okT 2199023255552 (.node 6 0 (vsL m)) := ok_node6 fun x hx => by
  obtain ⟨i, hi⟩ := List.getElem?_of_mem hx
  obtain ⟨_, rfl⟩ := vsL_at _ _ _ hi
  simp [okT, okL]
  omega
theorem vs_nd (m : Nat) : ∀ xs : List T, (∀ x ∈ xs, ∃ h, x = .node 4 h []) → ndL xs = xs.length ∧ dpL xs ≤ 1
  | [], _ => by simp [ndL, dpL]
  | x :: xs, h => by
    obtain ⟨i, rfl⟩ := h x (List.mem_cons_self ..)
    have := vs_nd m xs fun y hy => h y (List.mem_cons_of_mem _ hy)
    simp only [ndL, dpL, nd, dp, List.length_cons]
    omega
theorem my_vs (m : Nat) (h : m ≤ 20) : myB (.node 6 0 (vsL m)) = true ∧ ∀ x ∈ vsL m, myB x = true := by
  have hx : ∀ x ∈ vsL m, ∃ i, 0 ≤ i ∧ x = .node 4 i [] := fun x hx => by
    obtain ⟨i, hi⟩ := List.getElem?_of_mem hx
    obtain ⟨h1, rfl⟩ := vsL_at _ _ _ hi
    exact ⟨_, by omega, rfl⟩
  have hm : ∀ x ∈ vsL m, myB x = true := fun x hx' => by
    obtain ⟨i, h0, rfl⟩ := hx x hx'
    exact my_var h0
  obtain ⟨h1, h2⟩ := vs_nd m (vsL m) fun x hx' => by
    obtain ⟨i, _, rfl⟩ := hx x hx'
    exact ⟨i, rfl⟩
  have hl := vsL_len m
  refine ⟨(myB_iff _).2 ⟨?_, by rw [nd]; omega, by rw [dp]; omega⟩, hm⟩
  rw [nodB, nodL_of fun x hx' => ((myB_iff x).1 (hm x hx')).1]
  simp [okN]
theorem fi_whole {x : T} {m : Nat} (hx : myB x = true) (hm : m ≤ 20) : fiR [x] (m : Int) (.node 6 0 (vsL m)) = .ok x := by
  obtain ⟨h1, h2⟩ := my_vs m hm
  have h3 : apT x (vsL m) m = x ∧ apE x (vsL m) m = 0 :=
    ren_tells hx (sb_of (by rw [vsL_len]; omega) (by omega) h2) (ren_id (vsL_id m) x 0) hx
  rw [fi_one hx (hasL_vs m) h1 (List.all_eq_true.2 h2) (by omega), if_pos h3.2, h3.1]
theorem fi_tend {x : T} {L : List T} {n : Int} {w w' : World} {e : Ending} (h : FnE (if apE x L n = 0 then .ok (apT x L n) else .error (apE x L n)) w e w') : TEnd (apT x L n) (apE x L n) w e w' := by
  have h' := h.tend
  by_cases hz : apE x L n = 0
  · rw [if_pos hz] at h'
    rw [hz]
    exact h'
  · rw [if_neg hz] at h'
    rw [ap_nought hz]
    exact h'

/-! ### The chapter's example -/
abbrev amX : T := .node 3 0 [.node 4 1 []]
abbrev amT : T := .node 6 0 [.node 4 3 []]
theorem am_fi : fiR [amX] 5 amT = .ok (.node 3 0 [.node 4 4 []]) := by
  have hr : RenT [.node 4 3 []] 5 amX 0 (.node 3 0 [.node 4 4 []]) := by
    have e0 : bdn 3 [T.node 4 1 []].length 0 = 1 := by decide
    rw [RenT]
    refine ⟨rfl, by rw [if_neg (by omega)], rfl, ?_⟩
    rw [RenL]
    refine ⟨_, [], rfl, ?_, by rw [RenL]⟩
    rw [e0, RenT]
    refine ⟨rfl, ?_, rfl, by rw [RenL]⟩
    rw [if_pos (by omega), mpT, if_neg (by decide)]
    simp [upT, upL]
  obtain ⟨h1, h2⟩ := ren_tells (t := amX) (by decide) (by decide) hr (by decide)
  rw [fi_one (by decide) (by decide) (by decide) (by decide) (by omega), if_pos h2, h1]
set_option maxHeartbeats 4000000 in
theorem awakeM (w : World) : Calls Try.prog 38 #[] w fun e w' => e = .returned (.bool true) ∧ Below w.heap.size w w' := by
  go_enter Try.func38, Try.ntmps38
  go_wp2_with fail
  obtain ⟨W, hW⟩ : ∃ W, ((((w.alloc (.cells #[.int .i64 4, .int .i64 3, .slice none 0 0] 24)).alloc (.cells #[.int .i64 6, .int .i64 0, .slice (some ⟨w.heap.size, 0, none⟩) 1 1] 24)).alloc (.cells #[.int .i64 4, .int .i64 1, .slice none 0 0] 24)).alloc (.cells #[.int .i64 3, .int .i64 0, .slice (some ⟨w.heap.size + 1 + 1, 0, none⟩) 1 1] 24)).alloc (.cells #[.int .i64 3, .int .i64 0, .slice (some ⟨w.heap.size + 1 + 1, 0, none⟩) 1 1] 24) = W := ⟨_, rfl⟩
  rw [hW]
  have hb : Below w.heap.size w W := by rw [← hW]; exact (((((Below.refl _ _).alloc (Nat.le_refl _) _).alloc (by simp) _).alloc (by simp; omega) _).alloc (by simp; omega) _).alloc (by simp; omega) _
  have x1 : Box W w.heap.size 24 #[.int .i64 4, .int .i64 3, .slice none 0 0] := by rw [← hW]; exact ((((Box.new _ _ _).alloc _).alloc _).alloc _).alloc _
  have x2 : Box W (w.heap.size + 1 + 1) 24 #[.int .i64 4, .int .i64 1, .slice none 0 0] := by rw [← hW]; exact (((Box.new ((w.alloc _).alloc _) _ _).at (by simp)).alloc _).alloc _
  have x3 : Box W (w.heap.size + 1 + 1 + 1 + 1) 24 #[.int .i64 3, .int .i64 0, .slice (some ⟨w.heap.size + 1 + 1, 0, none⟩) 1 1] := by rw [← hW]; exact (Box.new ((((w.alloc _).alloc _).alloc _).alloc _) _ _).at (by simp)
  clear hW
  have rf : Rd W amX (.agg #[.int .i64 3, .int .i64 0, .slice (some ⟨w.heap.size + 1 + 1, 0, none⟩) 1 1]) := rd_node1 x2 (rd_leaf (by decide) (by decide)) (by decide) (by decide)
  have hF := FillC (th := [amX]) (t := amT) (n := 5) (m := 1) (cL := 1) W ⟨fun x hx _ => by rw [List.mem_singleton.1 hx]; simp [okT, okL], rfl, Nat.le_refl _, by unfold maxLen; omega, rd_one (k := 3) (h := 0) x3 rf⟩ (rd_node1 x1 (rd_leaf (by decide) (by decide)) (by decide) (by decide)) (fun _ => by simp [okT, okL])
  rw [am_fi] at hF
  refine hF.mono ?_
  clear hF
  rintro e w1 ⟨k, h, A, n, c, rfl, hrd, hb1⟩
  obtain ⟨A', n', c', e, _, _, hl, _, _, hx⟩ := RdF_node.1 hrd
  have e' : k = 3 ∧ h = 0 ∧ A = A' ∧ n = n' ∧ c = c' := by
    simpa using e
  obtain ⟨rfl, rfl, rfl, rfl, rfl⟩ := e'
  obtain ⟨b, o, k2, h2, A2, n2, c2, rfl, c0, c1, c2', hr2⟩ := (hx 0 _ rfl).full
  have e2 : h2 = 4 := by
    obtain ⟨_, _, _, e3, _⟩ := RdF_node.1 hr2
    simp at e3
    exact e3.2.1
  subst e2
  have hn1 : n = 1 := hl.symm
  subst hn1
  replace hb := hb.trans (hb1.mono hb.size)
  have lb := cell_lt c1
  dsimp only at lb
  clear hb1 hrd x1 x2 x3 rf e hx hr2 c0 c2' hl
  simp only [Nat.zero_mul, Nat.add_zero] at c1
  go_wp2_with fail
  go_ret
  exact ⟨rfl, hb.alloc hb.size _⟩
end Go.Proofs.Ytinjeocfnhhlmaa

/-
  Contract of package meta's Ctx, and the walk of the law MetaLists.
-/
namespace Go.Proofs.Ytinjeocfnhhlmaa
open Go.ChangeShapes Go.WideShapes Go.ChangeAt Go.RowKit
set_option linter.unusedVariables false
set_option maxRecDepth 100000

theorem st_func (w1 : World) (ty : TypeId) (fn : Fn) (a b : Array Value) : Sem.run Try.prog (store ⟨w1.heap.size, 0, none⟩ (.func fn a b)) (w1.alloc (.cells #[.nilFunc] ty)) = .ok () (w1.alloc (.cells #[.func fn a b] ty)) := by
  rw [run_store _ _ _ _ _ rfl]
  simp [go_sem]
set_option maxHeartbeats 4000000 in
theorem closCC {th : List T} {t : T} {A : Option Addr} {m cL : Nat} {n : Int} {pm pt pF pN : Nat} {v : Value} (i : Nat) (w : World) (hth : ThI th w A m cL) (hv : Rd w t v) (ho : myB t = true → okT 2199023255552 t)
    (xm : Box w pm 4 #[.bool (thB th)]) (xt : Box w pt 22 #[.slice A m cL])
    (xF : Box w pF 84 #[.func (.func 110) #[] #[.pointer (some ⟨pm, 0, none⟩), .pointer (some ⟨pt, 0, none⟩)]]) (xN : Box w pN 3 #[.int .i64 n]) :
    Calls Try.prog 84 #[.int .i64 i, v, .pointer (some ⟨pF, 0, none⟩), .pointer (some ⟨pN, 0, none⟩)] w (FnE (fiR th (wrap64 (n + i)) t) w) := by
  obtain ⟨k, h, At, nt, ct, rfl⟩ := hv.full
  obtain ⟨W, hW⟩ : ∃ W, (w.alloc (.cells #[.int .i64 k, .int .i64 h, .slice At nt ct] 24)).alloc (.cells #[.int .i64 0, .int .i64 0, .slice none 0 0] 24) = W := ⟨_, rfl⟩
  have hb : Below w.heap.size w W := by rw [← hW]; exact ((Below.refl _ _).alloc (Nat.le_refl _) _).alloc (by simp) _
  have x1 : Box W (w.heap.size + 1) 24 #[.int .i64 0, .int .i64 0, .slice none 0 0] := by rw [← hW]; exact (Box.new (w.alloc _) _ _).at (by simp)
  have lm := xm.lt
  have lt := xt.lt
  have lF := xF.lt
  have lN := xN.lt
  have lF1 : pF < w.heap.size + 1 := by omega
  have lN1 : pN < w.heap.size + 1 := by omega
  have HCL := Lib.hid (byFC (n := wrap64 (n + i)) (pm := pm) (pt := pt) W hth.len hth.le hth.cap (hth.keep hb).at_ (xm.keep hb lm) (xt.keep hb lt) (Rd.keep hb _ _ hv) hth.ok ho)
  have hsum : IntKind.i64.wrap (n + i) = wrap64 (n + i) := wrapEq _
  generalize fiR th (wrap64 (n + i)) t = R at *
  generalize wrap64 (n + i) = s at *
  have c0 := xF.one.1
  have d0 := xN.one.1
  have HW := Lib.hid hW; clear hW hth hv ho xm xt xF xN
  have HB := Lib.hid hb; clear hb
  go_enter Try.func84, Try.ntmps84
  go_wp2_with fail
  rw [HW.out]
  clear HW
  refine HCL.out.mono ?_
  intro e w2 hE
  have hbE := hE.below
  obtain ⟨k3, h3, A3, n3, c3, ec, rfl, hout, hfr⟩ := (hE.cen (X := fun _ => False) (c := 0)).uni
  have r2 := x1.keep hbE x1.lt
  have s5 := x1.lt
  have s2 := r2.lt
  have HO := Lib.hid hout
  have HBE := Lib.hid hbE
  clear hout hE hfr hbE x1 c0 d0
  obtain ⟨y0, y1, y2⟩ := r2.three
  have f0 := r2.frozen 0
  have f1 := r2.frozen 1
  have f2 := r2.frozen 2
  go_wp2_with fail
  refine bodyPost_ret (v := .tuple #[.agg #[.int .i64 k3, .int .i64 h3, .slice A3 n3 c3], .int .i64 ec]) (by simp [results, Try.results84, go_sem, y0, y1, y2]) rfl ?_
  have s3 := HB.out.size
  exact fne_of (HO.out.move (B' := w.heap.size) (by omega) (fun g hg _ => heap_other3 _ _ _ _ _ _ (by omega)) fun _ _ _ _ => trivial) (below_set3 (HB.out.trans (HBE.out.mono HB.out.size)) (by omega) _ _ _)

/-- what becomes of the entries of a context -/
abbrev cxL (th : List T) (n : Int) (xs : List T) : Except Int (List T × Nat) := eaL (fun i t c => wc (fiR th (wrap64 (n + i)) t) c) xs 0 0
/-- how Ctx and All end -/
def LnE (r : Except Int (List T × Nat)) (w : World) (e : Ending) (w' : World) : Prop :=
  match r with
  | .error ec => e = .returned (.tuple #[.slice none 0 0, .int .i64 ec]) ∧ ec ≠ 0 ∧ Below w.heap.size w w'
  | .ok (ys, _) => ∃ A n cc, e = .returned (.tuple #[.slice A n cc, .int .i64 0]) ∧ RXL (fun b => b < w.heap.size) w' ys A n cc ∧ Below w.heap.size w w'
theorem GEn.lne {St : Nat → World → Prop} {r : Except Int (List T × Nat)} {w0 w w' : World} {e : Ending} (h : GEn (fun _ => False) St w r e w') (hb : Below w0.heap.size w0 w) : LnE r w0 e w' := by
  cases r with
  | error ec =>
    obtain ⟨h1, h2, h3⟩ := h
    exact ⟨h1, h2, hb.trans (h3.to_below (fun i e => e.elim) hb.size)⟩
  | ok p =>
    obtain ⟨ys, c⟩ := p
    obtain ⟨A, n, cc, rfl, h2, h3, _⟩ := h
    exact ⟨A, n, cc, rfl, ⟨h2.len, h2.le, h2.cap, fun i t ht => RdFAt.moveX (fun b hb' hl => ⟨by have := hb.size; omega, rfl⟩) (h2.at_ i t ht)⟩, hb.trans (h3.to_below (fun i e => e.elim) hb.size)⟩

set_option maxHeartbeats 4000000 in
theorem CtxC {th xs : List T} {A Al : Option Addr} {m cL nl cl : Nat} {n : Int} (w : World) (hth : ThI th w A m cL) (hl : xs.length = nl) (hlc : nl ≤ cl) (hlm : cl ≤ maxLen) (hl40 : nl ≤ 3518437208780) (hx : ∀ i t, xs[i]? = some t → RdAt w Al i t) (ho : ∀ t ∈ xs, myB t = true → okT 2199023255552 t) :
    Calls Try.prog 41 #[.slice Al nl cl, .slice A m cL, .int .i64 n] w (LnE (cxL th n xs) w) := by
  have hmf : ∀ (fn : Fn) (first cap : Array Value) (w : World), (Instr.makeFunc fn first cap).run Try.prog w = .ok (.func fn first cap) w := fun _ _ _ _ => rfl
  obtain ⟨W, hW⟩ : ∃ W, w.alloc (.cells #[.int .i64 n] 3) = W := ⟨_, rfl⟩
  have hb : Below w.heap.size w W := by rw [← hW]; exact (Below.refl _ _).alloc (Nat.le_refl _) _
  have x0 : Box W w.heap.size 3 #[.int .i64 n] := by rw [← hW]; exact Box.new _ _ _
  have HBY := Lib.hid (byC W hth.len hth.le hth.cap (hth.keep hb).at_)
  have HE : Hid (∀ W2 pm pt pF, Below w.heap.size w W2 → Box W2 pm 4 #[.bool (thB th)] → Box W2 pt 22 #[.slice A m cL] → Box W2 pF 84 #[.func (.func 110) #[] #[.pointer (some ⟨pm, 0, none⟩), .pointer (some ⟨pt, 0, none⟩)]] → Box W2 w.heap.size 3 #[.int .i64 n] →
      Calls Try.prog 83 #[.slice Al nl cl, .func (.func 84) #[] #[.pointer (some ⟨pF, 0, none⟩), .pointer (some ⟨w.heap.size, 0, none⟩)]] W2 (GEn (fun _ => False) (fun _ _ => True) W2 (cxL th n xs))) := Lib.hid fun W2 pm pt pF h2 xm xt xF xN =>
    eachCC (X := fun _ => False) (St := fun _ _ => True) (p1 := .pointer (some ⟨pF, 0, none⟩)) (p2 := .pointer (some ⟨w.heap.size, 0, none⟩)) (wB := w) (w := W2) (A := Al) (n := nl) (c := cl) (c0 := 0) (M := 4000 * ndL xs) xs (fun i t c => wc (fiR th (wrap64 (n + i)) t) c)
      h2 hl hlc hlm hl40 hx (fun b e => e.elim) (fun _ _ _ _ _ _ => trivial) trivial (by omega)
      (fun i t c t1 c1 _ hr => by
        unfold wc at hr
        split at hr
        · cases hr
        · cases hr; omega)
      (fun i t v W' c' ht hrd hfr hst hlo => by
        have hbw := hfr.to_below (B := W2.heap.size) (fun i e => e.elim) (Nat.le_refl _)
        have hb' := h2.trans (hbw.mono h2.size)
        exact (closCC (th := th) (n := n) i W' (hth.keep hb') (Rd.keep hb' _ _ hrd) (ho t (List.mem_of_getElem? ht)) (xm.keep hbw xm.lt) (xt.keep hbw xt.lt) (xF.keep hbw xF.lt) (xN.keep hbw xN.lt)).mono fun e w' h => h.cen)
  have HW := Lib.hid hW; clear hW hx ho hth hl hlc hlm hl40
  have HB := Lib.hid hb; clear hb
  generalize cxL th n xs = R at *
  go_enter Try.func41, Try.ntmps41
  go_wp2_with fail
  rw [HW.out]
  clear HW
  refine HBY.out.mono ?_
  clear HBY
  rintro e w1 ⟨pm, pt, rfl, xm, xt, hb1⟩
  have hbw := HB.out.trans (hb1.mono HB.out.size)
  have y0 := x0.keep hb1 x0.lt
  have hbF : Below w1.heap.size w1 (w1.alloc (.cells #[.func (.func 110) #[] #[.pointer (some ⟨pm, 0, none⟩), .pointer (some ⟨pt, 0, none⟩)]] 84)) := (Below.refl _ _).alloc (Nat.le_refl _) _
  have hbw2 := hbw.trans (hbF.mono hbw.size)
  have HC := Lib.hid (HE.out _ pm pt w1.heap.size hbw2 (xm.keep hbF xm.lt) (xt.keep hbF xt.lt) (Box.new _ _ _) (y0.keep hbF y0.lt))
  have HB2 := Lib.hid hbw2
  have hsf := st_func w1 84 (.func 110) #[] #[.pointer (some ⟨pm, 0, none⟩), .pointer (some ⟨pt, 0, none⟩)]
  clear hbw2 hbF hbw y0 hb1 xm xt x0 HE
  go_wp2_with fail
  refine HC.out.mono ?_
  clear HC
  intro e w3 hE
  have hL := hE.lne HB2.out
  cases R with
  | error ec =>
    obtain ⟨rfl, hne, hb3⟩ := hL
    have HL := Lib.hid hb3
    have HNE := Lib.hid hne
    clear hb3 hE hne
    go_wp2_with fail
    go_ret2
    exact ⟨rfl, HNE.out, HL.out⟩
  | ok p =>
    obtain ⟨ys, c⟩ := p
    obtain ⟨A9, n9, c9, rfl, hrl, hb3⟩ := hL
    have HL := Lib.hid (And.intro hrl hb3)
    clear hb3 hE hrl
    go_wp2_with fail
    go_ret2
    exact ⟨A9, n9, c9, rfl, HL.out.1, HL.out.2⟩
end Go.Proofs.Ytinjeocfnhhlmaa

/-
  Contract of the document's own Ctx of layer 4. No statement is proved here.
-/
namespace Go.Proofs.Ytinjeocfnhhlmaa
open Go.ChangeShapes Go.WideShapes Go.ChangeAt Go.RowKit
set_option linter.unusedVariables false
set_option maxRecDepth 100000

/-- how the document's Ctx and All end -/
def RcE (r : Except Int (List T × Nat)) (w : World) (e : Ending) (w' : World) : Prop :=
  match r with
  | .error ec => e = .returned (.tuple #[.slice none 0 0, .int .i64 ec]) ∧ ec ≠ 0 ∧ Below w.heap.size w w'
  | .ok (ys, _) => ∃ A n cc, e = .returned (.tuple #[.slice A n cc, .int .i64 0]) ∧ RXL (fun _ => False) w' ys A n cc ∧ Below w.heap.size w w'
/-- what a caller hands in for metas, and how great they are -/
structure ThU (th : List T) (w : World) (A : Option Addr) (m cL : Nat) : Prop where
  inn : ThI th w A m cL
  nd : ∀ x ∈ th, Go.Proofs.Ytinjeocfnhhlmaa.nd x ≤ 1099511627776
/-- Fill, in a world behind another one: what it tells lies beside all that was made between -/
theorem rFillW {th : List T} {t : T} {A : Option Addr} {m cL : Nat} {n : Int} {v : Value} {w W : World} (hb : Below w.heap.size w W) (hth : ThU th w A m cL) (hv : Rd w t v) (hnt : nd t ≤ 1099511627776) (ho : myB t = true → okT 2199023255552 t) :
    Calls Try.prog 40 #[v, .slice A m cL, .int .i64 n] W (FzE (fun b => w.heap.size ≤ b ∧ b < W.heap.size) (fiR th n t) W) :=
  (rFillC W (fun b e => e.2) (rd_rxl (X := fun b => w.heap.size ≤ b ∧ b < W.heap.size) hb (fun b e => e.1) hth.inn.len hth.inn.le hth.inn.cap hth.inn.at_) (rd_rx (X := fun b => w.heap.size ≤ b ∧ b < W.heap.size) hb (fun b e => e.1) t _ hv) hnt hth.nd hth.inn.ok ho).mono fun e w' h => h.fze
theorem eaL_one {g : Nat → T → Nat → Res} {i c : Nat} {x : T} {xs : List T} : eaL g (x :: xs) i c = match g i x c with
    | .error e => .error e
    | .ok (y, c1) => contL [y] (eaL g xs (i + 1) c1) := by
  rw [eaL]
  cases g i x c with
  | error e => rfl
  | ok p =>
    obtain ⟨y, c1⟩ := p
    simp only
    cases eaL g xs (i + 1) c1 with
    | error e => rfl
    | ok q => obtain ⟨zs, c2⟩ := q; rfl
/-- what holds at the head of Ctx's loop -/
structure RcI (th : List T) (n : Int) (xs : List T) (w : World) (j : Nat) (wr : World) (v : Value) (cs : List Value) (ys : List T) : Prop where
  row : GRow (fun _ => False) wr w.heap.size v j cs ys
  below : Below w.heap.size w wr
  eq : cxL th n xs = contL ys (eaL (fun i t c => wc (fiR th (wrap64 (n + i)) t) c) (xs.drop j) j 0)

set_option maxHeartbeats 1000000 in
theorem rCtxC {th xs : List T} {A Al : Option Addr} {m cL nl cl : Nat} {n : Int} (w : World) (hth : ThU th w A m cL) (hl : xs.length = nl) (hlc : nl ≤ cl) (hlm : cl ≤ maxLen) (hl40 : nl ≤ 100000000) (hx : ∀ i t, xs[i]? = some t → RdAt w Al i t) (hnx : ∀ t ∈ xs, nd t ≤ 1099511627776) (ho : ∀ t ∈ xs, myB t = true → okT 2199023255552 t) :
    Calls Try.prog 42 #[.slice Al nl cl, .slice A m cL, .int .i64 n] w (RcE (cxL th n xs) w) := by
  unfold maxLen at hlm
  have HI : Hid (RcI th n xs w 0 w (.slice none 0 0) [] []) := Lib.hid ⟨GRow.nil _ _ _, Below.refl _ _, by rw [contL_nil, List.drop_zero]⟩
  have HTH := Lib.hid hth; clear hth
  have HX := Lib.hid hx; clear hx
  have HN := Lib.hid hl; clear hl
  have HNX := Lib.hid hnx; clear hnx
  have HO := Lib.hid ho; clear ho
  go_enter Try.func42, Try.ntmps42
  go_wp2_with fail
  go_loopw [8, 9] (fun v i wr => ∃ (j : Nat) (Av : Option Addr) (cv : Nat) (cs : List Value) (ys : List T), j ≤ nl ∧ i = .int .i64 j ∧ v = .slice Av j cv ∧ Hid (RcI th n xs w j wr (.slice Av j cv) cs ys)) (fun _ i _ => nl - (intOf i).toNat)
  case atStart => exact ⟨0, none, 0, [], [], Nat.zero_le _, rfl, rfl, HI⟩
  case round =>
    clear HI
    obtain ⟨j, Av, cv, cs, ys, hj, rfl, rfl, HI⟩ := hrel
    by_cases hlt : j < nl
    · obtain ⟨x, hx⟩ := at_of HN.out hlt
      have hmem := List.mem_of_getElem? hx
      obtain ⟨bA, oA, k2, h2, A2, n2, c2, rfl, e0, e1, e2, hr⟩ := (HX.out j x hx).full
      have hbr := HI.out.below
      replace e0 := (hbr.cell (cell_lt e0)).trans e0
      replace e1 := (hbr.cell (cell_lt e1)).trans e1
      replace e2 := (hbr.cell (cell_lt e2)).trans e2
      have hF := rFillW (n := wrap64 (n + j)) hbr HTH.out hr (HNX.out x hmem) (HO.out x hmem)
      have heq := HI.out.eq
      rw [drop_at hx, eaL_one] at heq
      have HEQ := Lib.hid heq; clear heq
      have hsum : IntKind.i64.wrap (n + (j : Int)) = wrap64 (n + j) := wrapEq _
      generalize hR : fiR th (wrap64 (n + j)) x = R at *
      have HR := Lib.hid hR; clear hR
      generalize wrap64 (n + (j : Int)) = s at *
      have HF := Lib.hid hF; clear hF hr hx
      have hi0 : (0 : Int) ≤ j := by omega
      have hi1 : (j : Int) < nl := by omega
      have hob : ∀ g, Value.ownBlock (.slice Av j cv) = some g → w.heap.size ≤ g ∧ g < wr.heap.size := fun g hg => HI.out.row.lt hg
      have HOB := Lib.hid hob; clear hob
      have HBR := Lib.hid hbr; clear hbr
      go_wp2_with fail
      refine HF.out.mono ?_
      clear HF e0 e1 e2
      intro e w5 hE
      obtain ⟨kq, hq, Aq, nq, cq, ec, rfl, hout, hb5⟩ := hE.uni
      have hbD : Below w5.heap.size w5 (w5.alloc (.cells #[.int .i64 kq, .int .i64 hq, .slice Aq nq cq] 24)) := (Below.refl _ _).alloc (Nat.le_refl _) _
      have xq := Box.new w5 24 #[.int .i64 kq, .int .i64 hq, .slice Aq nq cq]
      have hsz := hb5.size
      have hb6 := hb5.trans (hbD.mono hb5.size)
      cases R with
      | error e' =>
        obtain ⟨rfl, hne⟩ := hout
        have hne' : (ec != 0) = true := by simpa using hne
        have HNE := Lib.hid hne
        have HB6 := Lib.hid (HBR.out.trans (hb6.mono HBR.out.size))
        have hcx : cxL th n xs = .error ec := by rw [HEQ.out]; rfl
        have HCX := Lib.hid hcx
        clear hE hne hb5 hb6 hbD xq hcx
        go_wp2_with fail
        go_ret2
        rw [HCX.out]
        exact ⟨rfl, HNE.out, HB6.out⟩
      | ok y =>
        obtain ⟨rfl, hry⟩ := hout
        generalize hW6 : w5.alloc (.cells #[.int .i64 kq, .int .i64 hq, .slice Aq nq cq] 24) = W6 at *
        have HW6 := Lib.hid hW6; clear hW6
        have hg6 : GRow (fun _ => False) W6 w.heap.size (.slice Av j cv) j cs ys := HI.out.row.move (fun b hb _ => hb6.block b hb) (fun g hg e => e)
        have hrys : RdF (fun b => ¬ False ∧ some b ≠ Value.ownBlock (.slice Av j cv)) W6 y (.agg #[.int .i64 kq, .int .i64 hq, .slice Aq nq cq]) := RdF.moveX (fun b hb hl => ⟨⟨fun e => e, fun e => hb (HOB.out b e.symm)⟩, hbD.block b hl⟩) _ _ hry
        have hszD := hbD.size
        have hsz0 := HBR.out.size
        obtain ⟨g, cap, w4, hrun, hrow, hold, hb4⟩ := hg6.push hrys (by omega) (by omega)
        have hcx : cxL th n xs = contL (ys ++ [y]) (eaL (fun i t c => wc (fiR th (wrap64 (n + i)) t) c) (xs.drop (j + 1)) (j + 1) 0) := by
          rw [HEQ.out]
          simp only [wc]
          rw [contL_contL]
        have HJ : Hid (RcI th n xs w (j + 1) w4 (.slice (some ⟨g, 0, none⟩) (j + 1) cap) (cs ++ [.int .i64 kq, .int .i64 hq, .slice Aq nq cq]) (ys ++ [y])) := Lib.hid
          ⟨hrow, (HBR.out.trans (hb6.mono HBR.out.size)).trans hb4, hcx⟩
        obtain ⟨c0, c1, c2⟩ := xq.three
        have lxq := xq.lt
        clear hg6 hrys hrow hold hb4 hry hb6 hb5 hbD hE hcx
        have hszW : W6.heap.size = w5.heap.size + 1 := by rw [← HW6.out]; simp
        rw [hszW, ← HW6.out] at hrun
        clear hszW
        go_wp2_with (at_builtin; refine Lib.wpList_append_run _ rfl _ _ _ _ rfl _ _ rfl rfl _ _ hrun ?_)
        go_roundw
        case rel => exact ⟨j + 1, some ⟨g, 0, none⟩, cap, _, _, by omega, by go_num, rfl, HJ⟩
        case measure => simp [intOf]; omega
    · obtain rfl : j = nl := by omega
      have hend : cxL th n xs = .ok (ys, 0) := by
        rw [HI.out.eq, drop_all HN.out (Nat.le_refl _), eaL]
        simp [contL]
      have hrl := HI.out.row.rxl (fun b hb => hb.elim)
      have HRL := Lib.hid (And.intro hrl HI.out.below)
      have HEND := Lib.hid hend
      clear hrl hend
      go_wp2_with fail
      go_ret2
      rw [HEND.out]
      exact ⟨Av, j, cv, rfl, HRL.out.1, HRL.out.2⟩
end Go.Proofs.Ytinjeocfnhhlmaa

/-
  Contract of package meta's All, and the walk of the law MetaTwice.
-/
namespace Go.Proofs.Ytinjeocfnhhlmaa
open Go.ChangeShapes Go.WideShapes Go.ChangeAt Go.RowKit
set_option linter.unusedVariables false
set_option maxRecDepth 100000

theorem stFunc (w1 : World) (ty : TypeId) (fn : Fn) (a b : Array Value) : Sem.run Try.prog (store ⟨w1.heap.size, 0, none⟩ (.func fn a b)) (w1.alloc (.cells #[.nilFunc] ty)) = .ok () (w1.alloc (.cells #[.func fn a b] ty)) := by
  rw [run_store _ _ _ _ _ rfl]
  simp [go_sem]
set_option maxHeartbeats 4000000 in
theorem closAC {th : List T} {t : T} {A Al : Option Addr} {m cL nl cl : Nat} {n : Int} {pm pt pF pL : Nat} (i : Nat) (w : World) (hth : ThI th w A m cL) (hv : RdAt w Al i t) (hi : i < nl) (ho : myB t = true → okT 2199023255552 t)
    (xm : Box w pm 4 #[.bool (thB th)]) (xt : Box w pt 22 #[.slice A m cL])
    (xF : Box w pF 84 #[.func (.func 110) #[] #[.pointer (some ⟨pm, 0, none⟩), .pointer (some ⟨pt, 0, none⟩)]]) (xL : Box w pL 22 #[.slice Al nl cl]) :
    Calls Try.prog 86 #[.int .i64 i, .int .i64 n, .pointer (some ⟨pF, 0, none⟩), .pointer (some ⟨pL, 0, none⟩)] w (FnE (fiR th n t) w) := by
  obtain ⟨b, o, k, h, At, nt, ct, rfl, c0, c1, c2, hr⟩ := hv.full
  obtain ⟨W, hW⟩ : ∃ W, w.alloc (.cells #[.int .i64 0, .int .i64 0, .slice none 0 0] 24) = W := ⟨_, rfl⟩
  have hb : Below w.heap.size w W := by rw [← hW]; exact (Below.refl _ _).alloc (Nat.le_refl _) _
  have x1 : Box W w.heap.size 24 #[.int .i64 0, .int .i64 0, .slice none 0 0] := by rw [← hW]; exact Box.new _ _ _
  have HCL := Lib.hid fun (W' : World) (h' : Below W.heap.size W W') => (byFC (n := n) (pm := pm) (pt := pt) W' hth.len hth.le hth.cap (hth.keep (hb.trans (h'.mono hb.size))).at_ ((xm.keep hb xm.lt).keep h' (xm.keep hb xm.lt).lt) ((xt.keep hb xt.lt).keep h' (xt.keep hb xt.lt).lt) (Rd.keep (hb.trans (h'.mono hb.size)) _ _ hr) hth.ok ho)
  generalize fiR th n t = R at *
  have HK : Hid (∀ w', Below w.heap.size w w' → (w'.cell? ⟨pF, 0, none⟩ = some (.func (.func 110) #[] #[.pointer (some ⟨pm, 0, none⟩), .pointer (some ⟨pt, 0, none⟩)]) ∧ w'.cell? ⟨pL, 0, none⟩ = some (.slice (some ⟨b, o, none⟩) nl cl) ∧ w'.cell? ⟨b, o + i * 3, none⟩ = some (.int .i64 k) ∧ w'.cell? ⟨b, o + i * 3 + 1, none⟩ = some (.int .i64 h) ∧ w'.cell? ⟨b, o + i * 3 + 2, none⟩ = some (.slice At nt ct))) := Lib.hid fun w' hbb => by
    exact ⟨(xF.keep hbb xF.lt).one.1, (xL.keep hbb xL.lt).one.1, (hbb.cell (cell_lt c0)).trans c0, (hbb.cell (cell_lt c1)).trans c1, (hbb.cell (cell_lt c2)).trans c2⟩
  have HW := Lib.hid hW; clear hW hth hv ho xm xt xF xL c0 c1 c2 hr
  have HB := Lib.hid hb; clear hb
  have hi0 : (0 : Int) ≤ i := by omega
  have hi1 : (i : Int) < nl := by omega
  go_enter Try.func86, Try.ntmps86
  go_wp2_with fail
  rw [HW.out]
  clear HW
  have hcur : Below W.heap.size W W.drew := (Below.refl _ _).drew
  have szW := HB.out.size
  have s5 := x1.lt
  go_region_held3 (fun w' => w'.cell? ⟨pF, 0, none⟩ = some (.func (.func 110) #[] #[.pointer (some ⟨pm, 0, none⟩), .pointer (some ⟨pt, 0, none⟩)]) ∧ w'.cell? ⟨pL, 0, none⟩ = some (.slice (some ⟨b, o, none⟩) nl cl) ∧ w'.cell? ⟨b, o + i * 3, none⟩ = some (.int .i64 k) ∧ w'.cell? ⟨b, o + i * 3 + 1, none⟩ = some (.int .i64 h) ∧ w'.cell? ⟨b, o + i * 3 + 2, none⟩ = some (.slice At nt ct))
    (first | exact HK.out _ (HB.out.trans (hcur.mono HB.out.size)) | exact HK.out _ (below_set3 (HB.out.trans (hcur.mono HB.out.size)) (Nat.le_refl _) _ _ _))
    (first
      | (go_at_call 110
         refine (HCL.out _ hcur).mono ?_
         intro e w2 hE
         have hbE := hE.below
         obtain ⟨k3, h3, A3, n3, c3, ec, rfl, hout, hfr⟩ := (hE.cen (X := fun _ => False) (c := 0)).uni
         have HCA := Lib.hid hcur
         replace hcur := hcur.trans (hbE.mono hcur.size)
         have r2 := x1.keep hcur x1.lt
         have s2 := r2.lt
         have HO := Lib.hid hout
         have HBE := Lib.hid hbE
         clear hout hE hfr hbE
         obtain ⟨y0, y1, y2⟩ := r2.three
         have f0 := r2.frozen 0
         have f1 := r2.frozen 1
         have f2 := r2.frozen 2))
  go_wp2_with fail
  refine bodyPost_ret (v := .tuple #[.agg #[.int .i64 k3, .int .i64 h3, .slice A3 n3 c3], .int .i64 ec]) (by simp [results, Try.results86, go_sem, y0, y1, y2]) rfl ?_
  have s3 := HCA.out.size
  have s4 := HBE.out.size
  exact fne_of (HO.out.move (B' := w.heap.size) (by omega) (fun g hg _ => heap_other3 _ _ _ _ _ _ (by omega)) fun _ _ _ _ => trivial) (below_set3 (HB.out.trans (hcur.mono HB.out.size)) (Nat.le_refl _) _ _ _)

/-- what becomes of terms, each in so many entries -/
def alR (th l : List T) (ns : List Int) : Except Int (List T × Nat) :=
  if ns.length = l.length then eaI (fun i n c => wc (fiR th n (l.getD i (.node 0 0 []))) c) ns 0 0 else .error 1
/-- how All ends -/
def LmE (r : Except Int (List T × Nat)) (w : World) (e : Ending) (w' : World) : Prop :=
  match r with
  | .error ec => e = .returned (.tuple #[.slice none 0 0, .int .i64 ec]) ∧ ec ≠ 0 ∧ Below w.heap.size w w'
  | .ok (ys, _) => ∃ A n cc, e = .returned (.tuple #[.slice A n cc, .int .i64 0]) ∧ RXL (fun b => b < w.heap.size) w' ys A n cc ∧ Below w.heap.size w w'
theorem GEn.lme {St : Nat → World → Prop} {r : Except Int (List T × Nat)} {w0 w w' : World} {e : Ending} (h : GEn (fun _ => False) St w r e w') (hb : Below w0.heap.size w0 w) : LmE r w0 e w' := by
  cases r with
  | error ec =>
    obtain ⟨h1, h2, h3⟩ := h
    exact ⟨h1, h2, hb.trans (h3.to_below (fun i e => e.elim) hb.size)⟩
  | ok p =>
    obtain ⟨ys, c⟩ := p
    obtain ⟨A, n, cc, rfl, h2, h3, _⟩ := h
    exact ⟨A, n, cc, rfl, ⟨h2.len, h2.le, h2.cap, fun i t ht => RdFAt.moveX (fun b hb' hl => ⟨by have := hb.size; omega, rfl⟩) (h2.at_ i t ht)⟩, hb.trans (h3.to_below (fun i e => e.elim) hb.size)⟩

set_option maxHeartbeats 4000000 in
theorem AllC {th xs : List T} {ns : List Int} {A Al An : Option Addr} {m cL nl cl nn cn : Nat} (w : World) (hth : ThI th w A m cL) (hl : xs.length = nl) (hlc : nl ≤ cl) (hlm : cl ≤ maxLen) (hl40 : nl ≤ 3518437208780) (hx : ∀ i t, xs[i]? = some t → RdAt w Al i t) (ho : ∀ t ∈ xs, myB t = true → okT 2199023255552 t)
    (hnl : ns.length = nn) (hnc : nn ≤ cn) (hnm : cn ≤ maxLen) (hnx : ∀ i t, ns[i]? = some t → IntAt w An i t) :
    Calls Try.prog 44 #[.slice Al nl cl, .slice A m cL, .slice An nn cn] w (LmE (alR th xs ns) w) := by
  have hmf : ∀ (fn : Fn) (first cap : Array Value) (w : World), (Instr.makeFunc fn first cap).run Try.prog w = .ok (.func fn first cap) w := fun _ _ _ _ => rfl
  obtain ⟨W, hW⟩ : ∃ W, w.alloc (.cells #[.slice Al nl cl] 22) = W := ⟨_, rfl⟩
  have hb : Below w.heap.size w W := by rw [← hW]; exact (Below.refl _ _).alloc (Nat.le_refl _) _
  have x0 : Box W w.heap.size 22 #[.slice Al nl cl] := by rw [← hW]; exact Box.new _ _ _
  by_cases hne : nn = nl
  case neg =>
    have hd : ((nn : Int) != (nl : Int)) = true := by simp; omega
    have hR : alR th xs ns = .error 1 := by unfold alR; rw [if_neg (by omega)]
    rw [hR]
    have HB := Lib.hid hb
    have HW := Lib.hid hW
    clear hx hnx ho hth hb hW x0 hR hmf
    go_enter Try.func44, Try.ntmps44
    go_wp2_with fail
    go_ret2
    exact ⟨rfl, by decide, (Below.refl _ _).alloc (Nat.le_refl _) _⟩
  have hd : ((nn : Int) != (nl : Int)) = false := by simp; omega
  have hR : alR th xs ns = eaI (fun i n c => wc (fiR th n (xs.getD i (.node 0 0 []))) c) ns 0 0 := by unfold alR; rw [if_pos (by omega)]
  rw [hR]
  have HBY := Lib.hid (byC W hth.len hth.le hth.cap (hth.keep hb).at_)
  have HE : Hid (∀ W2 pm pt pF, Below w.heap.size w W2 → Box W2 pm 4 #[.bool (thB th)] → Box W2 pt 22 #[.slice A m cL] → Box W2 pF 84 #[.func (.func 110) #[] #[.pointer (some ⟨pm, 0, none⟩), .pointer (some ⟨pt, 0, none⟩)]] → Box W2 w.heap.size 22 #[.slice Al nl cl] →
      Calls Try.prog 85 #[.slice An nn cn, .func (.func 86) #[] #[.pointer (some ⟨pF, 0, none⟩), .pointer (some ⟨w.heap.size, 0, none⟩)]] W2 (GEn (fun _ => False) (fun _ _ => True) W2 (eaI (fun i n c => wc (fiR th n (xs.getD i (.node 0 0 []))) c) ns 0 0))) := Lib.hid fun W2 pm pt pF h2 xm xt xF xN =>
    eachAC (X := fun _ => False) (St := fun _ _ => True) (p1 := .pointer (some ⟨pF, 0, none⟩)) (p2 := .pointer (some ⟨w.heap.size, 0, none⟩)) (wB := w) (w := W2) (A := An) (n := nn) (c := cn) (c0 := 0) (M := 0) ns (fun i n c => wc (fiR th n (xs.getD i (.node 0 0 []))) c)
      h2 hnl hnc hnm (by omega) hnx (fun b e => e.elim) (fun _ _ _ _ _ _ => trivial) trivial
      (fun i t W' c' ht hfr hst => by
        have hbw := hfr.to_below (B := W2.heap.size) (fun i e => e.elim) (Nat.le_refl _)
        have hb' := h2.trans (hbw.mono h2.size)
        have hi : i < nl := by have := (List.getElem?_eq_some_iff.1 ht).1; omega
        have hil : i < xs.length := by omega
        have he : xs[i]? = some (xs.getD i (.node 0 0 [])) := by rw [List.getD_eq_getElem?_getD, List.getElem?_eq_getElem hil]; rfl
        exact (closAC (th := th) (n := t) (nl := nl) (cl := cl) i W' (hth.keep hb') (RdAt.keep hb' (hx i _ he)) hi (ho _ (List.mem_of_getElem? he)) (xm.keep hbw xm.lt) (xt.keep hbw xt.lt) (xF.keep hbw xF.lt) (xN.keep hbw xN.lt)).mono fun e w' h => h.cen)
  have HW := Lib.hid hW; clear hW hx hnx ho hth hl hlc hlm hl40 hR hne
  have HB := Lib.hid hb; clear hb
  generalize eaI (fun i n c => wc (fiR th n (xs.getD i (.node 0 0 []))) c) ns 0 0 = R at *
  go_enter Try.func44, Try.ntmps44
  go_wp2_with fail
  rw [HW.out]
  clear HW
  refine HBY.out.mono ?_
  clear HBY
  rintro e w1 ⟨pm, pt, rfl, xm, xt, hb1⟩
  have hbw := HB.out.trans (hb1.mono HB.out.size)
  have y0 := x0.keep hb1 x0.lt
  have hbF : Below w1.heap.size w1 (w1.alloc (.cells #[.func (.func 110) #[] #[.pointer (some ⟨pm, 0, none⟩), .pointer (some ⟨pt, 0, none⟩)]] 84)) := (Below.refl _ _).alloc (Nat.le_refl _) _
  have hbw2 := hbw.trans (hbF.mono hbw.size)
  have HC := Lib.hid (HE.out _ pm pt w1.heap.size hbw2 (xm.keep hbF xm.lt) (xt.keep hbF xt.lt) (Box.new _ _ _) (y0.keep hbF y0.lt))
  have HB2 := Lib.hid hbw2
  have hsf := stFunc w1 84 (.func 110) #[] #[.pointer (some ⟨pm, 0, none⟩), .pointer (some ⟨pt, 0, none⟩)]
  clear hbw2 hbF hbw y0 hb1 xm xt x0 HE
  go_wp2_with fail
  refine HC.out.mono ?_
  clear HC
  intro e w3 hE
  have hL := hE.lme HB2.out
  cases R with
  | error ec =>
    obtain ⟨rfl, hne, hb3⟩ := hL
    have HL := Lib.hid hb3
    have HNE := Lib.hid hne
    clear hb3 hE hne
    go_wp2_with fail
    go_ret2
    exact ⟨rfl, HNE.out, HL.out⟩
  | ok p =>
    obtain ⟨ys, c⟩ := p
    obtain ⟨A9, n9, c9, rfl, hrl, hb3⟩ := hL
    have HL := Lib.hid (And.intro hrl hb3)
    clear hb3 hE hrl
    go_wp2_with fail
    go_ret2
    exact ⟨A9, n9, c9, rfl, HL.out.1, HL.out.2⟩
/-! ### The law -/
theorem eaI_at {F : Nat → Int → Except Int T} : ∀ (xs : List Int) (i c : Nat) (ys : List T) (c' : Nat), eaI (fun i t c => wc (F i t) c) xs i c = .ok (ys, c') → ys.length = xs.length ∧ ∀ (j : Nat) (t : Int), xs[j]? = some t → ∃ y, ys[j]? = some y ∧ F (i + j) t = .ok y
  | [], i, c, ys, c', h => by
    rw [eaI] at h
    cases h
    exact ⟨rfl, fun j t ht => by simp at ht⟩
  | x :: xs, i, c, ys, c', h => by
    rw [eaI] at h
    cases hF : F i x with
    | error e => simp [hF, wc] at h
    | ok y =>
      simp only [hF, wc] at h
      split at h
      · cases h
      · rename_i zs c2 hz
        cases h
        obtain ⟨h1, h2⟩ := eaI_at xs (i + 1) c zs c' hz
        refine ⟨by simp [h1], fun j t ht => ?_⟩
        cases j with
        | zero =>
          simp only [List.getElem?_cons_zero, Option.some.injEq] at ht
          subst ht
          exact ⟨y, by simp, hF⟩
        | succ j =>
          simp only [List.getElem?_cons_succ] at ht
          obtain ⟨y', hy, hf⟩ := h2 j t ht
          exact ⟨y', by simpa using hy, by rw [← hf]; congr 1; omega⟩
theorem al_at {E H ys : List T} {c : Nat} (h : alR E H (List.replicate H.length 0) = .ok (ys, c)) : ys.length = H.length ∧ ∀ (i : Nat) (s : T), H[i]? = some s → ∃ u, ys[i]? = some u ∧ fiR E 0 s = .ok u := by
  unfold alR at h
  rw [if_pos (by simp)] at h
  obtain ⟨h1, h2⟩ := eaI_at (F := fun i n => fiR E n (H.getD i (.node 0 0 []))) _ 0 0 ys c h
  refine ⟨by simpa using h1, fun i s hs => ?_⟩
  have hi := (List.getElem?_eq_some_iff.1 hs).1
  obtain ⟨y, hy, hf⟩ := h2 i 0 (by rw [List.getElem?_replicate, if_pos hi])
  refine ⟨y, hy, ?_⟩
  rw [Nat.zero_add, List.getD_eq_getElem?_getD, hs] at hf
  exact hf
mutual
theorem ok_bare {th : List T} (hth : ∀ x ∈ th, myB x = true) (hok : ∀ x ∈ th, okT 1099511627776 x) : ∀ (t : T) (n : Int) (x : T), barB t = true → okT 1099511627776 t → 0 ≤ n → n + dp t ≤ 1000 → flT th t n = .ok x → okT 2199023255552 x
  | .node k h xs, n, x, hb, ho, h0, hn, hr => by
    have hdp : dp (.node k h xs) = 1 + dpL xs := by rw [dp]
    by_cases hk : k = 6
    · subst hk
      have := bare_meta hb
      subst this
      rw [fl_bare hth ⟨h0, by omega⟩] at hr
      split at hr
      · cases hr
      · rename_i hlt
        cases hr
        have hx : okT 1099511627776 (th.getD h.toNat (.node 0 0 [])) := by
          rcases Nat.lt_or_ge h.toNat th.length with hl | hl
          · exact hok _ (getD_mem _ hl)
          · rw [List.getD_eq_getElem?_getD, List.getElem?_eq_none hl]
            simp [okT, okL]
        exact okT_mono (by omega) _ (okT_up h0 _ 0 hx)
    · obtain ⟨ys, hy, rfl⟩ := fl_node hk hr
      rw [okT] at ho ⊢
      exact ⟨fun e => ⟨(ho.1 e).1, by have := (ho.1 e).2; omega⟩, okL_bare hth hok k xs.length xs 0 n ys (bare_args hb) ho.2 h0 (by omega) hy⟩
theorem okL_bare {th : List T} (hth : ∀ x ∈ th, myB x = true) (hok : ∀ x ∈ th, okT 1099511627776 x) (k : Int) (m : Nat) : ∀ (xs : List T) (i : Nat) (n : Int) (ys : List T), barL xs = true → okL 1099511627776 xs → 0 ≤ n → n + dpL xs + 1 ≤ 1000 → flL th k m xs i n = .ok ys → okL 2199023255552 ys
  | [], i, n, ys, _, _, _, _, hr => by
    rw [flL] at hr
    cases hr
    rw [okL]
    trivial
  | x :: xs, i, n, ys, hb, ho, h0, hn, hr => by
    obtain ⟨y, zs, hy, hz, rfl⟩ := flL_cons hr
    rw [barL, Bool.and_eq_true] at hb
    rw [dpL] at hn
    rw [okL] at ho ⊢
    have hbd := bd_le k m i
    exact ⟨ok_bare hth hok x _ y hb.1 ho.1 (by omega) (by omega) hy, okL_bare hth hok k m xs (i + 1) n zs hb.2 ho.2 h0 (by omega) hz⟩
end
def lT : Except Int (List T × Nat) → List T
  | .ok (ys, _) => ys
  | .error _ => []
def lE : Except Int (List T × Nat) → Int
  | .ok _ => 0
  | .error e => e
theorem LmE.uni {r : Except Int (List T × Nat)} {w w' : World} {e : Ending} (h : LmE r w e w') : (∃ A n cc, e = .returned (.tuple #[.slice A n cc, .int .i64 (lE r)]) ∧ RXL (fun b => b < w.heap.size) w' (lT r) A n cc) ∧ Below w.heap.size w w' := by
  cases r with
  | error ec =>
    obtain ⟨rfl, _, hb⟩ := h
    exact ⟨⟨none, 0, 0, rfl, ⟨rfl, Nat.le_refl _, Nat.zero_le _, fun i t ht => by simp [lT] at ht⟩⟩, hb⟩
  | ok p =>
    obtain ⟨ys, c⟩ := p
    obtain ⟨A, n, cc, rfl, hr, hb⟩ := h
    exact ⟨⟨A, n, cc, rfl, hr⟩, hb⟩
theorem fi_err {th : List T} {n e : Int} {t : T} (h : fiR th n t = .error e) : e ≠ 0 := by
  unfold fiR at h
  split at h
  · split at h
    · rename_i e' he
      cases h
      exact fl_err th t n e he
    · split at h
      · cases h
      · cases h; omega
  · cases h; omega
theorem fi_zero {th : List T} {n : Int} {t : T} (h : exE (fiR th n t) = 0) : fiR th n t = .ok (exT (fiR th n t)) := by
  cases hr : fiR th n t with
  | error e => rw [hr] at h; exact absurd h (fi_err hr)
  | ok u => rfl
theorem wc_err {r : Except Int T} {c : Nat} {e : Int} (h : wc r c = .error e) : r = .error e := by
  cases r with
  | error e' => cases h; rfl
  | ok t => cases h
theorem eaI_err {F : Nat → Int → Except Int T} (hF : ∀ i n e, F i n = .error e → e ≠ 0) : ∀ (xs : List Int) (i c : Nat) (e : Int), eaI (fun i t c => wc (F i t) c) xs i c = .error e → e ≠ 0
  | [], i, c, e, h => by
    rw [eaI] at h
    cases h
  | x :: xs, i, c, e, h => by
    rw [eaI] at h
    split at h
    · rename_i e' he
      cases h
      exact hF _ _ _ (wc_err he)
    · split at h
      · rename_i e' he
        cases h
        exact eaI_err hF xs _ _ _ he
      · cases h
theorem al_zero {E H : List T} {ns : List Int} (h : lE (alR E H ns) = 0) : ∃ c, alR E H ns = .ok (lT (alR E H ns), c) := by
  cases hr : alR E H ns with
  | error e =>
    rw [hr] at h
    unfold alR at hr
    split at hr
    · exact absurd h (eaI_err (F := fun i n => fiR E n (H.getD i (.node 0 0 []))) (fun i n e he => fi_err he) _ _ _ _ hr)
    · cases hr
      simp [lE] at h
  | ok p =>
    obtain ⟨ys, c⟩ := p
    exact ⟨c, rfl⟩
/-- what the law needs of the four answers -/
theorem twice_fill {t : T} {H E : List T} (kt : Kn 200 60 t) (hb : barB t = true) (hH : ∀ x ∈ H, Kn 200 60 x ∧ barB x = true) (hE : ∀ x ∈ E, Kn 200 60 x) :
    okT 2199023255552 (exT (fiR H 0 t)) ∧ (∀ u ∈ lT (alR E H (List.replicate H.length 0)), okT 2199023255552 u) ∧
    (exE (fiR H 0 t) = 0 → exE (fiR E 0 (exT (fiR H 0 t))) = 0 → lE (alR E H (List.replicate H.length 0)) = 0 → exE (fiR (lT (alR E H (List.replicate H.length 0))) 0 t) = 0 → exT (fiR E 0 (exT (fiR H 0 t))) = exT (fiR (lT (alR E H (List.replicate H.length 0))) 0 t)) := by
  have hz : okT 2199023255552 (.node 0 0 []) := by simp [okT, okL]
  have hd := kt.dp
  have hHm : ∀ x ∈ H, myB x = true := fun x hx => (hH x hx).1.my
  have hEm : ∀ x ∈ E, myB x = true := fun x hx => (hE x hx).my
  refine ⟨?_, ?_, fun h1 h2 h3 h4 => ?_⟩
  · cases hr : fiR H 0 t with
    | error e => exact hz
    | ok x =>
      obtain ⟨_, _, _, _, h5, _⟩ := fi_ok hr
      exact ok_bare hHm (fun x hx => (hH x hx).1.ok) t 0 x hb kt.ok (by omega) (by omega) h5
  · intro u hu
    cases hr : alR E H (List.replicate H.length 0) with
    | error e => rw [hr] at hu; simp [lT] at hu
    | ok p =>
      obtain ⟨ys, c⟩ := p
      rw [hr] at hu
      obtain ⟨h1, h2⟩ := al_at hr
      obtain ⟨i, hi⟩ := List.getElem?_of_mem (show u ∈ ys from hu)
      have hl : i < H.length := by have := (List.getElem?_eq_some_iff.1 hi).1; omega
      obtain ⟨u', hu', hf⟩ := h2 i _ (List.getElem?_eq_getElem hl)
      rw [hi] at hu'
      cases hu'
      have hm := hH _ (List.getElem_mem hl)
      obtain ⟨_, _, _, _, h5, _⟩ := fi_ok hf
      exact ok_bare hEm (fun x hx => (hE x hx).ok) _ 0 u hm.2 hm.1.ok (by omega) (by have := hm.1.dp; omega) h5
  · have e1 := fi_zero h1
    have e2 := fi_zero h2
    obtain ⟨c, e3⟩ := al_zero h3
    have e4 := fi_zero h4
    obtain ⟨_, _, _, _, f1, _⟩ := fi_ok e1
    obtain ⟨_, _, _, _, f2, _⟩ := fi_ok e2
    obtain ⟨g1, _, _, _, f4, _⟩ := fi_ok e4
    obtain ⟨a1, a2⟩ := al_at e3
    exact fl_twice hHm hEm (thB_all g1) a1 (fun x hx => (hH x hx).2) (fun i s hs => by
      obtain ⟨u, hu, hf⟩ := a2 i s hs
      exact ⟨u, hu, (fi_ok hf).2.2.2.2.1⟩) t 0 _ _ _ hb kt.nod (by omega) (by omega) f1 f2 f4

end Go.Proofs.Ytinjeocfnhhlmaa

/-
  Contract of the document's own All of layer 4. No statement is proved here.
-/
namespace Go.Proofs.Ytinjeocfnhhlmaa
open Go.ChangeShapes Go.WideShapes Go.ChangeAt Go.RowKit
set_option linter.unusedVariables false
set_option maxRecDepth 100000

theorem eaI_one {g : Nat → Int → Nat → Res} {i c : Nat} {x : Int} {xs : List Int} : eaI g (x :: xs) i c = match g i x c with
    | .error e => .error e
    | .ok (y, c1) => contL [y] (eaI g xs (i + 1) c1) := by
  rw [eaI]
  cases g i x c with
  | error e => rfl
  | ok p =>
    obtain ⟨y, c1⟩ := p
    simp only
    cases eaI g xs (i + 1) c1 with
    | error e => rfl
    | ok q => obtain ⟨zs, c2⟩ := q; rfl
/-- what holds at the head of All's loop -/
structure RaJ (th xs : List T) (ns : List Int) (w : World) (j : Nat) (wr : World) (v : Value) (cs : List Value) (ys : List T) : Prop where
  row : GRow (fun _ => False) wr w.heap.size v j cs ys
  below : Below w.heap.size w wr
  eq : alR th xs ns = contL ys (eaI (fun i n c => wc (fiR th n (xs.getD i (.node 0 0 []))) c) (ns.drop j) j 0)

set_option maxHeartbeats 1000000 in
theorem rAllC {th xs : List T} {ns : List Int} {A Al Au : Option Addr} {m cL nl cl nn cn : Nat} (w : World) (hth : ThU th w A m cL) (hl : xs.length = nl) (hlc : nl ≤ cl) (hlm : cl ≤ maxLen) (hl40 : nl ≤ 100000000) (hx : ∀ i t, xs[i]? = some t → RdAt w Al i t) (hnx : ∀ t ∈ xs, nd t ≤ 1099511627776) (ho : ∀ t ∈ xs, myB t = true → okT 2199023255552 t)
    (hnl : ns.length = nn) (hnc : nn ≤ cn) (hnm : cn ≤ maxLen) (hnx' : ∀ i t, ns[i]? = some t → IntAt w Au i t) :
    Calls Try.prog 45 #[.slice Al nl cl, .slice A m cL, .slice Au nn cn] w (RcE (alR th xs ns) w) := by
  unfold maxLen at hlm hnm
  by_cases hne : nn = nl
  case neg =>
    have hd : ((nn : Int) != (nl : Int)) = true := by simp; omega
    have hR : alR th xs ns = .error 1 := by unfold alR; rw [if_neg (by omega)]
    rw [hR]
    clear hx hnx' hnx ho hth hR
    go_enter Try.func45, Try.ntmps45
    go_wp2_with fail
    go_ret2
    exact ⟨rfl, by decide, Below.refl _ _⟩
  subst hne
  have hal : alR th xs ns = eaI (fun i n c => wc (fiR th n (xs.getD i (.node 0 0 []))) c) ns 0 0 := by unfold alR; rw [if_pos (by omega)]
  have HNI := Lib.hid hnx'; clear hnx'
  have HNL := Lib.hid hnl; clear hnl
  have HI : Hid (RaJ th xs ns w 0 w (.slice none 0 0) [] []) := Lib.hid ⟨GRow.nil _ _ _, Below.refl _ _, by rw [contL_nil, List.drop_zero]; exact hal⟩
  clear hal
  have HTH := Lib.hid hth; clear hth
  have HX := Lib.hid hx; clear hx
  have HN := Lib.hid hl; clear hl
  have HNX := Lib.hid hnx; clear hnx
  have HO := Lib.hid ho; clear ho
  go_enter Try.func45, Try.ntmps45
  go_wp2_with fail
  go_loopw [8, 9] (fun v i wr => ∃ (j : Nat) (Av : Option Addr) (cv : Nat) (cs : List Value) (ys : List T), j ≤ nn ∧ i = .int .i64 j ∧ v = .slice Av j cv ∧ Hid (RaJ th xs ns w j wr (.slice Av j cv) cs ys)) (fun _ i _ => nn - (intOf i).toNat)
  case atStart => exact ⟨0, none, 0, [], [], Nat.zero_le _, rfl, rfl, HI⟩
  case round =>
    clear HI
    obtain ⟨j, Av, cv, cs, ys, hj, rfl, rfl, HI⟩ := hrel
    by_cases hlt : j < nn
    · obtain ⟨x, hx⟩ := at_of HN.out hlt
      have hmem := List.mem_of_getElem? hx
      obtain ⟨bA, oA, k2, h2, A2, n2, c2, rfl, e0, e1, e2, hr⟩ := (HX.out j x hx).full
      have hbr := HI.out.below
      replace e0 := (hbr.cell (cell_lt e0)).trans e0
      replace e1 := (hbr.cell (cell_lt e1)).trans e1
      replace e2 := (hbr.cell (cell_lt e2)).trans e2
      obtain ⟨s, hs⟩ := at_ofI HNL.out hlt
      obtain ⟨bU, oU, rfl, d0⟩ := HNI.out j s hs
      replace d0 := (hbr.cell (cell_lt d0)).trans d0
      have hxg : xs.getD j (.node 0 0 []) = x := by rw [List.getD_eq_getElem?_getD, hx]; rfl
      have heq := HI.out.eq
      rw [drop_atI hs, eaI_one, hxg] at heq
      have HEQ := Lib.hid heq; clear heq
      have hF := fun (W' : World) (h' : Hid (Below wr.heap.size wr W')) => (rFillW (n := s) (hbr.trans (h'.out.mono hbr.size)) HTH.out hr (HNX.out x hmem) (HO.out x hmem))
      generalize hR : fiR th s x = R at *
      have HR := Lib.hid hR; clear hR
      have HFA : Hid (∀ W', Hid (Below wr.heap.size wr W') → Calls Try.prog 40 #[.agg #[.int .i64 k2, .int .i64 h2, .slice A2 n2 c2], .slice A m cL, .int .i64 s] W' (fun e w' => FzE (fun b => w.heap.size ≤ b ∧ b < W'.heap.size) R W' e w' ∧ Hid (Below wr.heap.size wr w'))) := Lib.hid fun W' h' =>
        (hF W' h').mono fun e w' h'' => ⟨h'', by obtain ⟨_, _, _, _, _, _, _, _, hb'⟩ := h''.uni; exact cur_trans h' hb'⟩
      have HK : Hid (∀ w', Hid (Below wr.heap.size wr w') → (w'.cell? ⟨bA, oA + j * 3, none⟩ = some (.int .i64 k2) ∧ w'.cell? ⟨bA, oA + j * 3 + 1, none⟩ = some (.int .i64 h2) ∧ w'.cell? ⟨bA, oA + j * 3 + 2, none⟩ = some (.slice A2 n2 c2) ∧ w'.cell? ⟨bU, oU + j, none⟩ = some (.int .i64 s) ∧ Hid (Below wr.heap.size wr w'))) := Lib.hid fun w' h' =>
        ⟨(h'.out.cell (cell_lt e0)).trans e0, (h'.out.cell (cell_lt e1)).trans e1, (h'.out.cell (cell_lt e2)).trans e2, (h'.out.cell (cell_lt d0)).trans d0, h'⟩
      have hcu0 : Hid (Below wr.heap.size wr wr.drew) := cur_drew
      clear hF hr hx hs hxg
      have hi0 : (0 : Int) ≤ j := by omega
      have hi1 : (j : Int) < nn := by omega
      have hob : ∀ g, Value.ownBlock (.slice Av j cv) = some g → w.heap.size ≤ g ∧ g < wr.heap.size := fun g hg => HI.out.row.lt hg
      have HOB := Lib.hid hob; clear hob
      have HBR := Lib.hid hbr; clear hbr
      go_wp2_with fail
      clear e0 e1 e2 d0
      go_region_held3 (fun w' => w'.cell? ⟨bA, oA + j * 3, none⟩ = some (.int .i64 k2) ∧ w'.cell? ⟨bA, oA + j * 3 + 1, none⟩ = some (.int .i64 h2) ∧ w'.cell? ⟨bA, oA + j * 3 + 2, none⟩ = some (.slice A2 n2 c2) ∧ w'.cell? ⟨bU, oU + j, none⟩ = some (.int .i64 s) ∧ Hid (Below wr.heap.size wr w'))
        (first | exact HK.out _ (by assumption) | exact HK.out _ (cur_alloc (by assumption) _) | exact HK.out _ (Lib.hid (((Below.refl _ _).alloc (Nat.le_refl _) _).drew)) | exact HK.out _ (cur_set3 (by assumption) (by omega) _ _ _))
        (first
          | (go_at_call 40
             with_reducible refine Calls.mono (HFA.out _ ?hh) ?_
             case hh => first | assumption | exact cur_alloc (by assumption) _ | exact Lib.hid (((Below.refl _ _).drew).alloc (Nat.le_refl _) _)
             rintro e w5 ⟨hE, hcu5⟩
             obtain ⟨kq, hq, Aq, nq, cq, ec, rfl, hout, hb5⟩ := hE.uni
             first | (have zP := Box.keepC (cs := #[.int .i64 0, .int .i64 0, .slice none 0 0]) (ty := 24) (by first | exact zP | exact zP.alloc _ | exact Box.new _ _ _ | exact (Box.new _ _ _).alloc _ | exact Box.drewI (Box.new _ _ _)) hb5; have lz5 := zP.lt) | skip
             have hs5 := hcu5.out.size
             have HOq := Lib.hid hout
             first | (obtain ⟨z0, z1, z2⟩ := zP.three; have fz0 := zP.frozen 0; have fz1 := zP.frozen 1; have fz2 := zP.frozen 2) | skip
             clear hout hb5 hE))
      all_goals first
        | (obtain ⟨W6, hWf⟩ : ∃ Wf, w5.alloc (.cells #[.int .i64 kq, .int .i64 hq, .slice Aq nq cq] 24) = Wf := ⟨_, rfl⟩
           obtain ⟨pq, hpe⟩ : ∃ p, p = w5.heap.size := ⟨_, rfl⟩
           have xq : Box W6 pq 24 #[.int .i64 kq, .int .i64 hq, .slice Aq nq cq] := by rw [hpe, ← hWf]; exact Box.new _ _ _
           have hb6 : Below wr.heap.size wr W6 := by rw [← hWf]; exact (cur_alloc (by assumption) _).out
           have HO6 : Hid (FzO (fun b => w.heap.size ≤ b ∧ b < wr.heap.size) R W6 kq hq Aq nq cq ec) := Lib.hid (by
             rw [← hWf]
             exact HOq.out.move fun b hb hl => ⟨fun e => hb ⟨e.1, by first | omega | (simp; omega)⟩, Below.heap_alloc _ _ _ hl⟩)
           rw [hWf, ← hpe]
           clear hWf hpe)
        | (obtain ⟨W6, hWf⟩ : ∃ Wf, ((w5.setCell ⟨wr.heap.size, 0, none⟩ (.int .i64 kq)).setCell ⟨wr.heap.size, 1, none⟩ (.int .i64 hq)).setCell ⟨wr.heap.size, 2, none⟩ (.slice Aq nq cq) = Wf := ⟨_, rfl⟩
           obtain ⟨pq, hpe⟩ : ∃ p, p = wr.heap.size := ⟨_, rfl⟩
           have xq : Box W6 pq 24 #[.int .i64 kq, .int .i64 hq, .slice Aq nq cq] := by rw [hpe, ← hWf]; exact zP.put3 _ _ _
           have hb6 : Below wr.heap.size wr W6 := by rw [← hWf]; exact (cur_set3 (by assumption) (by omega) _ _ _).out
           have HO6 : Hid (FzO (fun b => w.heap.size ≤ b ∧ b < wr.heap.size) R W6 kq hq Aq nq cq ec) := Lib.hid (by
             rw [← hWf]
             exact HOq.out.move fun b hb hl => ⟨fun e => hb ⟨e.1, by first | omega | (simp; omega)⟩, heap_other3 _ _ _ _ _ _ (fun e => hb ⟨by have := HBR.out.size; omega, by first | omega | (simp; omega)⟩)⟩)
           rw [hWf, ← hpe]
           clear hWf hpe)
      all_goals
        try clear zP
        obtain ⟨c0, c1, c2⟩ := xq.three
        have lxq := xq.lt
        have hsz := hb6.size
        have hsz0 := HBR.out.size
        cases R with
        | error e' =>
          obtain ⟨rfl, hne⟩ := HO6.out
          have hne' : (ec != 0) = true := by simpa using hne
          have HNE := Lib.hid hne
          have HB6 := Lib.hid (HBR.out.trans (hb6.mono HBR.out.size))
          have hcx : alR th xs ns = .error ec := by rw [HEQ.out]; rfl
          have HCX := Lib.hid hcx
          clear hne hb6 hcx
          go_wp2_with fail
          go_ret2
          rw [HCX.out]
          exact ⟨rfl, HNE.out, HB6.out⟩
        | ok y =>
          obtain ⟨rfl, hry⟩ := HO6.out
          have hg6 : GRow (fun _ => False) W6 w.heap.size (.slice Av j cv) j cs ys := HI.out.row.move (fun b hb _ => hb6.block b hb) (fun g hg e => e)
          have hrys : RdF (fun b => ¬ False ∧ some b ≠ Value.ownBlock (.slice Av j cv)) W6 y (.agg #[.int .i64 kq, .int .i64 hq, .slice Aq nq cq]) := RdF.moveX (fun b hb hl => ⟨⟨fun e => e, fun e => hb (HOB.out b e.symm)⟩, rfl⟩) _ _ hry
          obtain ⟨g, cap, w4, hrun, hrow, hold, hb4⟩ := hg6.push hrys (by omega) (by omega)
          have hcx : alR th xs ns = contL (ys ++ [y]) (eaI (fun i n c => wc (fiR th n (xs.getD i (.node 0 0 []))) c) (ns.drop (j + 1)) (j + 1) 0) := by
            rw [HEQ.out]
            simp only [wc]
            rw [contL_contL]
          have HJ : Hid (RaJ th xs ns w (j + 1) w4 (.slice (some ⟨g, 0, none⟩) (j + 1) cap) (cs ++ [.int .i64 kq, .int .i64 hq, .slice Aq nq cq]) (ys ++ [y])) := Lib.hid
            ⟨hrow, (HBR.out.trans (hb6.mono HBR.out.size)).trans hb4, hcx⟩
          clear hg6 hrys hrow hold hb4 hry hb6 hcx
          go_wp2_with (at_builtin; refine Lib.wpList_append_run _ rfl _ _ _ _ rfl _ _ rfl rfl _ _ hrun ?_)
          go_roundw
          case rel => exact ⟨j + 1, some ⟨g, 0, none⟩, cap, _, _, by omega, by go_num, rfl, HJ⟩
          case measure => simp [intOf]; omega
    · obtain rfl : j = nn := by omega
      have hend : alR th xs ns = .ok (ys, 0) := by
        rw [HI.out.eq, drop_allI HNL.out (Nat.le_refl _), eaI]
        simp [contL]
      have hrl := HI.out.row.rxl (fun b hb => hb.elim)
      have HRL := Lib.hid (And.intro hrl HI.out.below)
      have HEND := Lib.hid hend
      clear hrl hend
      go_wp2_with fail
      go_ret2
      rw [HEND.out]
      exact ⟨Av, j, cv, rfl, HRL.out.1, HRL.out.2⟩
end Go.Proofs.Ytinjeocfnhhlmaa

/-
  The walk of the law MetaFills.
-/
namespace Go.Proofs.Ytinjeocfnhhlmaa
open Go.ChangeShapes Go.WideShapes Go.ChangeAt Go.RowKit
set_option linter.unusedVariables false

theorem LnE.two {r : Except Int (List T × Nat)} {w w' : World} {e : Ending} (h : LnE r w e w') : ∃ A n cc, e = .returned (.tuple #[.slice A n cc, .int .i64 (lE r)]) ∧ RXL (fun _ => False) w' (lT r) A n cc ∧ Below w.heap.size w w' := by
  cases r with
  | error ec =>
    obtain ⟨rfl, _, hb⟩ := h
    exact ⟨none, 0, 0, rfl, ⟨rfl, Nat.le_refl _, Nat.zero_le _, fun i t ht => by simp [lT] at ht⟩, hb⟩
  | ok p =>
    obtain ⟨ys, c⟩ := p
    obtain ⟨A, n, cc, rfl, hr, hb⟩ := h
    exact ⟨A, n, cc, rfl, ⟨hr.len, hr.le, hr.cap, fun i t ht => RdFAt.moveX (fun b _ _ => ⟨fun e => e, rfl⟩) (hr.at_ i t ht)⟩, hb⟩
theorem LmE.two {r : Except Int (List T × Nat)} {w w' : World} {e : Ending} (h : LmE r w e w') : ∃ A n cc, e = .returned (.tuple #[.slice A n cc, .int .i64 (lE r)]) ∧ RXL (fun _ => False) w' (lT r) A n cc ∧ Below w.heap.size w w' := by
  obtain ⟨⟨A, n, cc, he, hr⟩, hb⟩ := h.uni
  exact ⟨A, n, cc, he, ⟨hr.len, hr.le, hr.cap, fun i t ht => RdFAt.moveX (fun b _ _ => ⟨fun e => e, rfl⟩) (hr.at_ i t ht)⟩, hb⟩
theorem RcE.two {r : Except Int (List T × Nat)} {w w' : World} {e : Ending} (h : RcE r w e w') : ∃ A n cc, e = .returned (.tuple #[.slice A n cc, .int .i64 (lE r)]) ∧ RXL (fun _ => False) w' (lT r) A n cc ∧ Below w.heap.size w w' := by
  cases r with
  | error ec =>
    obtain ⟨rfl, _, hb⟩ := h
    exact ⟨none, 0, 0, rfl, ⟨rfl, Nat.le_refl _, Nat.zero_le _, fun i t ht => by simp [lT] at ht⟩, hb⟩
  | ok p =>
    obtain ⟨ys, c⟩ := p
    obtain ⟨A, n, cc, rfl, hr, hb⟩ := h
    exact ⟨A, n, cc, rfl, hr, hb⟩

set_option maxRecDepth 100000 in
set_option maxHeartbeats 2000000 in
theorem metaFillsC (t : T) (H : List T) (AH : Option Addr) (nH cH : Nat) (n : Int) (C : List T) (AC : Option Addr) (nC cC : Nat) (us : List Int) (Au : Option Addr) (nu cu : Nat) (v : Value) (w : World) (hvt : Rd w t v) (hnH : H.length = nH) (hcH : nH ≤ cH) (hmH : cH ≤ maxLen) (hxH : ∀ i t, H[i]? = some t → RdAt w AH i t) (hnC : C.length = nC) (hcC : nC ≤ cC) (hmC : cC ≤ maxLen) (hxC : ∀ i t, C[i]? = some t → RdAt w AC i t) (hnu : us.length = nu) (hcu : nu ≤ cu) (hmu : cu ≤ maxLen) (hxu : ∀ i t, us[i]? = some t → IntAt w Au i t) (hst : nd t ≤ 1048576) (hsH : ndL H ≤ 1048576) (hsC : ndL C ≤ 1048576) :
    Calls Try.prog 9 #[v, .slice AH nH cH, .int .i64 n, .slice AC nC cC, .slice Au nu cu] w fun e w' => e = .returned (.bool true) ∧ Below w.heap.size w w' := by
  have hmmH := hmH
  have HXH := Lib.hid hxH; clear hxH
  have HNH := Lib.hid hnH; clear hnH
  have hmmC := hmC
  have HXC := Lib.hid hxC; clear hxC
  have HNC := Lib.hid hnC; clear hnC
  have HXU := Lib.hid hxu; clear hxu
  have HNU := Lib.hid hnu; clear hnu
  have hmmu := hmu
  obtain ⟨kt, ht, At, nt, ct, rfl⟩ := hvt.full
  have HVt := Lib.hid hvt; clear hvt
  obtain ⟨W0, hW0⟩ : ∃ W0, (w.alloc (.cells #[.int .i64 kt, .int .i64 ht, .slice At nt ct] 24)) = W0 := ⟨_, rfl⟩
  have hb : Below w.heap.size w W0 := by rw [← hW0]; exact ((Below.refl _ _).alloc (Nat.le_refl _) _)
  have bxt : Box W0 (w.heap.size) 24 #[.int .i64 kt, .int .i64 ht, .slice At nt ct] := by rw [← hW0]; exact (Box.new w _ _)
  replace HVt := Lib.hid (Rd.keep hb _ _ HVt.out)
  have HW0 := Lib.hid hW0; clear hW0
  go_enter Try.func9, Try.ntmps9
  go_wp2_with fail
  rw [HW0.out]
  clear HW0
  refine (awakeM _).mono ?_
  rintro e w1 ⟨rfl, hb1⟩
  replace bxt := bxt.keep hb1 bxt.lt
  replace HVt := Lib.hid (Rd.keep hb1 _ _ HVt.out)
  replace hb := hb.trans (hb1.mono hb.size)
  clear hb1
  obtain ⟨bxt0, bxt1, bxt2⟩ := bxt.three
  have bxtl := bxt.lt
  go_wp2_with fail
  refine (refLight t 5000 80 _ _ HVt.out).mono ?_
  have HLt : Hid (ltB t 5000 80 = true → ltB t 5000 80 = true) := Lib.hid fun e => e
  generalize hqt : ltB t 5000 80 = Rt at *
  rintro e w2t ⟨rfl, hb1⟩
  have HQt := Lib.hid hqt; clear hqt HLt
  clear bxt0 bxt1 bxt2 bxtl
  replace bxt := bxt.keep hb1 bxt.lt
  replace HVt := Lib.hid (Rd.keep hb1 _ _ HVt.out)
  replace hb := hb.trans (hb1.mono hb.size)
  clear hb1
  obtain ⟨bxt0, bxt1, bxt2⟩ := bxt.three
  have bxtl := bxt.lt
  go_wp2_with fail
  refine (lightsC H AH nH cH 5000 80 _ HNH.out hcH hmH (fun i u hu => RdAt.keep hb (HXH.out i u hu))).mono ?_
  generalize hqH : lsB H 5000 80 = RH at *
  rintro e w2H ⟨rfl, hb1⟩
  have HQH := Lib.hid hqH; clear hqH
  clear bxt0 bxt1 bxt2 bxtl
  replace bxt := bxt.keep hb1 bxt.lt
  replace HVt := Lib.hid (Rd.keep hb1 _ _ HVt.out)
  replace hb := hb.trans (hb1.mono hb.size)
  clear hb1
  obtain ⟨bxt0, bxt1, bxt2⟩ := bxt.three
  have bxtl := bxt.lt
  go_wp2_with fail
  refine (lightsC C AC nC cC 5000 80 _ HNC.out hcC hmC (fun i u hu => RdAt.keep hb (HXC.out i u hu))).mono ?_
  generalize hqC : lsB C 5000 80 = RC at *
  rintro e w2C ⟨rfl, hb1⟩
  have HQC := Lib.hid hqC; clear hqC
  clear bxt0 bxt1 bxt2 bxtl
  replace bxt := bxt.keep hb1 bxt.lt
  replace HVt := Lib.hid (Rd.keep hb1 _ _ HVt.out)
  replace hb := hb.trans (hb1.mono hb.size)
  clear hb1
  obtain ⟨bxt0, bxt1, bxt2⟩ := bxt.three
  have bxtl := bxt.lt
  cases Rt
  · go_wp2_with fail
    go_ret
    exact ⟨rfl, hb⟩
  cases RH
  · go_wp2_with fail
    go_ret
    exact ⟨rfl, hb⟩
  cases RC
  · go_wp2_with fail
    go_ret
    exact ⟨rfl, hb⟩
  unfold maxLen at hmH hmC hmu
  by_cases x1 : (60 : Int) < nu
  · have dx1 : decide ((60 : Int) < nu) = true := by simpa using x1
    go_wp2_with fail
    go_ret
    exact ⟨rfl, hb⟩
  have dx1 : decide ((60 : Int) < nu) = false := by simpa using x1
  have hlH := HQH.out
  unfold lsB at hlH
  rw [Bool.and_eq_true] at hlH
  have hlC := HQC.out
  unfold lsB at hlC
  rw [Bool.and_eq_true] at hlC
  have hC60 : C.length ≤ 60 := of_decide_eq_true hlC.1
  have hC60' : nC ≤ 60 := by rw [← HNC.out]; exact hC60
  have hoH : ∀ x ∈ H, myB x = true → okT 2199023255552 x := fun x hx hm => okT_mono (by omega) _ (kn_of (lights_all hlH.2 x hx) hm).ok
  have hoC : ∀ x ∈ C, myB x = true → okT 2199023255552 x := fun x hx hm => okT_mono (by omega) _ (kn_of (lights_all hlC.2 x hx) hm).ok
  have hot : myB t = true → okT 2199023255552 t := fun hm => okT_mono (by omega) _ (kn_of HQt.out hm).ok
  have hTH : ThI H w AH nH cH := ⟨hoH, HNH.out, hcH, hmmH, HXH.out⟩
  have hTU : ThU H w AH nH cH := ⟨hTH, fun x hx => by have := nd_mem hx; omega⟩
  have hnC : ∀ x ∈ C, nd x ≤ 1099511627776 := fun x hx => by have := nd_mem hx; omega
  have HB0 := Lib.hid hb
  have HF1 := Lib.hid fun (W : World) (h : Below w2C.heap.size w2C W) => FillC (n := n) W (hTH.keep (hb.trans (h.mono hb.size))) (Rd.keep h _ _ HVt.out) hot
  have HF2 := Lib.hid fun (W : World) (h : Below w2C.heap.size w2C W) => rFillC (Z := fun _ => False) (n := n) W (fun b e => e.elim) (rd_rxl (X := fun _ => False) (hb.trans (h.mono hb.size)) (fun b e => e.elim) HNH.out hcH hmmH HXH.out) (rd_rx (X := fun _ => False) h (fun b e => e.elim) t _ HVt.out) (by omega) hTU.nd hoH hot
  have HC1 := Lib.hid fun (W : World) (h : Below w2C.heap.size w2C W) => CtxC (n := n) W (hTH.keep (hb.trans (h.mono hb.size))) HNC.out hcC hmmC (by omega) (fun i u hu => RdAt.keep (hb.trans (h.mono hb.size)) (HXC.out i u hu)) hoC
  have HC2 := Lib.hid fun (W : World) (h : Below w2C.heap.size w2C W) => rCtxC (n := n) W ⟨hTH.keep (hb.trans (h.mono hb.size)), hTU.nd⟩ HNC.out hcC hmmC (by omega) (fun i u hu => RdAt.keep (hb.trans (h.mono hb.size)) (HXC.out i u hu)) hnC hoC
  have hint : ∀ (W : World), Below w2C.heap.size w2C W → ∀ i u, us[i]? = some u → IntAt W Au i u := fun W h i u hu => by
    obtain ⟨b, o, e, c⟩ := HXU.out i u hu
    exact ⟨b, o, e, ((hb.trans (h.mono hb.size)).cell (cell_lt c)).trans c⟩
  have HA1 := Lib.hid fun (W : World) (h : Below w2C.heap.size w2C W) => AllC W (hTH.keep (hb.trans (h.mono hb.size))) HNC.out hcC hmmC (by omega) (fun i u hu => RdAt.keep (hb.trans (h.mono hb.size)) (HXC.out i u hu)) hoC HNU.out hcu hmmu (hint W h)
  have HA2 := Lib.hid fun (W : World) (h : Below w2C.heap.size w2C W) => rAllC W ⟨hTH.keep (hb.trans (h.mono hb.size)), hTU.nd⟩ HNC.out hcC hmmC (by omega) (fun i u hu => RdAt.keep (hb.trans (h.mono hb.size)) (HXC.out i u hu)) hnC hoC HNU.out hcu hmmu (hint W h)
  clear hlH hlC hoH hoC hot hTH hTU hnC hint hC60 hC60' hst hsH hsC
  generalize fiR H n t = RF at *
  generalize cxL H n C = RC at *
  generalize alR H C us = RA at *
  have he1 : (exE RF == exE RF) = true := by simp
  have he2 : (lE RC == lE RC) = true := by simp
  have he3 : (lE RA == lE RA) = true := by simp
  have hcur : Below w2C.heap.size w2C w2C := Below.refl _ _
  go_wp2_with fail
  refine (HF1.out _ hcur).mono ?_
  clear HF1
  intro e u1 hE
  obtain ⟨ka, ha, Aa, na, ca, rfl, hrd, hb1⟩ := hE.tend
  have hbD : Below u1.heap.size u1 (u1.alloc (.cells #[.int .i64 ka, .int .i64 ha, .slice Aa na ca] 24)) := (Below.refl _ _).alloc (Nat.le_refl _) _
  have z0 := bxt.keep hb1 bxt.lt
  have lz0 := z0.lt
  have xa := Box.new u1 24 #[.int .i64 ka, .int .i64 ha, .slice Aa na ca]
  have HVa := Lib.hid (Rd.keep hbD _ _ (RdF.rd _ _ hrd))
  replace hcur := hcur.trans ((hb1.trans (hbD.mono hb1.size)).mono hcur.size)
  have HF2' := Lib.hid (HF2.out _ hcur)
  clear hE hrd hb1 hbD HF2 bxt0 bxt1 bxt2 bxtl
  obtain ⟨t0, t1, t2⟩ := z0.three
  go_wp2_with fail
  refine HF2'.out.mono ?_
  clear HF2'
  intro e u2 hE
  obtain ⟨kb, hb_, Ab, nb, cb, rfl, hrd, hb1⟩ := hE.ren
  have xa2 := xa.keep hb1 xa.lt
  have lxa := xa2.lt
  have hbD : Below u2.heap.size u2 (u2.alloc (.cells #[.int .i64 kb, .int .i64 hb_, .slice Ab nb cb] 24)) := (Below.refl _ _).alloc (Nat.le_refl _) _
  have HSM := Lib.hid (refSame (exT RF) (exT RF) _ _ _ (Rd.keep (hb1.trans (hbD.mono hb1.size)) _ _ HVa.out) (Rd.keep hbD _ _ hrd))
  replace hcur := hcur.trans ((hb1.trans (hbD.mono hb1.size)).mono hcur.size)
  clear hE hrd hb1 hbD t0 t1 t2 z0 xa HVa
  obtain ⟨a0, a1, a2⟩ := xa2.three
  go_wp2_with fail
  refine HSM.out.mono ?_
  clear HSM
  rw [sam_refl]
  rintro e u3 ⟨rfl, hb1⟩
  replace hcur := hcur.trans (hb1.mono hcur.size)
  clear hb1 a0 a1 a2 xa2
  go_wp2_with fail
  refine (HC1.out _ hcur).mono ?_
  clear HC1
  intro e u4 hE
  obtain ⟨Ap, np, cp, rfl, hl1, hb1⟩ := hE.two
  replace hcur := hcur.trans (hb1.mono hcur.size)
  have HL1 := Lib.hid hl1
  clear hE hb1 hl1
  go_wp2_with fail
  refine (HC2.out _ hcur).mono ?_
  clear HC2
  intro e u5 hE
  obtain ⟨Aq, nq, cq, rfl, hl2, hb1⟩ := hE.two
  have HLI := Lib.hid fun (W : World) (h : Below u5.heap.size u5 W) => rlistC (lT RC) Ap Aq np cp cq W HL1.out.len HL1.out.le HL1.out.cap (by rw [← HL1.out.len, hl2.len]; exact hl2.le) (fun i u hu => RdAt.keep (hb1.trans (h.mono hb1.size)) (rdFAt_rd (HL1.out.at_ i u hu))) (fun i u hu => RdAt.keep h (rdFAt_rd (hl2.at_ i u hu)))
  have hnn : nq = np := by rw [← hl2.len, HL1.out.len]
  subst hnn
  replace hcur := hcur.trans (hb1.mono hcur.size)
  clear hE hb1 hl2 HL1
  go_wp2_with fail
  refine (HLI.out _ (Below.refl _ _)).mono ?_
  clear HLI
  rintro e u6 ⟨rfl, hb1⟩
  replace hcur := hcur.trans (hb1.mono hcur.size)
  clear hb1
  go_wp2_with fail
  refine (HA1.out _ hcur).mono ?_
  clear HA1
  intro e u7 hE
  obtain ⟨Ar, nr, cr, rfl, hl1, hb1⟩ := hE.two
  replace hcur := hcur.trans (hb1.mono hcur.size)
  have HL1 := Lib.hid hl1
  clear hE hb1 hl1
  go_wp2_with fail
  refine (HA2.out _ hcur).mono ?_
  clear HA2
  intro e u8 hE
  obtain ⟨As, ns, cs, rfl, hl2, hb1⟩ := hE.two
  have HLI := Lib.hid fun (W : World) (h : Below u8.heap.size u8 W) => rlistC (lT RA) Ar As nr cr cs W HL1.out.len HL1.out.le HL1.out.cap (by rw [← HL1.out.len, hl2.len]; exact hl2.le) (fun i u hu => RdAt.keep (hb1.trans (h.mono hb1.size)) (rdFAt_rd (HL1.out.at_ i u hu))) (fun i u hu => RdAt.keep h (rdFAt_rd (hl2.at_ i u hu)))
  have hnn : ns = nr := by rw [← hl2.len, HL1.out.len]
  subst hnn
  replace hcur := hcur.trans (hb1.mono hcur.size)
  clear hE hb1 hl2 HL1
  go_wp2_with fail
  refine (HLI.out _ (Below.refl _ _)).mono ?_
  clear HLI
  rintro e u9 ⟨rfl, hb1⟩
  replace hcur := hcur.trans (hb1.mono hcur.size)
  have HFIN := Lib.hid (HB0.out.trans (hcur.mono HB0.out.size))
  clear hb1 hcur
  go_wp2_with fail
  go_ret
  exact ⟨rfl, HFIN.out⟩
end Go.Proofs.Ytinjeocfnhhlmaa

/-
  Five arguments; an argument's reading that is a list of numbers. No statement is proved here.
-/
namespace Go.Proofs.Ytinjeocfnhhlmaa
open Go.ChangeShapes Go.WideShapes Go.ChangeAt Go.RowKit Go.Deep
set_option linter.unusedVariables false
set_option maxRecDepth 100000
section
variable {H : Type} {enc : TypeId × Value → H} {P : Program} {w : World} {base : Nat} {spare : Nat → Bool} {held : Bool}

theorem trodAll_five {t t' t'' t3 t4 : TypeId} {args : Array Value} {ds : List (DataW H)} {ps : List MemPlace} (h : DataW.TrodAll enc P w base spare held [t, t', t'', t3, t4] args.toList ds ps) :
    ∃ v v' v'' v3 v4 d d' d'' d3 d4 p p' p'' p3 p4, args = #[v, v', v'', v3, v4] ∧ ds = [d, d', d'', d3, d4] ∧ ps = p ++ p' ++ p'' ++ p3 ++ p4 ∧ DataW.Trod enc P w base spare held t v d p ∧ DataW.Trod enc P w base spare held t' v' d' p' ∧ DataW.Trod enc P w base spare held t'' v'' d'' p'' ∧ DataW.Trod enc P w base spare held t3 v3 d3 p3 ∧ DataW.Trod enc P w base spare held t4 v4 d4 p4 := by
  obtain ⟨v, vs, d, ds', p, q, hargs, rfl, rfl, hd, hrest⟩ := trodAll_cons h
  obtain ⟨v', vs', d', ds'', p', q', rfl, rfl, rfl, hd', hrest'⟩ := trodAll_cons hrest
  obtain ⟨v'', vs'', d'', ds''', p'', q'', rfl, rfl, rfl, hd'', hrest''⟩ := trodAll_cons hrest'
  obtain ⟨v3, vs3, d3, ds3, p3, q3, rfl, rfl, rfl, hd3, hrest3⟩ := trodAll_cons hrest''
  obtain ⟨v4, vs4, d4, ds4, p4, q4, rfl, rfl, rfl, hd4, hrest4⟩ := trodAll_cons hrest3
  obtain ⟨rfl, rfl, rfl⟩ := trodAll_nil hrest4
  exact ⟨v, v', v'', v3, v4, d, d', d'', d3, d4, p, p', p'', p3, p4, by cases args; simp_all, rfl, by simp, hd, hd', hd'', hd3, hd4⟩
theorem trodAll_mk5 {t t' t'' t3 t4 : TypeId} {v v' v'' v3 v4 : Value} {d d' d'' d3 d4 : DataW H} {p p' p'' p3 p4 : List MemPlace} (h : DataW.Trod enc P w base spare held t v d p) (h' : DataW.Trod enc P w base spare held t' v' d' p')
    (h'' : DataW.Trod enc P w base spare held t'' v'' d'' p'') (h3 : DataW.Trod enc P w base spare held t3 v3 d3 p3) (h4 : DataW.Trod enc P w base spare held t4 v4 d4 p4) : DataW.TrodAll enc P w base spare held [t, t', t'', t3, t4] [v, v', v'', v3, v4] [d, d', d'', d3, d4] (p ++ (p' ++ (p'' ++ (p3 ++ p4)))) := ⟨p, p' ++ (p'' ++ (p3 ++ p4)), h, trodAll_mk4 h' h'' h3 h4, rfl⟩
end
section
variable {H : Type} {enc : TypeId × Value → H} {w : World} {base : Nat} {spare : Nat → Bool} {held : Bool}
theorem open_nums {r : Reach} {b0 : Nat} {v : Value} {d : DataW H} {p : List MemPlace} (hv : Value.okWide Try.prog w r b0 25 v) (h : DataW.Trod enc Try.prog w base spare held 25 v d p) :
    ∃ (us : List Int) (A : Option Addr) (n c : Nat), v = .slice A n c ∧ us.length = n ∧ n ≤ c ∧ c ≤ maxLen ∧ (∀ i u, us[i]? = some u → IntAt w A i u) := by
  obtain ⟨fuel, hf⟩ := h
  obtain ⟨a0, l0, c0, rfl⟩ := okWide_slice Try.underlying25 hv
  rcases open_ints Try.underlying25 Try.underlying3 (by kernel_rfl) hf with ⟨e, _⟩ | ⟨a, len, cap, zs, e, _, hlc, hm, hzl, _, hz, _⟩
  · simp only [Value.cells, List.cons.injEq, and_true] at e
    exact ⟨[], none, 0, 0, e, rfl, Nat.le_refl _, Nat.zero_le _, fun i t ht => by simp at ht⟩
  · simp only [Value.cells, List.cons.injEq, and_true] at e
    have hge : len ≤ zs.length := by rw [hzl]; split <;> omega
    refine ⟨zs.take len, some a, len, cap, e, by rw [List.length_take]; omega, hlc, hm, fun i u hu => ?_⟩
    have hi : i < len := by have := (List.getElem?_eq_some_iff.1 hu).1; simp at this; omega
    rw [List.getElem?_take_of_lt hi] at hu
    have hc := hz i (by omega)
    have hc0 := hz 0 (by omega)
    have hs : a.spot = none := by
      have := cell_spot hc0
      simpa [Addr.add] using this
    obtain ⟨b, o, s⟩ := a
    dsimp only at hs
    subst hs
    rw [addr_add] at hc
    refine ⟨b, o, rfl, ?_⟩
    rw [hc, List.getD_eq_getElem?_getD, hu]
    rfl
end
end Go.Proofs.Ytinjeocfnhhlmaa
