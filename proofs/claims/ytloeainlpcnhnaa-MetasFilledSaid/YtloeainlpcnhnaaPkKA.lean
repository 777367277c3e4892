/-
  Texts of one proof, put together. No statement is proved here.
-/
import Derived.Test.YtloeainlpcnhnaaPd
import Derived.Test.YtloeainlpcnhnaaWi
import Derived.Test.YtloeainlpcnhnaaWe
import Derived.Test.YtloeainlpcnhnaaOl
/-
  Terms whose metas become something, as a plain function, and what holds of what it tells: how many nodes, Heads. No statement is proved here.
-/
namespace Go.Proofs.Ytloeainlpcnhnaa
open Go.ChangeShapes Go.WideShapes Go.ChangeAt Go.RowKit
set_option linter.unusedVariables false
/-- a node with its Args, filled -/
def flN (th : List T) (n k h : Int) (ys : List T) : Except Int T :=
  if k = 6 then
    if (th.length : Int) ≤ h then .error 2
    else if ys.all myB = true then
      if apE (th.getD h.toNat (.node 0 0 [])) ys n = 0 then .ok (apT (th.getD h.toNat (.node 0 0 [])) ys n) else .error (apE (th.getD h.toNat (.node 0 0 [])) ys n)
    else .error 4
  else .ok (.node k h ys)
mutual
/-- a term with what its metas become, in a context of n entries -/
def flT (th : List T) : T → Int → Except Int T
  | .node k h xs, n =>
    match flL th k xs.length xs 0 n with
    | .error e => .error e
    | .ok ys => flN th n k h ys
def flL (th : List T) (k : Int) (m : Nat) : List T → Nat → Int → Except Int (List T)
  | [], _, _ => .ok []
  | x :: xs, i, n =>
    match flT th x (n + bd k m i) with
    | .error e => .error e
    | .ok y =>
      match flL th k m xs (i + 1) n with
      | .error e => .error e
      | .ok ys => .ok (y :: ys)
end
/-- what is too great takes no room -/
def kp (c : Nat) (t : T) : T := if 4000 < c then .node 7 0 [] else t
def kpL : Nat → List T → List T
  | _, [] => []
  | c, y :: ys => kp (c + nd y) y :: kpL (c + nd y) ys
/-- a part that is filled, behind so many nodes -/
def pf (th : List T) (n : Int) (c : Nat) (t : T) : Res :=
  match flT th t n with
  | .error e => .error e
  | .ok t' => .ok (kp (c + nd t') t', c + nd t')
/-- a list of what its elements become -/
def eaL (g : Nat → T → Nat → Res) : List T → Nat → Nat → Except Int (List T × Nat)
  | [], _, c => .ok ([], c)
  | x :: xs, i, c =>
    match g i x c with
    | .error e => .error e
    | .ok (y, c1) =>
      match eaL g xs (i + 1) c1 with
      | .error e => .error e
      | .ok (ys, c2) => .ok (y :: ys, c2)
theorem kpL_id : ∀ (ys : List T) (c : Nat), c + ndL ys ≤ 4000 → kpL c ys = ys
  | [], _, _ => rfl
  | y :: ys, c, h => by
    rw [ndL] at h
    rw [kpL, kp, if_neg (by omega), kpL_id ys (c + nd y) (by omega)]
theorem my_leaf7 : myB (.node 7 0 []) = false := by decide
theorem my_kp (y : T) : myB (kp (nd y) y) = myB y := by
  unfold kp
  split
  · rw [my_leaf7]
    cases h : myB y with
    | false => rfl
    | true => have := ((myB_iff y).1 h).2.1; omega
  · rfl
theorem kp_my {y : T} (h : myB y = true) : kp (nd y) y = y := by
  unfold kp
  rw [if_neg (by have := ((myB_iff y).1 h).2.1; omega)]
theorem all_kp (ys : List T) : (ys.map fun y => kp (nd y) y).all myB = ys.all myB := by
  rw [List.all_map]
  congr 1
  funext y
  exact my_kp y
theorem map_kp {ys : List T} (h : ys.all myB = true) : (ys.map fun y => kp (nd y) y) = ys := by
  have := List.map_congr_left (l := ys) (f := fun y => kp (nd y) y) (g := id) fun y hy => kp_my (List.all_eq_true.1 h y hy)
  rw [this, List.map_id]
/-- the Args of a node, part by part -/
theorem ea_fill (th : List T) (n k : Int) (m : Nat) : ∀ (xs : List T) (i c : Nat), eaL (fun i x c => pf th (n + bd k m i) c x) xs i c = match flL th k m xs i n with
    | .error e => .error e
    | .ok ys => .ok (kpL c ys, c + ndL ys)
  | [], i, c => by simp [eaL, flL, kpL, ndL]
  | x :: xs, i, c => by
    rw [eaL, flL, pf]
    cases hx : flT th x (n + bd k m i) with
    | error e => rfl
    | ok y =>
      simp only
      rw [ea_fill th n k m xs (i + 1) (c + nd y)]
      cases flL th k m xs (i + 1) n with
      | error e => rfl
      | ok ys => simp only [kpL, ndL]; rw [Nat.add_assoc]
/-- what becomes of one of a meta's Args -/
def po (th : List T) (n : Int) (c : Nat) (t : T) : Res :=
  match pf th n 0 t with
  | .error e => .error e
  | .ok (y, _) => .ok (y, c)
theorem dpL_mem {t : T} : ∀ {xs : List T}, t ∈ xs → dp t ≤ dpL xs
  | x :: xs, h => by
    rw [dpL]
    rcases List.mem_cons.1 h with rfl | h
    · omega
    · have := dpL_mem h
      omega
theorem bd6 (m i : Nat) : bd 6 m i = 0 := by simp [bd]
/-- the Args of a meta, each by itself -/
theorem ea_own (th : List T) (n : Int) (m : Nat) : ∀ (xs : List T) (i c : Nat), eaL (fun _ x c => po th n c x) xs i c = match flL th 6 m xs i n with
    | .error e => .error e
    | .ok ys => .ok (ys.map (fun y => kp (nd y) y), c)
  | [], i, c => by simp [eaL, flL]
  | x :: xs, i, c => by
    rw [eaL, flL, bd6, Int.add_zero, po, pf]
    cases hx : flT th x n with
    | error e => rfl
    | ok y =>
      simp only
      rw [ea_own th n m xs (i + 1) c]
      cases flL th 6 m xs (i + 1) n with
      | error e => rfl
      | ok ys => simp only [List.map_cons, Nat.zero_add]
/-- a meta -/
theorem pf_meta (th : List T) (n h : Int) (xs : List T) (c : Nat) : pf th n c (.node 6 h xs) = match flL th 6 xs.length xs 0 n with
    | .error e => .error e
    | .ok ys =>
      if (th.length : Int) ≤ h then .error 2
      else if ys.all myB = true then
        if apE (th.getD h.toNat (.node 0 0 [])) ys n = 0 then .ok (kp (c + nd (apT (th.getD h.toNat (.node 0 0 [])) ys n)) (apT (th.getD h.toNat (.node 0 0 [])) ys n), c + nd (apT (th.getD h.toNat (.node 0 0 [])) ys n)) else .error (apE (th.getD h.toNat (.node 0 0 [])) ys n)
      else .error 4 := by
  rw [pf, flT]
  cases flL th 6 xs.length xs 0 n with
  | error e => rfl
  | ok ys =>
    simp only [flN, if_true]
    split
    · rename_i e he
      split at he
      · rename_i h1
        cases he
        rw [if_pos h1]
      · rename_i h1
        rw [if_neg h1]
        split at he
        · rename_i h2
          rw [if_pos h2]
          split at he
          · cases he
          · rename_i h3
            cases he
            rw [if_neg h3]
        · rename_i h2
          cases he
          rw [if_neg h2]
    · rename_i t' he
      split at he
      · cases he
      · rename_i h1
        rw [if_neg h1]
        split at he
        · rename_i h2
          rw [if_pos h2]
          split at he
          · rename_i h3
            cases he
            rw [if_pos h3]
          · cases he
        · cases he
/-- a node that is kept -/
theorem pf_node (th : List T) (n k h : Int) (xs : List T) (c : Nat) (hk : k ≠ 6) : pf th n c (.node k h xs) = match flL th k xs.length xs 0 n with
    | .error e => .error e
    | .ok ys => .ok (kp (c + ndL ys + 1) (.node k h (kpL c ys)), c + ndL ys + 1) := by
  unfold pf
  rw [flT]
  cases flL th k xs.length xs 0 n with
  | error e => rfl
  | ok ys =>
    simp only [flN, if_neg hk]
    have e : c + nd (.node k h ys) = c + ndL ys + 1 := by rw [nd]; omega
    rw [e]
    unfold kp
    split
    · rfl
    · rw [kpL_id ys c (by omega)]
/-! ### What is answered may be -/
theorem ap_zero {t : T} {L : List T} {sh : Int} (h : apE t L sh = 0) : myB t = true ∧ sbB L sh = true ∧ ∃ m, apR t L sh = .ok (apT t L sh, m) ∧ myB (apT t L sh) = true := by
  unfold apE at h
  by_cases hp : (myB t && sbB L sh) = true
  · rw [if_pos hp] at h
    have hp' := hp
    rw [Bool.and_eq_true] at hp'
    refine ⟨hp'.1, hp'.2, ?_⟩
    unfold apT
    rw [if_pos hp]
    cases hr : apR t L sh with
    | error e => rw [hr] at h; exact absurd (by simpa [anE] using h) (ap_err _ _ _ _ _ _ _ hr)
    | ok p =>
      obtain ⟨t', m⟩ := p
      rw [hr] at h
      have hm : myB t' = true := by
        cases hm : myB t' with
        | true => rfl
        | false => simp [anE, hm] at h
      simp only [anT, hm, if_true]
      exact ⟨m, rfl, trivial⟩
  · rw [if_neg hp] at h
    omega
mutual
theorem fl_nd (th : List T) : ∀ (t : T) (n : Int) (t' : T), flT th t n = .ok t' → nd t' ≤ 4000 * nd t
  | .node k h xs, n, t', hr => by
    rw [flT] at hr
    split at hr
    · cases hr
    · rename_i ys hy
      have := flL_nd th k xs.length xs 0 n ys hy
      rw [nd]
      unfold flN at hr
      split at hr
      · split at hr
        · cases hr
        · split at hr
          · split at hr
            · rename_i h0
              cases hr
              obtain ⟨_, _, _, _, hm⟩ := ap_zero h0
              have := ((myB_iff _).1 hm).2.1
              omega
            · cases hr
          · cases hr
      · cases hr
        rw [nd]
        omega
theorem flL_nd (th : List T) (k : Int) (m : Nat) : ∀ (xs : List T) (i : Nat) (n : Int) (ys : List T), flL th k m xs i n = .ok ys → ndL ys ≤ 4000 * ndL xs
  | [], i, n, ys, hr => by
    rw [flL] at hr
    cases hr
    simp [ndL]
  | x :: xs, i, n, ys, hr => by
    rw [flL] at hr
    split at hr
    · cases hr
    · rename_i y hy
      have := fl_nd th x _ y hy
      split at hr
      · cases hr
      · rename_i zs hz
        have := flL_nd th k m xs (i + 1) n zs hz
        cases hr
        rw [ndL, ndL]
        omega
end
theorem flL_len (th : List T) (k : Int) (m : Nat) : ∀ (xs : List T) (i : Nat) (n : Int) (ys : List T), flL th k m xs i n = .ok ys → ys.length = xs.length
  | [], i, n, ys, hr => by
    rw [flL] at hr
    cases hr
    rfl
  | x :: xs, i, n, ys, hr => by
    rw [flL] at hr
    split at hr
    · cases hr
    · split at hr
      · cases hr
      · rename_i zs hz
        have := flL_len th k m xs (i + 1) n zs hz
        cases hr
        simp [this]
mutual
theorem fl_err (th : List T) : ∀ (t : T) (n e : Int), flT th t n = .error e → e ≠ 0
  | .node k h xs, n, e, hr => by
    rw [flT] at hr
    split at hr
    · rename_i e' he
      cases hr
      exact flL_err th k xs.length xs 0 n e he
    · unfold flN at hr
      split at hr
      · split at hr
        · cases hr; omega
        · split at hr
          · split at hr
            · cases hr
            · cases hr; assumption
          · cases hr; omega
      · cases hr
theorem flL_err (th : List T) (k : Int) (m : Nat) : ∀ (xs : List T) (i : Nat) (n e : Int), flL th k m xs i n = .error e → e ≠ 0
  | [], i, n, e, hr => by
    rw [flL] at hr
    cases hr
  | x :: xs, i, n, e, hr => by
    rw [flL] at hr
    split at hr
    · rename_i e' he
      cases hr
      exact fl_err th x _ e he
    · split at hr
      · rename_i e' he
        cases hr
        exact flL_err th k m xs (i + 1) n e he
      · cases hr
end
/-! ### Heads -/
/-- how great a Head may be in what is filled -/
def hB (d : Nat) : Int := 2199023255552 + d * 68719476736
theorem hB_mono {a b : Nat} (h : a ≤ b) : hB a ≤ hB b := by unfold hB; omega
theorem ap_heads {t : T} {L : List T} {sh M : Int} (h : apE t L sh = 0) (ht : okT M t) (hL : ∀ x ∈ L, okT M x) (hs : sh ≤ 1048576) : okT (M + 68719476736) (apT t L sh) := by
  obtain ⟨h1, h2, m, h3, _⟩ := ap_zero h
  unfold sbB at h2
  simp only [Bool.and_eq_true, decide_eq_true_eq, List.all_eq_true] at h2
  have hg := ap_good (B := M + 1048576) fl L sh 0 t 0 (Nat.le_refl _) (by omega) ⟨h2.2, fun x hx => okT_mono (by unfold btB; omega) _ (hL x hx), h2.1.1.2, hs⟩ ⟨((myB_iff t).1 h1).1, okT_mono (by unfold btB; omega) _ ht⟩ _ m h3
  exact okT_mono (by have := hg.2.1; unfold btB; omega) _ hg.2.2.1.ok
mutual
theorem fl_heads {th : List T} (hth : ∀ x ∈ th, okT 2199023255552 x) : ∀ (t : T) (n : Int) (t' : T), 0 ≤ n → n + dp t ≤ 1048576 → okT 2199023255552 t → flT th t n = .ok t' → okT (hB (dp t)) t'
  | .node k h xs, n, t', h0, hn, ho, hr => by
    have hd : dp (.node k h xs) = 1 + dpL xs := by rw [dp]
    rw [flT] at hr
    rw [okT] at ho
    split at hr
    · cases hr
    · rename_i ys hy
      have hys := flL_heads hth k xs.length xs 0 n ys h0 (by omega) ho.2 hy
      have hm : hB (dpL xs) + 68719476736 = hB (dp (.node k h xs)) := by rw [hd]; unfold hB; omega
      have hb : (2199023255552 : Int) ≤ hB (dpL xs) := by unfold hB; omega
      unfold flN at hr
      split at hr
      · split at hr
        · cases hr
        · rename_i hlt
          split at hr
          · split at hr
            · rename_i h0'
              cases hr
              rw [← hm]
              refine ap_heads h0' ?_ (fun x hx => okL_mem hys hx) (by omega)
              rcases Nat.lt_or_ge h.toNat th.length with hl | hl
              · exact okT_mono hb _ (hth _ (getD_mem _ hl))
              · rw [List.getD_eq_getElem?_getD, List.getElem?_eq_none hl]
                simp [okT, okL]
            · cases hr
          · cases hr
      · cases hr
        rw [okT]
        exact ⟨fun e => ⟨(ho.1 e).1, by have := (ho.1 e).2; omega⟩, okL_mono (by omega) _ hys⟩
theorem flL_heads {th : List T} (hth : ∀ x ∈ th, okT 2199023255552 x) (k : Int) (m : Nat) : ∀ (xs : List T) (i : Nat) (n : Int) (ys : List T), 0 ≤ n → n + dpL xs + 1 ≤ 1048576 → okL 2199023255552 xs → flL th k m xs i n = .ok ys → okL (hB (dpL xs)) ys
  | [], i, n, ys, _, _, _, hr => by
    rw [flL] at hr
    cases hr
    rw [okL]
    trivial
  | x :: xs, i, n, ys, h0, hn, ho, hr => by
    rw [flL] at hr
    rw [okL] at ho
    have hd : dp x ≤ dpL (x :: xs) ∧ dpL xs ≤ dpL (x :: xs) := by rw [dpL]; omega
    have hbd : 0 ≤ bd k m i ∧ bd k m i ≤ 1 := by rw [bd_bdn]; have := bdn_le k m i; omega
    split at hr
    · cases hr
    · rename_i y hy
      have h1 := fl_heads hth x _ y (by omega) (by omega) ho.1 hy
      split at hr
      · cases hr
      · rename_i zs hz
        have h2 := flL_heads hth k m xs (i + 1) n zs h0 (by omega) ho.2 hz
        cases hr
        rw [okL]
        exact ⟨okT_mono (hB_mono hd.1) _ h1, okL_mono (hB_mono hd.2) _ h2⟩
end
end Go.Proofs.Ytloeainlpcnhnaa
/-
  Contracts of package meta's small functions: mayNot, keep, and slices.ContainsFunc with mayNot. No statement is proved here.
-/
namespace Go.Proofs.Ytloeainlpcnhnaa
open Go.ChangeShapes Go.WideShapes Go.ChangeAt Go.RowKit
set_option linter.unusedVariables false
theorem mayNotC (t : T) (v : Value) (w : World) (hv : Rd w t v) : Calls Try.prog 81 #[v] w fun e w' => e = .returned (.bool (!myB t)) ∧ Below w.heap.size w w' := by
  obtain ⟨k, h, A, n, c, rfl⟩ := hv.full
  have hb : Below w.heap.size w (w.alloc (.cells #[.int .i64 k, .int .i64 h, .slice A n c] 26)) := (Below.refl _ _).alloc (Nat.le_refl _) _
  have HM := Lib.hid (myC t _ _ (Rd.keep hb _ _ hv))
  clear hv
  generalize myB t = r at *
  go_enter Try.func81, Try.ntmps81
  go_wp2_with fail
  refine HM.out.mono ?_
  rintro e w1 ⟨rfl, hb1⟩
  go_wp2_with fail
  go_ret
  exact ⟨rfl, hb.trans (hb1.mono hb.size)⟩
theorem indexC (xs : List T) (A : Option Addr) (n c : Nat) (w : World) (hn : xs.length = n) (hc : n ≤ c) (hm : c ≤ maxLen) (hx : ∀ i t, xs[i]? = some t → RdAt w A i t) :
    Calls Try.prog 99 #[.slice A n c, .func (.func 81) #[] #[]] w fun e w' => ∃ i : Int, e = .returned (.int .i64 i) ∧ decide (0 ≤ i) = (!xs.all myB) ∧ Below w.heap.size w w' := by
  unfold maxLen at hm
  have HN := Lib.hid hn; clear hn
  have HX := Lib.hid hx; clear hx
  go_enter Try.func99, Try.ntmps99
  go_wp2_with fail
  go_loopw [8] (fun i wr => ∃ (j : Nat), j ≤ n ∧ i = .int .i64 j ∧ Hid ((xs.drop j).all myB = xs.all myB) ∧ Below w.heap.size w wr) (fun i _ => n - (intOf i).toNat)
  case atStart => exact ⟨0, Nat.zero_le _, rfl, Lib.hid (by simp), Below.refl _ _⟩
  case round =>
    obtain ⟨j, hj, rfl, HS, hb⟩ := hrel
    by_cases hlt : j < n
    · obtain ⟨t, ht⟩ := at_of HN.out hlt
      obtain ⟨b, o, k2, h2, A2, n2, c2', rfl, c0, c1, c2, hr⟩ := (RdAt.keep hb (HX.out j t ht)).full
      have HT := Lib.hid ht; clear ht
      have hi0 : (0 : Int) ≤ j := by omega
      have hi1 : (j : Int) < n := by omega
      have HM := Lib.hid (mayNotC t _ _ hr)
      have HS' := HS.out
      rw [drop_at HT.out, List.all_cons] at HS'
      have HS := Lib.hid HS'; clear HS'
      generalize myB t = r at *
      go_wp2_with fail
      clear c0 c1 c2
      refine HM.out.mono ?_
      rintro e w1 ⟨rfl, hb1⟩
      have hbw : Below w.heap.size w w1 := hb.trans (hb1.mono hb.size)
      clear hb1 HM
      cases r
      · go_wp2_with fail
        go_ret
        exact ⟨_, rfl, by rw [← HS.out]; simp, hbw⟩
      · go_wp2_with fail
        go_roundw
        case rel => exact ⟨j + 1, by omega, by go_num, Lib.hid (by simpa using HS.out), hbw⟩
        case measure => simp [intOf]; omega
    · go_wp2_with fail
      go_ret
      exact ⟨_, rfl, by have := HS.out; rw [drop_all HN.out (by omega)] at this; rw [← this]; simp, hb⟩
theorem containsC (xs : List T) (A : Option Addr) (n c : Nat) (w : World) (hn : xs.length = n) (hc : n ≤ c) (hm : c ≤ maxLen) (hx : ∀ i t, xs[i]? = some t → RdAt w A i t) :
    Calls Try.prog 80 #[.slice A n c, .func (.func 81) #[] #[]] w fun e w' => e = .returned (.bool (!xs.all myB)) ∧ Below w.heap.size w w' := by
  have HI := Lib.hid (indexC xs A n c w hn hc hm hx)
  clear hx hn hc hm
  generalize (!xs.all myB) = r at *
  go_enter Try.func80, Try.ntmps80
  go_wp2_with fail
  refine HI.out.mono ?_
  rintro e w1 ⟨i, rfl, hi, hb1⟩
  go_wp2_with fail
  go_ret
  exact ⟨ret_bool (by first | exact hi | rfl | simp), hb1⟩
theorem Fr.putK {X : Nat → Prop} {w w' : World} (h : Fr X w w') {a : Addr} (ha : a.block < w.heap.size → X a.block) (v : Value) : Fr X w (w'.setCell a v) :=
  ⟨h.os, h.tape, h.output, by simpa [World.setCell] using h.size, fun k hk hx => (Below.heap_setCell _ _ _ _ (fun e => by subst e; exact hx (ha hk))).trans (h.block k hk hx)⟩
/-- a part's block -/
abbrev ptB (w : World) (pp : Nat) (A : Option Addr) (m c : Nat) (x : Nat) : Prop := Box w pp 112 #[.slice A m c, .int .i64 x]
theorem ptB.put {w : World} {pp : Nat} {A : Option Addr} {m c x : Nat} (h : ptB w pp A m c x) (y : Nat) : ptB (w.setCell ⟨pp, 1, none⟩ (.int .i64 y)) pp A m c y := Box.setAt h 1 _
theorem keepPC {pp : Nat} {A : Option Addr} {m cL c d : Nat} {k h : Int} {A2 : Option Addr} {n2 c2 : Nat} (w : World) (hp : ptB w pp A m cL c) (hc : c + d ≤ 4611686018427387904) :
    Calls Try.prog 103 #[.pointer (some ⟨pp, 0, none⟩), .agg #[.int .i64 k, .int .i64 h, .slice A2 n2 c2], .int .i64 (d : Nat)] w fun e w' =>
      e = .returned (if 4000 < c + d then .agg #[.int .i64 7, .int .i64 0, .slice none 0 0] else .agg #[.int .i64 k, .int .i64 h, .slice A2 n2 c2]) ∧ Fr (fun b => b = pp) w w' ∧ ptB w' pp A m cL (c + d) := by
  have lp := hp.lt
  obtain ⟨c0, c1⟩ := hp.two
  have f1 := hp.frozen 1
  have hw1 : IntKind.i64.wrap ((c : Int) + (d : Int)) = ((c + d : Nat) : Int) := by rw [wrapEq, wrap_small (by omega) (by omega)]; omega
  have xp := hp.put (c + d)
  have sz : (w.setCell ⟨pp, 1, none⟩ (.int .i64 ((c + d : Nat) : Int))).heap.size = w.heap.size := by simp [World.setCell]
  have hfr : Fr (fun b => b = pp) w (w.setCell ⟨pp, 1, none⟩ (.int .i64 ((c + d : Nat) : Int))) := (Fr.refl (fun b => b = pp) w).putK (fun _ => rfl) _
  have HP := Lib.hid xp; clear xp
  have HF := Lib.hid hfr; clear hfr
  have HFin : Hid (∀ o1 o2, Fr (fun b => b = pp) w (((w.setCell ⟨pp, 1, none⟩ (.int .i64 ((c + d : Nat) : Int))).alloc o1).alloc o2) ∧ ptB (((w.setCell ⟨pp, 1, none⟩ (.int .i64 ((c + d : Nat) : Int))).alloc o1).alloc o2) pp A m cL (c + d)) := Lib.hid fun o1 o2 =>
    ⟨(HF.out.then ((Below.refl _ _).alloc (Nat.le_refl _) _)).then ((Below.refl _ _).alloc (Nat.le_refl _) _), Box.alloc (Box.alloc HP.out _) _⟩
  clear hp HF HP hc
  by_cases hgt : 4000 < c + d
  · have hd : decide ((4000 : Int) < ((c + d : Nat) : Int)) = true := by simp; omega
    rw [if_pos hgt]
    clear hgt
    generalize ((c + d : Nat) : Int) = s at *
    go_enter Try.func103, Try.ntmps103
    go_wp2_with fail
    refine bodyPost_ret (v := .agg #[.int .i64 7, .int .i64 0, .slice none 0 0]) (by simp [results, Try.results103, go_sem]) rfl ?_
    exact ⟨rfl, HFin.out _ _⟩
  · have hd : decide ((4000 : Int) < ((c + d : Nat) : Int)) = false := by simp; omega
    rw [if_neg hgt]
    clear hgt
    generalize ((c + d : Nat) : Int) = s at *
    go_enter Try.func103, Try.ntmps103
    go_wp2_with fail
    refine bodyPost_ret (v := .agg #[.int .i64 k, .int .i64 h, .slice A2 n2 c2]) (by simp [results, Try.results103, go_sem]) rfl ?_
    exact ⟨rfl, HFin.out _ _⟩
end Go.Proofs.Ytloeainlpcnhnaa
/-
  Contracts of package meta's each, for each of the closures that it is called with. No statement is proved here.
-/
namespace Go.Proofs.Ytloeainlpcnhnaa
open Go.ChangeShapes Go.WideShapes Go.ChangeAt Go.RowKit
set_option linter.unusedVariables false
/-- how a closure ends: a term and no error, or noughts and an error -/
def CEn (X : Nat → Prop) (St : Nat → World → Prop) (w : World) (r : Res) (e : Ending) (w' : World) : Prop :=
  match r with
  | .error ec => e = .returned (.tuple #[zT, .int .i64 ec]) ∧ ec ≠ 0 ∧ Fr X w w'
  | .ok (t, c) => ∃ k h A n cc, e = .returned (.tuple #[.agg #[.int .i64 k, .int .i64 h, .slice A n cc], .int .i64 0]) ∧ RX (fun b => b < w.heap.size) w' t (.agg #[.int .i64 k, .int .i64 h, .slice A n cc]) ∧ Fr X w w' ∧ St c w'
/-- how each ends -/
def GEn (X : Nat → Prop) (St : Nat → World → Prop) (w : World) (r : Except Int (List T × Nat)) (e : Ending) (w' : World) : Prop :=
  match r with
  | .error ec => e = .returned (.tuple #[.slice none 0 0, .int .i64 ec]) ∧ ec ≠ 0 ∧ Fr X w w'
  | .ok (ys, c) => ∃ A n cc, e = .returned (.tuple #[.slice A n cc, .int .i64 0]) ∧ RXL (fun b => b < w.heap.size) w' ys A n cc ∧ Fr X w w' ∧ St c w'
/-- what holds at the head of each's loop -/
structure MeI (X : Nat → Prop) (St : Nat → World → Prop) (g : Nat → T → Nat → Res) (xs : List T) (c0 M : Nat) (w : World) (n j : Nat) (wr : World) (cs : Array Value) (ys : List T) (c1 : Nat) : Prop where
  row : Box wr w.heap.size 26 cs
  size : cs.size = n * 3
  len : ys.length = j
  kids : Kids wr (fun b => w.heap.size < b) cs ys
  fr : Fr X w wr
  st : St c1 wr
  lo : c1 + 4000 * ndL (xs.drop j) ≤ M
  eq : eaL g xs 0 c0 = contL ys (eaL g (xs.drop j) j c1)
/-- a list of numbers: what each becomes, by its place -/
def eaI (g : Nat → Int → Nat → Res) : List Int → Nat → Nat → Except Int (List T × Nat)
  | [], _, c => .ok ([], c)
  | x :: xs, i, c =>
    match g i x c with
    | .error e => .error e
    | .ok (y, c1) =>
      match eaI g xs (i + 1) c1 with
      | .error e => .error e
      | .ok (ys, c2) => .ok (y :: ys, c2)
structure MiI (X : Nat → Prop) (St : Nat → World → Prop) (g : Nat → Int → Nat → Res) (xs : List Int) (c0 : Nat) (w : World) (n j : Nat) (wr : World) (cs : Array Value) (ys : List T) (c1 : Nat) : Prop where
  row : Box wr w.heap.size 26 cs
  size : cs.size = n * 3
  len : ys.length = j
  kids : Kids wr (fun b => w.heap.size < b) cs ys
  fr : Fr X w wr
  st : St c1 wr
  eq : eaI g xs 0 c0 = contL ys (eaI g (xs.drop j) j c1)
theorem Kids.rxlF {w w0 : World} {cs : Array Value} {ys : List T} {n : Nat} {ty : TypeId} (hk : Kids w (fun b => w0.heap.size < b) cs ys) (hb : Box w w0.heap.size ty cs) (hl : ys.length = n) (hm : n ≤ 3518437208780) (hs : cs.size = n * 3) : RXL (fun b => b < w0.heap.size) w ys (some ⟨w0.heap.size, 0, none⟩) n n := by
  refine ⟨hl, Nat.le_refl _, by unfold maxLen; omega, fun i t ht => ?_⟩
  obtain ⟨k, h, A, n', c, e0, e1, e2, hr⟩ := hk i t ht
  refine ⟨w0.heap.size, 0, _, _, _, rfl, Nat.lt_irrefl _, ?_, ?_, ?_, RdF.moveX (fun b hb _ => ⟨by omega, rfl⟩) _ _ hr⟩
  · rw [Nat.zero_add, hb.cell]; exact e0
  · rw [Nat.zero_add, hb.cell]; exact e1
  · rw [Nat.zero_add, hb.cell]; exact e2
set_option maxRecDepth 100000 in
set_option maxHeartbeats 4000000 in
theorem eachFC {X : Nat → Prop} {St : Nat → World → Prop} {p1 p2 p3 : Value} {wB w : World} {A : Option Addr} {n c c0 M : Nat} (xs : List T) (g : Nat → T → Nat → Res) (hb : Below wB.heap.size wB w) (hn : xs.length = n) (hc : n ≤ c) (hm : c ≤ maxLen) (hn40 : n ≤ 3518437208780) (hx : ∀ i t, xs[i]? = some t → RdAt wB A i t)
    (hX : ∀ b, X b → wB.heap.size ≤ b ∧ b < w.heap.size) (hSt : ∀ c W W', W.heap.size ≤ W'.heap.size → (∀ b, X b → W'.heap[b]? = W.heap[b]?) → St c W → St c W') (h0 : St c0 w) (hlo : c0 + 4000 * ndL xs ≤ M) (hg : ∀ i t c t1 c1, xs[i]? = some t → g i t c = .ok (t1, c1) → c1 ≤ c + 4000 * nd t)
    (HF : ∀ (i : Nat) (t : T) (v : Value) (W : World) (c : Nat), xs[i]? = some t → Rd wB t v → Fr X w W → St c W → c + 4000 * ndL (xs.drop i) ≤ M → Calls Try.prog 101 #[.int .i64 i, v, p1, p2, p3] W (CEn X St W (g i t c))) :
    Calls Try.prog 55 #[.slice A n c, .func (.func 101) #[] #[p1, p2, p3]] w (GEn X St w (eaL g xs 0 c0)) := by
  have hMM := hm
  unfold maxLen at hm
  have HN := Lib.hid hn; clear hn
  have HX := Lib.hid hx; clear hx
  have HF' := Lib.hid HF; clear HF
  have HST := Lib.hid hSt; clear hSt
  have HXB := Lib.hid hX; clear hX
  have H0 := Lib.hid h0; clear h0
  have HB := Lib.hid hb; clear hb
  have HG := Lib.hid hg; clear hg
  have HLO := Lib.hid hlo; clear hlo
  obtain ⟨i0, hi, hz0, hz1, hz2⟩ := info_parts infoTerm
  have hmk : ∀ W : World, (Instr.makeSlice 24 (.int .i64 (n : Int)) (.int .i64 (n : Int))).run Try.prog W = .ok (.slice (some ⟨W.heap.size, 0, none⟩) n n) (W.alloc (.cells (madeCells #[.int .i64 0, .int .i64 0, .slice none 0 0] (n * 3)) 26)) := by
    intro W
    have := run_make W 24 26 i0 _ Try.underlying24 hi hz0 .i64 .i64 (n : Int) (n : Int) (by omega) (Int.le_refl _) (by rw [hz2]; omega) (by omega)
    rw [hz1] at this
    simpa [Value.cells] using this
  clear hi hz0 hz1 hz2
  by_cases hn0 : n = 0
  · subst hn0
    have hxs : xs = [] := List.length_eq_zero_iff.1 HN.out
    go_enter Try.func55, Try.ntmps55
    go_wp2_with fail
    go_ret2
    rw [hxs, eaL]
    exact ⟨none, 0, 0, rfl, ⟨rfl, Nat.le_refl _, Nat.zero_le _, fun i t ht => by simp at ht⟩, Fr.refl _ _, H0.out⟩
  · have e0 : ((n : Int) == 0) = false := by rw [beq_eq_false_iff_ne]; omega
    go_enter Try.func55, Try.ntmps55
    go_wp2_with fail
    have hcs := size_madeCells #[.int .i64 0, .int .i64 0, .slice none 0 0] (n * 3)
    generalize madeCells #[.int .i64 0, .int .i64 0, .slice none 0 0] (n * 3) = cs0 at *
    have hb0 : Below w.heap.size w (w.alloc (.cells cs0 26)) := (Below.refl _ w).alloc (Nat.le_refl _) _
    have x3 := Box.new w 26 cs0
    have hI : MeI X St g xs c0 M w n 0 (w.alloc (.cells cs0 26)) cs0 [] c0 := ⟨x3, hcs, rfl, fun i t ht => by simp at ht, Fr.below hb0, HST.out _ _ _ hb0.size (fun b hxb => hb0.block b (HXB.out b hxb).2) H0.out, by rw [List.drop_zero]; exact HLO.out, by rw [List.drop_zero, contL_nil]⟩
    have HI := Lib.hid hI; clear hI hcs hmk hb0 x3 H0
    go_loopw [19] (fun i wr => ∃ (j : Nat) (cs : Array Value) (ys : List T) (c1 : Nat), j ≤ n ∧ i = .int .i64 j ∧ Hid (MeI X St g xs c0 M w n j wr cs ys c1)) (fun i _ => n - (intOf i).toNat)
    case atStart => exact ⟨0, cs0, [], c0, Nat.zero_le _, rfl, HI⟩
    case round =>
      clear HI
      obtain ⟨j, cs, ys, c1, hj, rfl, HI⟩ := hrel
      by_cases hlt : j < n
      · obtain ⟨t, ht⟩ := at_of HN.out hlt
        have hBr : Below wB.heap.size wB wr := HB.out.trans ((HI.out.fr.to_below (fun i e => (HXB.out i e).1) HB.out.size))
        obtain ⟨b, o, k2, h2, A2, n2, c2', rfl, c0', c1', c2'', hr⟩ := (HX.out j t ht).full
        have q0 := (hBr.cell (cell_lt c0')).trans c0'
        have q1 := (hBr.cell (cell_lt c1')).trans c1'
        have q2 := (hBr.cell (cell_lt c2'')).trans c2''
        clear c0' c1' c2''
        have HR := Lib.hid hr; clear hr
        have HT := Lib.hid ht; clear ht hBr
        have heq := HI.out.eq
        rw [drop_at HT.out, eaL] at heq
        have HEQ := Lib.hid heq; clear heq
        have hi0 : (0 : Int) ≤ j := by omega
        have hi1 : (j : Int) < n := by omega
        go_wp2_with fail
        have hbA : Below wr.heap.size wr (wr.alloc (.cells #[.int .i64 k2, .int .i64 h2, .slice A2 n2 c2'] 26)) := (Below.refl _ wr).alloc (Nat.le_refl _) _
        generalize wr.alloc (.cells #[.int .i64 k2, .int .i64 h2, .slice A2 n2 c2'] 26) = Wa at *
        clear q0 q1 q2
        have lX : ∀ b, X b → b < wr.heap.size := fun b e => Nat.lt_of_lt_of_le (HXB.out b e).2 HI.out.fr.size
        have hcall := HF'.out j t _ Wa c1 HT.out HR.out (HI.out.fr.then hbA) (HST.out _ _ _ hbA.size (fun b e => hbA.block b (lX b e)) HI.out.st) HI.out.lo
        cases hres : g j t c1 with
        | error ec =>
          rw [hres] at hcall
          refine hcall.mono ?_
          rintro e w1 ⟨rfl, hne, hfr⟩
          have hne' : (ec != 0) = true := by simpa using hne
          have HE : Hid (GEn X St w (eaL g xs 0 c0) (.returned (.tuple #[.slice none 0 0, .int .i64 ec])) (w1.alloc (.cells #[.int .i64 0, .int .i64 0, .slice none 0 0] 26))) := Lib.hid (by
            rw [HEQ.out, hres]
            exact ⟨rfl, hne, (((HI.out.fr.then hbA).trans hfr fun _ _ e => e).then ((Below.refl _ _).alloc (Nat.le_refl _) _))⟩)
          clear hres hcall hfr hbA hne
          go_wp2_with fail
          go_ret2
          exact HE.out
        | ok p =>
          obtain ⟨t', c2⟩ := p
          rw [hres] at hcall
          refine hcall.mono ?_
          rintro e w1 ⟨k3, h3, A3, n3, c3, rfl, hrx, hfr, hst⟩
          have s1 := HI.out.fr.size
          have s2 := hbA.size
          have s3 := hfr.size
          have lrow := HI.out.row.lt
          have nrow : ¬ X w.heap.size := fun e => by have := (HXB.out _ e).2; omega
          have z3 : Box w1 w.heap.size 26 cs := (HI.out.row.keep hbA lrow).fr hfr nrow
          have hfr2 : Fr X wr w1 := (Fr.below (X := X) hbA).trans hfr fun _ _ e => e
          obtain ⟨u0, hu0⟩ := z3.there (i := j * 3) (by rw [HI.out.size]; omega)
          obtain ⟨u1, hu1⟩ := z3.there (i := j * 3 + 1) (by rw [HI.out.size]; omega)
          obtain ⟨u2, hu2⟩ := z3.there (i := j * 3 + 2) (by rw [HI.out.size]; omega)
          have f0 := z3.frozen (j * 3)
          have f1 := z3.frozen (j * 3 + 1)
          have f2 := z3.frozen (j * 3 + 2)
          have lz3 := z3.lt
          have HZ := Lib.hid z3; clear z3
          have HRX := Lib.hid hrx; clear hrx
          have HFR := Lib.hid hfr2; clear hfr2 hfr
          have HS2 := Lib.hid hst; clear hst
          have HRES := Lib.hid hres; clear hres hcall hbA
          go_wp2_with fail
          go_roundw
          case rel =>
            have hset : ∀ g, g ≠ w.heap.size → g < w1.heap.size → (((((w1.setCell ⟨w.heap.size, j * 3, none⟩ (.int .i64 k3)).setCell ⟨w.heap.size, j * 3 + 1, none⟩ (.int .i64 h3)).setCell ⟨w.heap.size, j * 3 + 2, none⟩ (.slice A3 n3 c3))).alloc (.cells #[.int .i64 k3, .int .i64 h3, .slice A3 n3 c3] 26)).heap[g]? = w1.heap[g]? := fun g hg hg' => by
              rw [Below.heap_alloc _ _ _ (by simpa using hg'), Below.heap_setCell _ _ _ _ hg, Below.heap_setCell _ _ _ _ hg, Below.heap_setCell _ _ _ _ hg]
            have hfw : Fr X w w1 := HI.out.fr.trans HFR.out fun _ _ e => e
            have hsz : w1.heap.size ≤ (((((w1.setCell ⟨w.heap.size, j * 3, none⟩ (.int .i64 k3)).setCell ⟨w.heap.size, j * 3 + 1, none⟩ (.int .i64 h3)).setCell ⟨w.heap.size, j * 3 + 2, none⟩ (.slice A3 n3 c3))).alloc (.cells #[.int .i64 k3, .int .i64 h3, .slice A3 n3 c3] 26)).heap.size := by simp [World.setCell]
            refine ⟨j + 1, _, ys ++ [t'], c2, by omega, by go_num, Lib.hid ⟨(((HZ.out.setAt _ _).setAt _ _).setAt _ _).alloc _, by simp [HI.out.size], by simp [HI.out.len], ?_, ?_, ?_, ?_, ?_⟩⟩
            · refine Kids.snoc (HI.out.kids.moveX fun b hb hl => ⟨hb, HFR.out.block b hl fun e => by have := (HXB.out b e).2; omega⟩) HI.out.len (fun b hb hl => hset b (by omega) hl) ?_ (by rw [HI.out.size]; omega)
              exact RdF.moveX (fun b hb hl => ⟨by omega, hset b (by omega) hl⟩) _ _ HRX.out
            · exact ⟨hfw.os, hfw.tape, hfw.output, by omega, fun b hb e => (hset b (by omega) (by omega)).trans (hfw.block b hb e)⟩
            · exact HST.out _ _ _ hsz (fun b e => hset b (by have := (HXB.out b e).2; omega) (by have := (HXB.out b e).2; omega)) HS2.out
            · have h1 := HG.out j t c1 t' c2 HT.out HRES.out
              have h2 := HI.out.lo
              rw [drop_at HT.out, ndL] at h2
              omega
            · rw [HEQ.out, HRES.out]
              simp only
              cases eaL g (xs.drop (j + 1)) (j + 1) c2 with
              | error e => rfl
              | ok q => obtain ⟨zs, c4⟩ := q; simp [contL]
          case measure => simp [intOf]; omega
      · obtain rfl : j = n := by omega
        have heq := HI.out.eq
        rw [drop_all HN.out (by omega), eaL] at heq
        have HEQ := Lib.hid heq; clear heq
        go_wp2_with fail
        go_ret2
        rw [HEQ.out]
        simp only [contL, List.append_nil]
        refine ⟨_, _, _, rfl, Kids.rxlF HI.out.kids HI.out.row HI.out.len hn40 HI.out.size, HI.out.fr, HI.out.st⟩
end Go.Proofs.Ytloeainlpcnhnaa
/-
  Contracts of package meta's each, for others of the closures that it is called with. No statement is proved here.
-/
namespace Go.Proofs.Ytloeainlpcnhnaa
open Go.ChangeShapes Go.WideShapes Go.ChangeAt Go.RowKit
set_option linter.unusedVariables false
end Go.Proofs.Ytloeainlpcnhnaa
/-
  Contracts of package meta's each, for others of the closures that it is called with. No statement is proved here.
-/
namespace Go.Proofs.Ytloeainlpcnhnaa
open Go.ChangeShapes Go.WideShapes Go.ChangeAt Go.RowKit
set_option linter.unusedVariables false
set_option maxRecDepth 100000 in
set_option maxHeartbeats 4000000 in
theorem eachBC {X : Nat → Prop} {St : Nat → World → Prop} {p1 p2 : Value} {wB w : World} {A : Option Addr} {n c c0 M : Nat} (xs : List T) (g : Nat → T → Nat → Res) (hb : Below wB.heap.size wB w) (hn : xs.length = n) (hc : n ≤ c) (hm : c ≤ maxLen) (hn40 : n ≤ 3518437208780) (hx : ∀ i t, xs[i]? = some t → RdAt wB A i t)
    (hX : ∀ b, X b → wB.heap.size ≤ b ∧ b < w.heap.size) (hSt : ∀ c W W', W.heap.size ≤ W'.heap.size → (∀ b, X b → W'.heap[b]? = W.heap[b]?) → St c W → St c W') (h0 : St c0 w) (hlo : c0 + 4000 * ndL xs ≤ M) (hg : ∀ i t c t1 c1, xs[i]? = some t → g i t c = .ok (t1, c1) → c1 ≤ c + 4000 * nd t)
    (HF : ∀ (i : Nat) (t : T) (v : Value) (W : World) (c : Nat), xs[i]? = some t → Rd wB t v → Fr X w W → St c W → c + 4000 * ndL (xs.drop i) ≤ M → Calls Try.prog 113 #[.int .i64 i, v, p1, p2] W (CEn X St W (g i t c))) :
    Calls Try.prog 55 #[.slice A n c, .func (.func 113) #[] #[p1, p2]] w (GEn X St w (eaL g xs 0 c0)) := by
  have hMM := hm
  unfold maxLen at hm
  have HN := Lib.hid hn; clear hn
  have HX := Lib.hid hx; clear hx
  have HF' := Lib.hid HF; clear HF
  have HST := Lib.hid hSt; clear hSt
  have HXB := Lib.hid hX; clear hX
  have H0 := Lib.hid h0; clear h0
  have HB := Lib.hid hb; clear hb
  have HG := Lib.hid hg; clear hg
  have HLO := Lib.hid hlo; clear hlo
  obtain ⟨i0, hi, hz0, hz1, hz2⟩ := info_parts infoTerm
  have hmk : ∀ W : World, (Instr.makeSlice 24 (.int .i64 (n : Int)) (.int .i64 (n : Int))).run Try.prog W = .ok (.slice (some ⟨W.heap.size, 0, none⟩) n n) (W.alloc (.cells (madeCells #[.int .i64 0, .int .i64 0, .slice none 0 0] (n * 3)) 26)) := by
    intro W
    have := run_make W 24 26 i0 _ Try.underlying24 hi hz0 .i64 .i64 (n : Int) (n : Int) (by omega) (Int.le_refl _) (by rw [hz2]; omega) (by omega)
    rw [hz1] at this
    simpa [Value.cells] using this
  clear hi hz0 hz1 hz2
  by_cases hn0 : n = 0
  · subst hn0
    have hxs : xs = [] := List.length_eq_zero_iff.1 HN.out
    go_enter Try.func55, Try.ntmps55
    go_wp2_with fail
    go_ret2
    rw [hxs, eaL]
    exact ⟨none, 0, 0, rfl, ⟨rfl, Nat.le_refl _, Nat.zero_le _, fun i t ht => by simp at ht⟩, Fr.refl _ _, H0.out⟩
  · have e0 : ((n : Int) == 0) = false := by rw [beq_eq_false_iff_ne]; omega
    go_enter Try.func55, Try.ntmps55
    go_wp2_with fail
    have hcs := size_madeCells #[.int .i64 0, .int .i64 0, .slice none 0 0] (n * 3)
    generalize madeCells #[.int .i64 0, .int .i64 0, .slice none 0 0] (n * 3) = cs0 at *
    have hb0 : Below w.heap.size w (w.alloc (.cells cs0 26)) := (Below.refl _ w).alloc (Nat.le_refl _) _
    have x3 := Box.new w 26 cs0
    have hI : MeI X St g xs c0 M w n 0 (w.alloc (.cells cs0 26)) cs0 [] c0 := ⟨x3, hcs, rfl, fun i t ht => by simp at ht, Fr.below hb0, HST.out _ _ _ hb0.size (fun b hxb => hb0.block b (HXB.out b hxb).2) H0.out, by rw [List.drop_zero]; exact HLO.out, by rw [List.drop_zero, contL_nil]⟩
    have HI := Lib.hid hI; clear hI hcs hmk hb0 x3 H0
    go_loopw [19] (fun i wr => ∃ (j : Nat) (cs : Array Value) (ys : List T) (c1 : Nat), j ≤ n ∧ i = .int .i64 j ∧ Hid (MeI X St g xs c0 M w n j wr cs ys c1)) (fun i _ => n - (intOf i).toNat)
    case atStart => exact ⟨0, cs0, [], c0, Nat.zero_le _, rfl, HI⟩
    case round =>
      clear HI
      obtain ⟨j, cs, ys, c1, hj, rfl, HI⟩ := hrel
      by_cases hlt : j < n
      · obtain ⟨t, ht⟩ := at_of HN.out hlt
        have hBr : Below wB.heap.size wB wr := HB.out.trans ((HI.out.fr.to_below (fun i e => (HXB.out i e).1) HB.out.size))
        obtain ⟨b, o, k2, h2, A2, n2, c2', rfl, c0', c1', c2'', hr⟩ := (HX.out j t ht).full
        have q0 := (hBr.cell (cell_lt c0')).trans c0'
        have q1 := (hBr.cell (cell_lt c1')).trans c1'
        have q2 := (hBr.cell (cell_lt c2'')).trans c2''
        clear c0' c1' c2''
        have HR := Lib.hid hr; clear hr
        have HT := Lib.hid ht; clear ht hBr
        have heq := HI.out.eq
        rw [drop_at HT.out, eaL] at heq
        have HEQ := Lib.hid heq; clear heq
        have hi0 : (0 : Int) ≤ j := by omega
        have hi1 : (j : Int) < n := by omega
        go_wp2_with fail
        have hbA : Below wr.heap.size wr (wr.alloc (.cells #[.int .i64 k2, .int .i64 h2, .slice A2 n2 c2'] 26)) := (Below.refl _ wr).alloc (Nat.le_refl _) _
        generalize wr.alloc (.cells #[.int .i64 k2, .int .i64 h2, .slice A2 n2 c2'] 26) = Wa at *
        clear q0 q1 q2
        have lX : ∀ b, X b → b < wr.heap.size := fun b e => Nat.lt_of_lt_of_le (HXB.out b e).2 HI.out.fr.size
        have hcall := HF'.out j t _ Wa c1 HT.out HR.out (HI.out.fr.then hbA) (HST.out _ _ _ hbA.size (fun b e => hbA.block b (lX b e)) HI.out.st) HI.out.lo
        cases hres : g j t c1 with
        | error ec =>
          rw [hres] at hcall
          refine hcall.mono ?_
          rintro e w1 ⟨rfl, hne, hfr⟩
          have hne' : (ec != 0) = true := by simpa using hne
          have HE : Hid (GEn X St w (eaL g xs 0 c0) (.returned (.tuple #[.slice none 0 0, .int .i64 ec])) (w1.alloc (.cells #[.int .i64 0, .int .i64 0, .slice none 0 0] 26))) := Lib.hid (by
            rw [HEQ.out, hres]
            exact ⟨rfl, hne, (((HI.out.fr.then hbA).trans hfr fun _ _ e => e).then ((Below.refl _ _).alloc (Nat.le_refl _) _))⟩)
          clear hres hcall hfr hbA hne
          go_wp2_with fail
          go_ret2
          exact HE.out
        | ok p =>
          obtain ⟨t', c2⟩ := p
          rw [hres] at hcall
          refine hcall.mono ?_
          rintro e w1 ⟨k3, h3, A3, n3, c3, rfl, hrx, hfr, hst⟩
          have s1 := HI.out.fr.size
          have s2 := hbA.size
          have s3 := hfr.size
          have lrow := HI.out.row.lt
          have nrow : ¬ X w.heap.size := fun e => by have := (HXB.out _ e).2; omega
          have z3 : Box w1 w.heap.size 26 cs := (HI.out.row.keep hbA lrow).fr hfr nrow
          have hfr2 : Fr X wr w1 := (Fr.below (X := X) hbA).trans hfr fun _ _ e => e
          obtain ⟨u0, hu0⟩ := z3.there (i := j * 3) (by rw [HI.out.size]; omega)
          obtain ⟨u1, hu1⟩ := z3.there (i := j * 3 + 1) (by rw [HI.out.size]; omega)
          obtain ⟨u2, hu2⟩ := z3.there (i := j * 3 + 2) (by rw [HI.out.size]; omega)
          have f0 := z3.frozen (j * 3)
          have f1 := z3.frozen (j * 3 + 1)
          have f2 := z3.frozen (j * 3 + 2)
          have lz3 := z3.lt
          have HZ := Lib.hid z3; clear z3
          have HRX := Lib.hid hrx; clear hrx
          have HFR := Lib.hid hfr2; clear hfr2 hfr
          have HS2 := Lib.hid hst; clear hst
          have HRES := Lib.hid hres; clear hres hcall hbA
          go_wp2_with fail
          go_roundw
          case rel =>
            have hset : ∀ g, g ≠ w.heap.size → g < w1.heap.size → (((((w1.setCell ⟨w.heap.size, j * 3, none⟩ (.int .i64 k3)).setCell ⟨w.heap.size, j * 3 + 1, none⟩ (.int .i64 h3)).setCell ⟨w.heap.size, j * 3 + 2, none⟩ (.slice A3 n3 c3))).alloc (.cells #[.int .i64 k3, .int .i64 h3, .slice A3 n3 c3] 26)).heap[g]? = w1.heap[g]? := fun g hg hg' => by
              rw [Below.heap_alloc _ _ _ (by simpa using hg'), Below.heap_setCell _ _ _ _ hg, Below.heap_setCell _ _ _ _ hg, Below.heap_setCell _ _ _ _ hg]
            have hfw : Fr X w w1 := HI.out.fr.trans HFR.out fun _ _ e => e
            have hsz : w1.heap.size ≤ (((((w1.setCell ⟨w.heap.size, j * 3, none⟩ (.int .i64 k3)).setCell ⟨w.heap.size, j * 3 + 1, none⟩ (.int .i64 h3)).setCell ⟨w.heap.size, j * 3 + 2, none⟩ (.slice A3 n3 c3))).alloc (.cells #[.int .i64 k3, .int .i64 h3, .slice A3 n3 c3] 26)).heap.size := by simp [World.setCell]
            refine ⟨j + 1, _, ys ++ [t'], c2, by omega, by go_num, Lib.hid ⟨(((HZ.out.setAt _ _).setAt _ _).setAt _ _).alloc _, by simp [HI.out.size], by simp [HI.out.len], ?_, ?_, ?_, ?_, ?_⟩⟩
            · refine Kids.snoc (HI.out.kids.moveX fun b hb hl => ⟨hb, HFR.out.block b hl fun e => by have := (HXB.out b e).2; omega⟩) HI.out.len (fun b hb hl => hset b (by omega) hl) ?_ (by rw [HI.out.size]; omega)
              exact RdF.moveX (fun b hb hl => ⟨by omega, hset b (by omega) hl⟩) _ _ HRX.out
            · exact ⟨hfw.os, hfw.tape, hfw.output, by omega, fun b hb e => (hset b (by omega) (by omega)).trans (hfw.block b hb e)⟩
            · exact HST.out _ _ _ hsz (fun b e => hset b (by have := (HXB.out b e).2; omega) (by have := (HXB.out b e).2; omega)) HS2.out
            · have h1 := HG.out j t c1 t' c2 HT.out HRES.out
              have h2 := HI.out.lo
              rw [drop_at HT.out, ndL] at h2
              omega
            · rw [HEQ.out, HRES.out]
              simp only
              cases eaL g (xs.drop (j + 1)) (j + 1) c2 with
              | error e => rfl
              | ok q => obtain ⟨zs, c4⟩ := q; simp [contL]
          case measure => simp [intOf]; omega
      · obtain rfl : j = n := by omega
        have heq := HI.out.eq
        rw [drop_all HN.out (by omega), eaL] at heq
        have HEQ := Lib.hid heq; clear heq
        go_wp2_with fail
        go_ret2
        rw [HEQ.out]
        simp only [contL, List.append_nil]
        refine ⟨_, _, _, rfl, Kids.rxlF HI.out.kids HI.out.row HI.out.len hn40 HI.out.size, HI.out.fr, HI.out.st⟩
set_option maxRecDepth 100000 in
set_option maxHeartbeats 4000000 in
theorem eachCC {X : Nat → Prop} {St : Nat → World → Prop} {p1 p2 : Value} {wB w : World} {A : Option Addr} {n c c0 M : Nat} (xs : List T) (g : Nat → T → Nat → Res) (hb : Below wB.heap.size wB w) (hn : xs.length = n) (hc : n ≤ c) (hm : c ≤ maxLen) (hn40 : n ≤ 3518437208780) (hx : ∀ i t, xs[i]? = some t → RdAt wB A i t)
    (hX : ∀ b, X b → wB.heap.size ≤ b ∧ b < w.heap.size) (hSt : ∀ c W W', W.heap.size ≤ W'.heap.size → (∀ b, X b → W'.heap[b]? = W.heap[b]?) → St c W → St c W') (h0 : St c0 w) (hlo : c0 + 4000 * ndL xs ≤ M) (hg : ∀ i t c t1 c1, xs[i]? = some t → g i t c = .ok (t1, c1) → c1 ≤ c + 4000 * nd t)
    (HF : ∀ (i : Nat) (t : T) (v : Value) (W : World) (c : Nat), xs[i]? = some t → Rd wB t v → Fr X w W → St c W → c + 4000 * ndL (xs.drop i) ≤ M → Calls Try.prog 56 #[.int .i64 i, v, p1, p2] W (CEn X St W (g i t c))) :
    Calls Try.prog 55 #[.slice A n c, .func (.func 56) #[] #[p1, p2]] w (GEn X St w (eaL g xs 0 c0)) := by
  have hMM := hm
  unfold maxLen at hm
  have HN := Lib.hid hn; clear hn
  have HX := Lib.hid hx; clear hx
  have HF' := Lib.hid HF; clear HF
  have HST := Lib.hid hSt; clear hSt
  have HXB := Lib.hid hX; clear hX
  have H0 := Lib.hid h0; clear h0
  have HB := Lib.hid hb; clear hb
  have HG := Lib.hid hg; clear hg
  have HLO := Lib.hid hlo; clear hlo
  obtain ⟨i0, hi, hz0, hz1, hz2⟩ := info_parts infoTerm
  have hmk : ∀ W : World, (Instr.makeSlice 24 (.int .i64 (n : Int)) (.int .i64 (n : Int))).run Try.prog W = .ok (.slice (some ⟨W.heap.size, 0, none⟩) n n) (W.alloc (.cells (madeCells #[.int .i64 0, .int .i64 0, .slice none 0 0] (n * 3)) 26)) := by
    intro W
    have := run_make W 24 26 i0 _ Try.underlying24 hi hz0 .i64 .i64 (n : Int) (n : Int) (by omega) (Int.le_refl _) (by rw [hz2]; omega) (by omega)
    rw [hz1] at this
    simpa [Value.cells] using this
  clear hi hz0 hz1 hz2
  by_cases hn0 : n = 0
  · subst hn0
    have hxs : xs = [] := List.length_eq_zero_iff.1 HN.out
    go_enter Try.func55, Try.ntmps55
    go_wp2_with fail
    go_ret2
    rw [hxs, eaL]
    exact ⟨none, 0, 0, rfl, ⟨rfl, Nat.le_refl _, Nat.zero_le _, fun i t ht => by simp at ht⟩, Fr.refl _ _, H0.out⟩
  · have e0 : ((n : Int) == 0) = false := by rw [beq_eq_false_iff_ne]; omega
    go_enter Try.func55, Try.ntmps55
    go_wp2_with fail
    have hcs := size_madeCells #[.int .i64 0, .int .i64 0, .slice none 0 0] (n * 3)
    generalize madeCells #[.int .i64 0, .int .i64 0, .slice none 0 0] (n * 3) = cs0 at *
    have hb0 : Below w.heap.size w (w.alloc (.cells cs0 26)) := (Below.refl _ w).alloc (Nat.le_refl _) _
    have x3 := Box.new w 26 cs0
    have hI : MeI X St g xs c0 M w n 0 (w.alloc (.cells cs0 26)) cs0 [] c0 := ⟨x3, hcs, rfl, fun i t ht => by simp at ht, Fr.below hb0, HST.out _ _ _ hb0.size (fun b hxb => hb0.block b (HXB.out b hxb).2) H0.out, by rw [List.drop_zero]; exact HLO.out, by rw [List.drop_zero, contL_nil]⟩
    have HI := Lib.hid hI; clear hI hcs hmk hb0 x3 H0
    go_loopw [19] (fun i wr => ∃ (j : Nat) (cs : Array Value) (ys : List T) (c1 : Nat), j ≤ n ∧ i = .int .i64 j ∧ Hid (MeI X St g xs c0 M w n j wr cs ys c1)) (fun i _ => n - (intOf i).toNat)
    case atStart => exact ⟨0, cs0, [], c0, Nat.zero_le _, rfl, HI⟩
    case round =>
      clear HI
      obtain ⟨j, cs, ys, c1, hj, rfl, HI⟩ := hrel
      by_cases hlt : j < n
      · obtain ⟨t, ht⟩ := at_of HN.out hlt
        have hBr : Below wB.heap.size wB wr := HB.out.trans ((HI.out.fr.to_below (fun i e => (HXB.out i e).1) HB.out.size))
        obtain ⟨b, o, k2, h2, A2, n2, c2', rfl, c0', c1', c2'', hr⟩ := (HX.out j t ht).full
        have q0 := (hBr.cell (cell_lt c0')).trans c0'
        have q1 := (hBr.cell (cell_lt c1')).trans c1'
        have q2 := (hBr.cell (cell_lt c2'')).trans c2''
        clear c0' c1' c2''
        have HR := Lib.hid hr; clear hr
        have HT := Lib.hid ht; clear ht hBr
        have heq := HI.out.eq
        rw [drop_at HT.out, eaL] at heq
        have HEQ := Lib.hid heq; clear heq
        have hi0 : (0 : Int) ≤ j := by omega
        have hi1 : (j : Int) < n := by omega
        go_wp2_with fail
        have hbA : Below wr.heap.size wr (wr.alloc (.cells #[.int .i64 k2, .int .i64 h2, .slice A2 n2 c2'] 26)) := (Below.refl _ wr).alloc (Nat.le_refl _) _
        generalize wr.alloc (.cells #[.int .i64 k2, .int .i64 h2, .slice A2 n2 c2'] 26) = Wa at *
        clear q0 q1 q2
        have lX : ∀ b, X b → b < wr.heap.size := fun b e => Nat.lt_of_lt_of_le (HXB.out b e).2 HI.out.fr.size
        have hcall := HF'.out j t _ Wa c1 HT.out HR.out (HI.out.fr.then hbA) (HST.out _ _ _ hbA.size (fun b e => hbA.block b (lX b e)) HI.out.st) HI.out.lo
        cases hres : g j t c1 with
        | error ec =>
          rw [hres] at hcall
          refine hcall.mono ?_
          rintro e w1 ⟨rfl, hne, hfr⟩
          have hne' : (ec != 0) = true := by simpa using hne
          have HE : Hid (GEn X St w (eaL g xs 0 c0) (.returned (.tuple #[.slice none 0 0, .int .i64 ec])) (w1.alloc (.cells #[.int .i64 0, .int .i64 0, .slice none 0 0] 26))) := Lib.hid (by
            rw [HEQ.out, hres]
            exact ⟨rfl, hne, (((HI.out.fr.then hbA).trans hfr fun _ _ e => e).then ((Below.refl _ _).alloc (Nat.le_refl _) _))⟩)
          clear hres hcall hfr hbA hne
          go_wp2_with fail
          go_ret2
          exact HE.out
        | ok p =>
          obtain ⟨t', c2⟩ := p
          rw [hres] at hcall
          refine hcall.mono ?_
          rintro e w1 ⟨k3, h3, A3, n3, c3, rfl, hrx, hfr, hst⟩
          have s1 := HI.out.fr.size
          have s2 := hbA.size
          have s3 := hfr.size
          have lrow := HI.out.row.lt
          have nrow : ¬ X w.heap.size := fun e => by have := (HXB.out _ e).2; omega
          have z3 : Box w1 w.heap.size 26 cs := (HI.out.row.keep hbA lrow).fr hfr nrow
          have hfr2 : Fr X wr w1 := (Fr.below (X := X) hbA).trans hfr fun _ _ e => e
          obtain ⟨u0, hu0⟩ := z3.there (i := j * 3) (by rw [HI.out.size]; omega)
          obtain ⟨u1, hu1⟩ := z3.there (i := j * 3 + 1) (by rw [HI.out.size]; omega)
          obtain ⟨u2, hu2⟩ := z3.there (i := j * 3 + 2) (by rw [HI.out.size]; omega)
          have f0 := z3.frozen (j * 3)
          have f1 := z3.frozen (j * 3 + 1)
          have f2 := z3.frozen (j * 3 + 2)
          have lz3 := z3.lt
          have HZ := Lib.hid z3; clear z3
          have HRX := Lib.hid hrx; clear hrx
          have HFR := Lib.hid hfr2; clear hfr2 hfr
          have HS2 := Lib.hid hst; clear hst
          have HRES := Lib.hid hres; clear hres hcall hbA
          go_wp2_with fail
          go_roundw
          case rel =>
            have hset : ∀ g, g ≠ w.heap.size → g < w1.heap.size → (((((w1.setCell ⟨w.heap.size, j * 3, none⟩ (.int .i64 k3)).setCell ⟨w.heap.size, j * 3 + 1, none⟩ (.int .i64 h3)).setCell ⟨w.heap.size, j * 3 + 2, none⟩ (.slice A3 n3 c3))).alloc (.cells #[.int .i64 k3, .int .i64 h3, .slice A3 n3 c3] 26)).heap[g]? = w1.heap[g]? := fun g hg hg' => by
              rw [Below.heap_alloc _ _ _ (by simpa using hg'), Below.heap_setCell _ _ _ _ hg, Below.heap_setCell _ _ _ _ hg, Below.heap_setCell _ _ _ _ hg]
            have hfw : Fr X w w1 := HI.out.fr.trans HFR.out fun _ _ e => e
            have hsz : w1.heap.size ≤ (((((w1.setCell ⟨w.heap.size, j * 3, none⟩ (.int .i64 k3)).setCell ⟨w.heap.size, j * 3 + 1, none⟩ (.int .i64 h3)).setCell ⟨w.heap.size, j * 3 + 2, none⟩ (.slice A3 n3 c3))).alloc (.cells #[.int .i64 k3, .int .i64 h3, .slice A3 n3 c3] 26)).heap.size := by simp [World.setCell]
            refine ⟨j + 1, _, ys ++ [t'], c2, by omega, by go_num, Lib.hid ⟨(((HZ.out.setAt _ _).setAt _ _).setAt _ _).alloc _, by simp [HI.out.size], by simp [HI.out.len], ?_, ?_, ?_, ?_, ?_⟩⟩
            · refine Kids.snoc (HI.out.kids.moveX fun b hb hl => ⟨hb, HFR.out.block b hl fun e => by have := (HXB.out b e).2; omega⟩) HI.out.len (fun b hb hl => hset b (by omega) hl) ?_ (by rw [HI.out.size]; omega)
              exact RdF.moveX (fun b hb hl => ⟨by omega, hset b (by omega) hl⟩) _ _ HRX.out
            · exact ⟨hfw.os, hfw.tape, hfw.output, by omega, fun b hb e => (hset b (by omega) (by omega)).trans (hfw.block b hb e)⟩
            · exact HST.out _ _ _ hsz (fun b e => hset b (by have := (HXB.out b e).2; omega) (by have := (HXB.out b e).2; omega)) HS2.out
            · have h1 := HG.out j t c1 t' c2 HT.out HRES.out
              have h2 := HI.out.lo
              rw [drop_at HT.out, ndL] at h2
              omega
            · rw [HEQ.out, HRES.out]
              simp only
              cases eaL g (xs.drop (j + 1)) (j + 1) c2 with
              | error e => rfl
              | ok q => obtain ⟨zs, c4⟩ := q; simp [contL]
          case measure => simp [intOf]; omega
      · obtain rfl : j = n := by omega
        have heq := HI.out.eq
        rw [drop_all HN.out (by omega), eaL] at heq
        have HEQ := Lib.hid heq; clear heq
        go_wp2_with fail
        go_ret2
        rw [HEQ.out]
        simp only [contL, List.append_nil]
        refine ⟨_, _, _, rfl, Kids.rxlF HI.out.kids HI.out.row HI.out.len hn40 HI.out.size, HI.out.fr, HI.out.st⟩
end Go.Proofs.Ytloeainlpcnhnaa
/-
  Contracts of the closures within package meta's fill and become, given that of fill for what they are called with. No statement is proved here.
-/
namespace Go.Proofs.Ytloeainlpcnhnaa
open Go.ChangeShapes Go.WideShapes Go.ChangeAt Go.RowKit
set_option linter.unusedVariables false
set_option maxRecDepth 100000
/-- an answer, or noughts and an error -/
def CO (St : Nat → World → Prop) (B : Nat) (w' : World) (r : Res) (k h : Int) (A : Option Addr) (n cc : Nat) (ec : Int) : Prop :=
  match r with
  | .error e' => ec = e' ∧ e' ≠ 0 ∧ Value.agg #[.int .i64 k, .int .i64 h, .slice A n cc] = zT
  | .ok (t, c) => ec = 0 ∧ RX (fun b => b < B) w' t (.agg #[.int .i64 k, .int .i64 h, .slice A n cc]) ∧ St c w'
theorem CEn.uni {X : Nat → Prop} {St : Nat → World → Prop} {w w' : World} {r : Res} {e : Ending} (h : CEn X St w r e w') : ∃ k h A n cc ec, e = .returned (.tuple #[.agg #[.int .i64 k, .int .i64 h, .slice A n cc], .int .i64 ec]) ∧ CO St w.heap.size w' r k h A n cc ec ∧ Fr X w w' := by
  cases r with
  | error e' =>
    obtain ⟨rfl, hne, hfr⟩ := h
    exact ⟨0, 0, none, 0, 0, e', rfl, ⟨rfl, hne, rfl⟩, hfr⟩
  | ok p =>
    obtain ⟨t, c⟩ := p
    obtain ⟨k, h, A, n, cc, rfl, hr, hfr, hst⟩ := h
    exact ⟨k, h, A, n, cc, 0, rfl, ⟨rfl, hr, hst⟩, hfr⟩
theorem CO.cen {X : Nat → Prop} {St : Nat → World → Prop} {w w' : World} {r : Res} {k h : Int} {A : Option Addr} {n cc : Nat} {ec : Int} (c : CO St w.heap.size w' r k h A n cc ec) (hfr : Fr X w w') : CEn X St w r (.returned (.tuple #[.agg #[.int .i64 k, .int .i64 h, .slice A n cc], .int .i64 ec])) w' := by
  cases r with
  | error e' =>
    obtain ⟨rfl, hne, hz⟩ := c
    exact ⟨by rw [hz], hne, hfr⟩
  | ok p =>
    obtain ⟨t, x⟩ := p
    obtain ⟨rfl, hr, hst⟩ := c
    exact ⟨k, h, A, n, cc, rfl, hr, hfr, hst⟩
theorem CO.move {St St' : Nat → World → Prop} {B B' : Nat} {w w' : World} {r : Res} {k h : Int} {A : Option Addr} {n cc : Nat} {ec : Int} (c : CO St B w r k h A n cc ec) (hB : B' ≤ B) (hm : ∀ b, B ≤ b → b < w.heap.size → w'.heap[b]? = w.heap[b]?) (hst : ∀ t x, r = .ok (t, x) → St x w → St' x w') : CO St' B' w' r k h A n cc ec := by
  cases r with
  | error e' => exact c
  | ok p =>
    obtain ⟨t, x⟩ := p
    obtain ⟨rfl, hr, hs⟩ := c
    exact ⟨rfl, RdF.moveX (fun b hb hl => ⟨by omega, hm b (by omega) hl⟩) _ _ hr, hst t x rfl hs⟩
/-- what is asked of the terms for metas -/
structure ThK (th : List T) (wB : World) (A : Option Addr) (m cL : Nat) : Prop where
  my : ∀ x ∈ th, myB x = true
  ok : ∀ x ∈ th, okT 2199023255552 x
  len : th.length = m
  le : m ≤ cL
  cap : cL ≤ maxLen
  at_ : ∀ i x, th[i]? = some x → RdAt wB A i x
/-- fill's contract for one term -/
def FiC (th : List T) (t : T) : Prop :=
  ∀ (wB w : World) (pp : Nat) (A : Option Addr) (m cL : Nat) (n : Int) (c : Nat) (v : Value), Below wB.heap.size wB w → wB.heap.size ≤ pp → ptB w pp A m cL c → ThK th wB A m cL → Rd wB t v → nodB t = true →
    0 ≤ n → n + dp t ≤ 4000 → okT 2199023255552 t → c + 4000 * nd t ≤ 1125899906842624 →
    Calls Try.prog 83 #[.pointer (some ⟨pp, 0, none⟩), v, .int .i64 n] w (CEn (fun b => b = pp) (fun c w' => ptB w' pp A m cL c) w (pf th n c t))
set_option maxHeartbeats 4000000 in
theorem closFC {th : List T} {t : T} (hF : FiC th t) {wB w : World} {pp pP pN pT : Nat} {A : Option Addr} {m cL : Nat} {n : Int} {c : Nat} {k h : Int} {At : Option Addr} {nt ct : Nat} (i : Nat) (v : Value)
    (hb : Below wB.heap.size wB w) (hpB : wB.heap.size ≤ pp) (hp : ptB w pp A m cL c) (hth : ThK th wB A m cL) (hv : Rd wB t v) (hno : nodB t = true) (h0 : 0 ≤ n) (hn : n + 1 + dp t ≤ 4000) (ho : okT 2199023255552 t) (hc : c + 4000 * nd t ≤ 1125899906842624)
    (xP : Box w pP 128 #[.pointer (some ⟨pp, 0, none⟩)]) (xN : Box w pN 3 #[.int .i64 n]) (xT : Box w pT 26 #[.int .i64 k, .int .i64 h, .slice At nt ct]) (hnt : nt ≤ ct) (hct : ct ≤ maxLen) (hi : i ≤ maxLen) (hne1 : pP ≠ pp) (hne2 : pN ≠ pp) (hne3 : pT ≠ pp) :
    Calls Try.prog 101 #[.int .i64 i, v, .pointer (some ⟨pP, 0, none⟩), .pointer (some ⟨pN, 0, none⟩), .pointer (some ⟨pT, 0, none⟩)] w (CEn (fun b => b = pp) (fun c w' => ptB w' pp A m cL c) w (pf th (n + bd k nt i) c t)) := by
  obtain ⟨k2, h2, A2, n2, c2, rfl⟩ := hv.full
  have hbd : 0 ≤ bd k nt i ∧ bd k nt i ≤ 1 := by rw [bd_bdn]; have := bdn_le k nt i; omega
  obtain ⟨s, hs⟩ : ∃ s, s = n + bd k nt i := ⟨_, rfl⟩
  have hsum : IntKind.i64.wrap (n + bd k nt i) = s := by rw [hs, wrapEq, wrap_small (by omega) (by omega)]
  obtain ⟨W, hW⟩ : ∃ W, (w.alloc (.cells #[.int .i64 k2, .int .i64 h2, .slice A2 n2 c2] 26)).alloc (.cells #[.int .i64 0, .int .i64 0, .slice none 0 0] 26) = W := ⟨_, rfl⟩
  have hbW : Below w.heap.size w W := by rw [← hW]; exact ((Below.refl _ _).alloc (Nat.le_refl _) _).alloc (by simp) _
  have z1 : Box W w.heap.size 26 #[.int .i64 k2, .int .i64 h2, .slice A2 n2 c2] := by rw [← hW]; exact (Box.new _ _ _).alloc _
  have z2 : Box W (w.heap.size + 1) 26 #[.int .i64 0, .int .i64 0, .slice none 0 0] := by rw [← hW]; exact (Box.new (w.alloc _) _ _).at (by simp)
  have lP := xP.lt
  have lN := xN.lt
  have lT := xT.lt
  have lp := hp.lt
  replace xP := xP.keep hbW lP
  replace xN := xN.keep hbW lN
  replace xT := xT.keep hbW lT
  have HWW := Lib.hid hW; clear hW
  have HBD := Lib.hid fun W' => boundC k h At nt ct hnt hct i hi W'
  have HFI : Hid (∀ W', Below W.heap.size W W' → Calls Try.prog 83 #[.pointer (some ⟨pp, 0, none⟩), .agg #[.int .i64 k2, .int .i64 h2, .slice A2 n2 c2], .int .i64 (n + bd k nt i)] W' (CEn (fun b => b = pp) (fun c w' => ptB w' pp A m cL c) W' (pf th (n + bd k nt i) c t))) := Lib.hid fun W' hW' =>
    hF wB W' pp A m cL _ c _ (hb.trans ((hbW.trans (hW'.mono hbW.size)).mono hb.size)) hpB (hp.keep (hbW.trans (hW'.mono hbW.size)) lp) hth hv hno (by omega) (by omega) ho hc
  have HB := Lib.hid hbW; clear hbW hb
  have HP := Lib.hid hp; clear hp
  clear hth hv hF ho hc hn h0 hi hct hnt hpB
  rw [← hs] at HFI ⊢
  clear hs
  generalize bd k nt i = β at *
  generalize pf th s c t = R at *
  go_enter Try.func101, Try.ntmps101
  go_wp2_with fail
  rw [HWW.out]
  clear HWW
  obtain ⟨a0, a1, a2⟩ := z1.three
  obtain ⟨b0, b1, b2⟩ := xT.three
  have d0 := (xP.one).1
  have e0 := (xN.one).1
  have hcur : Below W.heap.size W W.drew := (Below.refl _ W).drew
  have szW := HB.out.size
  go_region_held3 (fun w' => w'.cell? ⟨w.heap.size, 0, none⟩ = some (.int .i64 k2) ∧ w'.cell? ⟨w.heap.size, 1, none⟩ = some (.int .i64 h2) ∧ w'.cell? ⟨w.heap.size, 2, none⟩ = some (.slice A2 n2 c2) ∧
      w'.cell? ⟨pP, 0, none⟩ = some (.pointer (some ⟨pp, 0, none⟩)) ∧ w'.cell? ⟨pN, 0, none⟩ = some (.int .i64 n) ∧ w'.cell? ⟨pT, 0, none⟩ = some (.int .i64 k) ∧ w'.cell? ⟨pT, 1, none⟩ = some (.int .i64 h) ∧ w'.cell? ⟨pT, 2, none⟩ = some (.slice At nt ct))
    (first | exact ⟨a0, a1, a2, d0, e0, b0, b1, b2⟩ | exact ⟨q1.three.1, q1.three.2.1, q1.three.2.2, qP.one.1, qN.one.1, qT.three.1, qT.three.2.1, qT.three.2.2⟩ | exact ⟨r1.three.1, r1.three.2.1, r1.three.2.2, rP.one.1, rN.one.1, rT.three.1, rT.three.2.1, rT.three.2.2⟩ | exact ⟨o1.three.1, o1.three.2.1, o1.three.2.2, oP.one.1, oN.one.1, oT.three.1, oT.three.2.1, oT.three.2.2⟩)
    (first
      | (go_at_call 102
         refine (HBD.out _).mono ?_
         rintro e w1 ⟨rfl, hb1⟩
         replace hcur := hcur.trans (hb1.mono hcur.size)
         have q1 := z1.keep hcur z1.lt
         have q2 := z2.keep hcur z2.lt
         have qT := xT.keep hcur xT.lt
         have qP := xP.keep hcur xP.lt
         have qN := xN.keep hcur xN.lt
         clear hb1)
      | (go_at_call 83
         refine (HFI.out _ hcur).mono ?_
         intro e w2 hE
         obtain ⟨k3, h3, A3, n3, c3, ec, rfl, hout, hfr⟩ := hE.uni
         have r1 := q1.fr hfr (by omega)
         have r2 := q2.fr hfr (by omega)
         have rT := qT.fr hfr hne3
         have rP := qP.fr hfr hne1
         have rN := qN.fr hfr hne2
         have s2 := r2.lt
         have HO := Lib.hid hout
         have HFR := Lib.hid hfr
         clear hout hE hfr
         obtain ⟨y0, y1, y2⟩ := r2.three
         have f0 := r2.frozen 0
         have f1 := r2.frozen 1
         have f2 := r2.frozen 2
         have o1 := r1.other3 (a := w.heap.size + 1) (by omega) (.int .i64 k3) (.int .i64 h3) (.slice A3 n3 c3)
         have oT := rT.other3 (a := w.heap.size + 1) (by omega) (.int .i64 k3) (.int .i64 h3) (.slice A3 n3 c3)
         have oP := rP.other3 (a := w.heap.size + 1) (by omega) (.int .i64 k3) (.int .i64 h3) (.slice A3 n3 c3)
         have oN := rN.other3 (a := w.heap.size + 1) (by omega) (.int .i64 k3) (.int .i64 h3) (.slice A3 n3 c3)))
  clear o1 oT oP oN
  go_wp2_with fail
  refine bodyPost_ret (v := .tuple #[.agg #[.int .i64 k3, .int .i64 h3, .slice A3 n3 c3], .int .i64 ec]) (by simp [results, Try.results101, go_sem, y0, y1, y2]) rfl ?_
  have s3 := hcur.size
  have s4 := HFR.out.size
  have s5 := z2.lt
  refine CO.cen (HO.out.move (by omega) (fun g hg _ => heap_other3 _ _ _ _ _ _ (by omega)) fun _ _ _ hs => Box.other3 hs (by omega) _ _ _) ?_
  exact ((Fr.below (X := fun b => b = pp) (HB.out.trans (hcur.mono HB.out.size))).trans HFR.out fun _ _ e => e).set3 (fun h => by omega) _ _ _
theorem CO.po {th : List T} {n : Int} {c : Nat} {t : T} {St St' : Nat → World → Prop} {B B' : Nat} {w w' : World} {k h : Int} {A : Option Addr} {nn cc : Nat} {ec : Int} (o : CO St B w (pf th n 0 t) k h A nn cc ec) (hB : B' ≤ B) (hm : ∀ b, B ≤ b → b < w.heap.size → w'.heap[b]? = w.heap[b]?) (hst : St' c w') : CO St' B' w' (po th n c t) k h A nn cc ec := by
  unfold Go.Proofs.Ytloeainlpcnhnaa.po
  cases hr : pf th n 0 t with
  | error e' => rw [hr] at o; exact o
  | ok p =>
    obtain ⟨t, x⟩ := p
    rw [hr] at o
    obtain ⟨rfl, hr, hs⟩ := o
    exact ⟨rfl, RdF.moveX (fun b hb hl => ⟨by omega, hm b (by omega) hl⟩) _ _ hr, hst⟩
set_option maxHeartbeats 4000000 in
theorem closBC {th : List T} {t : T} (hF : FiC th t) {wB w : World} {pp pP pN : Nat} {A : Option Addr} {m cL : Nat} {n : Int} {c : Nat} (i : Nat) (v : Value)
    (hb : Below wB.heap.size wB w) (hp : ptB w pp A m cL c) (hth : ThK th wB A m cL) (hv : Rd wB t v) (hno : nodB t = true) (h0 : 0 ≤ n) (hn : n + dp t ≤ 4000) (ho : okT 2199023255552 t) (hc : 4000 * nd t ≤ 1125899906842624)
    (xP : Box w pP 128 #[.pointer (some ⟨pp, 0, none⟩)]) (xN : Box w pN 3 #[.int .i64 n]) :
    Calls Try.prog 113 #[.int .i64 i, v, .pointer (some ⟨pP, 0, none⟩), .pointer (some ⟨pN, 0, none⟩)] w (CEn (fun b => b = pp) (fun c w' => ptB w' pp A m cL c) w (po th n c t)) := by
  obtain ⟨k2, h2, A2, n2, c2, rfl⟩ := hv.full
  obtain ⟨W, hW⟩ : ∃ W, ((w.alloc (.cells #[.int .i64 k2, .int .i64 h2, .slice A2 n2 c2] 26)).alloc (.cells #[.int .i64 0, .int .i64 0, .slice none 0 0] 26)).alloc (.cells #[.slice A m cL, .int .i64 0] 112) = W := ⟨_, rfl⟩
  have hbW : Below w.heap.size w W := by rw [← hW]; exact (((Below.refl _ _).alloc (Nat.le_refl _) _).alloc (by simp) _).alloc (by simp; omega) _
  have z1 : Box W w.heap.size 26 #[.int .i64 k2, .int .i64 h2, .slice A2 n2 c2] := by rw [← hW]; exact ((Box.new _ _ _).alloc _).alloc _
  have z2 : Box W (w.heap.size + 1) 26 #[.int .i64 0, .int .i64 0, .slice none 0 0] := by rw [← hW]; exact ((Box.new (w.alloc _) _ _).at (by simp)).alloc _
  have z3 : ptB W (w.heap.size + 1 + 1) A m cL 0 := by rw [← hW]; exact (Box.new ((w.alloc _).alloc _) _ _).at (by simp)
  have lP := xP.lt
  have lN := xN.lt
  have lp := hp.lt
  have hsB := hb.size
  have HFI := Lib.hid (hF wB W (w.heap.size + 1 + 1) A m cL n 0 _ (hb.trans (hbW.mono hb.size)) (by omega) z3 hth hv hno h0 hn ho (by omega))
  have HWW := Lib.hid hW; clear hW
  have HB := Lib.hid hbW; clear hb
  have HP := Lib.hid hp
  have d0 := (xP.one).1
  have e0 := (xN.one).1
  obtain ⟨p0, p1⟩ := hp.two
  obtain ⟨a0, a1, a2⟩ := z1.three
  have lP1 : pP < w.heap.size + 1 := by omega
  have lP2 : pP < w.heap.size + 1 + 1 := by omega
  have lN1 : pN < w.heap.size + 1 := by omega
  have lN2 : pN < w.heap.size + 1 + 1 := by omega
  clear hth hv hF ho hc hn h0 hbW xP xN hp hsB
  go_enter Try.func113, Try.ntmps113
  go_wp2_with fail
  rw [HWW.out]
  clear HWW
  refine HFI.out.mono ?_
  intro e w2 hE
  obtain ⟨k3, h3, A3, n3, c3, ec, rfl, hout, hfr⟩ := hE.uni
  have s5 := z2.lt
  have r2 := z2.fr hfr (by omega)
  have s2 := r2.lt
  have HO := Lib.hid hout
  have HFR := Lib.hid hfr
  clear hout hE hfr a0 a1 a2 d0 e0 p0 p1 z1 z2 z3 HFI
  obtain ⟨y0, y1, y2⟩ := r2.three
  have f0 := r2.frozen 0
  have f1 := r2.frozen 1
  have f2 := r2.frozen 2
  go_wp2_with fail
  refine bodyPost_ret (v := .tuple #[.agg #[.int .i64 k3, .int .i64 h3, .slice A3 n3 c3], .int .i64 ec]) (by simp [results, Try.results113, go_sem, y0, y1, y2]) rfl ?_
  have szW := HB.out.size
  have s4 := HFR.out.size
  have hbw : Below w.heap.size w w2 := HB.out.trans (HFR.out.to_below (fun i e => by omega) HB.out.size)
  refine CO.cen (HO.out.po (by omega) (fun g hg _ => heap_other3 _ _ _ _ _ _ (by omega)) (Box.other3 (HP.out.keep hbw lp) (by omega) _ _ _)) ?_
  exact (Fr.below (X := fun b => b = pp) hbw).set3 (fun h => by omega) _ _ _
end Go.Proofs.Ytloeainlpcnhnaa
/-
  Contract of package meta's become, given that of fill for its Args. No statement is proved here.
-/
namespace Go.Proofs.Ytloeainlpcnhnaa
open Go.ChangeShapes Go.WideShapes Go.ChangeAt Go.RowKit
set_option linter.unusedVariables false
set_option maxRecDepth 100000
theorem node_parts {k h : Int} {xs : List T} (h1 : nodB (.node k h xs) = true) : okN k h xs.length = true ∧ ∀ x ∈ xs, nodB x = true := by
  rw [nodB, Bool.and_eq_true] at h1
  exact ⟨h1.1, fun x hx => nodL_mem h1.2 hx⟩
theorem ok_parts {M k h : Int} {xs : List T} (h1 : okT M (.node k h xs)) : ∀ x ∈ xs, okT M x := fun x hx => by
  rw [okT] at h1
  exact okL_mem h1.2 hx
theorem RXL.adv' {B : Nat} {w w' : World} {xs : List T} {A : Option Addr} {n c : Nat} (h : RXL (fun b => b < B) w xs A n c) (hb : Below w.heap.size w w') : RXL (fun b => b < B) w' xs A n c :=
  ⟨h.len, h.le, h.cap, fun i t ht => RdFAt.moveX (fun b hb' hl => ⟨hb', hb.block b hl⟩) (h.at_ i t ht)⟩
theorem rx_of {B B' : Nat} {w w' : World} {t : T} {v : Value} (h : RdF (fun b => B' ≤ b) w t v) (hB : B ≤ B') (hm : ∀ b, B' ≤ b → b < w.heap.size → w'.heap[b]? = w.heap[b]?) : RX (fun b => b < B) w' t v := RdF.moveX (fun b hb hl => ⟨by omega, hm b hb hl⟩) _ _ h
/-- what is answered, once Apply has answered -/
theorem kp_rx {B : Nat} {w : World} {t : T} {k h : Int} {A : Option Addr} {n cc x : Nat} (hr : RX (fun b => b < B) w t (.agg #[.int .i64 k, .int .i64 h, .slice A n cc])) : ∃ k' h' A' n' c', (if 4000 < x then Value.agg #[.int .i64 7, .int .i64 0, .slice none 0 0] else .agg #[.int .i64 k, .int .i64 h, .slice A n cc]) = .agg #[.int .i64 k', .int .i64 h', .slice A' n' c'] ∧ RX (fun b => b < B) w (kp x t) (.agg #[.int .i64 k', .int .i64 h', .slice A' n' c']) := by
  unfold kp
  by_cases hx : 4000 < x
  · rw [if_pos hx, if_pos hx]
    exact ⟨7, 0, none, 0, 0, rfl, RdF_node.2 ⟨none, 0, 0, rfl, by decide, by decide, rfl, Nat.le_refl _, Nat.zero_le _, fun i t ht => by simp at ht⟩⟩
  · rw [if_neg hx, if_neg hx]
    exact ⟨k, h, A, n, cc, rfl, hr⟩
set_option maxHeartbeats 1000000 in
theorem becomeC {th : List T} {h : Int} {xs : List T} (hF : ∀ x ∈ xs, FiC th x) {wB w : World} {pp : Nat} {A : Option Addr} {m cL : Nat} {n : Int} {c : Nat} {An : Option Addr} {nn cc : Nat}
    (hb : Below wB.heap.size wB w) (hpB : wB.heap.size ≤ pp) (hp : ptB w pp A m cL c) (hth : ThK th wB A m cL) (hv : Rd wB (.node 6 h xs) (.agg #[.int .i64 6, .int .i64 h, .slice An nn cc])) (hno : nodB (.node 6 h xs) = true)
    (h0 : 0 ≤ n) (hn : n + dp (.node 6 h xs) ≤ 4000) (ho : okT 2199023255552 (.node 6 h xs)) (hc : c + 4000 * nd (.node 6 h xs) ≤ 1125899906842624) :
    Calls Try.prog 100 #[.pointer (some ⟨pp, 0, none⟩), .agg #[.int .i64 6, .int .i64 h, .slice An nn cc], .int .i64 n] w (CEn (fun b => b = pp) (fun c w' => ptB w' pp A m cL c) w (pf th n c (.node 6 h xs))) := by
  obtain ⟨An', nn', cc', e, _, wfh, hl, hnc, hcm, hxs⟩ := Rd_node.1 hv
  simp only [Value.agg.injEq] at e
  have e' : An = An' ∧ nn = nn' ∧ cc = cc' := by simpa using e
  obtain ⟨rfl, rfl, rfl⟩ := e'
  clear e
  obtain ⟨hok, hnos⟩ := node_parts hno
  have hh0 : 0 ≤ h := by rcases okN_cases hok with ⟨e, _⟩ | ⟨e, _⟩ | ⟨e, _⟩ | ⟨e, he⟩ | ⟨e, he⟩ | ⟨e, he⟩ | ⟨e, he⟩ <;> first | exact he | omega
  have hos := ok_parts ho
  have hdp : dp (.node 6 h xs) = 1 + dpL xs := by rw [dp]
  have hnd : nd (.node 6 h xs) = 1 + ndL xs := by rw [nd]
  have hlen := (wdL_nd xs).2
  have lp := hp.lt
  have szB := hb.size
  obtain ⟨W, hW⟩ : ∃ W, (((w.alloc (.cells #[.pointer (some ⟨pp, 0, none⟩)] 128)).alloc (.cells #[.int .i64 6, .int .i64 h, .slice An nn cc] 26)).alloc (.cells #[.int .i64 n] 3)).alloc (.cells #[.int .i64 0, .int .i64 0, .slice none 0 0] 26) = W := ⟨_, rfl⟩
  have hbW : Below w.heap.size w W := by rw [← hW]; exact ((((Below.refl _ _).alloc (Nat.le_refl _) _).alloc (by simp) _).alloc (by simp; omega) _).alloc (by simp; omega) _
  have x0 : Box W w.heap.size 128 #[.pointer (some ⟨pp, 0, none⟩)] := by rw [← hW]; exact (((Box.new _ _ _).alloc _).alloc _).alloc _
  have x1 : Box W (w.heap.size + 1) 26 #[.int .i64 6, .int .i64 h, .slice An nn cc] := by rw [← hW]; exact (((Box.new (w.alloc _) _ _).at (by simp)).alloc _).alloc _
  have x2 : Box W (w.heap.size + 1 + 1) 3 #[.int .i64 n] := by rw [← hW]; exact ((Box.new ((w.alloc _).alloc _) _ _).at (by simp)).alloc _
  have x3 : Box W (w.heap.size + 1 + 1 + 1) 26 #[.int .i64 0, .int .i64 0, .slice none 0 0] := by rw [← hW]; exact (Box.new (((w.alloc _).alloc _).alloc _) _ _).at (by simp)
  have hpW := hp.keep hbW lp
  have hE := eachBC (X := fun b => b = pp) (St := fun c w' => ptB w' pp A m cL c) (p1 := .pointer (some ⟨w.heap.size, 0, none⟩)) (p2 := .pointer (some ⟨w.heap.size + 1 + 1, 0, none⟩)) (wB := wB) (w := W) (A := An) (n := nn) (c := cc) (c0 := c) (M := 1125899906842624) xs (fun _ x c => po th n c x)
    (hb.trans (hbW.mono hb.size)) hl hnc hcm (by omega) hxs (fun b e => by subst e; exact ⟨hpB, hpW.lt⟩) (fun c' W1 W2 _ hk hs => (hk pp rfl).trans hs) hpW (by omega)
    (fun i t c t1 c1 _ hr => by
      unfold po at hr
      split at hr
      · cases hr
      · cases hr; omega)
    (fun i t v W' c' ht hrd hfr hst hlo => by
      have hmem := List.mem_of_getElem? ht
      have h1 := dpL_mem hmem
      have h2 := nd_mem hmem
      exact closBC (hF t hmem) i v (hb.trans ((hbW.mono hb.size).trans (hfr.to_below (fun i e => by subst e; exact hpB) (by have := hbW.size; omega)))) hst hth hrd (hnos t hmem) h0 (by omega) (hos t hmem) (by omega) (x0.fr hfr (by omega)) (x2.fr hfr (by omega)))
  rw [ea_own, show flL th 6 xs.length xs 0 n = flL th 6 nn xs 0 n from by rw [hl]] at hE
  have hR := pf_meta th n h xs c
  rw [hl, hth.len] at hR
  generalize pf th n c (.node 6 h xs) = R at *
  have HW := Lib.hid hW; clear hW
  have HB := Lib.hid hb; clear hb
  have HBW := Lib.hid hbW; clear hbW
  have HTH := Lib.hid hth; clear hth
  have HO := Lib.hid ho
  clear hv hno ho hxs hnos hos hF
  go_enter Try.func100, Try.ntmps100
  go_wp2_with fail
  rw [HW.out]
  clear HW
  refine hE.mono ?_
  clear hE
  obtain ⟨FR, hFR⟩ : ∃ FR, FR = flL th 6 nn xs 0 n := ⟨_, rfl⟩
  have herr : ∀ e, flL th 6 nn xs 0 n = .error e → e ≠ 0 := fun e he => flL_err th 6 nn xs 0 n e he
  have hhd : ∀ ys, flL th 6 nn xs 0 n = .ok ys → ys.length = nn ∧ ∀ y ∈ ys, LoT y := fun ys he => ⟨by rw [flL_len th 6 nn xs 0 n ys he, hl], fun y hy => okT_mono (M := hB (dpL xs)) (by unfold hB; omega) _ (okL_mem (flL_heads (th := th) HTH.out.ok 6 nn xs 0 n ys h0 (by omega) (by have h9 := HO.out; rw [okT] at h9; exact h9.2) he) hy)⟩
  have hnd2 : ∀ ys, flL th 6 nn xs 0 n = .ok ys → ndL ys ≤ 4000 * ndL xs := fun ys he => flL_nd th 6 nn xs 0 n ys he
  rw [← hFR] at herr hhd hnd2 hR ⊢
  have hc4 : c ≤ 1125899906842624 := by omega
  clear hFR hdp hnd hlen hn hc hcm hnc wfh hok szB
  cases FR with
  | error ec =>
    rintro e w1 ⟨rfl, hne, hfr⟩
    have HR := Lib.hid (show R = .error ec from hR); clear hR
    have hne' : (ec != 0) = true := by simpa using hne
    have hfw : Fr (fun b => b = pp) w w1 := (Fr.below (X := fun b => b = pp) HBW.out).trans hfr fun _ _ e => e
    have y3 := x3.fr hfr (by omega)
    have HFW := Lib.hid hfw; clear hfw hfr
    have HNE := Lib.hid hne; clear hne
    clear x0 x1 x2 x3 hpW herr hhd hnd2 hp
    obtain ⟨r0, r1, r2⟩ := y3.three
    have f0 := y3.frozen 0
    have f1 := y3.frozen 1
    have f2 := y3.frozen 2
    have ly := y3.lt
    go_wp2_with fail
    refine bodyPost_ret (v := .tuple #[zT, .int .i64 ec]) (by simp [results, Try.results100, go_sem, r0, r1, r2]) rfl ?_
    rw [HR.out]
    exact ⟨rfl, HNE.out, HFW.out.set3 (fun h => by omega) _ _ _⟩
  | ok ys =>
    rintro e w1 ⟨A9, n9, c9, rfl, hrl, hfr, hst⟩
    obtain ⟨hyl, hyo⟩ := hhd ys rfl
    have hfw : Fr (fun b => b = pp) w w1 := (Fr.below (X := fun b => b = pp) HBW.out).trans hfr fun _ _ e => e
    have y0 := x0.fr hfr (by omega)
    have y1 := x1.fr hfr (by omega)
    have y2 := x2.fr hfr (by omega)
    have y3 := x3.fr hfr (by omega)
    have HFW := Lib.hid hfw; clear hfw hfr
    have HRL := Lib.hid hrl; clear hrl
    have HST := Lib.hid (show ptB w1 pp A m cL c from hst)
    obtain ⟨p0, p1⟩ := hst.two
    have lp1 := hst.lt
    clear x0 x1 x2 x3 hpW herr hhd hp hst
    obtain ⟨r0, r1, r2⟩ := y3.three
    obtain ⟨a0, a1, a2⟩ := y1.three
    have d0 := y0.one.1
    have e0 := y2.one.1
    have f0 := y3.frozen 0
    have f1 := y3.frozen 1
    have f2 := y3.frozen 2
    have ly := y3.lt
    have hS : w1.cell? ⟨w.heap.size + 1, 1, none⟩ = some (.int .i64 h) ∧ w1.cell? ⟨w.heap.size, 0, none⟩ = some (.pointer (some ⟨pp, 0, none⟩)) ∧ w1.cell? ⟨pp, 0, none⟩ = some (.slice A m cL) := ⟨a1, d0, p0⟩
    by_cases hlt : (m : Int) ≤ h
    · have d1 : decide ((m : Int) ≤ h) = true := by simpa using hlt
      have HR : Hid (R = .error 2) := Lib.hid (by rw [hR]; simp only [if_pos hlt])
      clear hR
      go_wp2_with fail
      go_region_held3 (fun w' => w'.cell? ⟨w.heap.size + 1, 1, none⟩ = some (.int .i64 h) ∧ w'.cell? ⟨w.heap.size, 0, none⟩ = some (.pointer (some ⟨pp, 0, none⟩)) ∧ w'.cell? ⟨pp, 0, none⟩ = some (.slice A m cL))
        (exact hS) (fail)
      go_wp2_with fail
      refine bodyPost_ret (v := .tuple #[zT, .int .i64 2]) (by simp [results, Try.results100, go_sem, r0, r1, r2]) rfl ?_
      rw [HR.out]
      exact ⟨rfl, by decide, (HFW.out.set3 (a := w.heap.size + 1 + 1 + 1) (fun h => by omega) _ _ _).then ((Below.refl _ _).drew)⟩
    · have d1 : decide ((m : Int) ≤ h) = false := by simpa using hlt
      go_wp2_with fail
      go_region_held3 (fun w' => w'.cell? ⟨w.heap.size + 1, 1, none⟩ = some (.int .i64 h) ∧ w'.cell? ⟨w.heap.size, 0, none⟩ = some (.pointer (some ⟨pp, 0, none⟩)) ∧ w'.cell? ⟨pp, 0, none⟩ = some (.slice A m cL))
        (exact hS) (fail)
      have hCN := containsC (ys.map fun y => kp (nd y) y) A9 n9 c9 w1.drew HRL.out.len HRL.out.le HRL.out.cap fun i t ht => RdAt.keep ((Below.refl _ _).drew) (rdFAt_rd (HRL.out.at_ i t ht))
      rw [all_kp] at hCN
      obtain ⟨β, hβ⟩ : ∃ β, ys.all myB = β := ⟨_, rfl⟩
      have HBE := Lib.hid hβ
      rw [hβ] at hCN hR
      clear hβ
      go_wp2_with fail
      refine hCN.mono ?_
      clear hCN
      rintro e w2 ⟨rfl, hb2⟩
      have hb2' : Below w1.heap.size w1 w2 := (Below.refl _ w1).drew.trans (hb2.mono (Nat.le_refl _))
      replace y0 := y0.keep hb2' y0.lt
      replace y1 := y1.keep hb2' y1.lt
      replace y2 := y2.keep hb2' y2.lt
      replace y3 := y3.keep hb2' y3.lt
      replace HST := Lib.hid (HST.out.keep hb2' HST.out.lt)
      replace HFW := Lib.hid (HFW.out.then hb2')
      replace HRL := Lib.hid (HRL.out.adv' hb2')
      clear hb2 hb2' r0 r1 r2 a0 a1 a2 d0 e0 f0 f1 f2 ly p0 p1 lp1 hS
      obtain ⟨r0, r1, r2⟩ := y3.three
      have f0 := y3.frozen 0
      have f1 := y3.frozen 1
      have f2 := y3.frozen 2
      have ly := y3.lt
      cases β
      · have HR : Hid (R = .error 4) := Lib.hid (by
          have hlt' : ¬ (m : Int) ≤ h := by omega
          rw [hR]; simp only [if_neg hlt']; simp)
        clear hR
        go_wp2_with fail
        refine bodyPost_ret (v := .tuple #[zT, .int .i64 4]) (by simp [results, Try.results100, go_sem, r0, r1, r2]) rfl ?_
        rw [HR.out]
        exact ⟨rfl, by decide, HFW.out.set3 (fun h => by omega) _ _ _⟩
      · have hmy := HBE.out
        rw [map_kp hmy] at HRL
        have hlh : h.toNat < th.length := by rw [HTH.out.len]; omega
        obtain ⟨x, hx⟩ : ∃ x, th.getD h.toNat (.node 0 0 []) = x := ⟨_, rfl⟩
        have hxm : x ∈ th := by rw [← hx]; exact getD_mem _ hlh
        have hxe : th[h.toNat]? = some x := by rw [← hx, List.getD_eq_getElem?_getD, List.getElem?_eq_getElem hlh]; rfl
        rw [hx] at hR
        obtain ⟨b, o, k2, h2, A2, n2, c2, hAe, c0', c1', c2', hrx⟩ := (HTH.out.at_ _ _ hxe).full
        subst hAe
        have hbB : Below wB.heap.size wB w2 := HB.out.trans (HFW.out.to_below (fun i e => by subst e; exact hpB) HB.out.size)
        have q0 := (hbB.cell (cell_lt c0')).trans c0'
        have q1 := (hbB.cell (cell_lt c1')).trans c1'
        have q2 := (hbB.cell (cell_lt c2')).trans c2'
        have lq := cell_lt q0
        dsimp only at lq
        have HRX := Lib.hid (Rd.keep hbB _ _ hrx)
        have HAP : Hid (∀ W', Hid (Below w2.heap.size w2 W') → Calls Try.prog 107 #[.agg #[.int .i64 k2, .int .i64 h2, .slice A2 n2 c2], .agg #[.slice A9 n9 c9, .int .i64 n]] W' (fun e w' => TEnd (apT x ys n) (apE x ys n) W' e w' ∧ Hid (Below w2.heap.size w2 w'))) := Lib.hid fun W' h' => by
          have := ApplyC (w := W') (t := x) (L := ys) (sh := n) (Rd.keep h'.out _ _ HRX.out) HRL.out.len HRL.out.le HRL.out.cap (fun i u hu => RdAt.keep h'.out (rdFAt_rd (HRL.out.at_ i u hu))) (fun _ => okT_mono (by omega) _ (HTH.out.ok x hxm)) (fun y hy _ => hyo y hy)
          exact this.mono fun e w' h'' => ⟨h'', by obtain ⟨_, _, _, _, _, _, _, hb'⟩ := h''; exact cur_trans h' hb'⟩
        have hndx : apE x ys n = 0 → nd (apT x ys n) ≤ 4000 := fun e => by
          obtain ⟨_, _, _, _, hm⟩ := ap_zero e
          exact ((myB_iff _).1 hm).2.1
        have hR' : apE x ys n = 0 ∧ R = .ok (kp (c + nd (apT x ys n)) (apT x ys n), c + nd (apT x ys n)) ∨ apE x ys n ≠ 0 ∧ R = .error (apE x ys n) := by
          rw [hR]
          have hlt' : ¬ (m : Int) ≤ h := by omega
          simp only [if_neg hlt']
          by_cases hz : apE x ys n = 0
          · exact .inl ⟨hz, by simp [hz]⟩
          · exact .inr ⟨hz, by simp [hz]⟩
        clear hR hxe hx hlh hrx hmy
        have HND := Lib.hid hndx; clear hndx
        generalize apT x ys n = RT at *
        generalize apE x ys n = RE at *
        have HRR := Lib.hid hR'; clear hR'
        have HK : Hid (∀ w', Hid (Below w2.heap.size w2 w') → (w'.cell? ⟨w.heap.size, 0, none⟩ = some (.pointer (some ⟨pp, 0, none⟩)) ∧ w'.cell? ⟨pp, 0, none⟩ = some (.slice (some ⟨b, o, none⟩) m cL) ∧ w'.cell? ⟨w.heap.size + 1, 1, none⟩ = some (.int .i64 h) ∧ w'.cell? ⟨b, o + h.toNat * 3, none⟩ = some (.int .i64 k2) ∧ w'.cell? ⟨b, o + h.toNat * 3 + 1, none⟩ = some (.int .i64 h2) ∧ w'.cell? ⟨b, o + h.toNat * 3 + 2, none⟩ = some (.slice A2 n2 c2) ∧ w'.cell? ⟨w.heap.size + 1 + 1, 0, none⟩ = some (.int .i64 n) ∧ Hid (Below w2.heap.size w2 w'))) := Lib.hid fun w' h' => by
          have s0 := y0.keep h'.out y0.lt
          have s1 := y1.keep h'.out y1.lt
          have s2 := y2.keep h'.out y2.lt
          have sp := HST.out.keep h'.out HST.out.lt
          exact ⟨s0.one.1, sp.two.1, s1.three.2.1, (h'.out.cell lq).trans q0, (h'.out.cell (cell_lt q1)).trans q1, (h'.out.cell (cell_lt q2)).trans q2, s2.one.1, h'⟩
        have hcu0 : Hid (Below w2.heap.size w2 w2.drew) := cur_drew
        clear c0' c1' c2'
        have hi0 : h < m := by omega
        go_wp2_with fail
        go_region_held3 (fun w' => w'.cell? ⟨w.heap.size, 0, none⟩ = some (.pointer (some ⟨pp, 0, none⟩)) ∧ w'.cell? ⟨pp, 0, none⟩ = some (.slice (some ⟨b, o, none⟩) m cL) ∧ w'.cell? ⟨w.heap.size + 1, 1, none⟩ = some (.int .i64 h) ∧ w'.cell? ⟨b, o + h.toNat * 3, none⟩ = some (.int .i64 k2) ∧ w'.cell? ⟨b, o + h.toNat * 3 + 1, none⟩ = some (.int .i64 h2) ∧ w'.cell? ⟨b, o + h.toNat * 3 + 2, none⟩ = some (.slice A2 n2 c2) ∧ w'.cell? ⟨w.heap.size + 1 + 1, 0, none⟩ = some (.int .i64 n) ∧ Hid (Below w2.heap.size w2 w'))
          (first | exact HK.out _ (by assumption) | exact HK.out _ (cur_alloc (by assumption) _) | exact HK.out _ (cur_alloc (cur_alloc (by assumption) _) _) | exact HK.out _ (cur_set3 (by assumption) (by omega) _ _ _))
          (first
            | (go_at_call 107
               with_reducible refine Calls.mono (HAP.out _ ?hh) ?_
               case hh => first | assumption | exact Lib.hid (((Below.refl _ _).alloc (Nat.le_refl _) _).drew) | exact Lib.hid (((Below.refl _ _).drew).alloc (Nat.le_refl _) _)
               rintro e w9 ⟨⟨kq, hq, Aq, nq, cq, rfl, hrd, hb9⟩, hcu9⟩
               first | (have zP := Box.keepC (cs := #[.int .i64 0, .int .i64 0, .slice none 0 0]) (ty := 26) (by first | exact zP | exact zP.alloc _ | exact Box.new _ _ _ | exact (Box.new _ _ _).alloc _) hb9; have lzhb9 := zP.lt) | skip
               have hs9 := hcu9.out.size
               have HRq := Lib.hid hrd
               first | (obtain ⟨z0, z1, z2⟩ := zP.three; have fz0 := zP.frozen 0; have fz1 := zP.frozen 1; have fz2 := zP.frozen 2) | skip
               clear hrd hb9))
        all_goals first
          | (obtain ⟨W6, hWf⟩ : ∃ Wf, w9.alloc (.cells #[.int .i64 kq, .int .i64 hq, .slice Aq nq cq] 26) = Wf := ⟨_, rfl⟩
             obtain ⟨pq, hpe⟩ : ∃ p, p = w9.heap.size := ⟨_, rfl⟩
             have hlw : w2.heap.size ≤ pq := by rw [hpe]; exact hs9
             have xq : Box W6 pq 26 #[.int .i64 kq, .int .i64 hq, .slice Aq nq cq] := by rw [hpe, ← hWf]; exact Box.new _ _ _
             have hbF : Below w2.heap.size w2 W6 := by rw [← hWf]; exact (cur_alloc (by assumption) _).out
             have HRX6 : Hid (RX (fun b => b < w2.heap.size) W6 RT (.agg #[.int .i64 kq, .int .i64 hq, .slice Aq nq cq])) := Lib.hid (by rw [← hWf]; exact rx_of HRq.out (by first | omega | (simp; done) | (simp; omega)) fun b hb hl => Below.heap_alloc _ _ _ hl)
             rw [hWf, ← hpe]
             clear hWf hpe)
          | (obtain ⟨W6, hWf⟩ : ∃ Wf, ((w9.setCell ⟨w2.heap.size, 0, none⟩ (.int .i64 kq)).setCell ⟨w2.heap.size, 1, none⟩ (.int .i64 hq)).setCell ⟨w2.heap.size, 2, none⟩ (.slice Aq nq cq) = Wf := ⟨_, rfl⟩
             obtain ⟨pq, hpe⟩ : ∃ p, p = w2.heap.size := ⟨_, rfl⟩
             have hlw : w2.heap.size ≤ pq := by rw [hpe]; exact Nat.le_refl _
             have xq : Box W6 pq 26 #[.int .i64 kq, .int .i64 hq, .slice Aq nq cq] := by rw [hpe, ← hWf]; exact zP.put3 _ _ _
             have hbF : Below w2.heap.size w2 W6 := by rw [← hWf]; exact (cur_set3 (by assumption) (by omega) _ _ _).out
             have HRX6 : Hid (RX (fun b => b < w2.heap.size) W6 RT (.agg #[.int .i64 kq, .int .i64 hq, .slice Aq nq cq])) := Lib.hid (by rw [← hWf]; exact rx_of HRq.out (by first | omega | (simp; done) | (simp; omega)) fun b hb hl => heap_other3 _ _ _ _ _ _ (by simp at hb; omega))
             rw [hWf, ← hpe]
             clear hWf hpe)
        all_goals
          replace y0 := y0.keep hbF y0.lt
          replace y3 := y3.keep hbF y3.lt
          replace HST := Lib.hid (HST.out.keep hbF HST.out.lt)
          replace HFW := Lib.hid (HFW.out.then hbF)
          clear hbF HK HAP HRX
          try clear zP
          clear r0 r1 r2 f0 f1 f2 q0 q1 q2
          have ly3 := y3.lt
          obtain ⟨r0, r1, r2⟩ := y3.three
          have f0 := y3.frozen 0
          have f1 := y3.frozen 1
          have f2 := y3.frozen 2
          have lyq := xq.lt
          rcases HRR.out with ⟨hz, hr⟩ | ⟨hz, hr⟩
          · have hndx := HND.out hz
            subst hz
            have HR := Lib.hid hr; clear hr HRR
            obtain ⟨k', h', A', n', c', heq, hrx⟩ := kp_rx (x := c + nd RT) HRX6.out
            have HRX7 := Lib.hid hrx; clear hrx
            have HSZ : Hid (∀ W', Below W6.heap.size W6 W' → Calls Try.prog 114 #[.agg #[.int .i64 kq, .int .i64 hq, .slice Aq nq cq]] W' fun e w' => e = .returned (.int .i64 (nd RT : Nat)) ∧ Below W'.heap.size W' w') := Lib.hid fun W' hW' => by
              have := sizeC RT _ W' (Rd.keep hW' _ _ (RX.rd HRX6.out))
              rw [szW_small (by omega)] at this
              exact this
            have HKP : Hid (∀ W', Below W6.heap.size W6 W' → Calls Try.prog 103 #[.pointer (some ⟨pp, 0, none⟩), .agg #[.int .i64 kq, .int .i64 hq, .slice Aq nq cq], .int .i64 (nd RT : Nat)] W' fun e w' => e = .returned (.agg #[.int .i64 k', .int .i64 h', .slice A' n' c']) ∧ Fr (fun b => b = pp) W6 w' ∧ ptB w' pp (some ⟨b, o, none⟩) m cL (c + nd RT)) := Lib.hid fun W' hW' => by
              have := keepPC (d := nd RT) (k := kq) (h := hq) (A2 := Aq) (n2 := nq) (c2 := cq) W' (HST.out.keep hW' HST.out.lt) (by omega)
              rw [heq] at this
              exact this.mono fun e w' ⟨h1, h2, h3⟩ => ⟨h1, (Fr.below (X := fun b => b = pp) hW').trans h2 fun _ _ e => e, h3⟩
            clear heq
            go_wp2_with fail
            have d0 := y0.one.1
            obtain ⟨z0, z1, z2⟩ := xq.three
            have hcur : Below W6.heap.size W6 W6.drew := (Below.refl _ _).drew
            go_region_held3 (fun w' => w'.cell? ⟨w.heap.size, 0, none⟩ = some (.pointer (some ⟨pp, 0, none⟩)) ∧ w'.cell? ⟨pq, 0, none⟩ = some (.int .i64 kq) ∧ w'.cell? ⟨pq, 1, none⟩ = some (.int .i64 hq) ∧ w'.cell? ⟨pq, 2, none⟩ = some (.slice Aq nq cq))
              (first | exact ⟨d0, z0, z1, z2⟩ | exact ⟨m0.one.1, mq.three.1, mq.three.2.1, mq.three.2.2⟩ | exact ⟨n0.one.1, nQ.three.1, nQ.three.2.1, nQ.three.2.2⟩ | exact ⟨o0.one.1, oq.three.1, oq.three.2.1, oq.three.2.2⟩)
              (first
                | (go_at_call 114
                   refine (HSZ.out _ hcur).mono ?_
                   rintro e w7 ⟨rfl, hb7⟩
                   replace hcur := hcur.trans (hb7.mono hcur.size)
                   have m0 := y0.keep hcur y0.lt
                   have mq := xq.keep hcur xq.lt
                   clear hb7)
                | (go_at_call 103
                   refine (HKP.out _ hcur).mono ?_
                   rintro e w8 ⟨rfl, hfr8, hst8⟩
                   have n0 := y0.fr hfr8 (by omega)
                   have nQ := xq.fr hfr8 (by omega)
                   have n3 := y3.fr hfr8 (by omega)
                   have s8 := n3.lt
                   have HFR8 := Lib.hid hfr8
                   have HST8 := Lib.hid hst8
                   clear hfr8 hst8 r0 r1 r2 f0 f1 f2
                   obtain ⟨r0, r1, r2⟩ := n3.three
                   have f0 := n3.frozen 0
                   have f1 := n3.frozen 1
                   have f2 := n3.frozen 2
                   have o0 := n0.other3 (a := w.heap.size + 1 + 1 + 1) (by omega) (.int .i64 k') (.int .i64 h') (.slice A' n' c')
                   have oq := nQ.other3 (a := w.heap.size + 1 + 1 + 1) (by omega) (.int .i64 k') (.int .i64 h') (.slice A' n' c')))
            clear o0 oq n0 nQ z0 z1 z2 d0
            go_wp2_with fail
            refine bodyPost_ret (v := .tuple #[.agg #[.int .i64 k', .int .i64 h', .slice A' n' c'], .int .i64 0]) (by simp [results, Try.results100, go_sem, r0, r1, r2]) rfl ?_
            rw [HR.out]
            refine ⟨k', h', A', n', c', rfl, ?_, ((HFW.out.trans HFR8.out fun _ _ e => e).set3 (fun h => by omega) _ _ _), Box.other3 HST8.out (by omega) _ _ _⟩
            exact RdF.moveX (fun b hb hl => ⟨by omega, (heap_other3 _ _ _ _ _ _ (by omega)).trans (HFR8.out.block b hl (by omega))⟩) _ _ HRX7.out
          · have hne' : (RE != 0) = true := by simpa using hz
            have HR := Lib.hid hr
            have HZ := Lib.hid hz
            clear hr hz HRR
            go_wp2_with fail
            refine bodyPost_ret (v := .tuple #[zT, .int .i64 RE]) (by simp [results, Try.results100, go_sem, r0, r1, r2]) rfl ?_
            rw [HR.out]
            exact ⟨rfl, HZ.out, HFW.out.set3 (fun h => by omega) _ _ _⟩
end Go.Proofs.Ytloeainlpcnhnaa
/-
  Contract of package meta's fill. No statement is proved here.
-/
namespace Go.Proofs.Ytloeainlpcnhnaa
open Go.ChangeShapes Go.WideShapes Go.ChangeAt Go.RowKit
set_option linter.unusedVariables false
set_option maxRecDepth 100000
set_option maxHeartbeats 4000000 in
theorem fillC (th : List T) : ∀ t, FiC th t := by
  refine T.ind fun k h xs ih => ?_
  intro wB w pp A m cL n c v hb hpB hp hth hv hno h0 hn ho hc
  have hv' := hv
  obtain ⟨An, nn, cc, rfl, wfk, wfh, hl, hnc, hcm, hxs⟩ := Rd_node.1 hv
  have lp := hp.lt
  have szB := hb.size
  obtain ⟨W, hW⟩ : ∃ W, (((w.alloc (.cells #[.pointer (some ⟨pp, 0, none⟩)] 128)).alloc (.cells #[.int .i64 k, .int .i64 h, .slice An nn cc] 26)).alloc (.cells #[.int .i64 n] 3)).alloc (.cells #[.int .i64 0, .int .i64 0, .slice none 0 0] 26) = W := ⟨_, rfl⟩
  have hbW : Below w.heap.size w W := by rw [← hW]; exact ((((Below.refl _ _).alloc (Nat.le_refl _) _).alloc (by simp) _).alloc (by simp; omega) _).alloc (by simp; omega) _
  have x0 : Box W w.heap.size 128 #[.pointer (some ⟨pp, 0, none⟩)] := by rw [← hW]; exact (((Box.new _ _ _).alloc _).alloc _).alloc _
  have x1 : Box W (w.heap.size + 1) 26 #[.int .i64 k, .int .i64 h, .slice An nn cc] := by rw [← hW]; exact (((Box.new (w.alloc _) _ _).at (by simp)).alloc _).alloc _
  have x2 : Box W (w.heap.size + 1 + 1) 3 #[.int .i64 n] := by rw [← hW]; exact ((Box.new ((w.alloc _).alloc _) _ _).at (by simp)).alloc _
  have x3 : Box W (w.heap.size + 1 + 1 + 1) 26 #[.int .i64 0, .int .i64 0, .slice none 0 0] := by rw [← hW]; exact (Box.new (((w.alloc _).alloc _).alloc _) _ _).at (by simp)
  have hpW := hp.keep hbW lp
  have hbBW := hb.trans (hbW.mono hb.size)
  by_cases hk6 : k = 6
  · subst hk6
    have hBC := becomeC ih hbBW hpB hpW hth hv hno h0 hn ho hc
    generalize pf th n c (.node 6 h xs) = R at *
    have HBC := Lib.hid hBC; clear hBC
    have HW := Lib.hid hW; clear hW
    have HBW := Lib.hid hbW; clear hbW
    clear hv hv' hno ho hxs hn hc hth hp hpW hbBW hb ih wfk wfh
    go_enter Try.func83, Try.ntmps83
    go_wp2_with fail
    rw [HW.out]
    clear HW
    refine HBC.out.mono ?_
    clear HBC
    intro e w2 hE
    obtain ⟨k3, h3, A3, n3, c3, ec, rfl, hout, hfr⟩ := hE.uni
    have r2 := x3.fr hfr (by omega)
    have s2 := r2.lt
    have s5 := x3.lt
    have HO := Lib.hid hout
    have HFR := Lib.hid hfr
    clear hout hE hfr x0 x1 x2 x3
    obtain ⟨y0, y1, y2⟩ := r2.three
    have f0 := r2.frozen 0
    have f1 := r2.frozen 1
    have f2 := r2.frozen 2
    go_wp2_with fail
    refine bodyPost_ret (v := .tuple #[.agg #[.int .i64 k3, .int .i64 h3, .slice A3 n3 c3], .int .i64 ec]) (by simp [results, Try.results83, go_sem, y0, y1, y2]) rfl ?_
    have s4 := HFR.out.size
    refine CO.cen (HO.out.move (by omega) (fun g hg _ => heap_other3 _ _ _ _ _ _ (by omega)) fun _ _ _ hs => Box.other3 hs (by omega) _ _ _) ?_
    exact ((Fr.below (X := fun b => b = pp) HBW.out).trans HFR.out fun _ _ e => e).set3 (fun h => by omega) _ _ _
  · have hR := pf_node th n k h xs c hk6
    obtain ⟨_, hnos⟩ := node_parts hno
    have hos := ok_parts ho
    have hdp : dp (.node k h xs) = 1 + dpL xs := by rw [dp]
    have hnd : nd (.node k h xs) = 1 + ndL xs := by rw [nd]
    have hlen := (wdL_nd xs).2
    have hE := eachFC (X := fun b => b = pp) (St := fun c w' => ptB w' pp A m cL c) (p1 := .pointer (some ⟨w.heap.size, 0, none⟩)) (p2 := .pointer (some ⟨w.heap.size + 1 + 1, 0, none⟩)) (p3 := .pointer (some ⟨w.heap.size + 1, 0, none⟩)) (wB := wB) (w := W) (A := An) (n := nn) (c := cc) (c0 := c) (M := 1125899906842624) xs (fun i x c => pf th (n + bd k nn i) c x)
      hbBW hl hnc hcm (by omega) hxs (fun b e => by subst e; exact ⟨hpB, hpW.lt⟩) (fun c' W1 W2 _ hk hs => (hk pp rfl).trans hs) hpW (by omega)
      (fun i t c t1 c1 _ hr => by
        unfold pf at hr
        split at hr
        · cases hr
        · rename_i t' ht'
          cases hr
          have := fl_nd th t _ t' ht'
          omega)
      (fun i t v W' c' ht hrd hfr hst hlo => by
        have hmem := List.mem_of_getElem? ht
        have h1 := dpL_mem hmem
        have h2 := nd_mem hmem
        have hi : i < xs.length := (List.getElem?_eq_some_iff.1 ht).1
        have h3 : nd t ≤ ndL (xs.drop i) := by rw [drop_at ht, ndL]; omega
        have h4 : i ≤ maxLen := by unfold maxLen at hcm ⊢; omega
        exact closFC (ih t hmem) i v (hb.trans ((hbW.mono hb.size).trans (hfr.to_below (fun i e => by subst e; exact hpB) (by have := hbW.size; omega)))) hpB hst hth hrd (hnos t hmem) h0 (by omega) (hos t hmem) (by omega) (x0.fr hfr (by omega)) (x2.fr hfr (by omega)) (x1.fr hfr (by omega)) hnc hcm h4 (by omega) (by omega) (by omega))
    rw [ea_fill, show flL th k nn xs 0 n = flL th k xs.length xs 0 n from by rw [hl]] at hE
    have hnd2 : ∀ ys, flL th k xs.length xs 0 n = .ok ys → ndL ys ≤ 4000 * ndL xs := fun ys he => flL_nd th k xs.length xs 0 n ys he
    have herr : ∀ e, flL th k xs.length xs 0 n = .error e → e ≠ 0 := fun e he => flL_err th k xs.length xs 0 n e he
    obtain ⟨FR, hFR⟩ : ∃ FR, FR = flL th k xs.length xs 0 n := ⟨_, rfl⟩
    generalize pf th n c (.node k h xs) = R at *
    rw [← hFR] at hE hnd2 herr hR
    have hbnd : ∀ ys, FR = .ok ys → c + ndL ys + 1 ≤ 4611686018427387904 := fun ys he => by have := hnd2 ys he; omega
    have HWF := Lib.hid (And.intro wfk wfh)
    have HE := Lib.hid hE; clear hE
    have HW := Lib.hid hW; clear hW
    have HBW := Lib.hid hbW; clear hbW
    clear hv hv' hno ho hxs hn hc hth hp hpW hbBW hb ih hFR hnd2 wfk wfh hos hnos hdp hnd hlen hnc hcm hpB
    have e6 : (k == 6) = false := by simpa using hk6
    clear hk6
    go_enter Try.func83, Try.ntmps83
    go_wp2_with fail
    rw [HW.out]
    clear HW
    refine HE.out.mono ?_
    clear HE
    cases FR with
    | error ec =>
      rintro e w1 ⟨rfl, hne, hfr⟩
      have HR := Lib.hid (show R = .error ec from hR); clear hR
      have hne' : (ec != 0) = true := by simpa using hne
      have y3 := x3.fr hfr (by omega)
      have HFW := Lib.hid ((Fr.below (X := fun b => b = pp) HBW.out).trans hfr fun _ _ e => e); clear hfr
      have HNE := Lib.hid hne; clear hne
      clear x0 x1 x2 x3 herr hbnd
      obtain ⟨r0, r1, r2⟩ := y3.three
      have f0 := y3.frozen 0
      have f1 := y3.frozen 1
      have f2 := y3.frozen 2
      have ly := y3.lt
      go_wp2_with fail
      refine bodyPost_ret (v := .tuple #[zT, .int .i64 ec]) (by simp [results, Try.results83, go_sem, r0, r1, r2]) rfl ?_
      rw [HR.out]
      exact ⟨rfl, HNE.out, HFW.out.set3 (fun h => by omega) _ _ _⟩
    | ok ys =>
      rintro e w1 ⟨A9, n9, c9, rfl, hrl, hfr, hst⟩
      have HR := Lib.hid (show R = .ok (kp (c + ndL ys + 1) (.node k h (kpL c ys)), c + ndL ys + 1) from hR); clear hR
      have hbd := hbnd ys rfl
      have y0 := x0.fr hfr (by omega)
      have y1 := x1.fr hfr (by omega)
      have y3 := x3.fr hfr (by omega)
      have hsz := hfr.size
      have l3 := x3.lt
      have HFW := Lib.hid ((Fr.below (X := fun b => b = pp) HBW.out).trans hfr fun _ _ e => e); clear hfr
      clear x0 x1 x2 x3 herr hbnd
      have hnode : RX (fun b => b < W.heap.size) w1 (.node k h (kpL c ys)) (.agg #[.int .i64 k, .int .i64 h, .slice A9 n9 c9]) := RdF_node.2 ⟨A9, n9, c9, rfl, HWF.out.1, HWF.out.2, hrl.len, hrl.le, hrl.cap, hrl.at_⟩
      have hkp := keepPC (d := 1) (k := k) (h := h) (A2 := A9) (n2 := n9) (c2 := c9) w1 hst hbd
      obtain ⟨k', h', A', n', c', heq, hrx⟩ := kp_rx (x := c + ndL ys + 1) hnode
      rw [heq, show ((1 : Nat) : Int) = 1 from rfl] at hkp
      have HKP := Lib.hid hkp
      have HRX := Lib.hid hrx
      clear hkp heq hrx hnode hrl hst hbd
      obtain ⟨r0, r1, r2⟩ := y3.three
      obtain ⟨a0, a1, a2⟩ := y1.three
      have d0 := y0.one.1
      have f0 := y3.frozen 0
      have f1 := y3.frozen 1
      have f2 := y3.frozen 2
      have ly := y3.lt
      go_wp2_with fail
      refine HKP.out.mono ?_
      clear HKP
      rintro e w2 ⟨rfl, hfr2, hst2⟩
      have z3 := y3.fr hfr2 (by omega)
      have hsz2 := hfr2.size
      have HF2 := Lib.hid hfr2
      have HS2 := Lib.hid hst2
      clear hfr2 hst2 r0 r1 r2 f0 f1 f2 a0 a1 a2 d0 y0 y1 y3
      obtain ⟨r0, r1, r2⟩ := z3.three
      have f0 := z3.frozen 0
      have f1 := z3.frozen 1
      have f2 := z3.frozen 2
      have lz := z3.lt
      go_wp2_with fail
      refine bodyPost_ret (v := .tuple #[.agg #[.int .i64 k', .int .i64 h', .slice A' n' c'], .int .i64 0]) (by simp [results, Try.results83, go_sem, r0, r1, r2]) rfl ?_
      rw [HR.out]
      refine ⟨k', h', A', n', c', rfl, ?_, ((HFW.out.trans HF2.out fun _ _ e => e).set3 (fun h => by omega) _ _ _), Box.other3 HS2.out (by omega) _ _ _⟩
      exact RdF.moveX (fun b hb hl => ⟨by omega, (heap_other3 _ _ _ _ _ _ (by omega)).trans (HF2.out.block b hl (by omega))⟩) _ _ HRX.out
end Go.Proofs.Ytloeainlpcnhnaa
/-
  Contracts of package meta's by, of the closure that it tells, and of Fill. No statement is proved here.
-/
namespace Go.Proofs.Ytloeainlpcnhnaa
open Go.ChangeShapes Go.WideShapes Go.ChangeAt Go.RowKit
set_option linter.unusedVariables false
set_option maxRecDepth 100000
/-- may these be terms for metas? -/
def thB (th : List T) : Bool := decide (th.length ≤ 200) && th.all myB
/-- what Fill tells -/
def fiR (th : List T) (n : Int) (t : T) : Except Int T :=
  if (thB th && decide (0 ≤ n) && decide (n ≤ 1000) && myB t) = true then
    match flT th t n with
    | .error e => .error e
    | .ok t' => if myB t' = true then .ok t' else .error 4
  else .error 1
/-- how Fill ends -/
def FnE (r : Except Int T) (w : World) (e : Ending) (w' : World) : Prop :=
  match r with
  | .error ec => e = .returned (.tuple #[zT, .int .i64 ec]) ∧ ec ≠ 0 ∧ Below w.heap.size w w'
  | .ok t => TEnd t 0 w e w'
theorem FnE.below {r : Except Int T} {w w' : World} {e : Ending} (h : FnE r w e w') : Below w.heap.size w w' := by
  cases r with
  | error ec => exact h.2.2
  | ok t =>
    obtain ⟨_, _, _, _, _, _, _, hb⟩ := h
    exact hb
/-- with a count that stays -/
def wc (r : Except Int T) (c : Nat) : Res :=
  match r with
  | .error e => .error e
  | .ok t => .ok (t, c)
theorem FnE.cen {X : Nat → Prop} {r : Except Int T} {c : Nat} {w w' : World} {e : Ending} (h : FnE r w e w') : CEn X (fun _ _ => True) w (wc r c) e w' := by
  cases r with
  | error ec =>
    obtain ⟨rfl, hne, hb⟩ := h
    exact ⟨rfl, hne, Fr.below hb⟩
  | ok t =>
    obtain ⟨k, h, A, n, cc, rfl, hr, hb⟩ := h
    exact ⟨k, h, A, n, cc, rfl, RdF.moveX (fun b hb _ => ⟨by omega, rfl⟩) _ _ hr, Fr.below hb, trivial⟩
theorem fne_of {r : Except Int T} {c : Nat} {w w' : World} {k h : Int} {A : Option Addr} {n cc : Nat} {ec : Int} (o : CO (fun _ _ => True) w.heap.size w' (wc r c) k h A n cc ec) (hb : Below w.heap.size w w') : FnE r w (.returned (.tuple #[.agg #[.int .i64 k, .int .i64 h, .slice A n cc], .int .i64 ec])) w' := by
  cases r with
  | error e' =>
    obtain ⟨rfl, hne, hz⟩ := o
    exact ⟨by rw [hz], hne, hb⟩
  | ok t =>
    obtain ⟨rfl, hr, _⟩ := o
    exact ⟨k, h, A, n, cc, rfl, RdF.moveX (fun b hb _ => ⟨by omega, rfl⟩) _ _ hr, hb⟩
theorem fi_bad {th : List T} {n : Int} {t : T} (h : (thB th && decide (0 ≤ n) && decide (n ≤ 1000) && myB t) = false) : fiR th n t = .error 1 := by
  unfold fiR; rw [h]; rfl
theorem fi_good {th : List T} {n : Int} {t : T} (h1 : thB th = true) (h2 : 0 ≤ n) (h3 : n ≤ 1000) (h4 : myB t = true) : fiR th n t = match flT th t n with
    | .error e => .error e
    | .ok t' => if myB t' = true then .ok t' else .error 4 := by
  unfold fiR; rw [h1, h4]; simp [h2, h3]
set_option maxHeartbeats 4000000 in
theorem byC {th : List T} {A : Option Addr} {m cL : Nat} (w : World) (hn : th.length = m) (hc : m ≤ cL) (hm : cL ≤ maxLen) (hx : ∀ i t, th[i]? = some t → RdAt w A i t) :
    Calls Try.prog 54 #[.slice A m cL] w fun e w' => ∃ pm pt, e = .returned (.func (.func 82) #[] #[.pointer (some ⟨pm, 0, none⟩), .pointer (some ⟨pt, 0, none⟩)]) ∧ Box w' pm 4 #[.bool (thB th)] ∧ Box w' pt 24 #[.slice A m cL] ∧ Below w.heap.size w w' := by
  have hmf : ∀ (fn : Fn) (first cap : Array Value) (w : World), (Instr.makeFunc fn first cap).run Try.prog w = .ok (.func fn first cap) w := fun _ _ _ _ => rfl
  have hb : Below w.heap.size w (w.alloc (.cells #[.slice A m cL] 24)) := (Below.refl _ _).alloc (Nat.le_refl _) _
  have x0 := Box.new w 24 #[.slice A m cL]
  have HC := Lib.hid (containsC th A m cL (w.alloc (.cells #[.slice A m cL] 24)) hn hc hm fun i t ht => RdAt.keep hb (hx i t ht))
  obtain ⟨β, hβ⟩ : ∃ β, th.all myB = β := ⟨_, rfl⟩
  have hT : thB th = (decide (m ≤ 200) && β) := by rw [thB, hn, hβ]
  rw [hβ] at HC
  rw [hT]
  clear hT hβ hx hn hc hm
  by_cases hl : m ≤ 200
  · have d1 : decide ((m : Int) ≤ 200) = true := by simp; omega
    have d2 : decide (m ≤ 200) = true := by simpa using hl
    rw [d2]
    clear d2 hl
    go_enter Try.func54, Try.ntmps54
    go_wp2_with fail
    refine HC.out.mono ?_
    clear HC
    rintro e w1 ⟨rfl, hb1⟩
    have y0 := x0.keep hb1 x0.lt
    have hbw := hb.trans (hb1.mono hb.size)
    have hfin : ∀ v, Box (w1.alloc (.cells #[v] 4)) w1.heap.size 4 #[v] ∧ Box (w1.alloc (.cells #[v] 4)) w.heap.size 24 #[.slice A m cL] ∧ Below w.heap.size w (w1.alloc (.cells #[v] 4)) := fun v => ⟨Box.new _ _ _, y0.alloc _, hbw.alloc hbw.size _⟩
    have HFIN := Lib.hid hfin
    clear hfin y0 hbw hb1 hb x0
    cases β
    all_goals
      go_wp2_with fail
      go_ret
      exact ⟨_, _, rfl, (HFIN.out _).1, (HFIN.out _).2.1, (HFIN.out _).2.2⟩
  · have d1 : decide ((m : Int) ≤ 200) = false := by simp; omega
    have d2 : decide (m ≤ 200) = false := by simpa using hl
    rw [d2]
    have HFIN := Lib.hid fun v => (⟨(Box.new _ _ _).at (by simp), x0.alloc _, hb.alloc hb.size _⟩ : Box ((w.alloc (.cells #[.slice A m cL] 24)).alloc (.cells #[v] 4)) (w.heap.size + 1) 4 #[v] ∧ Box ((w.alloc (.cells #[.slice A m cL] 24)).alloc (.cells #[v] 4)) w.heap.size 24 #[.slice A m cL] ∧ Below w.heap.size w ((w.alloc (.cells #[.slice A m cL] 24)).alloc (.cells #[v] 4)))
    clear d2 hl HC x0 hb
    go_enter Try.func54, Try.ntmps54
    go_wp2_with fail
    go_ret
    exact ⟨_, _, rfl, (HFIN.out _).1, (HFIN.out _).2.1, (HFIN.out _).2.2⟩
set_option maxHeartbeats 8000000 in
theorem byFC {th : List T} {t : T} {A : Option Addr} {m cL : Nat} {n : Int} {pm pt : Nat} {k h : Int} {At : Option Addr} {nt ct : Nat} (w : World) (hn : th.length = m) (hc : m ≤ cL) (hm : cL ≤ maxLen) (hx : ∀ i t, th[i]? = some t → RdAt w A i t)
    (xm : Box w pm 4 #[.bool (thB th)]) (xt : Box w pt 24 #[.slice A m cL]) (hv : Rd w t (.agg #[.int .i64 k, .int .i64 h, .slice At nt ct])) (hok : ∀ x ∈ th, myB x = true → okT 2199023255552 x) (ho : myB t = true → okT 2199023255552 t) :
    Calls Try.prog 82 #[.agg #[.int .i64 k, .int .i64 h, .slice At nt ct], .int .i64 n, .pointer (some ⟨pm, 0, none⟩), .pointer (some ⟨pt, 0, none⟩)] w (FnE (fiR th n t) w) := by
  obtain ⟨W, hW⟩ : ∃ W, (w.alloc (.cells #[.int .i64 k, .int .i64 h, .slice At nt ct] 26)).alloc (.cells #[.int .i64 0, .int .i64 0, .slice none 0 0] 26) = W := ⟨_, rfl⟩
  have hb : Below w.heap.size w W := by rw [← hW]; exact ((Below.refl _ _).alloc (Nat.le_refl _) _).alloc (by simp) _
  have x0 : Box W w.heap.size 26 #[.int .i64 k, .int .i64 h, .slice At nt ct] := by rw [← hW]; exact (Box.new _ _ _).alloc _
  have x1 : Box W (w.heap.size + 1) 26 #[.int .i64 0, .int .i64 0, .slice none 0 0] := by rw [← hW]; exact (Box.new (w.alloc _) _ _).at (by simp)
  have lm := xm.lt
  have lt := xt.lt
  have lm1 : pm < w.heap.size + 1 := by omega
  have m0 := xm.one.1
  have HBAD : Hid ((thB th && decide (0 ≤ n) && decide (n ≤ 1000) && myB t) = false → ∀ w', Below w.heap.size w w' → FnE (fiR th n t) w (.returned (.tuple #[zT, .int .i64 1])) w') := Lib.hid fun h w' hb' => by
    rw [fi_bad h]
    exact ⟨rfl, by decide, hb'⟩
  have HMN := Lib.hid (mayNotC t _ W (Rd.keep hb _ _ hv))
  have HGO : Hid (thB th = true → 0 ≤ n → n ≤ 1000 → myB t = true → fiR th n t = (match flT th t n with
    | .error e => .error e
    | .ok t' => if myB t' = true then .ok t' else .error 4) ∧ ∀ W' pp, Below w.heap.size w W' → w.heap.size ≤ pp → ptB W' pp A m cL 0 → Calls Try.prog 83 #[.pointer (some ⟨pp, 0, none⟩), .agg #[.int .i64 k, .int .i64 h, .slice At nt ct], .int .i64 n] W' (CEn (fun b => b = pp) (fun c w' => ptB w' pp A m cL c) W' (pf th n 0 t))) := Lib.hid fun h1 h2 h3 h4 => by
    refine ⟨fi_good h1 h2 h3 h4, fun W' pp hb' hpp hpt => ?_⟩
    have hall : ∀ x ∈ th, myB x = true := by
      unfold thB at h1
      rw [Bool.and_eq_true] at h1
      exact List.all_eq_true.1 h1.2
    obtain ⟨a1, a2, a3⟩ := (myB_iff t).1 h4
    exact fillC th t w W' pp A m cL n 0 _ hb' hpp hpt ⟨hall, fun x hx => hok x hx (hall x hx), hn, hc, hm, hx⟩ hv a1 h2 (by omega) (ho h4) (by omega)
  have HXT := Lib.hid xt
  have HB := Lib.hid hb
  clear hx hv hok ho hn hc hm xt xm
  generalize fiR th n t = R at *
  generalize hpf : pf th n 0 t = P at *
  have hpf' : P = match flT th t n with
    | .error e => .error e
    | .ok t' => .ok (kp (nd t') t', nd t') := by rw [← hpf, pf]; simp only [Nat.zero_add] <;> (cases flT th t n <;> rfl)
  generalize flT th t n = FR at *
  clear hpf
  have HPF := Lib.hid hpf'; clear hpf'
  generalize thB th = bT at *
  generalize myB t = bM at *
  have HW := Lib.hid hW; clear hW hb
  obtain ⟨r0, r1, r2⟩ := x1.three
  have f0 := x1.frozen 0
  have f1 := x1.frozen 1
  have f2 := x1.frozen 2
  cases bT
  · go_enter Try.func82, Try.ntmps82
    go_wp2_with fail
    refine bodyPost_ret (v := .tuple #[zT, .int .i64 1]) (by simp [results, Try.results82, go_sem]) rfl ?_
    exact HBAD.out (by simp) _ (((Below.refl _ _).alloc (Nat.le_refl _) _).alloc (by simp) _)
  by_cases h2 : n < 0
  · have d1 : decide (n < 0) = true := by simpa using h2
    have d2 : decide (0 ≤ n) = false := by simp; omega
    rw [d2] at HBAD
    clear d2 h2
    go_enter Try.func82, Try.ntmps82
    go_wp2_with fail
    refine bodyPost_ret (v := .tuple #[zT, .int .i64 1]) (by simp [results, Try.results82, go_sem]) rfl ?_
    exact HBAD.out (by simp) _ (((Below.refl _ _).alloc (Nat.le_refl _) _).alloc (by simp) _)
  have d1 : decide (n < 0) = false := by simpa using h2
  by_cases h3 : 1000 < n
  · have d3 : decide (1000 < n) = true := by simpa using h3
    have d2 : decide (n ≤ 1000) = false := by simp; omega
    rw [d2] at HBAD
    clear d2 h2 h3
    go_enter Try.func82, Try.ntmps82
    go_wp2_with fail
    refine bodyPost_ret (v := .tuple #[zT, .int .i64 1]) (by simp [results, Try.results82, go_sem]) rfl ?_
    exact HBAD.out (by simp) _ (((Below.refl _ _).alloc (Nat.le_refl _) _).alloc (by simp) _)
  have d3 : decide (1000 < n) = false := by simpa using h3
  have HN := Lib.hid (And.intro (show 0 ≤ n by omega) (show n ≤ 1000 by omega)); clear h2 h3
  go_enter Try.func82, Try.ntmps82
  go_wp2_with fail
  rw [HW.out]
  clear HW
  refine HMN.out.mono ?_
  clear HMN
  rintro e w1 ⟨rfl, hb1⟩
  have y0 := x0.keep hb1 x0.lt
  have y1 := x1.keep hb1 x1.lt
  have hbw := HB.out.trans (hb1.mono HB.out.size)
  have yt := HXT.out.keep hbw lt
  have l1 := y1.lt
  have l0 := y0.lt
  clear x0 x1 hb1 r0 r1 r2 f0 f1 f2 HB HXT
  obtain ⟨r0, r1, r2⟩ := y1.three
  have f0 := y1.frozen 0
  have f1 := y1.frozen 1
  have f2 := y1.frozen 2
  cases bM
  · have HBW := Lib.hid hbw; clear hbw
    go_wp2_with fail
    refine bodyPost_ret (v := .tuple #[zT, .int .i64 1]) (by simp [results, Try.results82, go_sem, r0, r1, r2]) rfl ?_
    exact HBAD.out (by simp) _ (below_set3 HBW.out (by omega) _ _ _)
  obtain ⟨hR, hFI⟩ := HGO.out (by trivial) HN.out.1 HN.out.2 (by trivial)
  have HRR := Lib.hid hR; clear hR
  obtain ⟨W2, hW2⟩ : ∃ W2, w1.alloc (.cells #[.slice A m cL, .int .i64 0] 112) = W2 := ⟨_, rfl⟩
  have hb2 : Below w1.heap.size w1 W2 := by rw [← hW2]; exact (Below.refl _ _).alloc (Nat.le_refl _) _
  have z0 := y0.keep hb2 y0.lt
  have z1 := y1.keep hb2 y1.lt
  have lz1 := z1.lt
  have zp : ptB W2 w1.heap.size A m cL 0 := by rw [← hW2]; exact Box.new _ _ _
  have hbw2 := hbw.trans (hb2.mono hbw.size)
  have hsw := hbw.size
  have HF := Lib.hid (hFI W2 w1.heap.size hbw2 hsw zp); clear hFI HGO
  have HBW := Lib.hid hbw2; clear hbw2 hbw hb2
  have HW2 := Lib.hid hW2; clear hW2
  have t0 := yt.one.1
  obtain ⟨a0, a1, a2⟩ := y0.three
  obtain ⟨b0, b1, b2⟩ := z0.three
  go_wp2_with fail
  rw [HW2.out]
  clear HW2
  refine HF.out.mono ?_
  clear HF
  rw [HPF.out]
  clear HPF HBAD
  cases FR with
  | error ec =>
    have HR := Lib.hid (show R = .error ec from HRR.out); clear HRR
    rintro e w3 ⟨rfl, hne, hfr⟩
    have hne' : (ec != 0) = true := by simpa using hne
    have hne2 : (ec == 0) = false := by simpa using hne
    have u1 := z1.fr hfr (by omega)
    have HB3 := Lib.hid (HBW.out.trans (hfr.to_below (B := w.heap.size) (fun i e => by omega) HBW.out.size)); clear hfr
    have HNE := Lib.hid hne; clear hne
    clear y0 y1 yt z0 z1 zp t0 a0 a1 a2 b0 b1 b2 r0 r1 r2 f0 f1 f2
    obtain ⟨r0, r1, r2⟩ := u1.three
    have f0 := u1.frozen 0
    have f1 := u1.frozen 1
    have f2 := u1.frozen 2
    have lu := u1.lt
    have hszw := HB3.out.size
    go_wp2_with fail
    refine bodyPost_ret (v := .tuple #[zT, .int .i64 ec]) (by simp [results, Try.results82, go_sem, r0, r1, r2, lu]) rfl ?_
    rw [HR.out]
    refine ⟨rfl, HNE.out, ?_⟩
    exact (below_set3 HB3.out (by omega) _ _ _).alloc (by simp [World.setCell]; omega) _
  | ok t' =>
    rintro e w3 ⟨k3, h3, A3, n3, c3, rfl, hrx, hfr, hst⟩
    have u1 := z1.fr hfr (by omega)
    have HB3 := Lib.hid (HBW.out.trans (hfr.to_below (B := w.heap.size) (fun i e => by omega) HBW.out.size)); clear hfr hst
    have hbD : Below w3.heap.size w3 (w3.alloc (.cells #[.int .i64 k3, .int .i64 h3, .slice A3 n3 c3] 26)) := (Below.refl _ _).alloc (Nat.le_refl _) _
    have u2 := u1.keep hbD u1.lt
    have xq := Box.new w3 26 #[.int .i64 k3, .int .i64 h3, .slice A3 n3 c3]
    have hrD : RX (fun b => b < W2.heap.size) (w3.alloc (.cells #[.int .i64 k3, .int .i64 h3, .slice A3 n3 c3] 26)) (kp (nd t') t') (.agg #[.int .i64 k3, .int .i64 h3, .slice A3 n3 c3]) := RdF.moveX (fun b hb hl => ⟨hb, hbD.block b hl⟩) _ _ hrx
    have HMN := Lib.hid (mayNotC _ _ _ (RX.rd hrD))
    rw [my_kp] at HMN
    have HRD := Lib.hid hrD
    replace HB3 := Lib.hid (HB3.out.trans (hbD.mono HB3.out.size))
    clear y0 y1 yt z0 z1 zp t0 a0 a1 a2 b0 b1 b2 r0 r1 r2 f0 f1 f2 hrx hrD hbD u1
    have hkm : myB t' = true → kp (nd t') t' = t' := kp_my
    generalize kp (nd t') t' = kt at *
    have HKM := Lib.hid hkm; clear hkm
    obtain ⟨bm, hbm⟩ : ∃ bm, myB t' = bm := ⟨_, rfl⟩
    have hR : R = if myB t' = true then .ok t' else .error 4 := HRR.out
    clear HRR
    rw [hbm] at HMN HKM hR
    have HR := Lib.hid hR; clear hR hbm
    have hszw := HB3.out.size
    go_wp2_with fail
    refine HMN.out.mono ?_
    clear HMN
    rintro e w4 ⟨rfl, hb4⟩
    have v1 := u2.keep hb4 u2.lt
    have vq := xq.keep hb4 xq.lt
    replace HRD := Lib.hid (RdF.moveX (ok' := fun b => ¬ b < W2.heap.size) (fun b hb hl => ⟨hb, hb4.block b hl⟩) _ _ HRD.out)
    replace HB3 := Lib.hid (HB3.out.trans (hb4.mono HB3.out.size))
    have hbl := HBW.out.size
    clear hb4 u2 xq
    obtain ⟨r0, r1, r2⟩ := v1.three
    obtain ⟨q0, q1, q2⟩ := vq.three
    have f0 := v1.frozen 0
    have f1 := v1.frozen 1
    have f2 := v1.frozen 2
    have lu := v1.lt
    cases bm
    · go_wp2_with fail
      refine bodyPost_ret (v := .tuple #[zT, .int .i64 4]) (by simp [results, Try.results82, go_sem, r0, r1, r2]) rfl ?_
      rw [HR.out]
      exact ⟨rfl, by decide, below_set3 HB3.out (by omega) _ _ _⟩
    · go_wp2_with fail
      refine bodyPost_ret (v := .tuple #[.agg #[.int .i64 k3, .int .i64 h3, .slice A3 n3 c3], .int .i64 0]) (by simp [results, Try.results82, go_sem, r0, r1, r2]) rfl ?_
      have hk := HKM.out (by trivial)
      subst hk
      rw [HR.out]
      exact ⟨k3, h3, A3, n3, c3, rfl, RdF.moveX (fun b hb hl => ⟨by omega, heap_other3 _ _ _ _ _ _ (by omega)⟩) _ _ HRD.out, below_set3 HB3.out (by omega) _ _ _⟩
end Go.Proofs.Ytloeainlpcnhnaa
/-
  Contracts of package meta's Fill, Ctx and All. No statement is proved here.
-/
namespace Go.Proofs.Ytloeainlpcnhnaa
open Go.ChangeShapes Go.WideShapes Go.ChangeAt Go.RowKit
set_option linter.unusedVariables false
set_option maxRecDepth 100000
/-- what a caller hands in for metas -/
structure ThI (th : List T) (w : World) (A : Option Addr) (m cL : Nat) : Prop where
  ok : ∀ x ∈ th, myB x = true → okT 2199023255552 x
  len : th.length = m
  le : m ≤ cL
  cap : cL ≤ maxLen
  at_ : ∀ i x, th[i]? = some x → RdAt w A i x
theorem ThI.keep {th : List T} {w w' : World} {A : Option Addr} {m cL : Nat} (h : ThI th w A m cL) (hb : Below w.heap.size w w') : ThI th w' A m cL :=
  ⟨h.ok, h.len, h.le, h.cap, fun i x hx => RdAt.keep hb (h.at_ i x hx)⟩
set_option maxHeartbeats 4000000 in
theorem FillC {th : List T} {t : T} {A : Option Addr} {m cL : Nat} {n : Int} {v : Value} (w : World) (hth : ThI th w A m cL) (hv : Rd w t v) (ho : myB t = true → okT 2199023255552 t) :
    Calls Try.prog 27 #[v, .slice A m cL, .int .i64 n] w (FnE (fiR th n t) w) := by
  obtain ⟨k, h, At, nt, ct, rfl⟩ := hv.full
  obtain ⟨W, hW⟩ : ∃ W, (w.alloc (.cells #[.int .i64 k, .int .i64 h, .slice At nt ct] 26)).alloc (.cells #[.int .i64 0, .int .i64 0, .slice none 0 0] 26) = W := ⟨_, rfl⟩
  have hb : Below w.heap.size w W := by rw [← hW]; exact ((Below.refl _ _).alloc (Nat.le_refl _) _).alloc (by simp) _
  have x0 : Box W w.heap.size 26 #[.int .i64 k, .int .i64 h, .slice At nt ct] := by rw [← hW]; exact (Box.new _ _ _).alloc _
  have x1 : Box W (w.heap.size + 1) 26 #[.int .i64 0, .int .i64 0, .slice none 0 0] := by rw [← hW]; exact (Box.new (w.alloc _) _ _).at (by simp)
  have HBY := Lib.hid fun W' (h' : Below w.heap.size w W') => byC W' hth.len hth.le hth.cap (hth.keep h').at_
  have HCL := Lib.hid fun W' (h' : Below w.heap.size w W') pm pt hm ht => byFC (n := n) (pm := pm) (pt := pt) W' hth.len hth.le hth.cap (hth.keep h').at_ hm ht (Rd.keep h' _ _ hv) hth.ok ho
  have HW := Lib.hid hW; clear hW hth hv ho
  generalize fiR th n t = R at *
  obtain ⟨a0, a1, a2⟩ := x0.three
  have HB := Lib.hid hb
  go_enter Try.func27, Try.ntmps27
  go_wp2_with fail
  rw [HW.out]
  clear HW
  have hcur : Below W.heap.size W W.drew := (Below.refl _ W).drew
  have szW := HB.out.size
  go_region_held3 (fun w' => w'.cell? ⟨w.heap.size, 0, none⟩ = some (.int .i64 k) ∧ w'.cell? ⟨w.heap.size, 1, none⟩ = some (.int .i64 h) ∧ w'.cell? ⟨w.heap.size, 2, none⟩ = some (.slice At nt ct))
    (first | exact ⟨a0, a1, a2⟩ | exact ⟨q1.three.1, q1.three.2.1, q1.three.2.2⟩ | exact ⟨r1.three.1, r1.three.2.1, r1.three.2.2⟩ | exact ⟨o1.three.1, o1.three.2.1, o1.three.2.2⟩)
    (first
      | (go_at_call 54
         refine (HBY.out _ (HB.out.trans (hcur.mono HB.out.size))).mono ?_
         rintro e w1 ⟨pm, pt, rfl, xm, xt, hb1⟩
         replace hcur := hcur.trans (hb1.mono hcur.size)
         have q1 := x0.keep hcur x0.lt
         have q2 := x1.keep hcur x1.lt
         have HXM := Lib.hid xm
         have HXT := Lib.hid xt
         clear hb1 xm xt)
      | (go_at_call 82
         refine (HCL.out _ (HB.out.trans (hcur.mono HB.out.size)) pm pt HXM.out HXT.out).mono ?_
         intro e w2 hE
         have hbE := hE.below
         obtain ⟨k3, h3, A3, n3, c3, ec, rfl, hout, hfr⟩ := (hE.cen (X := fun _ => False) (c := 0)).uni
         have r1 := q1.keep hbE q1.lt
         have r2 := q2.keep hbE q2.lt
         have s2 := r2.lt
         have s3 := hcur.size
         have s5 := x1.lt
         have HO := Lib.hid hout
         have HBE := Lib.hid hbE
         have HCU := Lib.hid hcur
         clear hout hE hfr hbE
         obtain ⟨y0, y1, y2⟩ := r2.three
         have f0 := r2.frozen 0
         have f1 := r2.frozen 1
         have f2 := r2.frozen 2
         have o1 := r1.other3 (a := w.heap.size + 1) (by omega) (.int .i64 k3) (.int .i64 h3) (.slice A3 n3 c3)))
  clear o1
  go_wp2_with fail
  refine bodyPost_ret (v := .tuple #[.agg #[.int .i64 k3, .int .i64 h3, .slice A3 n3 c3], .int .i64 ec]) (by simp [results, Try.results27, go_sem, y0, y1, y2]) rfl ?_
  exact fne_of (HO.out.move (B' := w.heap.size) (by omega) (fun g hg _ => heap_other3 _ _ _ _ _ _ (by omega)) fun _ _ _ _ => trivial) (below_set3 ((HB.out.trans (HCU.out.mono HB.out.size)).trans (HBE.out.mono (by omega))) (by omega) _ _ _)
end Go.Proofs.Ytloeainlpcnhnaa
/-
  Contracts of the functions of the laws of layer 4: metas, bare; the chapter's example. No statement is proved here.
-/
namespace Go.Proofs.Ytloeainlpcnhnaa
open Go.ChangeShapes Go.WideShapes Go.ChangeAt Go.RowKit
set_option linter.unusedVariables false
set_option maxRecDepth 100000
end Go.Proofs.Ytloeainlpcnhnaa
/-
  What the laws of layer 4 need of terms whose metas become something, as plain facts. No statement is proved here.
-/
namespace Go.Proofs.Ytloeainlpcnhnaa
open Go.ChangeShapes Go.WideShapes Go.ChangeAt Go.RowKit
set_option linter.unusedVariables false
end Go.Proofs.Ytloeainlpcnhnaa
/-
  The chapter's example of layer 4, and what the laws need of what Fill tells. No statement is proved here.
-/
namespace Go.Proofs.Ytloeainlpcnhnaa
open Go.ChangeShapes Go.WideShapes Go.ChangeAt Go.RowKit
set_option linter.unusedVariables false
set_option maxRecDepth 100000
theorem thB_all {th : List T} (h : thB th = true) : ∀ x ∈ th, myB x = true := by
  unfold thB at h
  rw [Bool.and_eq_true] at h
  exact List.all_eq_true.1 h.2
theorem nodL_of : ∀ {xs : List T}, (∀ x ∈ xs, nodB x = true) → nodL xs = true
  | [], _ => by rw [nodL]
  | x :: xs, h => by rw [nodL, h x (List.mem_cons_self ..), nodL_of fun y hy => h y (List.mem_cons_of_mem _ hy)]; rfl
theorem ok_node6 {M h : Int} {xs : List T} (hx : ∀ x ∈ xs, okT M x) : okT M (.node 6 h xs) := by
  rw [okT]
  refine ⟨fun e => by omega, ?_⟩
  have : ∀ xs : List T, (∀ x ∈ xs, okT M x) → okL M xs := by
    intro xs
    induction xs with
    | nil => intro _; rw [okL]; trivial
    | cons x xs ih =>
      intro h
      rw [okL]
      exact ⟨h x (List.mem_cons_self ..), ih fun y hy => h y (List.mem_cons_of_mem _ hy)⟩
  exact this xs hx
theorem vs_nd (m : Nat) : ∀ xs : List T, (∀ x ∈ xs, ∃ h, x = .node 4 h []) → ndL xs = xs.length ∧ dpL xs ≤ 1
  | [], _ => by simp [ndL, dpL]
  | x :: xs, h => by
    obtain ⟨i, rfl⟩ := h x (List.mem_cons_self ..)
    have := vs_nd m xs fun y hy => h y (List.mem_cons_of_mem _ hy)
    simp only [ndL, dpL, nd, dp, List.length_cons]
    omega
end Go.Proofs.Ytloeainlpcnhnaa
/-
  Contract of package meta's Ctx, and the walk of the law MetaLists.
-/
namespace Go.Proofs.Ytloeainlpcnhnaa
open Go.ChangeShapes Go.WideShapes Go.ChangeAt Go.RowKit
set_option linter.unusedVariables false
set_option maxRecDepth 100000
theorem st_func (w1 : World) (ty : TypeId) (fn : Fn) (a b : Array Value) : Sem.run Try.prog (store ⟨w1.heap.size, 0, none⟩ (.func fn a b)) (w1.alloc (.cells #[.nilFunc] ty)) = .ok () (w1.alloc (.cells #[.func fn a b] ty)) := by
  rw [run_store _ _ _ _ _ rfl]
  simp [go_sem]
set_option maxHeartbeats 4000000 in
theorem closCC {th : List T} {t : T} {A : Option Addr} {m cL : Nat} {n : Int} {pm pt pF pN : Nat} {v : Value} (i : Nat) (w : World) (hth : ThI th w A m cL) (hv : Rd w t v) (ho : myB t = true → okT 2199023255552 t)
    (xm : Box w pm 4 #[.bool (thB th)]) (xt : Box w pt 24 #[.slice A m cL])
    (xF : Box w pF 91 #[.func (.func 82) #[] #[.pointer (some ⟨pm, 0, none⟩), .pointer (some ⟨pt, 0, none⟩)]]) (xN : Box w pN 3 #[.int .i64 n]) :
    Calls Try.prog 56 #[.int .i64 i, v, .pointer (some ⟨pF, 0, none⟩), .pointer (some ⟨pN, 0, none⟩)] w (FnE (fiR th (wrap64 (n + i)) t) w) := by
  obtain ⟨k, h, At, nt, ct, rfl⟩ := hv.full
  obtain ⟨W, hW⟩ : ∃ W, (w.alloc (.cells #[.int .i64 k, .int .i64 h, .slice At nt ct] 26)).alloc (.cells #[.int .i64 0, .int .i64 0, .slice none 0 0] 26) = W := ⟨_, rfl⟩
  have hb : Below w.heap.size w W := by rw [← hW]; exact ((Below.refl _ _).alloc (Nat.le_refl _) _).alloc (by simp) _
  have x1 : Box W (w.heap.size + 1) 26 #[.int .i64 0, .int .i64 0, .slice none 0 0] := by rw [← hW]; exact (Box.new (w.alloc _) _ _).at (by simp)
  have lm := xm.lt
  have lt := xt.lt
  have lF := xF.lt
  have lN := xN.lt
  have lF1 : pF < w.heap.size + 1 := by omega
  have lN1 : pN < w.heap.size + 1 := by omega
  have HCL := Lib.hid (byFC (n := wrap64 (n + i)) (pm := pm) (pt := pt) W hth.len hth.le hth.cap (hth.keep hb).at_ (xm.keep hb lm) (xt.keep hb lt) (Rd.keep hb _ _ hv) hth.ok ho)
  have hsum : IntKind.i64.wrap (n + i) = wrap64 (n + i) := wrapEq _
  generalize fiR th (wrap64 (n + i)) t = R at *
  generalize wrap64 (n + i) = s at *
  have c0 := xF.one.1
  have d0 := xN.one.1
  have HW := Lib.hid hW; clear hW hth hv ho xm xt xF xN
  have HB := Lib.hid hb; clear hb
  go_enter Try.func56, Try.ntmps56
  go_wp2_with fail
  rw [HW.out]
  clear HW
  refine HCL.out.mono ?_
  intro e w2 hE
  have hbE := hE.below
  obtain ⟨k3, h3, A3, n3, c3, ec, rfl, hout, hfr⟩ := (hE.cen (X := fun _ => False) (c := 0)).uni
  have r2 := x1.keep hbE x1.lt
  have s5 := x1.lt
  have s2 := r2.lt
  have HO := Lib.hid hout
  have HBE := Lib.hid hbE
  clear hout hE hfr hbE x1 c0 d0
  obtain ⟨y0, y1, y2⟩ := r2.three
  have f0 := r2.frozen 0
  have f1 := r2.frozen 1
  have f2 := r2.frozen 2
  go_wp2_with fail
  refine bodyPost_ret (v := .tuple #[.agg #[.int .i64 k3, .int .i64 h3, .slice A3 n3 c3], .int .i64 ec]) (by simp [results, Try.results56, go_sem, y0, y1, y2]) rfl ?_
  have s3 := HB.out.size
  exact fne_of (HO.out.move (B' := w.heap.size) (by omega) (fun g hg _ => heap_other3 _ _ _ _ _ _ (by omega)) fun _ _ _ _ => trivial) (below_set3 (HB.out.trans (HBE.out.mono HB.out.size)) (by omega) _ _ _)
/-- what becomes of the entries of a context -/
abbrev cxL (th : List T) (n : Int) (xs : List T) : Except Int (List T × Nat) := eaL (fun i t c => wc (fiR th (wrap64 (n + i)) t) c) xs 0 0
/-- how Ctx and All end -/
def LnE (r : Except Int (List T × Nat)) (w : World) (e : Ending) (w' : World) : Prop :=
  match r with
  | .error ec => e = .returned (.tuple #[.slice none 0 0, .int .i64 ec]) ∧ ec ≠ 0 ∧ Below w.heap.size w w'
  | .ok (ys, _) => ∃ A n cc, e = .returned (.tuple #[.slice A n cc, .int .i64 0]) ∧ RXL (fun b => b < w.heap.size) w' ys A n cc ∧ Below w.heap.size w w'
theorem GEn.lne {St : Nat → World → Prop} {r : Except Int (List T × Nat)} {w0 w w' : World} {e : Ending} (h : GEn (fun _ => False) St w r e w') (hb : Below w0.heap.size w0 w) : LnE r w0 e w' := by
  cases r with
  | error ec =>
    obtain ⟨h1, h2, h3⟩ := h
    exact ⟨h1, h2, hb.trans (h3.to_below (fun i e => e.elim) hb.size)⟩
  | ok p =>
    obtain ⟨ys, c⟩ := p
    obtain ⟨A, n, cc, rfl, h2, h3, _⟩ := h
    exact ⟨A, n, cc, rfl, ⟨h2.len, h2.le, h2.cap, fun i t ht => RdFAt.moveX (fun b hb' hl => ⟨by have := hb.size; omega, rfl⟩) (h2.at_ i t ht)⟩, hb.trans (h3.to_below (fun i e => e.elim) hb.size)⟩
set_option maxHeartbeats 4000000 in
theorem CtxC {th xs : List T} {A Al : Option Addr} {m cL nl cl : Nat} {n : Int} (w : World) (hth : ThI th w A m cL) (hl : xs.length = nl) (hlc : nl ≤ cl) (hlm : cl ≤ maxLen) (hl40 : nl ≤ 3518437208780) (hx : ∀ i t, xs[i]? = some t → RdAt w Al i t) (ho : ∀ t ∈ xs, myB t = true → okT 2199023255552 t) :
    Calls Try.prog 26 #[.slice Al nl cl, .slice A m cL, .int .i64 n] w (LnE (cxL th n xs) w) := by
  have hmf : ∀ (fn : Fn) (first cap : Array Value) (w : World), (Instr.makeFunc fn first cap).run Try.prog w = .ok (.func fn first cap) w := fun _ _ _ _ => rfl
  obtain ⟨W, hW⟩ : ∃ W, w.alloc (.cells #[.int .i64 n] 3) = W := ⟨_, rfl⟩
  have hb : Below w.heap.size w W := by rw [← hW]; exact (Below.refl _ _).alloc (Nat.le_refl _) _
  have x0 : Box W w.heap.size 3 #[.int .i64 n] := by rw [← hW]; exact Box.new _ _ _
  have HBY := Lib.hid (byC W hth.len hth.le hth.cap (hth.keep hb).at_)
  have HE : Hid (∀ W2 pm pt pF, Below w.heap.size w W2 → Box W2 pm 4 #[.bool (thB th)] → Box W2 pt 24 #[.slice A m cL] → Box W2 pF 91 #[.func (.func 82) #[] #[.pointer (some ⟨pm, 0, none⟩), .pointer (some ⟨pt, 0, none⟩)]] → Box W2 w.heap.size 3 #[.int .i64 n] →
      Calls Try.prog 55 #[.slice Al nl cl, .func (.func 56) #[] #[.pointer (some ⟨pF, 0, none⟩), .pointer (some ⟨w.heap.size, 0, none⟩)]] W2 (GEn (fun _ => False) (fun _ _ => True) W2 (cxL th n xs))) := Lib.hid fun W2 pm pt pF h2 xm xt xF xN =>
    eachCC (X := fun _ => False) (St := fun _ _ => True) (p1 := .pointer (some ⟨pF, 0, none⟩)) (p2 := .pointer (some ⟨w.heap.size, 0, none⟩)) (wB := w) (w := W2) (A := Al) (n := nl) (c := cl) (c0 := 0) (M := 4000 * ndL xs) xs (fun i t c => wc (fiR th (wrap64 (n + i)) t) c)
      h2 hl hlc hlm hl40 hx (fun b e => e.elim) (fun _ _ _ _ _ _ => trivial) trivial (by omega)
      (fun i t c t1 c1 _ hr => by
        unfold wc at hr
        split at hr
        · cases hr
        · cases hr; omega)
      (fun i t v W' c' ht hrd hfr hst hlo => by
        have hbw := hfr.to_below (B := W2.heap.size) (fun i e => e.elim) (Nat.le_refl _)
        have hb' := h2.trans (hbw.mono h2.size)
        exact (closCC (th := th) (n := n) i W' (hth.keep hb') (Rd.keep hb' _ _ hrd) (ho t (List.mem_of_getElem? ht)) (xm.keep hbw xm.lt) (xt.keep hbw xt.lt) (xF.keep hbw xF.lt) (xN.keep hbw xN.lt)).mono fun e w' h => h.cen)
  have HW := Lib.hid hW; clear hW hx ho hth hl hlc hlm hl40
  have HB := Lib.hid hb; clear hb
  generalize cxL th n xs = R at *
  go_enter Try.func26, Try.ntmps26
  go_wp2_with fail
  rw [HW.out]
  clear HW
  refine HBY.out.mono ?_
  clear HBY
  rintro e w1 ⟨pm, pt, rfl, xm, xt, hb1⟩
  have hbw := HB.out.trans (hb1.mono HB.out.size)
  have y0 := x0.keep hb1 x0.lt
  have hbF : Below w1.heap.size w1 (w1.alloc (.cells #[.func (.func 82) #[] #[.pointer (some ⟨pm, 0, none⟩), .pointer (some ⟨pt, 0, none⟩)]] 91)) := (Below.refl _ _).alloc (Nat.le_refl _) _
  have hbw2 := hbw.trans (hbF.mono hbw.size)
  have HC := Lib.hid (HE.out _ pm pt w1.heap.size hbw2 (xm.keep hbF xm.lt) (xt.keep hbF xt.lt) (Box.new _ _ _) (y0.keep hbF y0.lt))
  have HB2 := Lib.hid hbw2
  have hsf := st_func w1 91 (.func 82) #[] #[.pointer (some ⟨pm, 0, none⟩), .pointer (some ⟨pt, 0, none⟩)]
  clear hbw2 hbF hbw y0 hb1 xm xt x0 HE
  go_wp2_with fail
  refine HC.out.mono ?_
  clear HC
  intro e w3 hE
  have hL := hE.lne HB2.out
  cases R with
  | error ec =>
    obtain ⟨rfl, hne, hb3⟩ := hL
    have HL := Lib.hid hb3
    have HNE := Lib.hid hne
    clear hb3 hE hne
    go_wp2_with fail
    go_ret2
    exact ⟨rfl, HNE.out, HL.out⟩
  | ok p =>
    obtain ⟨ys, c⟩ := p
    obtain ⟨A9, n9, c9, rfl, hrl, hb3⟩ := hL
    have HL := Lib.hid (And.intro hrl hb3)
    clear hb3 hE hrl
    go_wp2_with fail
    go_ret2
    exact ⟨A9, n9, c9, rfl, HL.out.1, HL.out.2⟩
theorem ea_at {F : Nat → T → Except Int T} : ∀ (xs : List T) (i c : Nat) (ys : List T) (c' : Nat), eaL (fun i t c => wc (F i t) c) xs i c = .ok (ys, c') → ys.length = xs.length ∧ ∀ (j : Nat) (t : T), xs[j]? = some t → ∃ y, ys[j]? = some y ∧ F (i + j) t = .ok y
  | [], i, c, ys, c', h => by
    rw [eaL] at h
    cases h
    exact ⟨rfl, fun j t ht => by simp at ht⟩
  | x :: xs, i, c, ys, c', h => by
    rw [eaL] at h
    cases hF : F i x with
    | error e => simp [hF, wc] at h
    | ok y =>
      simp only [hF, wc] at h
      split at h
      · cases h
      · rename_i zs c2 hz
        cases h
        obtain ⟨h1, h2⟩ := ea_at xs (i + 1) c zs c' hz
        refine ⟨by simp [h1], fun j t ht => ?_⟩
        cases j with
        | zero =>
          simp only [List.getElem?_cons_zero, Option.some.injEq] at ht
          subst ht
          exact ⟨y, by simp, hF⟩
        | succ j =>
          simp only [List.getElem?_cons_succ] at ht
          obtain ⟨y', hy, hf⟩ := h2 j t ht
          exact ⟨y', by simpa using hy, by rw [← hf]; congr 1; omega⟩
theorem LnE.uni {r : Except Int (List T × Nat)} {w w' : World} {e : Ending} (h : LnE r w e w') : ∃ A n cc ec, e = .returned (.tuple #[.slice A n cc, .int .i64 ec]) ∧ Below w.heap.size w w' := by
  cases r with
  | error ec =>
    obtain ⟨rfl, _, hb⟩ := h
    exact ⟨none, 0, 0, ec, rfl, hb⟩
  | ok p =>
    obtain ⟨ys, c⟩ := p
    obtain ⟨A, n, cc, rfl, _, hb⟩ := h
    exact ⟨A, n, cc, 0, rfl, hb⟩
end Go.Proofs.Ytloeainlpcnhnaa
