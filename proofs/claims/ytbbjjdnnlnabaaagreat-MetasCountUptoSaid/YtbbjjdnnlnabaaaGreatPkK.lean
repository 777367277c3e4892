/- Texts of one proof, put together. No statement is proved here. -/
import Derived.Test.YtbbjjdnnlnabaaaGreatPkP
import Derived.Test.YtbbjjdnnlnabaaaGreatPkWg
import Derived.Test.YtbbjjdnnlnabaaaGreatPkWd
namespace Go.Proofs.YtbbjjdnnlnabaaaGreat
open Go.ChangeShapes Go.WideShapes Go.ChangeAt Go.RowKit
set_option linter.unusedVariables false
set_option linter.unusedSimpArgs false
def flN (th : List T) (n k h : Int) (ys : List T) : Except Int T :=
  if k = 6 then
    if (th.length : Int) ≤ h then .error 2
    else if ys.all myB = true then
      if apE (th.getD h.toNat (.node 0 0 [])) ys n = 0 then .ok (apT (th.getD h.toNat (.node 0 0 [])) ys n) else .error (apE (th.getD h.toNat (.node 0 0 [])) ys n)
    else .error 4
  else .ok (.node k h ys)
mutual
def flT (th : List T) : T → Int → Except Int T
  | .node k h xs, n =>
    match flL th k xs.length xs 0 n with
    | .error e => .error e
    | .ok ys => flN th n k h ys
def flL (th : List T) (k : Int) (m : Nat) : List T → Nat → Int → Except Int (List T)
  | [], _, _ => .ok []
  | x :: xs, i, n =>
    match flT th x (n + bd k m i) with
    | .error e => .error e
    | .ok y =>
      match flL th k m xs (i + 1) n with
      | .error e => .error e
      | .ok ys => .ok (y :: ys)
end
def kp (c : Nat) (t : T) : T := if 4000 < c then .node 7 0 [] else t
def kpL : Nat → List T → List T
  | _, [] => []
  | c, y :: ys => kp (c + nd y) y :: kpL (c + nd y) ys
def pf (th : List T) (n : Int) (c : Nat) (t : T) : Res :=
  match flT th t n with
  | .error e => .error e
  | .ok t' => .ok (kp (c + nd t') t', c + nd t')
def eaL (g : Nat → T → Nat → Res) : List T → Nat → Nat → Except Int (List T × Nat)
  | [], _, c => .ok ([], c)
  | x :: xs, i, c =>
    match g i x c with
    | .error e => .error e
    | .ok (y, c1) =>
      match eaL g xs (i + 1) c1 with
      | .error e => .error e
      | .ok (ys, c2) => .ok (y :: ys, c2)
theorem kpL_id : ∀ (ys : List T) (c : Nat), c + ndL ys ≤ 4000 → kpL c ys = ys
  | [], _, _ => rfl
  | y :: ys, c, h => by
    rw [ndL] at h
    rw [kpL, kp, if_neg (by omega), kpL_id ys (c + nd y) (by omega)]
theorem my_leaf7 : myB (.node 7 0 []) = false := by decide
theorem my_kp (y : T) : myB (kp (nd y) y) = myB y := by
  unfold kp
  split
  · rw [my_leaf7]
    cases h : myB y with
    | false => rfl
    | true => have := ((myB_iff y).1 h).2.1; omega
  · rfl
theorem kp_my {y : T} (h : myB y = true) : kp (nd y) y = y := by
  unfold kp
  rw [if_neg (by have := ((myB_iff y).1 h).2.1; omega)]
theorem all_kp (ys : List T) : (ys.map fun y => kp (nd y) y).all myB = ys.all myB := by
  rw [List.all_map]
  congr 1
  funext y
  exact my_kp y
theorem map_kp {ys : List T} (h : ys.all myB = true) : (ys.map fun y => kp (nd y) y) = ys := by
  have := List.map_congr_left (l := ys) (f := fun y => kp (nd y) y) (g := id) fun y hy => kp_my (List.all_eq_true.1 h y hy)
  rw [this, List.map_id]
theorem ea_fill (th : List T) (n k : Int) (m : Nat) : ∀ (xs : List T) (i c : Nat), eaL (fun i x c => pf th (n + bd k m i) c x) xs i c = match flL th k m xs i n with
    | .error e => .error e
    | .ok ys => .ok (kpL c ys, c + ndL ys)
  | [], i, c => by simp [eaL, flL, kpL, ndL]
  | x :: xs, i, c => by
    rw [eaL, flL, pf]
    cases hx : flT th x (n + bd k m i) with
    | error e => rfl
    | ok y =>
      simp only
      rw [ea_fill th n k m xs (i + 1) (c + nd y)]
      cases flL th k m xs (i + 1) n with
      | error e => rfl
      | ok ys => simp only [kpL, ndL]; rw [Nat.add_assoc]
def po (th : List T) (n : Int) (c : Nat) (t : T) : Res :=
  match pf th n 0 t with
  | .error e => .error e
  | .ok (y, _) => .ok (y, c)
theorem dpL_mem {t : T} : ∀ {xs : List T}, t ∈ xs → dp t ≤ dpL xs
  | x :: xs, h => by
    rw [dpL]
    rcases List.mem_cons.1 h with rfl | h
    · omega
    · have := dpL_mem h
      omega
theorem bd6 (m i : Nat) : bd 6 m i = 0 := by simp [bd]
theorem ea_own (th : List T) (n : Int) (m : Nat) : ∀ (xs : List T) (i c : Nat), eaL (fun _ x c => po th n c x) xs i c = match flL th 6 m xs i n with
    | .error e => .error e
    | .ok ys => .ok (ys.map (fun y => kp (nd y) y), c)
  | [], i, c => by simp [eaL, flL]
  | x :: xs, i, c => by
    rw [eaL, flL, bd6, Int.add_zero, po, pf]
    cases hx : flT th x n with
    | error e => rfl
    | ok y =>
      simp only
      rw [ea_own th n m xs (i + 1) c]
      cases flL th 6 m xs (i + 1) n with
      | error e => rfl
      | ok ys => simp only [List.map_cons, Nat.zero_add]
theorem pf_meta (th : List T) (n h : Int) (xs : List T) (c : Nat) : pf th n c (.node 6 h xs) = match flL th 6 xs.length xs 0 n with
    | .error e => .error e
    | .ok ys =>
      if (th.length : Int) ≤ h then .error 2
      else if ys.all myB = true then
        if apE (th.getD h.toNat (.node 0 0 [])) ys n = 0 then .ok (kp (c + nd (apT (th.getD h.toNat (.node 0 0 [])) ys n)) (apT (th.getD h.toNat (.node 0 0 [])) ys n), c + nd (apT (th.getD h.toNat (.node 0 0 [])) ys n)) else .error (apE (th.getD h.toNat (.node 0 0 [])) ys n)
      else .error 4 := by
  rw [pf, flT]
  cases flL th 6 xs.length xs 0 n with
  | error e => rfl
  | ok ys =>
    simp only [flN, if_true]
    split
    · rename_i e he
      split at he
      · rename_i h1
        cases he
        rw [if_pos h1]
      · rename_i h1
        rw [if_neg h1]
        split at he
        · rename_i h2
          rw [if_pos h2]
          split at he
          · cases he
          · rename_i h3
            cases he
            rw [if_neg h3]
        · rename_i h2
          cases he
          rw [if_neg h2]
    · rename_i t' he
      split at he
      · cases he
      · rename_i h1
        rw [if_neg h1]
        split at he
        · rename_i h2
          rw [if_pos h2]
          split at he
          · rename_i h3
            cases he
            rw [if_pos h3]
          · cases he
        · cases he
theorem pf_node (th : List T) (n k h : Int) (xs : List T) (c : Nat) (hk : k ≠ 6) : pf th n c (.node k h xs) = match flL th k xs.length xs 0 n with
    | .error e => .error e
    | .ok ys => .ok (kp (c + ndL ys + 1) (.node k h (kpL c ys)), c + ndL ys + 1) := by
  unfold pf
  rw [flT]
  cases flL th k xs.length xs 0 n with
  | error e => rfl
  | ok ys =>
    simp only [flN, if_neg hk]
    have e : c + nd (.node k h ys) = c + ndL ys + 1 := by rw [nd]; omega
    rw [e]
    unfold kp
    split
    · rfl
    · rw [kpL_id ys c (by omega)]
/-! ### What is answered may be -/
theorem ap_zero {t : T} {L : List T} {sh : Int} (h : apE t L sh = 0) : myB t = true ∧ sbB L sh = true ∧ ∃ m, apR t L sh = .ok (apT t L sh, m) ∧ myB (apT t L sh) = true := by
  unfold apE at h
  by_cases hp : (myB t && sbB L sh) = true
  · rw [if_pos hp] at h
    have hp' := hp
    rw [Bool.and_eq_true] at hp'
    refine ⟨hp'.1, hp'.2, ?_⟩
    unfold apT
    rw [if_pos hp]
    cases hr : apR t L sh with
    | error e => rw [hr] at h; exact absurd (by simpa [anE] using h) (ap_err _ _ _ _ _ _ _ hr)
    | ok p =>
      obtain ⟨t', m⟩ := p
      rw [hr] at h
      have hm : myB t' = true := by
        cases hm : myB t' with
        | true => rfl
        | false => simp [anE, hm] at h
      simp only [anT, hm, if_true]
      exact ⟨m, rfl, trivial⟩
  · rw [if_neg hp] at h
    omega
mutual
theorem fl_nd (th : List T) : ∀ (t : T) (n : Int) (t' : T), flT th t n = .ok t' → nd t' ≤ 4000 * nd t
  | .node k h xs, n, t', hr => by
    rw [flT] at hr
    split at hr
    · cases hr
    · rename_i ys hy
      have := flL_nd th k xs.length xs 0 n ys hy
      rw [nd]
      unfold flN at hr
      split at hr
      · split at hr
        · cases hr
        · split at hr
          · split at hr
            · rename_i h0
              cases hr
              obtain ⟨_, _, _, _, hm⟩ := ap_zero h0
              have := ((myB_iff _).1 hm).2.1
              omega
            · cases hr
          · cases hr
      · cases hr
        rw [nd]
        omega
theorem flL_nd (th : List T) (k : Int) (m : Nat) : ∀ (xs : List T) (i : Nat) (n : Int) (ys : List T), flL th k m xs i n = .ok ys → ndL ys ≤ 4000 * ndL xs
  | [], i, n, ys, hr => by
    rw [flL] at hr
    cases hr
    simp [ndL]
  | x :: xs, i, n, ys, hr => by
    rw [flL] at hr
    split at hr
    · cases hr
    · rename_i y hy
      have := fl_nd th x _ y hy
      split at hr
      · cases hr
      · rename_i zs hz
        have := flL_nd th k m xs (i + 1) n zs hz
        cases hr
        rw [ndL, ndL]
        omega
end
theorem flL_len (th : List T) (k : Int) (m : Nat) : ∀ (xs : List T) (i : Nat) (n : Int) (ys : List T), flL th k m xs i n = .ok ys → ys.length = xs.length
  | [], i, n, ys, hr => by
    rw [flL] at hr
    cases hr
    rfl
  | x :: xs, i, n, ys, hr => by
    rw [flL] at hr
    split at hr
    · cases hr
    · split at hr
      · cases hr
      · rename_i zs hz
        have := flL_len th k m xs (i + 1) n zs hz
        cases hr
        simp [this]
mutual
theorem fl_err (th : List T) : ∀ (t : T) (n e : Int), flT th t n = .error e → e ≠ 0
  | .node k h xs, n, e, hr => by
    rw [flT] at hr
    split at hr
    · rename_i e' he
      cases hr
      exact flL_err th k xs.length xs 0 n e he
    · unfold flN at hr
      split at hr
      · split at hr
        · cases hr; omega
        · split at hr
          · split at hr
            · cases hr
            · cases hr; assumption
          · cases hr; omega
      · cases hr
theorem flL_err (th : List T) (k : Int) (m : Nat) : ∀ (xs : List T) (i : Nat) (n e : Int), flL th k m xs i n = .error e → e ≠ 0
  | [], i, n, e, hr => by
    rw [flL] at hr
    cases hr
  | x :: xs, i, n, e, hr => by
    rw [flL] at hr
    split at hr
    · rename_i e' he
      cases hr
      exact fl_err th x _ e he
    · split at hr
      · rename_i e' he
        cases hr
        exact flL_err th k m xs (i + 1) n e he
      · cases hr
end
/-! ### Heads -/
def hB (d : Nat) : Int := 2199023255552 + d * 68719476736
theorem hB_mono {a b : Nat} (h : a ≤ b) : hB a ≤ hB b := by unfold hB; omega
theorem ap_heads {t : T} {L : List T} {sh M : Int} (h : apE t L sh = 0) (ht : okT M t) (hL : ∀ x ∈ L, okT M x) (hs : sh ≤ 1048576) : okT (M + 68719476736) (apT t L sh) := by
  obtain ⟨h1, h2, m, h3, _⟩ := ap_zero h
  unfold sbB at h2
  simp only [Bool.and_eq_true, decide_eq_true_eq, List.all_eq_true] at h2
  have hg := ap_good (B := M + 1048576) fl L sh 0 t 0 (Nat.le_refl _) (by omega) ⟨h2.2, fun x hx => okT_mono (by unfold btB; omega) _ (hL x hx), h2.1.1.2, hs⟩ ⟨((myB_iff t).1 h1).1, okT_mono (by unfold btB; omega) _ ht⟩ _ m h3
  exact okT_mono (by have := hg.2.1; unfold btB; omega) _ hg.2.2.1.ok
mutual
theorem fl_heads {th : List T} (hth : ∀ x ∈ th, okT 2199023255552 x) : ∀ (t : T) (n : Int) (t' : T), 0 ≤ n → n + dp t ≤ 1048576 → okT 2199023255552 t → flT th t n = .ok t' → okT (hB (dp t)) t'
  | .node k h xs, n, t', h0, hn, ho, hr => by
    have hd : dp (.node k h xs) = 1 + dpL xs := by rw [dp]
    rw [flT] at hr
    rw [okT] at ho
    split at hr
    · cases hr
    · rename_i ys hy
      have hys := flL_heads hth k xs.length xs 0 n ys h0 (by omega) ho.2 hy
      have hm : hB (dpL xs) + 68719476736 = hB (dp (.node k h xs)) := by rw [hd]; unfold hB; omega
      have hb : (2199023255552 : Int) ≤ hB (dpL xs) := by unfold hB; omega
      unfold flN at hr
      split at hr
      · split at hr
        · cases hr
        · rename_i hlt
          split at hr
          · split at hr
            · rename_i h0'
              cases hr
              rw [← hm]
              refine ap_heads h0' ?_ (fun x hx => okL_mem hys hx) (by omega)
              rcases Nat.lt_or_ge h.toNat th.length with hl | hl
              · exact okT_mono hb _ (hth _ (getD_mem _ hl))
              · rw [List.getD_eq_getElem?_getD, List.getElem?_eq_none hl]
                simp [okT, okL]
            · cases hr
          · cases hr
      · cases hr
        rw [okT]
        exact ⟨fun e => ⟨(ho.1 e).1, by have := (ho.1 e).2; omega⟩, okL_mono (by omega) _ hys⟩
theorem flL_heads {th : List T} (hth : ∀ x ∈ th, okT 2199023255552 x) (k : Int) (m : Nat) : ∀ (xs : List T) (i : Nat) (n : Int) (ys : List T), 0 ≤ n → n + dpL xs + 1 ≤ 1048576 → okL 2199023255552 xs → flL th k m xs i n = .ok ys → okL (hB (dpL xs)) ys
  | [], i, n, ys, _, _, _, hr => by
    rw [flL] at hr
    cases hr
    rw [okL]
    trivial
  | x :: xs, i, n, ys, h0, hn, ho, hr => by
    rw [flL] at hr
    rw [okL] at ho
    have hd : dp x ≤ dpL (x :: xs) ∧ dpL xs ≤ dpL (x :: xs) := by rw [dpL]; omega
    have hbd : 0 ≤ bd k m i ∧ bd k m i ≤ 1 := by rw [bd_bdn]; have := bdn_le k m i; omega
    split at hr
    · cases hr
    · rename_i y hy
      have h1 := fl_heads hth x _ y (by omega) (by omega) ho.1 hy
      split at hr
      · cases hr
      · rename_i zs hz
        have h2 := flL_heads hth k m xs (i + 1) n zs h0 (by omega) ho.2 hz
        cases hr
        rw [okL]
        exact ⟨okT_mono (hB_mono hd.1) _ h1, okL_mono (hB_mono hd.2) _ h2⟩
end
end Go.Proofs.YtbbjjdnnlnabaaaGreat
namespace Go.Proofs.YtbbjjdnnlnabaaaGreat
open Go.ChangeShapes Go.WideShapes Go.ChangeAt Go.RowKit
set_option linter.unusedVariables false
set_option linter.unusedSimpArgs false
theorem mayNotC (t : T) (v : Value) (w : World) (hv : Rd w t v) : Calls Tryz.prog 68 #[v] w fun e w' => e = .returned (.bool (!myB t)) ∧ Below w.heap.size w w' := by
  obtain ⟨k, h, A, n, c, rfl⟩ := hv.full
  have hb : Below w.heap.size w (w.alloc (.cells #[.int .i64 k, .int .i64 h, .slice A n c] 39)) := (Below.refl _ _).alloc (Nat.le_refl _) _
  have HM := Lib.hid (myC t _ _ (Rd.keep hb _ _ hv))
  clear hv
  generalize myB t = r at *
  go_enter Tryz.func68, Tryz.ntmps68
  go_wp2_with fail
  refine HM.out.mono ?_
  rintro e w1 ⟨rfl, hb1⟩
  go_wp2_with fail
  go_ret
  exact ⟨rfl, hb.trans (hb1.mono hb.size)⟩
theorem indexC (xs : List T) (A : Option Addr) (n c : Nat) (w : World) (hn : xs.length = n) (hc : n ≤ c) (hm : c ≤ maxLen) (hx : ∀ i t, xs[i]? = some t → RdAt w A i t) :
    Calls Tryz.prog 86 #[.slice A n c, .func (.func 68) #[] #[]] w fun e w' => ∃ i : Int, e = .returned (.int .i64 i) ∧ decide (0 ≤ i) = (!xs.all myB) ∧ Below w.heap.size w w' := by
  unfold maxLen at hm
  have HN := Lib.hid hn; clear hn
  have HX := Lib.hid hx; clear hx
  go_enter Tryz.func86, Tryz.ntmps86
  go_wp2_with fail
  go_loopw [8] (fun i wr => ∃ (j : Nat), j ≤ n ∧ i = .int .i64 j ∧ Hid ((xs.drop j).all myB = xs.all myB) ∧ Below w.heap.size w wr) (fun i _ => n - (intOf i).toNat)
  case atStart => exact ⟨0, Nat.zero_le _, rfl, Lib.hid (by simp), Below.refl _ _⟩
  case round =>
    obtain ⟨j, hj, rfl, HS, hb⟩ := hrel
    by_cases hlt : j < n
    · obtain ⟨t, ht⟩ := at_of HN.out hlt
      obtain ⟨b, o, k2, h2, A2, n2, c2', rfl, c0, c1, c2, hr⟩ := (RdAt.keep hb (HX.out j t ht)).full
      have HT := Lib.hid ht; clear ht
      have hi0 : (0 : Int) ≤ j := by omega
      have hi1 : (j : Int) < n := by omega
      have HM := Lib.hid (mayNotC t _ _ hr)
      have HS' := HS.out
      rw [drop_at HT.out, List.all_cons] at HS'
      have HS := Lib.hid HS'; clear HS'
      generalize myB t = r at *
      go_wp2_with fail
      clear c0 c1 c2
      refine HM.out.mono ?_
      rintro e w1 ⟨rfl, hb1⟩
      have hbw : Below w.heap.size w w1 := hb.trans (hb1.mono hb.size)
      clear hb1 HM
      cases r
      · go_wp2_with fail
        go_ret
        exact ⟨_, rfl, by rw [← HS.out]; simp, hbw⟩
      · go_wp2_with fail
        go_roundw
        case rel => exact ⟨j + 1, by omega, by go_num, Lib.hid (by simpa using HS.out), hbw⟩
        case measure => simp [intOf]; omega
    · go_wp2_with fail
      go_ret
      exact ⟨_, rfl, by have := HS.out; rw [drop_all HN.out (by omega)] at this; rw [← this]; simp, hb⟩
theorem containsC (xs : List T) (A : Option Addr) (n c : Nat) (w : World) (hn : xs.length = n) (hc : n ≤ c) (hm : c ≤ maxLen) (hx : ∀ i t, xs[i]? = some t → RdAt w A i t) :
    Calls Tryz.prog 67 #[.slice A n c, .func (.func 68) #[] #[]] w fun e w' => e = .returned (.bool (!xs.all myB)) ∧ Below w.heap.size w w' := by
  have HI := Lib.hid (indexC xs A n c w hn hc hm hx)
  clear hx hn hc hm
  generalize (!xs.all myB) = r at *
  go_enter Tryz.func67, Tryz.ntmps67
  go_wp2_with fail
  refine HI.out.mono ?_
  rintro e w1 ⟨i, rfl, hi, hb1⟩
  go_wp2_with fail
  go_ret
  exact ⟨ret_bool (by first | exact hi | rfl | simp), hb1⟩
theorem Fr.putK {X : Nat → Prop} {w w' : World} (h : Fr X w w') {a : Addr} (ha : a.block < w.heap.size → X a.block) (v : Value) : Fr X w (w'.setCell a v) :=
  ⟨h.os, h.tape, h.output, by simpa [World.setCell] using h.size, fun k hk hx => (Below.heap_setCell _ _ _ _ (fun e => by subst e; exact hx (ha hk))).trans (h.block k hk hx)⟩
abbrev ptB (w : World) (pp : Nat) (A : Option Addr) (m c : Nat) (x : Nat) : Prop := Box w pp 99 #[.slice A m c, .int .i64 x]
theorem ptB.put {w : World} {pp : Nat} {A : Option Addr} {m c x : Nat} (h : ptB w pp A m c x) (y : Nat) : ptB (w.setCell ⟨pp, 1, none⟩ (.int .i64 y)) pp A m c y := Box.setAt h 1 _
theorem keepPC {pp : Nat} {A : Option Addr} {m cL c d : Nat} {k h : Int} {A2 : Option Addr} {n2 c2 : Nat} (w : World) (hp : ptB w pp A m cL c) (hc : c + d ≤ 4611686018427387904) :
    Calls Tryz.prog 90 #[.pointer (some ⟨pp, 0, none⟩), .agg #[.int .i64 k, .int .i64 h, .slice A2 n2 c2], .int .i64 (d : Nat)] w fun e w' =>
      e = .returned (if 4000 < c + d then .agg #[.int .i64 7, .int .i64 0, .slice none 0 0] else .agg #[.int .i64 k, .int .i64 h, .slice A2 n2 c2]) ∧ Fr (fun b => b = pp) w w' ∧ ptB w' pp A m cL (c + d) := by
  have lp := hp.lt
  obtain ⟨c0, c1⟩ := hp.two
  have f1 := hp.frozen 1
  have hw1 : IntKind.i64.wrap ((c : Int) + (d : Int)) = ((c + d : Nat) : Int) := by rw [wrapEq, wrap_small (by omega) (by omega)]; omega
  have xp := hp.put (c + d)
  have sz : (w.setCell ⟨pp, 1, none⟩ (.int .i64 ((c + d : Nat) : Int))).heap.size = w.heap.size := by simp [World.setCell]
  have hfr : Fr (fun b => b = pp) w (w.setCell ⟨pp, 1, none⟩ (.int .i64 ((c + d : Nat) : Int))) := (Fr.refl (fun b => b = pp) w).putK (fun _ => rfl) _
  have HP := Lib.hid xp; clear xp
  have HF := Lib.hid hfr; clear hfr
  have HFin : Hid (∀ o1 o2, Fr (fun b => b = pp) w (((w.setCell ⟨pp, 1, none⟩ (.int .i64 ((c + d : Nat) : Int))).alloc o1).alloc o2) ∧ ptB (((w.setCell ⟨pp, 1, none⟩ (.int .i64 ((c + d : Nat) : Int))).alloc o1).alloc o2) pp A m cL (c + d)) := Lib.hid fun o1 o2 =>
    ⟨(HF.out.then ((Below.refl _ _).alloc (Nat.le_refl _) _)).then ((Below.refl _ _).alloc (Nat.le_refl _) _), Box.alloc (Box.alloc HP.out _) _⟩
  clear hp HF HP hc
  by_cases hgt : 4000 < c + d
  · have hd : decide ((4000 : Int) < ((c + d : Nat) : Int)) = true := by simp; omega
    rw [if_pos hgt]
    clear hgt
    generalize ((c + d : Nat) : Int) = s at *
    go_enter Tryz.func90, Tryz.ntmps90
    go_wp2_with fail
    refine bodyPost_ret (v := .agg #[.int .i64 7, .int .i64 0, .slice none 0 0]) (by simp [results, Tryz.results90, go_sem]) rfl ?_
    exact ⟨rfl, HFin.out _ _⟩
  · have hd : decide ((4000 : Int) < ((c + d : Nat) : Int)) = false := by simp; omega
    rw [if_neg hgt]
    clear hgt
    generalize ((c + d : Nat) : Int) = s at *
    go_enter Tryz.func90, Tryz.ntmps90
    go_wp2_with fail
    refine bodyPost_ret (v := .agg #[.int .i64 k, .int .i64 h, .slice A2 n2 c2]) (by simp [results, Tryz.results90, go_sem]) rfl ?_
    exact ⟨rfl, HFin.out _ _⟩
set_option maxRecDepth 100000
set_option maxHeartbeats 4000000
def CEn (X : Nat → Prop) (St : Nat → World → Prop) (w : World) (r : Res) (e : Ending) (w' : World) : Prop :=
  match r with
  | .error ec => e = .returned (.tuple #[zT, .int .i64 ec]) ∧ ec ≠ 0 ∧ Fr X w w'
  | .ok (t, c) => ∃ k h A n cc, e = .returned (.tuple #[.agg #[.int .i64 k, .int .i64 h, .slice A n cc], .int .i64 0]) ∧ RX (fun b => b < w.heap.size) w' t (.agg #[.int .i64 k, .int .i64 h, .slice A n cc]) ∧ Fr X w w' ∧ St c w'
def GEn (X : Nat → Prop) (St : Nat → World → Prop) (w : World) (r : Except Int (List T × Nat)) (e : Ending) (w' : World) : Prop :=
  match r with
  | .error ec => e = .returned (.tuple #[.slice none 0 0, .int .i64 ec]) ∧ ec ≠ 0 ∧ Fr X w w'
  | .ok (ys, c) => ∃ A n cc, e = .returned (.tuple #[.slice A n cc, .int .i64 0]) ∧ RXL (fun b => b < w.heap.size) w' ys A n cc ∧ Fr X w w' ∧ St c w'
structure MeI (X : Nat → Prop) (St : Nat → World → Prop) (g : Nat → T → Nat → Res) (xs : List T) (c0 M : Nat) (w : World) (n j : Nat) (wr : World) (cs : Array Value) (ys : List T) (c1 : Nat) : Prop where
  row : Box wr w.heap.size 39 cs
  size : cs.size = n * 3
  len : ys.length = j
  kids : Kids wr (fun b => w.heap.size < b) cs ys
  fr : Fr X w wr
  st : St c1 wr
  lo : c1 + 4000 * ndL (xs.drop j) ≤ M
  eq : eaL g xs 0 c0 = contL ys (eaL g (xs.drop j) j c1)
theorem Kids.rxlF {w w0 : World} {cs : Array Value} {ys : List T} {n : Nat} {ty : TypeId} (hk : Kids w (fun b => w0.heap.size < b) cs ys) (hb : Box w w0.heap.size ty cs) (hl : ys.length = n) (hm : n ≤ 3518437208780) (hs : cs.size = n * 3) : RXL (fun b => b < w0.heap.size) w ys (some ⟨w0.heap.size, 0, none⟩) n n := by
  refine ⟨hl, Nat.le_refl _, by unfold maxLen; omega, fun i t ht => ?_⟩
  obtain ⟨k, h, A, n', c, e0, e1, e2, hr⟩ := hk i t ht
  refine ⟨w0.heap.size, 0, _, _, _, rfl, Nat.lt_irrefl _, ?_, ?_, ?_, RdF.moveX (fun b hb _ => ⟨by omega, rfl⟩) _ _ hr⟩
  · rw [Nat.zero_add, hb.cell]; exact e0
  · rw [Nat.zero_add, hb.cell]; exact e1
  · rw [Nat.zero_add, hb.cell]; exact e2
theorem eachFC {X : Nat → Prop} {St : Nat → World → Prop} {p1 p2 p3 : Value} {wB w : World} {A : Option Addr} {n c c0 M : Nat} (xs : List T) (g : Nat → T → Nat → Res) (hb : Below wB.heap.size wB w) (hn : xs.length = n) (hc : n ≤ c) (hm : c ≤ maxLen) (hn40 : n ≤ 3518437208780) (hx : ∀ i t, xs[i]? = some t → RdAt wB A i t)
    (hX : ∀ b, X b → wB.heap.size ≤ b ∧ b < w.heap.size) (hSt : ∀ c W W', W.heap.size ≤ W'.heap.size → (∀ b, X b → W'.heap[b]? = W.heap[b]?) → St c W → St c W') (h0 : St c0 w) (hlo : c0 + 4000 * ndL xs ≤ M) (hg : ∀ i t c t1 c1, xs[i]? = some t → g i t c = .ok (t1, c1) → c1 ≤ c + 4000 * nd t)
    (HF : ∀ (i : Nat) (t : T) (v : Value) (W : World) (c : Nat), xs[i]? = some t → Rd wB t v → Fr X w W → St c W → c + 4000 * ndL (xs.drop i) ≤ M → Calls Tryz.prog 88 #[.int .i64 i, v, p1, p2, p3] W (CEn X St W (g i t c))) :
    Calls Tryz.prog 51 #[.slice A n c, .func (.func 88) #[] #[p1, p2, p3]] w (GEn X St w (eaL g xs 0 c0)) := by
  have hMM := hm
  unfold maxLen at hm
  have HN := Lib.hid hn; clear hn
  have HX := Lib.hid hx; clear hx
  have HF' := Lib.hid HF; clear HF
  have HST := Lib.hid hSt; clear hSt
  have HXB := Lib.hid hX; clear hX
  have H0 := Lib.hid h0; clear h0
  have HB := Lib.hid hb; clear hb
  have HG := Lib.hid hg; clear hg
  have HLO := Lib.hid hlo; clear hlo
  obtain ⟨i0, hi, hz0, hz1, hz2⟩ := info_parts infoTerm
  have hmk : ∀ W : World, (Instr.makeSlice 24 (.int .i64 (n : Int)) (.int .i64 (n : Int))).run Tryz.prog W = .ok (.slice (some ⟨W.heap.size, 0, none⟩) n n) (W.alloc (.cells (madeCells #[.int .i64 0, .int .i64 0, .slice none 0 0] (n * 3)) 39)) := by
    intro W
    have := run_make W 24 39 i0 _ Tryz.underlying24 hi hz0 .i64 .i64 (n : Int) (n : Int) (by omega) (Int.le_refl _) (by rw [hz2]; omega) (by omega)
    rw [hz1] at this
    simpa [Value.cells] using this
  clear hi hz0 hz1 hz2
  by_cases hn0 : n = 0
  · subst hn0
    have hxs : xs = [] := List.length_eq_zero_iff.1 HN.out
    go_enter Tryz.func51, Tryz.ntmps51
    go_wp2_with fail
    go_ret2
    rw [hxs, eaL]
    exact ⟨none, 0, 0, rfl, ⟨rfl, Nat.le_refl _, Nat.zero_le _, fun i t ht => by simp at ht⟩, Fr.refl _ _, H0.out⟩
  · have e0 : ((n : Int) == 0) = false := by rw [beq_eq_false_iff_ne]; omega
    go_enter Tryz.func51, Tryz.ntmps51
    go_wp2_with fail
    have hcs := size_madeCells #[.int .i64 0, .int .i64 0, .slice none 0 0] (n * 3)
    generalize madeCells #[.int .i64 0, .int .i64 0, .slice none 0 0] (n * 3) = cs0 at *
    have hb0 : Below w.heap.size w (w.alloc (.cells cs0 39)) := (Below.refl _ w).alloc (Nat.le_refl _) _
    have x3 := Box.new w 39 cs0
    have hI : MeI X St g xs c0 M w n 0 (w.alloc (.cells cs0 39)) cs0 [] c0 := ⟨x3, hcs, rfl, fun i t ht => by simp at ht, Fr.below hb0, HST.out _ _ _ hb0.size (fun b hxb => hb0.block b (HXB.out b hxb).2) H0.out, by rw [List.drop_zero]; exact HLO.out, by rw [List.drop_zero, contL_nil]⟩
    have HI := Lib.hid hI; clear hI hcs hmk hb0 x3 H0
    go_loopw [19] (fun i wr => ∃ (j : Nat) (cs : Array Value) (ys : List T) (c1 : Nat), j ≤ n ∧ i = .int .i64 j ∧ Hid (MeI X St g xs c0 M w n j wr cs ys c1)) (fun i _ => n - (intOf i).toNat)
    case atStart => exact ⟨0, cs0, [], c0, Nat.zero_le _, rfl, HI⟩
    case round =>
      clear HI
      obtain ⟨j, cs, ys, c1, hj, rfl, HI⟩ := hrel
      by_cases hlt : j < n
      · obtain ⟨t, ht⟩ := at_of HN.out hlt
        have hBr : Below wB.heap.size wB wr := HB.out.trans ((HI.out.fr.to_below (fun i e => (HXB.out i e).1) HB.out.size))
        obtain ⟨b, o, k2, h2, A2, n2, c2', rfl, c0', c1', c2'', hr⟩ := (HX.out j t ht).full
        have q0 := (hBr.cell (cell_lt c0')).trans c0'
        have q1 := (hBr.cell (cell_lt c1')).trans c1'
        have q2 := (hBr.cell (cell_lt c2'')).trans c2''
        clear c0' c1' c2''
        have HR := Lib.hid hr; clear hr
        have HT := Lib.hid ht; clear ht hBr
        have heq := HI.out.eq
        rw [drop_at HT.out, eaL] at heq
        have HEQ := Lib.hid heq; clear heq
        have hi0 : (0 : Int) ≤ j := by omega
        have hi1 : (j : Int) < n := by omega
        go_wp2_with fail
        have hbA : Below wr.heap.size wr (wr.alloc (.cells #[.int .i64 k2, .int .i64 h2, .slice A2 n2 c2'] 39)) := (Below.refl _ wr).alloc (Nat.le_refl _) _
        generalize wr.alloc (.cells #[.int .i64 k2, .int .i64 h2, .slice A2 n2 c2'] 39) = Wa at *
        clear q0 q1 q2
        have lX : ∀ b, X b → b < wr.heap.size := fun b e => Nat.lt_of_lt_of_le (HXB.out b e).2 HI.out.fr.size
        have hcall := HF'.out j t _ Wa c1 HT.out HR.out (HI.out.fr.then hbA) (HST.out _ _ _ hbA.size (fun b e => hbA.block b (lX b e)) HI.out.st) HI.out.lo
        cases hres : g j t c1 with
        | error ec =>
          rw [hres] at hcall
          refine hcall.mono ?_
          rintro e w1 ⟨rfl, hne, hfr⟩
          have hne' : (ec != 0) = true := by simpa using hne
          have HE : Hid (GEn X St w (eaL g xs 0 c0) (.returned (.tuple #[.slice none 0 0, .int .i64 ec])) (w1.alloc (.cells #[.int .i64 0, .int .i64 0, .slice none 0 0] 39))) := Lib.hid (by
            rw [HEQ.out, hres]
            exact ⟨rfl, hne, (((HI.out.fr.then hbA).trans hfr fun _ _ e => e).then ((Below.refl _ _).alloc (Nat.le_refl _) _))⟩)
          clear hres hcall hfr hbA hne
          go_wp2_with fail
          go_ret2
          exact HE.out
        | ok p =>
          obtain ⟨t', c2⟩ := p
          rw [hres] at hcall
          refine hcall.mono ?_
          rintro e w1 ⟨k3, h3, A3, n3, c3, rfl, hrx, hfr, hst⟩
          have s1 := HI.out.fr.size
          have s2 := hbA.size
          have s3 := hfr.size
          have lrow := HI.out.row.lt
          have nrow : ¬ X w.heap.size := fun e => by have := (HXB.out _ e).2; omega
          have z3 : Box w1 w.heap.size 39 cs := (HI.out.row.keep hbA lrow).fr hfr nrow
          have hfr2 : Fr X wr w1 := (Fr.below (X := X) hbA).trans hfr fun _ _ e => e
          obtain ⟨u0, hu0⟩ := z3.there (i := j * 3) (by rw [HI.out.size]; omega)
          obtain ⟨u1, hu1⟩ := z3.there (i := j * 3 + 1) (by rw [HI.out.size]; omega)
          obtain ⟨u2, hu2⟩ := z3.there (i := j * 3 + 2) (by rw [HI.out.size]; omega)
          have f0 := z3.frozen (j * 3)
          have f1 := z3.frozen (j * 3 + 1)
          have f2 := z3.frozen (j * 3 + 2)
          have lz3 := z3.lt
          have HZ := Lib.hid z3; clear z3
          have HRX := Lib.hid hrx; clear hrx
          have HFR := Lib.hid hfr2; clear hfr2 hfr
          have HS2 := Lib.hid hst; clear hst
          have HRES := Lib.hid hres; clear hres hcall hbA
          go_wp2_with fail
          go_roundw
          case rel =>
            have hset : ∀ g, g ≠ w.heap.size → g < w1.heap.size → (((((w1.setCell ⟨w.heap.size, j * 3, none⟩ (.int .i64 k3)).setCell ⟨w.heap.size, j * 3 + 1, none⟩ (.int .i64 h3)).setCell ⟨w.heap.size, j * 3 + 2, none⟩ (.slice A3 n3 c3))).alloc (.cells #[.int .i64 k3, .int .i64 h3, .slice A3 n3 c3] 39)).heap[g]? = w1.heap[g]? := fun g hg hg' => by
              rw [Below.heap_alloc _ _ _ (by simpa using hg'), Below.heap_setCell _ _ _ _ hg, Below.heap_setCell _ _ _ _ hg, Below.heap_setCell _ _ _ _ hg]
            have hfw : Fr X w w1 := HI.out.fr.trans HFR.out fun _ _ e => e
            have hsz : w1.heap.size ≤ (((((w1.setCell ⟨w.heap.size, j * 3, none⟩ (.int .i64 k3)).setCell ⟨w.heap.size, j * 3 + 1, none⟩ (.int .i64 h3)).setCell ⟨w.heap.size, j * 3 + 2, none⟩ (.slice A3 n3 c3))).alloc (.cells #[.int .i64 k3, .int .i64 h3, .slice A3 n3 c3] 39)).heap.size := by simp [World.setCell]
            refine ⟨j + 1, _, ys ++ [t'], c2, by omega, by go_num, Lib.hid ⟨(((HZ.out.setAt _ _).setAt _ _).setAt _ _).alloc _, by simp [HI.out.size], by simp [HI.out.len], ?_, ?_, ?_, ?_, ?_⟩⟩
            · refine Kids.snoc (HI.out.kids.moveX fun b hb hl => ⟨hb, HFR.out.block b hl fun e => by have := (HXB.out b e).2; omega⟩) HI.out.len (fun b hb hl => hset b (by omega) hl) ?_ (by rw [HI.out.size]; omega)
              exact RdF.moveX (fun b hb hl => ⟨by omega, hset b (by omega) hl⟩) _ _ HRX.out
            · exact ⟨hfw.os, hfw.tape, hfw.output, by omega, fun b hb e => (hset b (by omega) (by omega)).trans (hfw.block b hb e)⟩
            · exact HST.out _ _ _ hsz (fun b e => hset b (by have := (HXB.out b e).2; omega) (by have := (HXB.out b e).2; omega)) HS2.out
            · have h1 := HG.out j t c1 t' c2 HT.out HRES.out
              have h2 := HI.out.lo
              rw [drop_at HT.out, ndL] at h2
              omega
            · rw [HEQ.out, HRES.out]
              simp only
              cases eaL g (xs.drop (j + 1)) (j + 1) c2 with
              | error e => rfl
              | ok q => obtain ⟨zs, c4⟩ := q; simp [contL]
          case measure => simp [intOf]; omega
      · obtain rfl : j = n := by omega
        have heq := HI.out.eq
        rw [drop_all HN.out (by omega), eaL] at heq
        have HEQ := Lib.hid heq; clear heq
        go_wp2_with fail
        go_ret2
        rw [HEQ.out]
        simp only [contL, List.append_nil]
        refine ⟨_, _, _, rfl, Kids.rxlF HI.out.kids HI.out.row HI.out.len hn40 HI.out.size, HI.out.fr, HI.out.st⟩
theorem eachBC {X : Nat → Prop} {St : Nat → World → Prop} {p1 p2 : Value} {wB w : World} {A : Option Addr} {n c c0 M : Nat} (xs : List T) (g : Nat → T → Nat → Res) (hb : Below wB.heap.size wB w) (hn : xs.length = n) (hc : n ≤ c) (hm : c ≤ maxLen) (hn40 : n ≤ 3518437208780) (hx : ∀ i t, xs[i]? = some t → RdAt wB A i t)
    (hX : ∀ b, X b → wB.heap.size ≤ b ∧ b < w.heap.size) (hSt : ∀ c W W', W.heap.size ≤ W'.heap.size → (∀ b, X b → W'.heap[b]? = W.heap[b]?) → St c W → St c W') (h0 : St c0 w) (hlo : c0 + 4000 * ndL xs ≤ M) (hg : ∀ i t c t1 c1, xs[i]? = some t → g i t c = .ok (t1, c1) → c1 ≤ c + 4000 * nd t)
    (HF : ∀ (i : Nat) (t : T) (v : Value) (W : World) (c : Nat), xs[i]? = some t → Rd wB t v → Fr X w W → St c W → c + 4000 * ndL (xs.drop i) ≤ M → Calls Tryz.prog 104 #[.int .i64 i, v, p1, p2] W (CEn X St W (g i t c))) :
    Calls Tryz.prog 51 #[.slice A n c, .func (.func 104) #[] #[p1, p2]] w (GEn X St w (eaL g xs 0 c0)) := by
  have hMM := hm
  unfold maxLen at hm
  have HN := Lib.hid hn; clear hn
  have HX := Lib.hid hx; clear hx
  have HF' := Lib.hid HF; clear HF
  have HST := Lib.hid hSt; clear hSt
  have HXB := Lib.hid hX; clear hX
  have H0 := Lib.hid h0; clear h0
  have HB := Lib.hid hb; clear hb
  have HG := Lib.hid hg; clear hg
  have HLO := Lib.hid hlo; clear hlo
  obtain ⟨i0, hi, hz0, hz1, hz2⟩ := info_parts infoTerm
  have hmk : ∀ W : World, (Instr.makeSlice 24 (.int .i64 (n : Int)) (.int .i64 (n : Int))).run Tryz.prog W = .ok (.slice (some ⟨W.heap.size, 0, none⟩) n n) (W.alloc (.cells (madeCells #[.int .i64 0, .int .i64 0, .slice none 0 0] (n * 3)) 39)) := by
    intro W
    have := run_make W 24 39 i0 _ Tryz.underlying24 hi hz0 .i64 .i64 (n : Int) (n : Int) (by omega) (Int.le_refl _) (by rw [hz2]; omega) (by omega)
    rw [hz1] at this
    simpa [Value.cells] using this
  clear hi hz0 hz1 hz2
  by_cases hn0 : n = 0
  · subst hn0
    have hxs : xs = [] := List.length_eq_zero_iff.1 HN.out
    go_enter Tryz.func51, Tryz.ntmps51
    go_wp2_with fail
    go_ret2
    rw [hxs, eaL]
    exact ⟨none, 0, 0, rfl, ⟨rfl, Nat.le_refl _, Nat.zero_le _, fun i t ht => by simp at ht⟩, Fr.refl _ _, H0.out⟩
  · have e0 : ((n : Int) == 0) = false := by rw [beq_eq_false_iff_ne]; omega
    go_enter Tryz.func51, Tryz.ntmps51
    go_wp2_with fail
    have hcs := size_madeCells #[.int .i64 0, .int .i64 0, .slice none 0 0] (n * 3)
    generalize madeCells #[.int .i64 0, .int .i64 0, .slice none 0 0] (n * 3) = cs0 at *
    have hb0 : Below w.heap.size w (w.alloc (.cells cs0 39)) := (Below.refl _ w).alloc (Nat.le_refl _) _
    have x3 := Box.new w 39 cs0
    have hI : MeI X St g xs c0 M w n 0 (w.alloc (.cells cs0 39)) cs0 [] c0 := ⟨x3, hcs, rfl, fun i t ht => by simp at ht, Fr.below hb0, HST.out _ _ _ hb0.size (fun b hxb => hb0.block b (HXB.out b hxb).2) H0.out, by rw [List.drop_zero]; exact HLO.out, by rw [List.drop_zero, contL_nil]⟩
    have HI := Lib.hid hI; clear hI hcs hmk hb0 x3 H0
    go_loopw [19] (fun i wr => ∃ (j : Nat) (cs : Array Value) (ys : List T) (c1 : Nat), j ≤ n ∧ i = .int .i64 j ∧ Hid (MeI X St g xs c0 M w n j wr cs ys c1)) (fun i _ => n - (intOf i).toNat)
    case atStart => exact ⟨0, cs0, [], c0, Nat.zero_le _, rfl, HI⟩
    case round =>
      clear HI
      obtain ⟨j, cs, ys, c1, hj, rfl, HI⟩ := hrel
      by_cases hlt : j < n
      · obtain ⟨t, ht⟩ := at_of HN.out hlt
        have hBr : Below wB.heap.size wB wr := HB.out.trans ((HI.out.fr.to_below (fun i e => (HXB.out i e).1) HB.out.size))
        obtain ⟨b, o, k2, h2, A2, n2, c2', rfl, c0', c1', c2'', hr⟩ := (HX.out j t ht).full
        have q0 := (hBr.cell (cell_lt c0')).trans c0'
        have q1 := (hBr.cell (cell_lt c1')).trans c1'
        have q2 := (hBr.cell (cell_lt c2'')).trans c2''
        clear c0' c1' c2''
        have HR := Lib.hid hr; clear hr
        have HT := Lib.hid ht; clear ht hBr
        have heq := HI.out.eq
        rw [drop_at HT.out, eaL] at heq
        have HEQ := Lib.hid heq; clear heq
        have hi0 : (0 : Int) ≤ j := by omega
        have hi1 : (j : Int) < n := by omega
        go_wp2_with fail
        have hbA : Below wr.heap.size wr (wr.alloc (.cells #[.int .i64 k2, .int .i64 h2, .slice A2 n2 c2'] 39)) := (Below.refl _ wr).alloc (Nat.le_refl _) _
        generalize wr.alloc (.cells #[.int .i64 k2, .int .i64 h2, .slice A2 n2 c2'] 39) = Wa at *
        clear q0 q1 q2
        have lX : ∀ b, X b → b < wr.heap.size := fun b e => Nat.lt_of_lt_of_le (HXB.out b e).2 HI.out.fr.size
        have hcall := HF'.out j t _ Wa c1 HT.out HR.out (HI.out.fr.then hbA) (HST.out _ _ _ hbA.size (fun b e => hbA.block b (lX b e)) HI.out.st) HI.out.lo
        cases hres : g j t c1 with
        | error ec =>
          rw [hres] at hcall
          refine hcall.mono ?_
          rintro e w1 ⟨rfl, hne, hfr⟩
          have hne' : (ec != 0) = true := by simpa using hne
          have HE : Hid (GEn X St w (eaL g xs 0 c0) (.returned (.tuple #[.slice none 0 0, .int .i64 ec])) (w1.alloc (.cells #[.int .i64 0, .int .i64 0, .slice none 0 0] 39))) := Lib.hid (by
            rw [HEQ.out, hres]
            exact ⟨rfl, hne, (((HI.out.fr.then hbA).trans hfr fun _ _ e => e).then ((Below.refl _ _).alloc (Nat.le_refl _) _))⟩)
          clear hres hcall hfr hbA hne
          go_wp2_with fail
          go_ret2
          exact HE.out
        | ok p =>
          obtain ⟨t', c2⟩ := p
          rw [hres] at hcall
          refine hcall.mono ?_
          rintro e w1 ⟨k3, h3, A3, n3, c3, rfl, hrx, hfr, hst⟩
          have s1 := HI.out.fr.size
          have s2 := hbA.size
          have s3 := hfr.size
          have lrow := HI.out.row.lt
          have nrow : ¬ X w.heap.size := fun e => by have := (HXB.out _ e).2; omega
          have z3 : Box w1 w.heap.size 39 cs := (HI.out.row.keep hbA lrow).fr hfr nrow
          have hfr2 : Fr X wr w1 := (Fr.below (X := X) hbA).trans hfr fun _ _ e => e
          obtain ⟨u0, hu0⟩ := z3.there (i := j * 3) (by rw [HI.out.size]; omega)
          obtain ⟨u1, hu1⟩ := z3.there (i := j * 3 + 1) (by rw [HI.out.size]; omega)
          obtain ⟨u2, hu2⟩ := z3.there (i := j * 3 + 2) (by rw [HI.out.size]; omega)
          have f0 := z3.frozen (j * 3)
          have f1 := z3.frozen (j * 3 + 1)
          have f2 := z3.frozen (j * 3 + 2)
          have lz3 := z3.lt
          have HZ := Lib.hid z3; clear z3
          have HRX := Lib.hid hrx; clear hrx
          have HFR := Lib.hid hfr2; clear hfr2 hfr
          have HS2 := Lib.hid hst; clear hst
          have HRES := Lib.hid hres; clear hres hcall hbA
          go_wp2_with fail
          go_roundw
          case rel =>
            have hset : ∀ g, g ≠ w.heap.size → g < w1.heap.size → (((((w1.setCell ⟨w.heap.size, j * 3, none⟩ (.int .i64 k3)).setCell ⟨w.heap.size, j * 3 + 1, none⟩ (.int .i64 h3)).setCell ⟨w.heap.size, j * 3 + 2, none⟩ (.slice A3 n3 c3))).alloc (.cells #[.int .i64 k3, .int .i64 h3, .slice A3 n3 c3] 39)).heap[g]? = w1.heap[g]? := fun g hg hg' => by
              rw [Below.heap_alloc _ _ _ (by simpa using hg'), Below.heap_setCell _ _ _ _ hg, Below.heap_setCell _ _ _ _ hg, Below.heap_setCell _ _ _ _ hg]
            have hfw : Fr X w w1 := HI.out.fr.trans HFR.out fun _ _ e => e
            have hsz : w1.heap.size ≤ (((((w1.setCell ⟨w.heap.size, j * 3, none⟩ (.int .i64 k3)).setCell ⟨w.heap.size, j * 3 + 1, none⟩ (.int .i64 h3)).setCell ⟨w.heap.size, j * 3 + 2, none⟩ (.slice A3 n3 c3))).alloc (.cells #[.int .i64 k3, .int .i64 h3, .slice A3 n3 c3] 39)).heap.size := by simp [World.setCell]
            refine ⟨j + 1, _, ys ++ [t'], c2, by omega, by go_num, Lib.hid ⟨(((HZ.out.setAt _ _).setAt _ _).setAt _ _).alloc _, by simp [HI.out.size], by simp [HI.out.len], ?_, ?_, ?_, ?_, ?_⟩⟩
            · refine Kids.snoc (HI.out.kids.moveX fun b hb hl => ⟨hb, HFR.out.block b hl fun e => by have := (HXB.out b e).2; omega⟩) HI.out.len (fun b hb hl => hset b (by omega) hl) ?_ (by rw [HI.out.size]; omega)
              exact RdF.moveX (fun b hb hl => ⟨by omega, hset b (by omega) hl⟩) _ _ HRX.out
            · exact ⟨hfw.os, hfw.tape, hfw.output, by omega, fun b hb e => (hset b (by omega) (by omega)).trans (hfw.block b hb e)⟩
            · exact HST.out _ _ _ hsz (fun b e => hset b (by have := (HXB.out b e).2; omega) (by have := (HXB.out b e).2; omega)) HS2.out
            · have h1 := HG.out j t c1 t' c2 HT.out HRES.out
              have h2 := HI.out.lo
              rw [drop_at HT.out, ndL] at h2
              omega
            · rw [HEQ.out, HRES.out]
              simp only
              cases eaL g (xs.drop (j + 1)) (j + 1) c2 with
              | error e => rfl
              | ok q => obtain ⟨zs, c4⟩ := q; simp [contL]
          case measure => simp [intOf]; omega
      · obtain rfl : j = n := by omega
        have heq := HI.out.eq
        rw [drop_all HN.out (by omega), eaL] at heq
        have HEQ := Lib.hid heq; clear heq
        go_wp2_with fail
        go_ret2
        rw [HEQ.out]
        simp only [contL, List.append_nil]
        refine ⟨_, _, _, rfl, Kids.rxlF HI.out.kids HI.out.row HI.out.len hn40 HI.out.size, HI.out.fr, HI.out.st⟩
theorem eachCC {X : Nat → Prop} {St : Nat → World → Prop} {p1 p2 : Value} {wB w : World} {A : Option Addr} {n c c0 M : Nat} (xs : List T) (g : Nat → T → Nat → Res) (hb : Below wB.heap.size wB w) (hn : xs.length = n) (hc : n ≤ c) (hm : c ≤ maxLen) (hn40 : n ≤ 3518437208780) (hx : ∀ i t, xs[i]? = some t → RdAt wB A i t)
    (hX : ∀ b, X b → wB.heap.size ≤ b ∧ b < w.heap.size) (hSt : ∀ c W W', W.heap.size ≤ W'.heap.size → (∀ b, X b → W'.heap[b]? = W.heap[b]?) → St c W → St c W') (h0 : St c0 w) (hlo : c0 + 4000 * ndL xs ≤ M) (hg : ∀ i t c t1 c1, xs[i]? = some t → g i t c = .ok (t1, c1) → c1 ≤ c + 4000 * nd t)
    (HF : ∀ (i : Nat) (t : T) (v : Value) (W : World) (c : Nat), xs[i]? = some t → Rd wB t v → Fr X w W → St c W → c + 4000 * ndL (xs.drop i) ≤ M → Calls Tryz.prog 52 #[.int .i64 i, v, p1, p2] W (CEn X St W (g i t c))) :
    Calls Tryz.prog 51 #[.slice A n c, .func (.func 52) #[] #[p1, p2]] w (GEn X St w (eaL g xs 0 c0)) := by
  have hMM := hm
  unfold maxLen at hm
  have HN := Lib.hid hn; clear hn
  have HX := Lib.hid hx; clear hx
  have HF' := Lib.hid HF; clear HF
  have HST := Lib.hid hSt; clear hSt
  have HXB := Lib.hid hX; clear hX
  have H0 := Lib.hid h0; clear h0
  have HB := Lib.hid hb; clear hb
  have HG := Lib.hid hg; clear hg
  have HLO := Lib.hid hlo; clear hlo
  obtain ⟨i0, hi, hz0, hz1, hz2⟩ := info_parts infoTerm
  have hmk : ∀ W : World, (Instr.makeSlice 24 (.int .i64 (n : Int)) (.int .i64 (n : Int))).run Tryz.prog W = .ok (.slice (some ⟨W.heap.size, 0, none⟩) n n) (W.alloc (.cells (madeCells #[.int .i64 0, .int .i64 0, .slice none 0 0] (n * 3)) 39)) := by
    intro W
    have := run_make W 24 39 i0 _ Tryz.underlying24 hi hz0 .i64 .i64 (n : Int) (n : Int) (by omega) (Int.le_refl _) (by rw [hz2]; omega) (by omega)
    rw [hz1] at this
    simpa [Value.cells] using this
  clear hi hz0 hz1 hz2
  by_cases hn0 : n = 0
  · subst hn0
    have hxs : xs = [] := List.length_eq_zero_iff.1 HN.out
    go_enter Tryz.func51, Tryz.ntmps51
    go_wp2_with fail
    go_ret2
    rw [hxs, eaL]
    exact ⟨none, 0, 0, rfl, ⟨rfl, Nat.le_refl _, Nat.zero_le _, fun i t ht => by simp at ht⟩, Fr.refl _ _, H0.out⟩
  · have e0 : ((n : Int) == 0) = false := by rw [beq_eq_false_iff_ne]; omega
    go_enter Tryz.func51, Tryz.ntmps51
    go_wp2_with fail
    have hcs := size_madeCells #[.int .i64 0, .int .i64 0, .slice none 0 0] (n * 3)
    generalize madeCells #[.int .i64 0, .int .i64 0, .slice none 0 0] (n * 3) = cs0 at *
    have hb0 : Below w.heap.size w (w.alloc (.cells cs0 39)) := (Below.refl _ w).alloc (Nat.le_refl _) _
    have x3 := Box.new w 39 cs0
    have hI : MeI X St g xs c0 M w n 0 (w.alloc (.cells cs0 39)) cs0 [] c0 := ⟨x3, hcs, rfl, fun i t ht => by simp at ht, Fr.below hb0, HST.out _ _ _ hb0.size (fun b hxb => hb0.block b (HXB.out b hxb).2) H0.out, by rw [List.drop_zero]; exact HLO.out, by rw [List.drop_zero, contL_nil]⟩
    have HI := Lib.hid hI; clear hI hcs hmk hb0 x3 H0
    go_loopw [19] (fun i wr => ∃ (j : Nat) (cs : Array Value) (ys : List T) (c1 : Nat), j ≤ n ∧ i = .int .i64 j ∧ Hid (MeI X St g xs c0 M w n j wr cs ys c1)) (fun i _ => n - (intOf i).toNat)
    case atStart => exact ⟨0, cs0, [], c0, Nat.zero_le _, rfl, HI⟩
    case round =>
      clear HI
      obtain ⟨j, cs, ys, c1, hj, rfl, HI⟩ := hrel
      by_cases hlt : j < n
      · obtain ⟨t, ht⟩ := at_of HN.out hlt
        have hBr : Below wB.heap.size wB wr := HB.out.trans ((HI.out.fr.to_below (fun i e => (HXB.out i e).1) HB.out.size))
        obtain ⟨b, o, k2, h2, A2, n2, c2', rfl, c0', c1', c2'', hr⟩ := (HX.out j t ht).full
        have q0 := (hBr.cell (cell_lt c0')).trans c0'
        have q1 := (hBr.cell (cell_lt c1')).trans c1'
        have q2 := (hBr.cell (cell_lt c2'')).trans c2''
        clear c0' c1' c2''
        have HR := Lib.hid hr; clear hr
        have HT := Lib.hid ht; clear ht hBr
        have heq := HI.out.eq
        rw [drop_at HT.out, eaL] at heq
        have HEQ := Lib.hid heq; clear heq
        have hi0 : (0 : Int) ≤ j := by omega
        have hi1 : (j : Int) < n := by omega
        go_wp2_with fail
        have hbA : Below wr.heap.size wr (wr.alloc (.cells #[.int .i64 k2, .int .i64 h2, .slice A2 n2 c2'] 39)) := (Below.refl _ wr).alloc (Nat.le_refl _) _
        generalize wr.alloc (.cells #[.int .i64 k2, .int .i64 h2, .slice A2 n2 c2'] 39) = Wa at *
        clear q0 q1 q2
        have lX : ∀ b, X b → b < wr.heap.size := fun b e => Nat.lt_of_lt_of_le (HXB.out b e).2 HI.out.fr.size
        have hcall := HF'.out j t _ Wa c1 HT.out HR.out (HI.out.fr.then hbA) (HST.out _ _ _ hbA.size (fun b e => hbA.block b (lX b e)) HI.out.st) HI.out.lo
        cases hres : g j t c1 with
        | error ec =>
          rw [hres] at hcall
          refine hcall.mono ?_
          rintro e w1 ⟨rfl, hne, hfr⟩
          have hne' : (ec != 0) = true := by simpa using hne
          have HE : Hid (GEn X St w (eaL g xs 0 c0) (.returned (.tuple #[.slice none 0 0, .int .i64 ec])) (w1.alloc (.cells #[.int .i64 0, .int .i64 0, .slice none 0 0] 39))) := Lib.hid (by
            rw [HEQ.out, hres]
            exact ⟨rfl, hne, (((HI.out.fr.then hbA).trans hfr fun _ _ e => e).then ((Below.refl _ _).alloc (Nat.le_refl _) _))⟩)
          clear hres hcall hfr hbA hne
          go_wp2_with fail
          go_ret2
          exact HE.out
        | ok p =>
          obtain ⟨t', c2⟩ := p
          rw [hres] at hcall
          refine hcall.mono ?_
          rintro e w1 ⟨k3, h3, A3, n3, c3, rfl, hrx, hfr, hst⟩
          have s1 := HI.out.fr.size
          have s2 := hbA.size
          have s3 := hfr.size
          have lrow := HI.out.row.lt
          have nrow : ¬ X w.heap.size := fun e => by have := (HXB.out _ e).2; omega
          have z3 : Box w1 w.heap.size 39 cs := (HI.out.row.keep hbA lrow).fr hfr nrow
          have hfr2 : Fr X wr w1 := (Fr.below (X := X) hbA).trans hfr fun _ _ e => e
          obtain ⟨u0, hu0⟩ := z3.there (i := j * 3) (by rw [HI.out.size]; omega)
          obtain ⟨u1, hu1⟩ := z3.there (i := j * 3 + 1) (by rw [HI.out.size]; omega)
          obtain ⟨u2, hu2⟩ := z3.there (i := j * 3 + 2) (by rw [HI.out.size]; omega)
          have f0 := z3.frozen (j * 3)
          have f1 := z3.frozen (j * 3 + 1)
          have f2 := z3.frozen (j * 3 + 2)
          have lz3 := z3.lt
          have HZ := Lib.hid z3; clear z3
          have HRX := Lib.hid hrx; clear hrx
          have HFR := Lib.hid hfr2; clear hfr2 hfr
          have HS2 := Lib.hid hst; clear hst
          have HRES := Lib.hid hres; clear hres hcall hbA
          go_wp2_with fail
          go_roundw
          case rel =>
            have hset : ∀ g, g ≠ w.heap.size → g < w1.heap.size → (((((w1.setCell ⟨w.heap.size, j * 3, none⟩ (.int .i64 k3)).setCell ⟨w.heap.size, j * 3 + 1, none⟩ (.int .i64 h3)).setCell ⟨w.heap.size, j * 3 + 2, none⟩ (.slice A3 n3 c3))).alloc (.cells #[.int .i64 k3, .int .i64 h3, .slice A3 n3 c3] 39)).heap[g]? = w1.heap[g]? := fun g hg hg' => by
              rw [Below.heap_alloc _ _ _ (by simpa using hg'), Below.heap_setCell _ _ _ _ hg, Below.heap_setCell _ _ _ _ hg, Below.heap_setCell _ _ _ _ hg]
            have hfw : Fr X w w1 := HI.out.fr.trans HFR.out fun _ _ e => e
            have hsz : w1.heap.size ≤ (((((w1.setCell ⟨w.heap.size, j * 3, none⟩ (.int .i64 k3)).setCell ⟨w.heap.size, j * 3 + 1, none⟩ (.int .i64 h3)).setCell ⟨w.heap.size, j * 3 + 2, none⟩ (.slice A3 n3 c3))).alloc (.cells #[.int .i64 k3, .int .i64 h3, .slice A3 n3 c3] 39)).heap.size := by simp [World.setCell]
            refine ⟨j + 1, _, ys ++ [t'], c2, by omega, by go_num, Lib.hid ⟨(((HZ.out.setAt _ _).setAt _ _).setAt _ _).alloc _, by simp [HI.out.size], by simp [HI.out.len], ?_, ?_, ?_, ?_, ?_⟩⟩
            · refine Kids.snoc (HI.out.kids.moveX fun b hb hl => ⟨hb, HFR.out.block b hl fun e => by have := (HXB.out b e).2; omega⟩) HI.out.len (fun b hb hl => hset b (by omega) hl) ?_ (by rw [HI.out.size]; omega)
              exact RdF.moveX (fun b hb hl => ⟨by omega, hset b (by omega) hl⟩) _ _ HRX.out
            · exact ⟨hfw.os, hfw.tape, hfw.output, by omega, fun b hb e => (hset b (by omega) (by omega)).trans (hfw.block b hb e)⟩
            · exact HST.out _ _ _ hsz (fun b e => hset b (by have := (HXB.out b e).2; omega) (by have := (HXB.out b e).2; omega)) HS2.out
            · have h1 := HG.out j t c1 t' c2 HT.out HRES.out
              have h2 := HI.out.lo
              rw [drop_at HT.out, ndL] at h2
              omega
            · rw [HEQ.out, HRES.out]
              simp only
              cases eaL g (xs.drop (j + 1)) (j + 1) c2 with
              | error e => rfl
              | ok q => obtain ⟨zs, c4⟩ := q; simp [contL]
          case measure => simp [intOf]; omega
      · obtain rfl : j = n := by omega
        have heq := HI.out.eq
        rw [drop_all HN.out (by omega), eaL] at heq
        have HEQ := Lib.hid heq; clear heq
        go_wp2_with fail
        go_ret2
        rw [HEQ.out]
        simp only [contL, List.append_nil]
        refine ⟨_, _, _, rfl, Kids.rxlF HI.out.kids HI.out.row HI.out.len hn40 HI.out.size, HI.out.fr, HI.out.st⟩
end Go.Proofs.YtbbjjdnnlnabaaaGreat
namespace Go.Proofs.YtbbjjdnnlnabaaaGreat
open Go.ChangeShapes Go.WideShapes Go.ChangeAt Go.RowKit
set_option linter.unusedVariables false
set_option linter.unusedSimpArgs false
set_option maxHeartbeats 4000000
set_option maxRecDepth 100000
def CO (St : Nat → World → Prop) (B : Nat) (w' : World) (r : Res) (k h : Int) (A : Option Addr) (n cc : Nat) (ec : Int) : Prop :=
  match r with
  | .error e' => ec = e' ∧ e' ≠ 0 ∧ Value.agg #[.int .i64 k, .int .i64 h, .slice A n cc] = zT
  | .ok (t, c) => ec = 0 ∧ RX (fun b => b < B) w' t (.agg #[.int .i64 k, .int .i64 h, .slice A n cc]) ∧ St c w'
theorem CEn.uni {X : Nat → Prop} {St : Nat → World → Prop} {w w' : World} {r : Res} {e : Ending} (h : CEn X St w r e w') : ∃ k h A n cc ec, e = .returned (.tuple #[.agg #[.int .i64 k, .int .i64 h, .slice A n cc], .int .i64 ec]) ∧ CO St w.heap.size w' r k h A n cc ec ∧ Fr X w w' := by
  cases r with
  | error e' =>
    obtain ⟨rfl, hne, hfr⟩ := h
    exact ⟨0, 0, none, 0, 0, e', rfl, ⟨rfl, hne, rfl⟩, hfr⟩
  | ok p =>
    obtain ⟨t, c⟩ := p
    obtain ⟨k, h, A, n, cc, rfl, hr, hfr, hst⟩ := h
    exact ⟨k, h, A, n, cc, 0, rfl, ⟨rfl, hr, hst⟩, hfr⟩
theorem CO.cen {X : Nat → Prop} {St : Nat → World → Prop} {w w' : World} {r : Res} {k h : Int} {A : Option Addr} {n cc : Nat} {ec : Int} (c : CO St w.heap.size w' r k h A n cc ec) (hfr : Fr X w w') : CEn X St w r (.returned (.tuple #[.agg #[.int .i64 k, .int .i64 h, .slice A n cc], .int .i64 ec])) w' := by
  cases r with
  | error e' =>
    obtain ⟨rfl, hne, hz⟩ := c
    exact ⟨by rw [hz], hne, hfr⟩
  | ok p =>
    obtain ⟨t, x⟩ := p
    obtain ⟨rfl, hr, hst⟩ := c
    exact ⟨k, h, A, n, cc, rfl, hr, hfr, hst⟩
theorem CO.move {St St' : Nat → World → Prop} {B B' : Nat} {w w' : World} {r : Res} {k h : Int} {A : Option Addr} {n cc : Nat} {ec : Int} (c : CO St B w r k h A n cc ec) (hB : B' ≤ B) (hm : ∀ b, B ≤ b → b < w.heap.size → w'.heap[b]? = w.heap[b]?) (hst : ∀ t x, r = .ok (t, x) → St x w → St' x w') : CO St' B' w' r k h A n cc ec := by
  cases r with
  | error e' => exact c
  | ok p =>
    obtain ⟨t, x⟩ := p
    obtain ⟨rfl, hr, hs⟩ := c
    exact ⟨rfl, RdF.moveX (fun b hb hl => ⟨by omega, hm b (by omega) hl⟩) _ _ hr, hst t x rfl hs⟩
structure ThK (th : List T) (wB : World) (A : Option Addr) (m cL : Nat) : Prop where
  my : ∀ x ∈ th, myB x = true
  ok : ∀ x ∈ th, okT 2199023255552 x
  len : th.length = m
  le : m ≤ cL
  cap : cL ≤ maxLen
  at_ : ∀ i x, th[i]? = some x → RdAt wB A i x
def FiC (th : List T) (t : T) : Prop :=
  ∀ (wB w : World) (pp : Nat) (A : Option Addr) (m cL : Nat) (n : Int) (c : Nat) (v : Value), Below wB.heap.size wB w → wB.heap.size ≤ pp → ptB w pp A m cL c → ThK th wB A m cL → Rd wB t v → nodB t = true →
    0 ≤ n → n + dp t ≤ 4000 → okT 2199023255552 t → c + 4000 * nd t ≤ 1125899906842624 →
    Calls Tryz.prog 70 #[.pointer (some ⟨pp, 0, none⟩), v, .int .i64 n] w (CEn (fun b => b = pp) (fun c w' => ptB w' pp A m cL c) w (pf th n c t))
theorem closFC {th : List T} {t : T} (hF : FiC th t) {wB w : World} {pp pP pN pT : Nat} {A : Option Addr} {m cL : Nat} {n : Int} {c : Nat} {k h : Int} {At : Option Addr} {nt ct : Nat} (i : Nat) (v : Value)
    (hb : Below wB.heap.size wB w) (hpB : wB.heap.size ≤ pp) (hp : ptB w pp A m cL c) (hth : ThK th wB A m cL) (hv : Rd wB t v) (hno : nodB t = true) (h0 : 0 ≤ n) (hn : n + 1 + dp t ≤ 4000) (ho : okT 2199023255552 t) (hc : c + 4000 * nd t ≤ 1125899906842624)
    (xP : Box w pP 117 #[.pointer (some ⟨pp, 0, none⟩)]) (xN : Box w pN 3 #[.int .i64 n]) (xT : Box w pT 39 #[.int .i64 k, .int .i64 h, .slice At nt ct]) (hnt : nt ≤ ct) (hct : ct ≤ maxLen) (hi : i ≤ maxLen) (hne1 : pP ≠ pp) (hne2 : pN ≠ pp) (hne3 : pT ≠ pp) :
    Calls Tryz.prog 88 #[.int .i64 i, v, .pointer (some ⟨pP, 0, none⟩), .pointer (some ⟨pN, 0, none⟩), .pointer (some ⟨pT, 0, none⟩)] w (CEn (fun b => b = pp) (fun c w' => ptB w' pp A m cL c) w (pf th (n + bd k nt i) c t)) := by
  obtain ⟨k2, h2, A2, n2, c2, rfl⟩ := hv.full
  have hbd : 0 ≤ bd k nt i ∧ bd k nt i ≤ 1 := by rw [bd_bdn]; have := bdn_le k nt i; omega
  obtain ⟨s, hs⟩ : ∃ s, s = n + bd k nt i := ⟨_, rfl⟩
  have hsum : IntKind.i64.wrap (n + bd k nt i) = s := by rw [hs, wrapEq, wrap_small (by omega) (by omega)]
  obtain ⟨W, hW⟩ : ∃ W, (w.alloc (.cells #[.int .i64 k2, .int .i64 h2, .slice A2 n2 c2] 39)).alloc (.cells #[.int .i64 0, .int .i64 0, .slice none 0 0] 39) = W := ⟨_, rfl⟩
  have hbW : Below w.heap.size w W := by rw [← hW]; exact ((Below.refl _ _).alloc (Nat.le_refl _) _).alloc (by simp) _
  have z1 : Box W w.heap.size 39 #[.int .i64 k2, .int .i64 h2, .slice A2 n2 c2] := by rw [← hW]; exact (Box.new _ _ _).alloc _
  have z2 : Box W (w.heap.size + 1) 39 #[.int .i64 0, .int .i64 0, .slice none 0 0] := by rw [← hW]; exact (Box.new (w.alloc _) _ _).at (by simp)
  have lP := xP.lt
  have lN := xN.lt
  have lT := xT.lt
  have lp := hp.lt
  replace xP := xP.keep hbW lP
  replace xN := xN.keep hbW lN
  replace xT := xT.keep hbW lT
  have HWW := Lib.hid hW; clear hW
  have HBD := Lib.hid fun W' => boundC k h At nt ct hnt hct i hi W'
  have HFI : Hid (∀ W', Below W.heap.size W W' → Calls Tryz.prog 70 #[.pointer (some ⟨pp, 0, none⟩), .agg #[.int .i64 k2, .int .i64 h2, .slice A2 n2 c2], .int .i64 (n + bd k nt i)] W' (CEn (fun b => b = pp) (fun c w' => ptB w' pp A m cL c) W' (pf th (n + bd k nt i) c t))) := Lib.hid fun W' hW' =>
    hF wB W' pp A m cL _ c _ (hb.trans ((hbW.trans (hW'.mono hbW.size)).mono hb.size)) hpB (hp.keep (hbW.trans (hW'.mono hbW.size)) lp) hth hv hno (by omega) (by omega) ho hc
  have HB := Lib.hid hbW; clear hbW hb
  have HP := Lib.hid hp; clear hp
  clear hth hv hF ho hc hn h0 hi hct hnt hpB
  rw [← hs] at HFI ⊢
  clear hs
  generalize bd k nt i = β at *
  generalize pf th s c t = R at *
  go_enter Tryz.func88, Tryz.ntmps88
  go_wp2_with fail
  rw [HWW.out]
  clear HWW
  obtain ⟨a0, a1, a2⟩ := z1.three
  obtain ⟨b0, b1, b2⟩ := xT.three
  have d0 := (xP.one).1
  have e0 := (xN.one).1
  have hcur : Below W.heap.size W W.drew := (Below.refl _ W).drew
  have szW := HB.out.size
  go_region_held3 (fun w' => w'.cell? ⟨w.heap.size, 0, none⟩ = some (.int .i64 k2) ∧ w'.cell? ⟨w.heap.size, 1, none⟩ = some (.int .i64 h2) ∧ w'.cell? ⟨w.heap.size, 2, none⟩ = some (.slice A2 n2 c2) ∧
      w'.cell? ⟨pP, 0, none⟩ = some (.pointer (some ⟨pp, 0, none⟩)) ∧ w'.cell? ⟨pN, 0, none⟩ = some (.int .i64 n) ∧ w'.cell? ⟨pT, 0, none⟩ = some (.int .i64 k) ∧ w'.cell? ⟨pT, 1, none⟩ = some (.int .i64 h) ∧ w'.cell? ⟨pT, 2, none⟩ = some (.slice At nt ct))
    (first | exact ⟨a0, a1, a2, d0, e0, b0, b1, b2⟩ | exact ⟨q1.three.1, q1.three.2.1, q1.three.2.2, qP.one.1, qN.one.1, qT.three.1, qT.three.2.1, qT.three.2.2⟩ | exact ⟨r1.three.1, r1.three.2.1, r1.three.2.2, rP.one.1, rN.one.1, rT.three.1, rT.three.2.1, rT.three.2.2⟩ | exact ⟨o1.three.1, o1.three.2.1, o1.three.2.2, oP.one.1, oN.one.1, oT.three.1, oT.three.2.1, oT.three.2.2⟩)
    (first
      | (go_at_call 89
         refine (HBD.out _).mono ?_
         rintro e w1 ⟨rfl, hb1⟩
         replace hcur := hcur.trans (hb1.mono hcur.size)
         have q1 := z1.keep hcur z1.lt
         have q2 := z2.keep hcur z2.lt
         have qT := xT.keep hcur xT.lt
         have qP := xP.keep hcur xP.lt
         have qN := xN.keep hcur xN.lt
         clear hb1)
      | (go_at_call 70
         refine (HFI.out _ hcur).mono ?_
         intro e w2 hE
         obtain ⟨k3, h3, A3, n3, c3, ec, rfl, hout, hfr⟩ := hE.uni
         have r1 := q1.fr hfr (by omega)
         have r2 := q2.fr hfr (by omega)
         have rT := qT.fr hfr hne3
         have rP := qP.fr hfr hne1
         have rN := qN.fr hfr hne2
         have s2 := r2.lt
         have HO := Lib.hid hout
         have HFR := Lib.hid hfr
         clear hout hE hfr
         obtain ⟨y0, y1, y2⟩ := r2.three
         have f0 := r2.frozen 0
         have f1 := r2.frozen 1
         have f2 := r2.frozen 2
         have o1 := r1.other3 (a := w.heap.size + 1) (by omega) (.int .i64 k3) (.int .i64 h3) (.slice A3 n3 c3)
         have oT := rT.other3 (a := w.heap.size + 1) (by omega) (.int .i64 k3) (.int .i64 h3) (.slice A3 n3 c3)
         have oP := rP.other3 (a := w.heap.size + 1) (by omega) (.int .i64 k3) (.int .i64 h3) (.slice A3 n3 c3)
         have oN := rN.other3 (a := w.heap.size + 1) (by omega) (.int .i64 k3) (.int .i64 h3) (.slice A3 n3 c3)))
  clear o1 oT oP oN
  go_wp2_with fail
  refine bodyPost_ret (v := .tuple #[.agg #[.int .i64 k3, .int .i64 h3, .slice A3 n3 c3], .int .i64 ec]) (by simp [results, Tryz.results88, go_sem, y0, y1, y2]) rfl ?_
  have s3 := hcur.size
  have s4 := HFR.out.size
  have s5 := z2.lt
  refine CO.cen (HO.out.move (by omega) (fun g hg _ => heap_other3 _ _ _ _ _ _ (by omega)) fun _ _ _ hs => Box.other3 hs (by omega) _ _ _) ?_
  exact ((Fr.below (X := fun b => b = pp) (HB.out.trans (hcur.mono HB.out.size))).trans HFR.out fun _ _ e => e).set3 (fun h => by omega) _ _ _
theorem CO.po {th : List T} {n : Int} {c : Nat} {t : T} {St St' : Nat → World → Prop} {B B' : Nat} {w w' : World} {k h : Int} {A : Option Addr} {nn cc : Nat} {ec : Int} (o : CO St B w (pf th n 0 t) k h A nn cc ec) (hB : B' ≤ B) (hm : ∀ b, B ≤ b → b < w.heap.size → w'.heap[b]? = w.heap[b]?) (hst : St' c w') : CO St' B' w' (po th n c t) k h A nn cc ec := by
  unfold Go.Proofs.YtbbjjdnnlnabaaaGreat.po
  cases hr : pf th n 0 t with
  | error e' => rw [hr] at o; exact o
  | ok p =>
    obtain ⟨t, x⟩ := p
    rw [hr] at o
    obtain ⟨rfl, hr, hs⟩ := o
    exact ⟨rfl, RdF.moveX (fun b hb hl => ⟨by omega, hm b (by omega) hl⟩) _ _ hr, hst⟩
theorem closBC {th : List T} {t : T} (hF : FiC th t) {wB w : World} {pp pP pN : Nat} {A : Option Addr} {m cL : Nat} {n : Int} {c : Nat} (i : Nat) (v : Value)
    (hb : Below wB.heap.size wB w) (hp : ptB w pp A m cL c) (hth : ThK th wB A m cL) (hv : Rd wB t v) (hno : nodB t = true) (h0 : 0 ≤ n) (hn : n + dp t ≤ 4000) (ho : okT 2199023255552 t) (hc : 4000 * nd t ≤ 1125899906842624)
    (xP : Box w pP 117 #[.pointer (some ⟨pp, 0, none⟩)]) (xN : Box w pN 3 #[.int .i64 n]) :
    Calls Tryz.prog 104 #[.int .i64 i, v, .pointer (some ⟨pP, 0, none⟩), .pointer (some ⟨pN, 0, none⟩)] w (CEn (fun b => b = pp) (fun c w' => ptB w' pp A m cL c) w (po th n c t)) := by
  obtain ⟨k2, h2, A2, n2, c2, rfl⟩ := hv.full
  obtain ⟨W, hW⟩ : ∃ W, ((w.alloc (.cells #[.int .i64 k2, .int .i64 h2, .slice A2 n2 c2] 39)).alloc (.cells #[.int .i64 0, .int .i64 0, .slice none 0 0] 39)).alloc (.cells #[.slice A m cL, .int .i64 0] 99) = W := ⟨_, rfl⟩
  have hbW : Below w.heap.size w W := by rw [← hW]; exact (((Below.refl _ _).alloc (Nat.le_refl _) _).alloc (by simp) _).alloc (by simp; omega) _
  have z1 : Box W w.heap.size 39 #[.int .i64 k2, .int .i64 h2, .slice A2 n2 c2] := by rw [← hW]; exact ((Box.new _ _ _).alloc _).alloc _
  have z2 : Box W (w.heap.size + 1) 39 #[.int .i64 0, .int .i64 0, .slice none 0 0] := by rw [← hW]; exact ((Box.new (w.alloc _) _ _).at (by simp)).alloc _
  have z3 : ptB W (w.heap.size + 1 + 1) A m cL 0 := by rw [← hW]; exact (Box.new ((w.alloc _).alloc _) _ _).at (by simp)
  have lP := xP.lt
  have lN := xN.lt
  have lp := hp.lt
  have hsB := hb.size
  have HFI := Lib.hid (hF wB W (w.heap.size + 1 + 1) A m cL n 0 _ (hb.trans (hbW.mono hb.size)) (by omega) z3 hth hv hno h0 hn ho (by omega))
  have HWW := Lib.hid hW; clear hW
  have HB := Lib.hid hbW; clear hb
  have HP := Lib.hid hp
  have d0 := (xP.one).1
  have e0 := (xN.one).1
  obtain ⟨p0, p1⟩ := hp.two
  obtain ⟨a0, a1, a2⟩ := z1.three
  have lP1 : pP < w.heap.size + 1 := by omega
  have lP2 : pP < w.heap.size + 1 + 1 := by omega
  have lN1 : pN < w.heap.size + 1 := by omega
  have lN2 : pN < w.heap.size + 1 + 1 := by omega
  clear hth hv hF ho hc hn h0 hbW xP xN hp hsB
  go_enter Tryz.func104, Tryz.ntmps104
  go_wp2_with fail
  rw [HWW.out]
  clear HWW
  refine HFI.out.mono ?_
  intro e w2 hE
  obtain ⟨k3, h3, A3, n3, c3, ec, rfl, hout, hfr⟩ := hE.uni
  have s5 := z2.lt
  have r2 := z2.fr hfr (by omega)
  have s2 := r2.lt
  have HO := Lib.hid hout
  have HFR := Lib.hid hfr
  clear hout hE hfr a0 a1 a2 d0 e0 p0 p1 z1 z2 z3 HFI
  obtain ⟨y0, y1, y2⟩ := r2.three
  have f0 := r2.frozen 0
  have f1 := r2.frozen 1
  have f2 := r2.frozen 2
  go_wp2_with fail
  refine bodyPost_ret (v := .tuple #[.agg #[.int .i64 k3, .int .i64 h3, .slice A3 n3 c3], .int .i64 ec]) (by simp [results, Tryz.results104, go_sem, y0, y1, y2]) rfl ?_
  have szW := HB.out.size
  have s4 := HFR.out.size
  have hbw : Below w.heap.size w w2 := HB.out.trans (HFR.out.to_below (fun i e => by omega) HB.out.size)
  refine CO.cen (HO.out.po (by omega) (fun g hg _ => heap_other3 _ _ _ _ _ _ (by omega)) (Box.other3 (HP.out.keep hbw lp) (by omega) _ _ _)) ?_
  exact (Fr.below (X := fun b => b = pp) hbw).set3 (fun h => by omega) _ _ _
end Go.Proofs.YtbbjjdnnlnabaaaGreat
