/-
  Terms whose metas become something, as a plain function, and what holds of what it tells: how many nodes, Heads. No statement is proved here.
-/
import Derived.Test.YtaccaamdbfccmaaPd
namespace Go.Proofs.Ytaccaamdbfccmaa
open Go.ChangeShapes Go.WideShapes Go.ChangeAt Go.RowKit
set_option linter.unusedVariables false

/-- a node with its Args, filled -/
def flN (th : List T) (n k h : Int) (ys : List T) : Except Int T :=
  if k = 6 then
    if (th.length : Int) ≤ h then .error 2
    else if ys.all myB = true then
      if apE (th.getD h.toNat (.node 0 0 [])) ys n = 0 then .ok (apT (th.getD h.toNat (.node 0 0 [])) ys n) else .error (apE (th.getD h.toNat (.node 0 0 [])) ys n)
    else .error 4
  else .ok (.node k h ys)
mutual
/-- a term with what its metas become, in a context of n entries -/
def flT (th : List T) : T → Int → Except Int T
  | .node k h xs, n =>
    match flL th k xs.length xs 0 n with
    | .error e => .error e
    | .ok ys => flN th n k h ys
def flL (th : List T) (k : Int) (m : Nat) : List T → Nat → Int → Except Int (List T)
  | [], _, _ => .ok []
  | x :: xs, i, n =>
    match flT th x (n + bd k m i) with
    | .error e => .error e
    | .ok y =>
      match flL th k m xs (i + 1) n with
      | .error e => .error e
      | .ok ys => .ok (y :: ys)
end

/-- what is too great takes no room -/
def kp (c : Nat) (t : T) : T := if 4000 < c then .node 7 0 [] else t
def kpL : Nat → List T → List T
  | _, [] => []
  | c, y :: ys => kp (c + nd y) y :: kpL (c + nd y) ys
/-- a part that is filled, behind so many nodes -/
def pf (th : List T) (n : Int) (c : Nat) (t : T) : Res :=
  match flT th t n with
  | .error e => .error e
  | .ok t' => .ok (kp (c + nd t') t', c + nd t')
/-- a list of what its elements become -/
def eaL (g : Nat → T → Nat → Res) : List T → Nat → Nat → Except Int (List T × Nat)
  | [], _, c => .ok ([], c)
  | x :: xs, i, c =>
    match g i x c with
    | .error e => .error e
    | .ok (y, c1) =>
      match eaL g xs (i + 1) c1 with
      | .error e => .error e
      | .ok (ys, c2) => .ok (y :: ys, c2)

theorem kpL_id : ∀ (ys : List T) (c : Nat), c + ndL ys ≤ 4000 → kpL c ys = ys
  | [], _, _ => rfl
  | y :: ys, c, h => by
    rw [ndL] at h
    rw [kpL, kp, if_neg (by omega), kpL_id ys (c + nd y) (by omega)]
theorem my_leaf7 : myB (.node 7 0 []) = false := by decide
theorem my_kp (y : T) : myB (kp (nd y) y) = myB y := by
  unfold kp
  split
  · rw [my_leaf7]
    cases h : myB y with
    | false => rfl
    | true => have := ((myB_iff y).1 h).2.1; omega
  · rfl
theorem kp_my {y : T} (h : myB y = true) : kp (nd y) y = y := by
  unfold kp
  rw [if_neg (by have := ((myB_iff y).1 h).2.1; omega)]
theorem all_kp (ys : List T) : (ys.map fun y => kp (nd y) y).all myB = ys.all myB := by
  rw [List.all_map]
  congr 1
  funext y
  exact my_kp y
theorem map_kp {ys : List T} (h : ys.all myB = true) : (ys.map fun y => kp (nd y) y) = ys := by
  have := List.map_congr_left (l := ys) (f := fun y => kp (nd y) y) (g := id) fun y hy => kp_my (List.all_eq_true.1 h y hy)
  rw [this, List.map_id]
/-- the Args of a node, part by part -/
theorem ea_fill (th : List T) (n k : Int) (m : Nat) : ∀ (xs : List T) (i c : Nat), eaL (fun i x c => pf th (n + bd k m i) c x) xs i c = match flL th k m xs i n with
    | .error e => .error e
    | .ok ys => .ok (kpL c ys, c + ndL ys)
  | [], i, c => by simp [eaL, flL, kpL, ndL]
  | x :: xs, i, c => by
    rw [eaL, flL, pf]
    cases hx : flT th x (n + bd k m i) with
    | error e => rfl
    | ok y =>
      simp only
      rw [ea_fill th n k m xs (i + 1) (c + nd y)]
      cases flL th k m xs (i + 1) n with
      | error e => rfl
      | ok ys => simp only [kpL, ndL]; rw [Nat.add_assoc]
/-- what becomes of one of a meta's Args -/
def po (th : List T) (n : Int) (c : Nat) (t : T) : Res :=
  match pf th n 0 t with
  | .error e => .error e
  | .ok (y, _) => .ok (y, c)
theorem dpL_mem {t : T} : ∀ {xs : List T}, t ∈ xs → dp t ≤ dpL xs
  | x :: xs, h => by
    rw [dpL]
    rcases List.mem_cons.1 h with rfl | h
    · omega
    · have := dpL_mem h
      omega
theorem bd6 (m i : Nat) : bd 6 m i = 0 := by simp [bd]
/-- the Args of a meta, each by itself -/
theorem ea_own (th : List T) (n : Int) (m : Nat) : ∀ (xs : List T) (i c : Nat), eaL (fun _ x c => po th n c x) xs i c = match flL th 6 m xs i n with
    | .error e => .error e
    | .ok ys => .ok (ys.map (fun y => kp (nd y) y), c)
  | [], i, c => by simp [eaL, flL]
  | x :: xs, i, c => by
    rw [eaL, flL, bd6, Int.add_zero, po, pf]
    cases hx : flT th x n with
    | error e => rfl
    | ok y =>
      simp only
      rw [ea_own th n m xs (i + 1) c]
      cases flL th 6 m xs (i + 1) n with
      | error e => rfl
      | ok ys => simp only [List.map_cons, Nat.zero_add]
/-- a meta -/
theorem pf_meta (th : List T) (n h : Int) (xs : List T) (c : Nat) : pf th n c (.node 6 h xs) = match flL th 6 xs.length xs 0 n with
    | .error e => .error e
    | .ok ys =>
      if (th.length : Int) ≤ h then .error 2
      else if ys.all myB = true then
        if apE (th.getD h.toNat (.node 0 0 [])) ys n = 0 then .ok (kp (c + nd (apT (th.getD h.toNat (.node 0 0 [])) ys n)) (apT (th.getD h.toNat (.node 0 0 [])) ys n), c + nd (apT (th.getD h.toNat (.node 0 0 [])) ys n)) else .error (apE (th.getD h.toNat (.node 0 0 [])) ys n)
      else .error 4 := by
  rw [pf, flT]
  cases flL th 6 xs.length xs 0 n with
  | error e => rfl
  | ok ys =>
    simp only [flN, if_true]
    split
    · rename_i e he
      split at he
      · rename_i h1
        cases he
        rw [if_pos h1]
      · rename_i h1
        rw [if_neg h1]
        split at he
        · rename_i h2
          rw [if_pos h2]
          split at he
          · cases he
          · rename_i h3
            cases he
            rw [if_neg h3]
        · rename_i h2
          cases he
          rw [if_neg h2]
    · rename_i t' he
      split at he
      · cases he
      · rename_i h1
        rw [if_neg h1]
        split at he
        · rename_i h2
          rw [if_pos h2]
          split at he
          · rename_i h3
            cases he
            rw [if_pos h3]
          · cases he
        · cases he
/-- a node that is kept -/
theorem pf_node (th : List T) (n k h : Int) (xs : List T) (c : Nat) (hk : k ≠ 6) : pf th n c (.node k h xs) = match flL th k xs.length xs 0 n with
    | .error e => .error e
    | .ok ys => .ok (kp (c + ndL ys + 1) (.node k h (kpL c ys)), c + ndL ys + 1) := by
  unfold pf
  rw [flT]
  cases flL th k xs.length xs 0 n with
  | error e => rfl
  | ok ys =>
    simp only [flN, if_neg hk]
    have e : c + nd (.node k h ys) = c + ndL ys + 1 := by rw [nd]; omega
    rw [e]
    unfold kp
    split
    · rfl
    · rw [kpL_id ys c (by omega)]

/-! ### What is answered may be -/
theorem ap_zero {t : T} {L : List T} {sh : Int} (h : apE t L sh = 0) : myB t = true ∧ sbB L sh = true ∧ ∃ m, apR t L sh = .ok (apT t L sh, m) ∧ myB (apT t L sh) = true := by
  unfold apE at h
  by_cases hp : (myB t && sbB L sh) = true
  · rw [if_pos hp] at h
    have hp' := hp
    rw [Bool.and_eq_true] at hp'
    refine ⟨hp'.1, hp'.2, ?_⟩
    unfold apT
    rw [if_pos hp]
    cases hr : apR t L sh with
    | error e => rw [hr] at h; exact absurd (by simpa [anE] using h) (ap_err _ _ _ _ _ _ _ hr)
    | ok p =>
      obtain ⟨t', m⟩ := p
      rw [hr] at h
      have hm : myB t' = true := by
        cases hm : myB t' with
        | true => rfl
        | false => simp [anE, hm] at h
      simp only [anT, hm, if_true]
      exact ⟨m, rfl, trivial⟩
  · rw [if_neg hp] at h
    omega
mutual
theorem fl_nd (th : List T) : ∀ (t : T) (n : Int) (t' : T), flT th t n = .ok t' → nd t' ≤ 4000 * nd t
  | .node k h xs, n, t', hr => by
    rw [flT] at hr
    split at hr
    · cases hr
    · rename_i ys hy
      have := flL_nd th k xs.length xs 0 n ys hy
      rw [nd]
      unfold flN at hr
      split at hr
      · split at hr
        · cases hr
        · split at hr
          · split at hr
            · rename_i h0
              cases hr
              obtain ⟨_, _, _, _, hm⟩ := ap_zero h0
              have := ((myB_iff _).1 hm).2.1
              omega
            · cases hr
          · cases hr
      · cases hr
        rw [nd]
        omega
theorem flL_nd (th : List T) (k : Int) (m : Nat) : ∀ (xs : List T) (i : Nat) (n : Int) (ys : List T), flL th k m xs i n = .ok ys → ndL ys ≤ 4000 * ndL xs
  | [], i, n, ys, hr => by
    rw [flL] at hr
    cases hr
    simp [ndL]
  | x :: xs, i, n, ys, hr => by
    rw [flL] at hr
    split at hr
    · cases hr
    · rename_i y hy
      have := fl_nd th x _ y hy
      split at hr
      · cases hr
      · rename_i zs hz
        have := flL_nd th k m xs (i + 1) n zs hz
        cases hr
        rw [ndL, ndL]
        omega
end
theorem flL_len (th : List T) (k : Int) (m : Nat) : ∀ (xs : List T) (i : Nat) (n : Int) (ys : List T), flL th k m xs i n = .ok ys → ys.length = xs.length
  | [], i, n, ys, hr => by
    rw [flL] at hr
    cases hr
    rfl
  | x :: xs, i, n, ys, hr => by
    rw [flL] at hr
    split at hr
    · cases hr
    · split at hr
      · cases hr
      · rename_i zs hz
        have := flL_len th k m xs (i + 1) n zs hz
        cases hr
        simp [this]
mutual
theorem fl_err (th : List T) : ∀ (t : T) (n e : Int), flT th t n = .error e → e ≠ 0
  | .node k h xs, n, e, hr => by
    rw [flT] at hr
    split at hr
    · rename_i e' he
      cases hr
      exact flL_err th k xs.length xs 0 n e he
    · unfold flN at hr
      split at hr
      · split at hr
        · cases hr; omega
        · split at hr
          · split at hr
            · cases hr
            · cases hr; assumption
          · cases hr; omega
      · cases hr
theorem flL_err (th : List T) (k : Int) (m : Nat) : ∀ (xs : List T) (i : Nat) (n e : Int), flL th k m xs i n = .error e → e ≠ 0
  | [], i, n, e, hr => by
    rw [flL] at hr
    cases hr
  | x :: xs, i, n, e, hr => by
    rw [flL] at hr
    split at hr
    · rename_i e' he
      cases hr
      exact fl_err th x _ e he
    · split at hr
      · rename_i e' he
        cases hr
        exact flL_err th k m xs (i + 1) n e he
      · cases hr
end
/-! ### Heads -/
/-- how great a Head may be in what is filled -/
def hB (d : Nat) : Int := 2199023255552 + d * 68719476736
theorem hB_mono {a b : Nat} (h : a ≤ b) : hB a ≤ hB b := by unfold hB; omega
theorem ap_heads {t : T} {L : List T} {sh M : Int} (h : apE t L sh = 0) (ht : okT M t) (hL : ∀ x ∈ L, okT M x) (hs : sh ≤ 1048576) : okT (M + 68719476736) (apT t L sh) := by
  obtain ⟨h1, h2, m, h3, _⟩ := ap_zero h
  unfold sbB at h2
  simp only [Bool.and_eq_true, decide_eq_true_eq, List.all_eq_true] at h2
  have hg := ap_good (B := M + 1048576) fl L sh 0 t 0 (Nat.le_refl _) (by omega) ⟨h2.2, fun x hx => okT_mono (by unfold btB; omega) _ (hL x hx), h2.1.1.2, hs⟩ ⟨((myB_iff t).1 h1).1, okT_mono (by unfold btB; omega) _ ht⟩ _ m h3
  exact okT_mono (by have := hg.2.1; unfold btB; omega) _ hg.2.2.1.ok
mutual
theorem fl_heads {th : List T} (hth : ∀ x ∈ th, okT 2199023255552 x) : ∀ (t : T) (n : Int) (t' : T), 0 ≤ n → n + dp t ≤ 1048576 → okT 2199023255552 t → flT th t n = .ok t' → okT (hB (dp t)) t'
  | .node k h xs, n, t', h0, hn, ho, hr => by
    have hd : dp (.node k h xs) = 1 + dpL xs := by rw [dp]
    rw [flT] at hr
    rw [okT] at ho
    split at hr
    · cases hr
    · rename_i ys hy
      have hys := flL_heads hth k xs.length xs 0 n ys h0 (by omega) ho.2 hy
      have hm : hB (dpL xs) + 68719476736 = hB (dp (.node k h xs)) := by rw [hd]; unfold hB; omega
      have hb : (2199023255552 : Int) ≤ hB (dpL xs) := by unfold hB; omega
      unfold flN at hr
      split at hr
      · split at hr
        · cases hr
        · rename_i hlt
          split at hr
          · split at hr
            · rename_i h0'
              cases hr
              rw [← hm]
              refine ap_heads h0' ?_ (fun x hx => okL_mem hys hx) (by omega)
              rcases Nat.lt_or_ge h.toNat th.length with hl | hl
              · exact okT_mono hb _ (hth _ (getD_mem _ hl))
              · rw [List.getD_eq_getElem?_getD, List.getElem?_eq_none hl]
                simp [okT, okL]
            · cases hr
          · cases hr
      · cases hr
        rw [okT]
        exact ⟨fun e => ⟨(ho.1 e).1, by have := (ho.1 e).2; omega⟩, okL_mono (by omega) _ hys⟩
theorem flL_heads {th : List T} (hth : ∀ x ∈ th, okT 2199023255552 x) (k : Int) (m : Nat) : ∀ (xs : List T) (i : Nat) (n : Int) (ys : List T), 0 ≤ n → n + dpL xs + 1 ≤ 1048576 → okL 2199023255552 xs → flL th k m xs i n = .ok ys → okL (hB (dpL xs)) ys
  | [], i, n, ys, _, _, _, hr => by
    rw [flL] at hr
    cases hr
    rw [okL]
    trivial
  | x :: xs, i, n, ys, h0, hn, ho, hr => by
    rw [flL] at hr
    rw [okL] at ho
    have hd : dp x ≤ dpL (x :: xs) ∧ dpL xs ≤ dpL (x :: xs) := by rw [dpL]; omega
    have hbd : 0 ≤ bd k m i ∧ bd k m i ≤ 1 := by rw [bd_bdn]; have := bdn_le k m i; omega
    split at hr
    · cases hr
    · rename_i y hy
      have h1 := fl_heads hth x _ y (by omega) (by omega) ho.1 hy
      split at hr
      · cases hr
      · rename_i zs hz
        have h2 := flL_heads hth k m xs (i + 1) n zs h0 (by omega) ho.2 hz
        cases hr
        rw [okL]
        exact ⟨okT_mono (hB_mono hd.1) _ h1, okL_mono (hB_mono hd.2) _ h2⟩
end
end Go.Proofs.Ytaccaamdbfccmaa
