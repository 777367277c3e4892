/-
  What the laws of layer 4 need of terms whose metas become something, as plain facts. No statement is proved here.
-/
import Derived.Test.YtaccaamdbfccmaaKl
namespace Go.Proofs.Ytaccaamdbfccmaa
open Go.ChangeShapes Go.WideShapes Go.ChangeAt Go.RowKit
set_option linter.unusedVariables false

theorem up_my {t : T} (h : myB t = true) {b : Int} (hb : 0 ≤ b ∧ b ≤ 1000) : apT t [] b = upT b t 0 ∧ apE t [] b = 0 :=
  ren_tells h (sb_of (by simp) (by omega) (fun x hx => by cases hx)) (ren_up b t 0) (my_up hb.1 h)
theorem bare_meta {h : Int} {xs : List T} (hb : barB (.node 6 h xs) = true) : xs = [] := by
  rw [barB, Bool.and_eq_true] at hb
  have := hb.1
  cases xs with
  | nil => rfl
  | cons x xs => simp at this
theorem bare_args {k h : Int} {xs : List T} (hb : barB (.node k h xs) = true) : barL xs = true := by
  rw [barB, Bool.and_eq_true] at hb
  exact hb.2
/-- a meta without Args -/
theorem fl_bare {th : List T} (hth : ∀ x ∈ th, myB x = true) {h n : Int} (hn : 0 ≤ n ∧ n ≤ 1000) : flT th (.node 6 h []) n = if (th.length : Int) ≤ h then .error 2 else .ok (upT n (th.getD h.toNat (.node 0 0 [])) 0) := by
  rw [flT, flL]
  simp only [flN, if_true, List.all_nil]
  split
  · rfl
  · have hm : myB (th.getD h.toNat (.node 0 0 [])) = true := by
      rcases Nat.lt_or_ge h.toNat th.length with hl | hl
      · exact hth _ (getD_mem _ hl)
      · rw [List.getD_eq_getElem?_getD, List.getElem?_eq_none hl]
        rfl
    obtain ⟨h1, h2⟩ := up_my hm hn
    rw [if_pos h2, h1]
theorem fl_node {th : List T} {k h n : Int} {xs : List T} {t' : T} (hk : k ≠ 6) (hr : flT th (.node k h xs) n = .ok t') : ∃ ys, flL th k xs.length xs 0 n = .ok ys ∧ t' = .node k h ys := by
  rw [flT] at hr
  split at hr
  · cases hr
  · rename_i ys hy
    rw [flN, if_neg hk] at hr
    cases hr
    exact ⟨ys, hy, rfl⟩
theorem flL_cons {th : List T} {k n : Int} {m i : Nat} {x : T} {xs ys : List T} (hr : flL th k m (x :: xs) i n = .ok ys) : ∃ y zs, flT th x (n + bd k m i) = .ok y ∧ flL th k m xs (i + 1) n = .ok zs ∧ ys = y :: zs := by
  rw [flL] at hr
  split at hr
  · cases hr
  · rename_i y hy
    split at hr
    · cases hr
    · rename_i zs hz
      cases hr
      exact ⟨y, zs, hy, hz, rfl⟩
theorem bd_le (k : Int) (m i : Nat) : 0 ≤ bd k m i ∧ bd k m i ≤ 1 := by rw [bd_bdn]; have := bdn_le k m i; omega

/-! ### Scopes -/
mutual
theorem sc_fill {th : List T} (hth : ∀ x ∈ th, myB x = true) {around metas : Int} (ha : 0 ≤ around) (hsc : ∀ x ∈ th, scC x around metas) : ∀ (t : T) (n : Int) (t' : T), barB t = true → 0 ≤ n → n + dp t ≤ 1000 → nodB t = true → scC t (n + around) th.length → flT th t n = .ok t' → scC t' (n + around) metas
  | .node k h xs, n, t', hb, h0, hn, hno, hs, hr => by
    have hdp : dp (.node k h xs) = 1 + dpL xs := by rw [dp]
    by_cases hk : k = 6
    · subst hk
      have := bare_meta hb
      subst this
      rw [fl_bare hth ⟨h0, by omega⟩] at hr
      split at hr
      · cases hr
      · rename_i hlt
        cases hr
        rw [nodB, Bool.and_eq_true] at hno
        have hh0 : 0 ≤ h := by rcases okN_cases hno.1 with ⟨e, _⟩ | ⟨e, _⟩ | ⟨e, _⟩ | ⟨e, he⟩ | ⟨e, he⟩ | ⟨e, he⟩ | ⟨e, he⟩ <;> first | exact he | omega
        have hm := getD_mem (.node 0 0 []) (show h.toNat < th.length by omega)
        rw [Int.add_comm]
        exact sc_up h0 _ 0 around ha (hsc _ hm)
    · obtain ⟨ys, hy, rfl⟩ := fl_node hk hr
      obtain ⟨_, hnos⟩ := node_parts hno
      rw [scC] at hs ⊢
      refine ⟨hs.1, fun e => absurd e hk, ?_⟩
      rw [flL_len th k xs.length xs 0 n ys hy]
      exact scL_fill hth ha hsc k xs.length xs 0 n ys (bare_args hb) h0 (by omega) (fun x hx => hnos x hx) hs.2.2 hy
theorem scL_fill {th : List T} (hth : ∀ x ∈ th, myB x = true) {around metas : Int} (ha : 0 ≤ around) (hsc : ∀ x ∈ th, scC x around metas) (k : Int) (m : Nat) : ∀ (xs : List T) (i : Nat) (n : Int) (ys : List T), barL xs = true → 0 ≤ n → n + dpL xs + 1 ≤ 1000 → (∀ x ∈ xs, nodB x = true) → scCL k m xs i (n + around) th.length → flL th k m xs i n = .ok ys → scCL k m ys i (n + around) metas
  | [], i, n, ys, _, _, _, _, _, hr => by
    rw [flL] at hr
    cases hr
    rw [scCL]
    trivial
  | x :: xs, i, n, ys, hb, h0, hn, hno, hs, hr => by
    obtain ⟨y, zs, hy, hz, rfl⟩ := flL_cons hr
    rw [barL, Bool.and_eq_true] at hb
    rw [dpL] at hn
    rw [scCL] at hs ⊢
    have hbd := bd_le k m i
    have e : n + around + bd k m i = n + bd k m i + around := by omega
    rw [e] at hs ⊢
    exact ⟨sc_fill hth ha hsc x _ y hb.1 (by omega) (by omega) (hno x (List.mem_cons_self ..)) hs.1 hy, scL_fill hth ha hsc k m xs (i + 1) n zs hb.2 h0 (by omega) (fun x hx => hno x (List.mem_cons_of_mem _ hx)) hs.2 hz⟩
end

/-! ### Twice -/
mutual
theorem up_at {a b : Int} (ha : 0 ≤ a) : ∀ (t : T) (s : Int), upT b (upT a t s) (a + s) = upT (a + b) t s
  | .node k h xs, s => by
    rw [upT, upT, upT, upL_len, up_atL ha k xs.length xs 0 s]
    congr 1
    by_cases hk : k = 4 ∧ s ≤ h
    · rw [if_pos hk, if_pos hk, if_pos ⟨hk.1, by omega⟩]
      omega
    · rw [if_neg hk, if_neg hk, if_neg (fun e => hk ⟨e.1, by omega⟩)]
theorem up_atL {a b : Int} (ha : 0 ≤ a) (k : Int) (n : Nat) : ∀ (xs : List T) (i : Nat) (s : Int), upL b k n (upL a k n xs i s) i (a + s) = upL (a + b) k n xs i s
  | [], i, s => by rw [upL, upL, upL]
  | x :: xs, i, s => by
    rw [upL, upL, upL, up_atL ha k n xs (i + 1) s, Int.add_assoc, up_at ha x]
end
mutual
theorem up_fl {et : List T} (he : ∀ x ∈ et, myB x = true) {b : Int} (hb0 : 0 ≤ b) : ∀ (s : T) (f : Int) (r : T), barB s = true → 0 ≤ f → f + b + dp s ≤ 1000 → flT et s f = .ok r → flT et (upT b s f) (f + b) = .ok (upT b r f)
  | .node k h xs, f, r, hb, h0, hn, hr => by
    have hdp : dp (.node k h xs) = 1 + dpL xs := by rw [dp]
    by_cases hk : k = 6
    · subst hk
      have := bare_meta hb
      subst this
      rw [fl_bare he ⟨h0, by omega⟩] at hr
      rw [upT, upL, if_neg (by omega), fl_bare he ⟨by omega, by omega⟩]
      split at hr
      · cases hr
      · rename_i hlt
        cases hr
        rw [if_neg hlt]
        congr 1
        have := up_at (b := b) h0 (et.getD h.toNat (.node 0 0 [])) 0
        rw [Int.add_zero] at this
        exact this.symm
    · obtain ⟨ys, hy, rfl⟩ := fl_node hk hr
      have h1 := up_flL he hb0 k xs.length xs 0 f ys (bare_args hb) h0 (by omega) hy
      rw [upT, flT, upL_len, h1, upT, flL_len et k xs.length xs 0 f ys hy]
      simp only [flN, if_neg hk]
theorem up_flL {et : List T} (he : ∀ x ∈ et, myB x = true) {b : Int} (hb0 : 0 ≤ b) (k : Int) (m : Nat) : ∀ (xs : List T) (i : Nat) (f : Int) (ys : List T), barL xs = true → 0 ≤ f → f + b + dpL xs + 1 ≤ 1000 → flL et k m xs i f = .ok ys → flL et k m (upL b k m xs i f) i (f + b) = .ok (upL b k m ys i f)
  | [], i, f, ys, _, _, _, hr => by
    rw [flL] at hr
    cases hr
    rw [upL, flL]
  | x :: xs, i, f, ys, hb, h0, hn, hr => by
    obtain ⟨y, zs, hy, hz, rfl⟩ := flL_cons hr
    rw [barL, Bool.and_eq_true] at hb
    rw [dpL] at hn
    have hbd := bd_le k m i
    have h1 := up_fl he hb0 x (f + bd k m i) y hb.1 (by omega) (by omega) hy
    have h2 := up_flL he hb0 k m xs (i + 1) f zs hb.2 h0 (by omega) hz
    rw [upL, flL, show f + b + bd k m i = f + bd k m i + b by omega, h1]
    simp only
    rw [h2, upL]
end
mutual
theorem fl_twice {th et l : List T} (hth : ∀ x ∈ th, myB x = true) (he : ∀ x ∈ et, myB x = true) (hl : ∀ x ∈ l, myB x = true) (hlen : l.length = th.length) (hba : ∀ x ∈ th, barB x = true)
    (hil : ∀ (i : Nat) (s : T), th[i]? = some s → ∃ u, l[i]? = some u ∧ flT et s 0 = .ok u) : ∀ (t : T) (n : Int) (x y z : T), barB t = true → nodB t = true → 0 ≤ n → n + dp t ≤ 900 → flT th t n = .ok x → flT et x n = .ok y → flT l t n = .ok z → y = z
  | .node k h xs, n, x, y, z, hb, hno, h0, hn, h1, h2, h3 => by
    have hdp : dp (.node k h xs) = 1 + dpL xs := by rw [dp]
    by_cases hk : k = 6
    · subst hk
      have := bare_meta hb
      subst this
      rw [fl_bare hth ⟨h0, by omega⟩] at h1
      rw [fl_bare hl ⟨h0, by omega⟩] at h3
      split at h1
      · cases h1
      · rename_i hlt
        cases h1
        rw [if_neg (by rw [hlen]; exact hlt)] at h3
        cases h3
        rw [nodB, Bool.and_eq_true] at hno
        have hh0 : 0 ≤ h := by rcases okN_cases hno.1 with ⟨e, _⟩ | ⟨e, _⟩ | ⟨e, _⟩ | ⟨e, he⟩ | ⟨e, he⟩ | ⟨e, he⟩ | ⟨e, he⟩ <;> first | exact he | omega
        have hj : h.toNat < th.length := by omega
        obtain ⟨u, hu, hf⟩ := hil h.toNat _ (List.getElem?_eq_getElem hj)
        have hm : th.getD h.toNat (.node 0 0 []) = th[h.toNat] := by rw [List.getD_eq_getElem?_getD, List.getElem?_eq_getElem hj]; rfl
        have hmm : th[h.toNat] ∈ th := List.getElem_mem hj
        have hd := ((myB_iff _).1 (hth _ hmm)).2.2
        have hup := up_fl he h0 _ 0 u (hba _ hmm) (by omega) (by omega) hf
        rw [hm] at h2
        rw [Int.zero_add] at hup
        rw [hup] at h2
        cases h2
        rw [List.getD_eq_getElem?_getD, hu]
        rfl
    · obtain ⟨ys, hy, rfl⟩ := fl_node hk h1
      obtain ⟨vs, hv, rfl⟩ := fl_node hk h2
      obtain ⟨ws, hw, rfl⟩ := fl_node hk h3
      obtain ⟨_, hnos⟩ := node_parts hno
      rw [flL_len th k xs.length xs 0 n ys hy] at hv
      rw [flL_twice hth he hl hlen hba hil k xs.length xs 0 n ys vs ws (bare_args hb) hnos h0 (by omega) hy hv hw]
theorem flL_twice {th et l : List T} (hth : ∀ x ∈ th, myB x = true) (he : ∀ x ∈ et, myB x = true) (hl : ∀ x ∈ l, myB x = true) (hlen : l.length = th.length) (hba : ∀ x ∈ th, barB x = true)
    (hil : ∀ (i : Nat) (s : T), th[i]? = some s → ∃ u, l[i]? = some u ∧ flT et s 0 = .ok u) (k : Int) (m : Nat) : ∀ (xs : List T) (i : Nat) (n : Int) (ys vs ws : List T), barL xs = true → (∀ x ∈ xs, nodB x = true) → 0 ≤ n → n + dpL xs + 1 ≤ 900 → flL th k m xs i n = .ok ys → flL et k m ys i n = .ok vs → flL l k m xs i n = .ok ws → vs = ws
  | [], i, n, ys, vs, ws, _, _, _, _, h1, h2, h3 => by
    rw [flL] at h1
    cases h1
    rw [flL] at h2 h3
    cases h2
    cases h3
    rfl
  | x :: xs, i, n, ys, vs, ws, hb, hno, h0, hn, h1, h2, h3 => by
    obtain ⟨y, zs, hy, hz, rfl⟩ := flL_cons h1
    obtain ⟨v, us, hv, hu, rfl⟩ := flL_cons h2
    obtain ⟨w, qs, hw, hq, rfl⟩ := flL_cons h3
    rw [barL, Bool.and_eq_true] at hb
    rw [dpL] at hn
    have hbd := bd_le k m i
    rw [fl_twice hth he hl hlen hba hil x _ y v w hb.1 (hno x (List.mem_cons_self ..)) (by omega) (by omega) hy hv hw, flL_twice hth he hl hlen hba hil k m xs (i + 1) n zs us qs hb.2 (fun x hx => hno x (List.mem_cons_of_mem _ hx)) h0 (by omega) hz hu hq]
end

/-! ### None -/
mutual
theorem fl_none (th : List T) : ∀ (t : T) (n : Int), hasB t = false → flT th t n = .ok t
  | .node k h xs, n, hb => by
    rw [hasB, Bool.or_eq_false_iff] at hb
    have hk : k ≠ 6 := by simpa using hb.1
    rw [flT, flL_none th k xs.length xs 0 n hb.2]
    simp only [flN, if_neg hk]
theorem flL_none (th : List T) (k : Int) (m : Nat) : ∀ (xs : List T) (i : Nat) (n : Int), hasL xs = false → flL th k m xs i n = .ok xs
  | [], i, n, _ => by rw [flL]
  | x :: xs, i, n, hb => by
    rw [hasL, Bool.or_eq_false_iff] at hb
    rw [flL, fl_none th x _ hb.1]
    simp only
    rw [flL_none th k m xs (i + 1) n hb.2]
end
mutual
theorem fl_has : ∀ (t : T) (n : Int), nodB t = true → hasB t = true → flT [] t n = .error 2
  | .node k h xs, n, hno, hb => by
    obtain ⟨hok, hnos⟩ := node_parts hno
    rw [flT]
    cases hx : hasL xs with
    | true => rw [flL_has k xs.length xs 0 n hnos hx]
    | false =>
      rw [flL_none [] k xs.length xs 0 n hx]
      rw [hasB, hx, Bool.or_false] at hb
      have hk : k = 6 := by simpa using hb
      subst hk
      have hh0 : 0 ≤ h := by rcases okN_cases hok with ⟨e, _⟩ | ⟨e, _⟩ | ⟨e, _⟩ | ⟨e, he⟩ | ⟨e, he⟩ | ⟨e, he⟩ | ⟨e, he⟩ <;> first | exact he | omega
      simp [flN, hh0]
theorem flL_has (k : Int) (m : Nat) : ∀ (xs : List T) (i : Nat) (n : Int), (∀ x ∈ xs, nodB x = true) → hasL xs = true → flL [] k m xs i n = .error 2
  | [], i, n, _, hb => by simp [hasL] at hb
  | x :: xs, i, n, hno, hb => by
    rw [flL]
    cases hx : hasB x with
    | true => rw [fl_has x _ (hno x (List.mem_cons_self ..)) hx]
    | false =>
      rw [hasL, hx, Bool.false_or] at hb
      rw [fl_none [] x _ hx]
      simp only
      rw [flL_has k m xs (i + 1) n (fun x hx => hno x (List.mem_cons_of_mem _ hx)) hb]
end

/-! ### The whole context -/
theorem hasL_vs (n : Nat) : hasL (vsL n) = false := by
  have : ∀ xs : List T, (∀ x ∈ xs, hasB x = false) → hasL xs = false := by
    intro xs
    induction xs with
    | nil => intro _; rfl
    | cons x xs ih =>
      intro h
      rw [hasL, h x (List.mem_cons_self ..), ih fun y hy => h y (List.mem_cons_of_mem _ hy)]
      rfl
  refine this _ fun x hx => ?_
  obtain ⟨i, hi⟩ := List.getElem?_of_mem hx
  obtain ⟨_, rfl⟩ := vsL_at _ _ _ hi
  simp [hasB, hasL]
theorem hasL_of : ∀ {xs : List T}, (∀ x ∈ xs, hasB x = false) → hasL xs = false
  | [], _ => rfl
  | x :: xs, h => by rw [hasL, h x (List.mem_cons_self ..), hasL_of fun y hy => h y (List.mem_cons_of_mem _ hy)]; rfl
/-- one meta, with Args without metas -/
theorem fi_one {x : T} {L : List T} {n : Int} (hx : myB x = true) (hL : hasL L = false) (hm : myB (.node 6 0 L) = true) (hal : L.all myB = true) (hn : 0 ≤ n ∧ n ≤ 1000) : fiR [x] n (.node 6 0 L) = if apE x L n = 0 then .ok (apT x L n) else .error (apE x L n) := by
  rw [fi_good (by simp [thB, hx]) hn.1 hn.2 hm, flT, flL_none [x] 6 L.length L 0 n hL]
  simp only [flN, if_true, List.length_singleton, hal]
  rw [if_neg (by omega)]
  simp only [Int.toNat_zero, List.getD_cons_zero]
  by_cases hz : apE x L n = 0
  · rw [if_pos hz]
    obtain ⟨_, _, _, _, h4⟩ := ap_zero hz
    simp only [h4, if_true]
  · rw [if_neg hz]
theorem ap_nought {x : T} {L : List T} {n : Int} (h : apE x L n ≠ 0) : apT x L n = .node 0 0 [] := by
  unfold apE at h
  unfold apT
  split
  · rename_i hp
    rw [if_pos hp] at h
    cases hr : apR x L n with
    | error e => rfl
    | ok p =>
      obtain ⟨t, m⟩ := p
      rw [hr] at h
      cases hm : myB t with
      | true => simp [anE, hm] at h
      | false => simp [anT, hm]
  · rfl
end Go.Proofs.Ytaccaamdbfccmaa
