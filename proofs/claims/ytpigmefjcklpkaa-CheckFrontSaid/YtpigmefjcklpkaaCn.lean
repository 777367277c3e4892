/-
  Terms as lambda terms with constants: what Apply and Spine tell is what they reduce to; what has nothing to reduce is normal; so two ways to it tell the same. No statement is proved here.
-/
import Derived.Test.YtpigmefjcklpkaaCr
namespace Go.Proofs.Ytpigmefjcklpkaa.Cr
open Go.RowKit
set_option linter.unusedVariables false

def apps : Lm → List Lm → Lm
  | f, [] => f
  | f, x :: xs => apps (.a f x) xs
theorem apps_app (f : Lm) (xs ys : List Lm) : apps f (xs ++ ys) = apps (apps f xs) ys := by
  induction xs generalizing f with
  | nil => rfl
  | cons x xs ih => exact ih _
theorem sub_apps (s : Nat → Lm) (f : Lm) (xs : List Lm) : sub s (apps f xs) = apps (sub s f) (xs.map (sub s)) := by
  induction xs generalizing f with
  | nil => rfl
  | cons x xs ih => exact ih _
theorem ren_apps (r : Nat → Nat) (f : Lm) (xs : List Lm) : ren r (apps f xs) = apps (ren r f) (xs.map (ren r)) := by
  induction xs generalizing f with
  | nil => rfl
  | cons x xs ih => exact ih _
def PsL : List Lm → List Lm → Prop
  | [], [] => True
  | x :: xs, y :: ys => Ps x y ∧ PsL xs ys
  | _, _ => False
theorem PsL.apps : ∀ {xs ys : List Lm} {f g : Lm}, Ps f g → PsL xs ys → Ps (Cr.apps f xs) (Cr.apps g ys)
  | [], [], _, _, h, _ => h
  | _ :: _, _ :: _, _, _, h, k => by
    have := PsL.apps (h.a k.1) k.2
    exact this
  | [], _ :: _, _, _, _, k => k.elim
  | _ :: _, [], _, _, _, k => k.elim
theorem PsL.refl : ∀ xs : List Lm, PsL xs xs
  | [] => trivial
  | x :: xs => ⟨.refl x, PsL.refl xs⟩
/-- what stands at the head, and what that is applied to -/
def dh : Lm → Lm
  | .a f _ => dh f
  | t => t
def da : Lm → List Lm → List Lm
  | .a f x, l => da f (x :: l)
  | _, l => l
theorem dh_apps (f : Lm) (xs : List Lm) : dh (apps f xs) = dh f := by
  induction xs generalizing f with
  | nil => rfl
  | cons x xs ih => exact ih _
theorem da_apps (f : Lm) (xs : List Lm) : ∀ l, da (apps f xs) l = da f (xs ++ l) := by
  induction xs generalizing f with
  | nil => intro l; rfl
  | cons x xs ih => intro l; exact ih _ _

/-- the head of a node -/
def at0 (k h : Int) : Lm := if k = 4 then .v h.toNat else .c k h
theorem at0_dh (k h : Int) : dh (at0 k h) = at0 k h := by unfold at0; split <;> rfl
theorem at0_da (k h : Int) (l : List Lm) : da (at0 k h) l = l := by unfold at0; split <;> rfl
theorem at0_lam (k h : Int) (b : Lm) : at0 k h ≠ .l b := by unfold at0; split <;> exact fun e => by cases e
def wrap1 (n : Nat) (x : Lm) : Lm := if n = 1 then .l x else x
mutual
def tr : T → Lm
  | .node k h xs => if k = 3 then (trL k xs.length xs 0).headD (.c 0 0) else apps (at0 k h) (trL k xs.length xs 0)
def trL (k : Int) (m : Nat) : List T → Nat → List Lm
  | [], _ => []
  | x :: xs, i => wrap1 (bdn k m i) (tr x) :: trL k m xs (i + 1)
end
theorem bdn_none {k : Int} (hk : k ≠ 1 ∧ k ≠ 3) (m i : Nat) : bdn k m i = 0 := by unfold bdn; rw [if_neg (by omega)]
theorem trL_map {k : Int} (hk : k ≠ 1 ∧ k ≠ 3) (m : Nat) : ∀ (xs : List T) (i : Nat), trL k m xs i = xs.map tr
  | [], _ => by rw [trL]; rfl
  | x :: xs, i => by rw [trL, bdn_none hk, trL_map hk m xs]; rfl
theorem tr_lam (h : Int) (x : T) : tr (.node 3 h [x]) = .l (tr x) := by
  rw [tr, if_pos rfl]
  simp [trL, bdn, wrap1]
theorem tr_app {k h : Int} (hk : k ≠ 1 ∧ k ≠ 3) (xs : List T) : tr (.node k h xs) = apps (at0 k h) (xs.map tr) := by
  rw [tr, if_neg hk.2, trL_map hk]
theorem lam_one' {k h : Int} {xs : List T} (hk : k = 3) (w : nodB (.node k h xs) = true) : h = 0 ∧ ∃ x, xs = [x] := by
  rw [nodB, Bool.and_eq_true] at w
  have hl : h = 0 ∧ xs.length = 1 := by
    rcases okN_cases w.1 with ⟨e, _⟩ | ⟨e, _⟩ | ⟨e, he⟩ | ⟨e, he⟩ | ⟨e, he⟩ | ⟨e, he⟩ | ⟨e, he⟩ <;> first | exact he | omega
  exact ⟨hl.1, List.length_eq_one_iff.1 hl.2⟩

/-! ### Up -/
def shr (b f : Nat) (i : Nat) : Nat := if f ≤ i then i + b else i
theorem upr_shr (b f : Nat) (i : Nat) : upr (shr b f) i = shr b (f + 1) i := by
  cases i with
  | zero => simp [upr, shr]
  | succ i => simp only [upr, shr]; split <;> split <;> omega
theorem ren_wrap (b f n : Nat) (hn : n ≤ 1) (x : Lm) : ren (shr b f) (wrap1 n x) = wrap1 n (ren (shr b (f + n)) x) := by
  unfold wrap1
  split
  · rename_i e
    subst e
    rw [ren, ren_ext (upr_shr b f)]
  · rw [show n = 0 by omega, Nat.add_zero]
theorem head_head {k h : Int} {xs : List T} (w : nodB (.node k h xs) = true) (hk : k = 4) : 0 ≤ h := by
  rw [nodB, Bool.and_eq_true] at w
  exact okN_head w.1 hk
mutual
theorem tr_up (b : Nat) : ∀ (t : T) (f : Nat), nodB t = true → tr (upT b t f) = ren (shr b f) (tr t)
  | .node k h xs, f, w => by
    have h0 := head_head w
    rw [nodB, Bool.and_eq_true] at w
    rw [upT, tr, tr, upL_len, tr_upL b k xs.length xs 0 f w.2]
    by_cases hk : k = 3
    · rw [if_pos hk, if_pos hk]
      cases trL k xs.length xs 0 with
      | nil => rfl
      | cons x l => rfl
    · rw [if_neg hk, if_neg hk, ren_apps]
      congr 1
      unfold at0
      by_cases hk4 : k = 4
      · have := h0 hk4
        rw [if_pos hk4, if_pos hk4, ren, shr]
        congr 1
        by_cases hf : (f : Int) ≤ h
        · rw [if_pos ⟨hk4, hf⟩, if_pos (by omega)]; omega
        · rw [if_neg (by omega), if_neg (by omega)]
      · rw [if_neg hk4, if_neg hk4, if_neg (by omega), ren]
theorem tr_upL (b : Nat) (k : Int) (m : Nat) : ∀ (xs : List T) (i : Nat) (f : Nat), nodL xs = true → trL k m (upL b k m xs i f) i = (trL k m xs i).map (ren (shr b f))
  | [], i, f, _ => by rw [upL, trL]; rfl
  | x :: xs, i, f, w => by
    rw [nodL, Bool.and_eq_true] at w
    rw [upL, trL, trL, List.map_cons, tr_upL b k m xs (i + 1) f w.2, ren_wrap _ _ _ (bdn_le _ _ _), bd_bdn, show (f : Int) + (bdn k m i : Int) = ((f + bdn k m i : Nat) : Int) by omega, tr_up b x _ w.1]
end

/-! ### Substitutions -/
def upn : Nat → (Nat → Lm) → Nat → Lm
  | 0, s => s
  | u + 1, s => ups (upn u s)
theorem upn_lt (s : Nat → Lm) : ∀ (u i : Nat), i < u → upn u s i = .v i
  | u + 1, 0, _ => rfl
  | u + 1, i + 1, h => by rw [upn, ups, upn_lt s u i (by omega)]; rfl
theorem upn_ge (s : Nat → Lm) : ∀ (u i : Nat), upn u s (i + u) = ren (shr u 0) (s i)
  | 0, i => by
    rw [upn, Nat.add_zero, ren_eq_sub, sub_ext (s' := .v), sub_v]
    intro j
    simp [shr]
  | u + 1, i => by
    rw [upn, ← Nat.add_assoc, ups, upn_ge s u i, ren_ren]
    apply ren_ext
    intro j
    simp [shr]
    omega
theorem sub_wrap (s : Nat → Lm) (u n : Nat) (hn : n ≤ 1) (x : Lm) : sub (upn u s) (wrap1 n x) = wrap1 n (sub (upn (u + n) s) x) := by
  unfold wrap1
  split
  · rename_i e
    subst e
    rw [sub]
    rfl
  · rw [show n = 0 by omega, Nat.add_zero]
/-- what a substitution is -/
def sg (L : List T) (sh : Int) (i : Nat) : Lm := if L.length ≤ i then .v (i - L.length + sh.toNat) else tr (L.getD (L.length - 1 - i) (.node 0 0 []))
theorem sg_one (a : T) (i : Nat) : sg [a] 0 i = one (tr a) i := by
  cases i with
  | zero => rfl
  | succ i => simp [sg, one]
theorem tr_mp {L : List T} {sh : Int} (hL : ∀ x ∈ L, nodB x = true) (h0 : 0 ≤ sh) (fr u : Nat) : tr (mpT L sh fr u) = ren (shr u 0) (sg L sh fr) ∧ nodB (mpT L sh fr u) = true := by
  unfold mpT sg
  by_cases hl : L.length ≤ fr
  · rw [if_pos (by omega), if_pos hl, tr_app (by omega)]
    refine ⟨?_, ?_⟩
    · simp only [List.map_nil, apps, at0, if_pos, ren, shr, Nat.zero_le]
      congr 1
      omega
    · have : 0 ≤ (fr : Int) - (L.length : Int) + sh + u := by omega
      simp [nodB, nodL, okN, this]
  · rw [if_neg (by omega), if_neg hl]
    have hm := getD_mem (.node 0 0 []) (show L.length - 1 - fr < L.length by omega)
    rw [Int.toNat_natCast]
    exact ⟨tr_up u _ 0 (hL _ hm), nodB_up (by omega) _ _ (hL _ hm)⟩
theorem ps_wrap (n : Nat) {x y : Lm} (h : Ps x y) : Ps (wrap1 n x) (wrap1 n y) := by
  unfold wrap1
  split
  · exact h.l
  · exact h

theorem apL_red {A : Nat → T → Nat → Res} {k : Int} {m u : Nat} {s : Nat → Lm} (hA : ∀ (v : Nat) (x : T) (n : Nat) (t' : T) (n' : Nat), nodB x = true → A v x n = .ok (t', n') → nodB t' = true ∧ Ps (sub (upn v s) (tr x)) (tr t')) :
    ∀ (xs : List T) (i n : Nat) (ys : List T) (n' : Nat), nodL xs = true → apL A k m u xs i n = .ok (ys, n') → nodL ys = true ∧ ys.length = xs.length ∧ PsL ((trL k m xs i).map (sub (upn u s))) (trL k m ys i) := by
  intro xs
  induction xs with
  | nil =>
    intro i n ys n' _ h
    rw [apL] at h
    cases h
    exact ⟨by rw [nodL], rfl, by rw [trL]; trivial⟩
  | cons x xs ih =>
    intro i n ys n' hn h
    rw [apL] at h
    rw [nodL, Bool.and_eq_true] at hn
    split at h
    · cases h
    · rename_i y n1 h1
      split at h
      · cases h
      · rename_i zs n2 h2
        cases h
        obtain ⟨g1, g2⟩ := hA _ x n y n1 hn.1 h1
        obtain ⟨e0, e1, e2⟩ := ih (i + 1) n1 zs n' hn.2 h2
        rw [trL, trL, List.map_cons, sub_wrap _ _ _ (bdn_le _ _ _)]
        exact ⟨by rw [nodL, g1, e0]; rfl, by rw [List.length_cons, List.length_cons, e1], ps_wrap _ g2, e2⟩
theorem spL_red {A : T → T → Nat → Res} (hA : ∀ (a x : T) (n : Nat) (t' : T) (n' : Nat), nodB a = true → nodB x = true → A a x n = .ok (t', n') → nodB t' = true ∧ Ps (sub (one (tr a)) (tr x)) (tr t')) :
    ∀ (bs : List T) (t : T) (n : Nat) (t' : T) (n' : Nat), nodB t = true → nodL bs = true → spL A t bs n = .ok (t', n') → nodB t' = true ∧ Ps (apps (tr t) (bs.map tr)) (tr t') := by
  intro bs
  induction bs with
  | nil =>
    intro t n t' n' ht _ h
    rw [spL] at h
    cases h
    exact ⟨ht, .refl _⟩
  | cons a bs ih =>
    rintro ⟨k, h, xs⟩ n t' n' ht hb hr
    rw [nodL, Bool.and_eq_true] at hb
    rw [spL] at hr
    by_cases hk : k = 3
    · rw [if_pos hk] at hr
      by_cases hm : myB a = true
      · rw [if_pos hm] at hr
        obtain ⟨_, x, rfl⟩ := lam_one' hk ht
        subst hk
        rw [nodB, nodL, Bool.and_eq_true, Bool.and_eq_true] at ht
        simp only [List.headD_cons] at hr
        split at hr
        · cases hr
        · rename_i t1 n1 h1
          obtain ⟨g1, g2⟩ := hA a x n t1 n1 hb.1 ht.2.1 h1
          obtain ⟨e1, e2⟩ := ih t1 n1 t' n' g1 hb.2 hr
          refine ⟨e1, ?_⟩
          rw [tr_lam, List.map_cons, apps]
          exact (PsL.apps ((Ps.of (.beta (.refl _) (.refl _))).trans g2) (.refl _)).trans e2
      · rw [if_neg hm] at hr; cases hr
    · rw [if_neg hk] at hr
      split at hr
      · rename_i hk2
        cases hr
        refine ⟨?_, ?_⟩
        · rw [nodB, Bool.and_eq_true] at ht ⊢
          refine ⟨?_, nodL_app ht.2 (by rw [nodL, hb.1, hb.2]; rfl)⟩
          rcases okN_cases ht.1 with ⟨e, _⟩ | ⟨e, _⟩ | ⟨e, _⟩ | ⟨e, he⟩ | ⟨e, he⟩ | ⟨e, he⟩ | ⟨e, he⟩ <;> first | omega | (subst e; simp [okN, he])
        · rw [tr_app (by omega), tr_app (by omega), List.map_append, apps_app]
          exact .refl _
      · cases hr
theorem ap_red : ∀ (f : Nat) (L : List T) (sh : Int) (u : Nat) (t : T) (n : Nat) (t' : T) (n' : Nat), (∀ x ∈ L, nodB x = true) → 0 ≤ sh → nodB t = true → ap f L sh u t n = .ok (t', n') → nodB t' = true ∧ Ps (sub (upn u (sg L sh)) (tr t)) (tr t') := by
  intro f
  induction f with
  | zero => intro L sh u t n t' n' _ _ _ h; rw [ap] at h; cases h
  | succ f ih =>
    rintro L sh u ⟨k, h, xs⟩ n t' n' hL h0 ht hr
    have hh := head_head ht
    rw [ap] at hr
    split at hr
    · cases hr
    · split at hr
      · cases hr
      · rename_i args n1 h1
        have hn := ht
        rw [nodB, Bool.and_eq_true] at hn
        obtain ⟨e0, e1, e2⟩ := apL_red (A := fun u' x m => ap f L sh u' x m) (s := sg L sh) (fun v x m t1 m1 hx he => ih L sh v x m t1 m1 hL h0 hx he) xs 0 (n + 1) args n1 hn.2 h1
        by_cases hc : k = 4 ∧ (u : Int) ≤ h
        · rw [if_pos hc] at hr
          obtain ⟨hk, hu⟩ := hc
          subst hk
          obtain ⟨m1, m2⟩ := tr_mp hL h0 (h.toNat - u) u
          rw [show ((h.toNat - u : Nat) : Int) = h - u by omega] at m1 m2
          obtain ⟨g1, g2⟩ := spL_red (A := fun a x m => ap f [a] 0 0 x m) (fun a x m t1 m1 ha hx he => by
            obtain ⟨q1, q2⟩ := ih [a] 0 0 x m t1 m1 (fun y hy => by rw [List.mem_singleton.1 hy]; exact ha) (by omega) hx he
            rw [upn, sub_ext (sg_one a)] at q2
            exact ⟨q1, q2⟩) args _ n1 t' n' m2 e0 hr
          refine ⟨g1, ?_⟩
          rw [tr_app (by omega), sub_apps]
          rw [trL_map (by omega), trL_map (by omega)] at e2
          have ea : sub (upn u (sg L sh)) (at0 4 h) = tr (mpT L sh (h - u) u) := by
            rw [m1, at0, if_pos rfl, sub, ← upn_ge]
            congr 1
            omega
          rw [ea]
          exact (PsL.apps (.refl _) e2).trans g2
        · rw [if_neg hc] at hr
          cases hr
          refine ⟨by rw [nodB, e1, hn.1, e0]; rfl, ?_⟩
          rw [tr, tr, e1]
          by_cases hk : k = 3
          · obtain ⟨_, x, rfl⟩ := lam_one' hk ht
            rw [if_pos hk, if_pos hk]
            obtain ⟨y, rfl⟩ : ∃ y, args = [y] := List.length_eq_one_iff.1 e1
            simp only [trL, List.map_cons, List.map_nil, PsL] at e2
            simp only [trL, List.headD_cons]
            exact e2.1
          · rw [if_neg hk, if_neg hk, sub_apps]
            refine PsL.apps ?_ e2
            unfold at0
            by_cases hk4 : k = 4
            · have := hh hk4
              rw [if_pos hk4, sub, upn_lt _ _ _ (by omega)]
              exact .refl _
            · rw [if_neg hk4, sub]
              exact .refl _

/-! ### Nothing to reduce; which term it is -/
theorem nf_apps {f : Lm} : ∀ (xs : List Lm) {f : Lm}, lamL f = false → nf f = true → (∀ x ∈ xs, nf x = true) → nf (apps f xs) = true
  | [], _, _, h, _ => h
  | x :: xs, f, hl, h, hx => by
    rw [apps]
    refine nf_apps (f := f) xs rfl ?_ (fun y hy => hx y (List.mem_cons_of_mem _ hy))
    simp [nf, hl, h, hx x (List.mem_cons_self ..)]
theorem nf_wrap (n : Nat) {x : Lm} (h : nf x = true) : nf (wrap1 n x) = true := by
  unfold wrap1
  split
  · exact h
  · exact h
mutual
theorem nf_tr : ∀ t : T, nodB t = true → nf (tr t) = true
  | .node k h xs, w => by
    have w' := w
    rw [nodB, Bool.and_eq_true] at w'
    have hL := nf_trL k xs.length xs 0 w'.2
    rw [tr]
    by_cases hk : k = 3
    · rw [if_pos hk]
      cases hq : trL k xs.length xs 0 with
      | nil => rfl
      | cons x l => exact hL x (by rw [hq]; exact List.mem_cons_self ..)
    · rw [if_neg hk]
      refine nf_apps (f := at0 k h) _ ?_ ?_ hL
      · unfold at0; split <;> rfl
      · unfold at0; split <;> rfl
theorem nf_trL (k : Int) (m : Nat) : ∀ (xs : List T) (i : Nat), nodL xs = true → ∀ y ∈ trL k m xs i, nf y = true
  | [], _, _, y, h => by rw [trL] at h; cases h
  | x :: xs, i, w, y, h => by
    rw [nodL, Bool.and_eq_true] at w
    rw [trL] at h
    rcases List.mem_cons.1 h with rfl | h
    · exact nf_wrap _ (nf_tr x w.1)
    · exact nf_trL k m xs (i + 1) w.2 y h
end
theorem wrap_inj {n : Nat} {x y : Lm} (h : wrap1 n x = wrap1 n y) : x = y := by
  unfold wrap1 at h
  split at h
  · cases h; rfl
  · exact h
theorem trL_len (k : Int) (m : Nat) : ∀ (xs : List T) (i : Nat), (trL k m xs i).length = xs.length
  | [], _ => by rw [trL]; rfl
  | x :: xs, i => by rw [trL, List.length_cons, List.length_cons, trL_len k m xs]
theorem trL_inj (k : Int) (m : Nat) : ∀ (xs ys : List T) (i : Nat), (∀ x ∈ xs, ∀ y, nodB x = true → nodB y = true → tr x = tr y → x = y) → nodL xs = true → nodL ys = true → trL k m xs i = trL k m ys i → xs = ys
  | [], [], _, _, _, _, _ => rfl
  | [], y :: ys, _, _, _, _, h => by rw [trL, trL] at h; cases h
  | x :: xs, [], _, _, _, _, h => by rw [trL, trL] at h; cases h
  | x :: xs, y :: ys, i, ih, hx, hy, h => by
    rw [nodL, Bool.and_eq_true] at hx hy
    rw [trL, trL] at h
    have h1 := wrap_inj (List.cons.inj h).1
    have h2 := (List.cons.inj h).2
    rw [ih x (List.mem_cons_self ..) y hx.1 hy.1 h1, trL_inj k m xs ys (i + 1) (fun x hx => ih x (List.mem_cons_of_mem _ hx)) hx.2 hy.2 h2]
theorem tr_inj : ∀ (t u : T), nodB t = true → nodB u = true → tr t = tr u → t = u := by
  intro t
  induction t using T.ind with
  | step k h xs ih =>
    rintro ⟨k', h', ys⟩ w w' e
    have hh := head_head w
    have hh' := head_head w'
    have n1 := w
    have n2 := w'
    rw [nodB, Bool.and_eq_true] at n1 n2
    by_cases hk : k = 3
    · obtain ⟨rfl, x, rfl⟩ := lam_one' hk w
      subst hk
      by_cases hk' : k' = 3
      · obtain ⟨rfl, y, rfl⟩ := lam_one' hk' w'
        subst hk'
        rw [tr_lam, tr_lam] at e
        simp only [nodL, Bool.and_true] at n1 n2
        rw [ih x (List.mem_cons_self ..) y n1.2 n2.2 (Lm.l.inj e)]
      · have e2 := congrArg dh e
        rw [tr_lam, tr, if_neg hk', dh_apps, at0_dh] at e2
        exact absurd e2.symm (at0_lam _ _ _)
    · by_cases hk' : k' = 3
      · obtain ⟨rfl, y, rfl⟩ := lam_one' hk' w'
        subst hk'
        have e2 := congrArg dh e
        rw [tr_lam, tr, if_neg hk, dh_apps, at0_dh] at e2
        exact absurd e2 (at0_lam _ _ _)
      · have e2 := congrArg dh e
        have e3 := congrArg (fun t => da t []) e
        simp only [tr, if_neg hk, if_neg hk', dh_apps, at0_dh, da_apps, at0_da, List.append_nil] at e2 e3
        have hkk : k = k' ∧ h = h' := by
          unfold at0 at e2
          split at e2
          · split at e2
            · have := Lm.v.inj e2
              rename_i p q
              have := hh p
              have := hh' q
              omega
            · cases e2
          · split at e2
            · cases e2
            · exact Lm.c.inj e2
        obtain ⟨rfl, rfl⟩ := hkk
        have hl : xs.length = ys.length := by
          have := congrArg List.length e3
          rw [trL_len, trL_len] at this
          exact this
        rw [← hl] at e3
        rw [trL_inj k xs.length xs ys 0 (fun x hx y hnx hny => ih x hx y hnx hny) n1.2 n2.2 e3]
end Go.Proofs.Ytpigmefjcklpkaa.Cr
namespace Go.Proofs.Ytpigmefjcklpkaa
open Go.RowKit
/-- two variables replaced one behind the other is both at once -/
theorem ap_twice {f : Nat} {t n m a b x c : T} {c1 c2 c3 c4 d1 d2 d3 d4 : Nat} (ht : nodB t = true) (hn : nodB n = true) (hm : nodB m = true)
    (ha : ap f [n] 0 0 t c1 = .ok (a, d1)) (hb : ap f [m] 0 0 a c2 = .ok (b, d2)) (hx : ap f [m] 0 0 n c3 = .ok (x, d3)) (hc : ap f [m, x] 0 0 t c4 = .ok (c, d4)) : b = c := by
  have one1 : ∀ {y : T}, nodB y = true → ∀ z ∈ [y], nodB z = true := fun h z hz => by rw [List.mem_singleton.1 hz]; exact h
  obtain ⟨na, ra⟩ := Cr.ap_red f [n] 0 0 t c1 a d1 (one1 hn) (by omega) ht ha
  obtain ⟨nb, rb⟩ := Cr.ap_red f [m] 0 0 a c2 b d2 (one1 hm) (by omega) na hb
  obtain ⟨nx, rx⟩ := Cr.ap_red f [m] 0 0 n c3 x d3 (one1 hm) (by omega) hn hx
  obtain ⟨nc, rc⟩ := Cr.ap_red f [m, x] 0 0 t c4 c d4 (fun z hz => by
    rcases List.mem_cons.1 hz with rfl | hz
    · exact hm
    · rw [List.mem_singleton.1 hz]; exact nx) (by omega) ht hc
  simp only [Cr.upn] at ra rb rx rc
  have h1 := (ra.sub (Cr.sg [m] 0)).trans rb
  rw [Cr.sub_sub] at h1
  refine Cr.tr_inj b c nb nc (Cr.Ps.same h1 (.trans (Cr.Ps.subs (Cr.tr t) fun i => ?_) rc) (Cr.nf_tr b nb) (Cr.nf_tr c nc))
  match i with
  | 0 => exact rx
  | 1 => exact .refl _
  | i + 2 =>
    have e1 : Cr.sg [n] 0 (i + 2) = .v (i + 1) := by simp [Cr.sg]
    have e2 : Cr.sg [m, x] 0 (i + 2) = .v i := by simp [Cr.sg]
    rw [e1, e2, Cr.sub]
    have e3 : Cr.sg [m] 0 (i + 1) = .v i := by simp [Cr.sg]
    rw [e3]
    exact .refl _
end Go.Proofs.Ytpigmefjcklpkaa
