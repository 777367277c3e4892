/-
  Plain facts on substitutions: those that rename, what stays in scope, what hangs on the count of nodes. No statement is proved here.
-/
import Derived.Test.YtloeainlpcnhnaaGreatPa
namespace Go.Proofs.YtloeainlpcnhnaaGreat
open Go.RowKit
set_option linter.unusedVariables false

/-! ### Substitutions that rename -/
mutual
def RenT (L : List T) (sh : Int) : T → Nat → T → Prop
  | .node k h xs, u, .node k' h' ys => k' = k ∧ (if k = 4 ∧ (u : Int) ≤ h then mpT L sh (h - u) u = .node 4 h' [] else h' = h) ∧ xs.length = ys.length ∧ RenL L sh k xs.length xs 0 u ys
def RenL (L : List T) (sh k : Int) (m : Nat) : List T → Nat → Nat → List T → Prop
  | [], _, _, ys => ys = []
  | x :: xs, i, u, ys => ∃ y zs, ys = y :: zs ∧ RenT L sh x (u + bdn k m i) y ∧ RenL L sh k m xs (i + 1) u zs
end
theorem spL_var (A : T → T → Nat → Res) (h : Int) (args : List T) (n : Nat) : spL A (.node 4 h []) args n = .ok (.node 4 h args, n) := by
  cases args with
  | nil => rw [spL]
  | cons a bs =>
    rw [spL, if_neg (by omega), if_pos (.inl rfl)]
    rfl
theorem apL_ren {A : Nat → T → Nat → Res} {L : List T} {sh k : Int} {m u n0 : Nat} : ∀ (xs : List T) (i n : Nat) (ys : List T), (∀ x ∈ xs, ∀ v n y, n + nd x ≤ 40000 → RenT L sh x v y → n0 ≤ n → A v x n = .ok (y, n + nd x)) → n0 ≤ n → n + ndL xs ≤ 40000 → RenL L sh k m xs i u ys →
    apL A k m u xs i n = .ok (ys, n + ndL xs) := by
  intro xs
  induction xs with
  | nil =>
    intro i n ys _ _ _ h
    rw [RenL] at h
    subst h
    simp [apL, ndL]
  | cons x xs ih =>
    intro i n ys hA h0 hn h
    rw [RenL] at h
    obtain ⟨y, zs, rfl, h1, h2⟩ := h
    rw [ndL] at hn
    rw [apL, hA x (List.mem_cons_self ..) _ n y (by omega) h1 h0]
    simp only
    rw [ih (i + 1) (n + nd x) zs (fun x hx => hA x (List.mem_cons_of_mem _ hx)) (by omega) (by omega) h2, ndL]
    simp only [Nat.add_assoc]
theorem ap_ren {L : List T} {sh : Int} : ∀ (f : Nat) (t : T) (u n : Nat) (t' : T), 40001 ≤ n + f → n + nd t ≤ 40000 → RenT L sh t u t' → ap f L sh u t n = .ok (t', n + nd t) := by
  intro f
  induction f with
  | zero => intro t u n t' h1 h2; have := nd_pos t; omega
  | succ f ih =>
    rintro ⟨k, h, xs⟩ u n ⟨k', h', ys⟩ h1 h2 h3
    rw [RenT] at h3
    obtain ⟨rfl, h4, h5, h6⟩ := h3
    rw [nd] at h2
    rw [ap, if_neg (by omega), apL_ren (n0 := n + 1) (A := fun u' x m => ap f L sh u' x m) xs 0 (n + 1) ys (fun x hx v m y hm hr h0 => ih x v m y (by omega) hm hr) (Nat.le_refl _) (by omega) h6]
    simp only
    by_cases hc : k' = 4 ∧ (u : Int) ≤ h
    · rw [if_pos hc] at h4
      rw [if_pos hc, h4, spL_var, nd]
      simp only [hc.1, Nat.add_assoc]
    · rw [if_neg hc] at h4
      rw [if_neg hc, h4, nd]
      simp only [Nat.add_assoc]

mutual
/-- up is a substitution without terms -/
theorem ren_up (b : Int) : ∀ (t : T) (u : Nat), RenT [] b t u (upT b t u)
  | .node k h xs, u => by
    rw [upT, RenT]
    refine ⟨rfl, ?_, by rw [upL_len], ren_upL b k xs.length xs 0 u⟩
    by_cases hc : k = 4 ∧ (u : Int) ≤ h
    · rw [if_pos hc, if_pos hc, mpT, if_pos (by simp; omega)]
      congr 1
      simp
      omega
    · rw [if_neg hc, if_neg hc]
theorem ren_upL (b k : Int) (m : Nat) : ∀ (xs : List T) (i u : Nat), RenL [] b k m xs i u (upL b k m xs i u)
  | [], i, u => by rw [upL, RenL]
  | x :: xs, i, u => by
    rw [upL, RenL]
    refine ⟨_, _, rfl, ?_, ren_upL b k m xs (i + 1) u⟩
    rw [bd_bdn, show (u : Int) + (bdn k m i : Int) = ((u + bdn k m i : Nat) : Int) by omega]
    exact ren_up b x _
end
mutual
/-- up, below a node that binds -/
theorem ren_up1 (b : Int) : ∀ (t : T) (u : Nat), RenT [.node 4 0 []] (b + 1) t u (upT b t (1 + u))
  | .node k h xs, u => by
    rw [upT, RenT]
    refine ⟨rfl, ?_, by rw [upL_len], ren_upL1 b k xs.length xs 0 u⟩
    by_cases hc : k = 4 ∧ (u : Int) ≤ h
    · rw [if_pos hc]
      by_cases hd : (1 : Int) + u ≤ h
      · rw [if_pos ⟨hc.1, hd⟩, mpT, if_pos (by simp; omega)]
        congr 1
        simp
        omega
      · rw [if_neg (by omega), mpT, if_neg (by simp; omega)]
        have e : h - (u : Int) = 0 := by omega
        rw [e]
        simp only [List.length_cons, List.length_nil, Int.toNat_zero, Nat.zero_add, Nat.sub_self, List.getD_cons_zero]
        rw [upT, upL, if_pos ⟨rfl, by omega⟩]
        congr 1
        omega
    · rw [if_neg hc, if_neg (by omega)]
theorem ren_upL1 (b k : Int) (m : Nat) : ∀ (xs : List T) (i u : Nat), RenL [.node 4 0 []] (b + 1) k m xs i u (upL b k m xs i (1 + u))
  | [], i, u => by rw [upL, RenL]
  | x :: xs, i, u => by
    rw [upL, RenL]
    refine ⟨_, _, rfl, ?_, ren_upL1 b k m xs (i + 1) u⟩
    rw [bd_bdn, show (1 : Int) + (u : Int) + (bdn k m i : Int) = 1 + ((u + bdn k m i : Nat) : Int) by omega]
    exact ren_up1 b x _
end
mutual
/-- up by one, and the variable 0 replaced -/
theorem ren_weak (x : T) : ∀ (t : T) (u : Nat), RenT [x] 0 (upT 1 t u) u t
  | .node k h xs, u => by
    rw [upT, RenT]
    refine ⟨rfl, ?_, by rw [upL_len], ?_⟩
    · by_cases hc : k = 4 ∧ (u : Int) ≤ h
      · rw [if_pos hc, if_pos ⟨hc.1, by omega⟩, mpT, if_pos (by simp; omega)]
        congr 1
        simp
        omega
      · rw [if_neg hc, if_neg hc]
    · rw [upL_len]; exact ren_weakL x k xs.length xs 0 u
theorem ren_weakL (x : T) (k : Int) (m : Nat) : ∀ (xs : List T) (i u : Nat), RenL [x] 0 k m (upL 1 k m xs i u) i u xs
  | [], i, u => by rw [upL, RenL]
  | t :: ts, i, u => by
    rw [upL, RenL]
    refine ⟨_, _, rfl, ?_, ren_weakL x k m ts (i + 1) u⟩
    rw [bd_bdn, show (u : Int) + (bdn k m i : Int) = ((u + bdn k m i : Nat) : Int) by omega]
    exact ren_weak x t _
end
/-- a substitution that changes nothing -/
def IdS (L : List T) (sh : Int) : Prop := ∀ (h : Int) (u : Nat), (u : Int) ≤ h → mpT L sh (h - u) u = .node 4 h []
mutual
theorem ren_id {L : List T} {sh : Int} (hi : IdS L sh) : ∀ (t : T) (u : Nat), RenT L sh t u t
  | .node k h xs, u => by
    rw [RenT]
    refine ⟨rfl, ?_, rfl, ren_idL hi k xs.length xs 0 u⟩
    by_cases hc : k = 4 ∧ (u : Int) ≤ h
    · rw [if_pos hc]; exact hi h u hc.2
    · rw [if_neg hc]
theorem ren_idL {L : List T} {sh : Int} (hi : IdS L sh) (k : Int) (m : Nat) : ∀ (xs : List T) (i u : Nat), RenL L sh k m xs i u xs
  | [], i, u => by rw [RenL]
  | t :: ts, i, u => by
    rw [RenL]
    exact ⟨_, _, rfl, ren_id hi t _, ren_idL hi k m ts (i + 1) u⟩
end
/-! ### Scopes -/
theorem scL_mem {k : Int} {m : Nat} {metas : Int} : ∀ {xs : List T} {i : Nat} {V : Int}, scCL k m xs i V metas → ∀ (j : Nat) (x : T), xs[j]? = some x → scC x (V + bd k m (i + j)) metas
  | x :: xs, i, V, h, 0, y, hy => by
    rw [scCL] at h
    simp only [List.getElem?_cons_zero, Option.some.injEq] at hy
    subst hy
    exact h.1
  | x :: xs, i, V, h, j + 1, y, hy => by
    rw [scCL] at h
    have := scL_mem h.2 j y (by simpa using hy)
    rw [show i + (j + 1) = i + 1 + j by omega]
    exact this
theorem scL_of {k : Int} {m : Nat} {metas : Int} : ∀ {xs : List T} {i : Nat} {V : Int}, (∀ (j : Nat) (x : T), xs[j]? = some x → scC x (V + bd k m (i + j)) metas) → scCL k m xs i V metas
  | [], i, V, h => by rw [scCL]; trivial
  | x :: xs, i, V, h => by
    rw [scCL]
    refine ⟨h 0 x rfl, scL_of fun j y hy => ?_⟩
    have := h (j + 1) y (by simpa using hy)
    rw [show i + 1 + j = i + (j + 1) by omega]
    exact this
theorem bd_var {k : Int} (hk : k ≠ 1 ∧ k ≠ 3) (m i : Nat) : bd k m i = 0 := by unfold bd; rw [if_neg (by omega)]

/-- a term that has a shape, in scope -/
structure Sco (metas V : Int) (t : T) : Prop where
  nod : nodB t = true
  sc : scC t V metas
/-- each Arg comes to one in scope -/
theorem apL_sc {A : Nat → T → Nat → Res} {k metas V V' : Int} {m u : Nat} (hA : ∀ (v : Nat) (x : T) (n : Nat) (t' : T) (n' : Nat), Sco metas (V' + (v : Int)) x → A v x n = .ok (t', n') → Sco metas (V + (v : Int)) t') :
    ∀ (xs : List T) (i n : Nat) (ys : List T) (n' : Nat), nodL xs = true → scCL k m xs i (V' + u) metas → apL A k m u xs i n = .ok (ys, n') → nodL ys = true ∧ scCL k m ys i (V + u) metas ∧ ys.length = xs.length := by
  intro xs
  induction xs with
  | nil =>
    intro i n ys n' _ _ h
    rw [apL] at h
    cases h
    exact ⟨by rw [nodL], by rw [scCL]; trivial, rfl⟩
  | cons x xs ih =>
    intro i n ys n' hn hs h
    rw [apL] at h
    rw [scCL, bd_bdn] at hs
    rw [nodL, Bool.and_eq_true] at hn
    split at h
    · cases h
    · rename_i y n1 h1
      split at h
      · cases h
      · rename_i zs n2 h2
        cases h
        have e : V' + (u : Int) + (bdn k m i : Int) = V' + ((u + bdn k m i : Nat) : Int) := by omega
        have e' : V + (u : Int) + (bdn k m i : Int) = V + ((u + bdn k m i : Nat) : Int) := by omega
        have g := hA (u + bdn k m i) x n y n1 ⟨hn.1, e ▸ hs.1⟩ h1
        obtain ⟨e0, e1, e2⟩ := ih (i + 1) n1 zs n' hn.2 hs.2 h2
        rw [scCL, bd_bdn]
        exact ⟨by rw [nodL, g.nod, e0]; rfl, ⟨e' ▸ g.sc, e1⟩, by rw [List.length_cons, List.length_cons, e2]⟩
theorem spL_sc {A : T → T → Nat → Res} {metas V : Int} (hA : ∀ (a x : T) (n : Nat) (t' : T) (n' : Nat), myB a = true → scC a V metas → Sco metas (1 + V) x → A a x n = .ok (t', n') → Sco metas V t') :
    ∀ (bs : List T) (t : T) (n : Nat) (t' : T) (n' : Nat), Sco metas V t → (∀ b ∈ bs, Sco metas V b) → spL A t bs n = .ok (t', n') → Sco metas V t' := by
  intro bs
  induction bs with
  | nil =>
    intro t n t' n' ht _ h
    rw [spL] at h
    cases h
    exact ht
  | cons a bs ih =>
    rintro ⟨k, h, xs⟩ n t' n' ht hb hr
    obtain ⟨hnod, ht⟩ := ht
    rw [spL] at hr
    by_cases hk : k = 3
    · rw [if_pos hk] at hr
      by_cases hm : myB a = true
      · rw [if_pos hm] at hr
        rw [nodB, Bool.and_eq_true] at hnod
        obtain ⟨x, rfl⟩ : ∃ x, xs = [x] := by
          have hl : xs.length = 1 := by
            rcases okN_cases hnod.1 with ⟨e, _⟩ | ⟨e, _⟩ | ⟨e, _, he⟩ | ⟨e, he⟩ | ⟨e, he⟩ | ⟨e, he⟩ | ⟨e, he⟩ <;> first | exact he | omega
          exact List.length_eq_one_iff.1 hl
        rw [scC, scCL] at ht
        have hx : scC x (1 + V) metas := by
          have := ht.2.2.1
          rw [bd, if_pos ⟨.inr hk, rfl⟩, Int.add_comm] at this
          exact this
        rw [nodL, Bool.and_eq_true] at hnod
        simp only [List.headD_cons] at hr
        split at hr
        · cases hr
        · rename_i t1 n1 h1
          exact ih t1 n1 t' n' (hA a x n t1 n1 hm (hb a (List.mem_cons_self ..)).sc ⟨hnod.2.1, hx⟩ h1) (fun b hb' => hb b (List.mem_cons_of_mem _ hb')) hr
      · rw [if_neg hm] at hr; cases hr
    · rw [if_neg hk] at hr
      split at hr
      · rename_i hk2
        cases hr
        have hb0 : ∀ m i, bd k m i = 0 := bd_var (by omega)
        rw [nodB, Bool.and_eq_true] at hnod
        refine ⟨?_, ?_⟩
        · rw [nodB, Bool.and_eq_true]
          refine ⟨?_, nodL_app hnod.2 ?_⟩
          · rcases okN_cases hnod.1 with ⟨e, _⟩ | ⟨e, _⟩ | ⟨e, _⟩ | ⟨e, he⟩ | ⟨e, he⟩ | ⟨e, he⟩ | ⟨e, he⟩ <;> first | omega | (subst e; simp [okN, he])
          · have : ∀ (l : List T), (∀ b ∈ l, Sco metas V b) → nodL l = true := fun l => by
              induction l with
              | nil => intro _; rw [nodL]
              | cons y l ih2 => intro hl; rw [nodL, (hl y (List.mem_cons_self ..)).nod, ih2 fun b hb' => hl b (List.mem_cons_of_mem _ hb')]; rfl
            exact this _ hb
        · rw [scC] at ht ⊢
          refine ⟨ht.1, ht.2.1, scL_of fun j x hx => ?_⟩
          rw [hb0, Int.add_zero]
          by_cases hj : j < xs.length
          · rw [List.getElem?_append_left hj] at hx
            have := scL_mem ht.2.2 j x hx
            rw [hb0, Int.add_zero] at this
            exact this
          · rw [List.getElem?_append_right (by omega)] at hx
            exact (hb x (List.mem_of_getElem? hx)).sc
      · cases hr
theorem mp_sc {L : List T} {sh metas V more fr : Int} {u : Nat} (hL : ∀ x ∈ L, Sco metas V x) (hsh : sh = V - more) (h0 : 0 ≤ sh) (hf : 0 ≤ fr) (hfr : fr < L.length + more) (hV : 0 ≤ V) : Sco metas (V + u) (mpT L sh fr u) := by
  unfold mpT
  split
  · rename_i hle
    refine ⟨?_, ?_⟩
    · have hk : 0 ≤ fr - (L.length : Int) + sh + u := by omega
      simp [nodB, nodL, okN, hk]
    · rw [scC, scCL]
      exact ⟨fun _ => by omega, fun h => by omega, trivial⟩
  · rename_i hle
    have hm := getD_mem (.node 0 0 []) (show L.length - 1 - fr.toNat < L.length by omega)
    exact ⟨nodB_up (by omega) _ _ (hL _ hm).nod, sc_up (by omega) _ 0 V hV (hL _ hm).sc⟩
theorem ap_sc {metas : Int} : ∀ (f : Nat) (L : List T) (sh V more : Int) (u : Nat) (t : T) (n : Nat) (t' : T) (n' : Nat), (∀ x ∈ L, Sco metas V x) → sh = V - more → 0 ≤ sh → 0 ≤ V → Sco metas (L.length + more + u) t → ap f L sh u t n = .ok (t', n') → Sco metas (V + u) t' := by
  intro f
  induction f with
  | zero => intro L sh V more u t n t' n' _ _ _ _ _ h; rw [ap] at h; cases h
  | succ f ih =>
    rintro L sh V more u ⟨k, h, xs⟩ n t' n' hL hsh h0 hV ht hr
    rw [ap] at hr
    split at hr
    · cases hr
    · split at hr
      · cases hr
      · rename_i args n1 h1
        have hn := ht.nod
        have hs := ht.sc
        rw [nodB, Bool.and_eq_true] at hn
        rw [scC] at hs
        obtain ⟨e0, e1, e2⟩ := apL_sc (A := fun u' x m => ap f L sh u' x m) (V := V) (V' := L.length + more) (metas := metas) (fun v x m t1 m1 hx he => ih L sh V more v x m t1 m1 hL hsh h0 hV hx he) xs 0 (n + 1) args n1 hn.2 hs.2.2 h1
        have hargs : k ≠ 1 ∧ k ≠ 3 → ∀ b ∈ args, Sco metas (V + u) b := fun hk b hb => by
          obtain ⟨j, hj⟩ := List.getElem?_of_mem hb
          have := scL_mem e1 j b hj
          rw [bd_var hk, Int.add_zero] at this
          exact ⟨nodL_mem e0 hb, this⟩
        by_cases hc : k = 4 ∧ (u : Int) ≤ h
        · rw [if_pos hc] at hr
          have hlt := hs.1 hc.1
          refine spL_sc (V := V + u) (fun a x m t1 m1 ham hsa hx he => ?_) args _ n1 t' n' (mp_sc hL hsh h0 (by omega) (by omega) hV) (hargs (by omega)) hr
          have := ih [a] 0 (V + u) (V + u) 0 x m t1 m1 (fun y hy => by rw [List.mem_singleton.1 hy]; exact ⟨((myB_iff a).1 ham).1, hsa⟩) (by omega) (by omega) (by omega) (by simpa using hx) he
          simpa using this
        · rw [if_neg hc] at hr
          cases hr
          refine ⟨by rw [nodB, e2, hn.1, e0]; rfl, ?_⟩
          rw [scC]
          refine ⟨fun hk => ?_, hs.2.1, by rw [e2]; exact e1⟩
          omega

/-! ### What hangs on the count -/
/-- a run from a smaller count -/
def lessR (d : Nat) : Res → Res
  | .ok (t, n) => .ok (t, n - d)
  | .error e => .error e
theorem apL_up {A : Nat → T → Nat → Res} {k : Int} {m u : Nat} (hA : ∀ v x n t' n', A v x n = .ok (t', n') → n ≤ n') : ∀ (xs : List T) (i n : Nat) (ys : List T) (n' : Nat), apL A k m u xs i n = .ok (ys, n') → n ≤ n' := by
  intro xs
  induction xs with
  | nil => intro i n ys n' h; rw [apL] at h; cases h; exact Nat.le_refl _
  | cons x xs ih =>
    intro i n ys n' h
    rw [apL] at h
    split at h
    · cases h
    · rename_i y n1 h1
      split at h
      · cases h
      · rename_i zs n2 h2
        cases h
        have := hA _ _ _ _ _ h1
        have := ih _ _ _ _ h2
        omega
theorem spL_up {A : T → T → Nat → Res} (hA : ∀ a x n t' n', A a x n = .ok (t', n') → n ≤ n') : ∀ (bs : List T) (t : T) (n : Nat) (t' : T) (n' : Nat), spL A t bs n = .ok (t', n') → n ≤ n' := by
  intro bs
  induction bs with
  | nil => intro t n t' n' h; rw [spL] at h; cases h; exact Nat.le_refl _
  | cons a bs ih =>
    rintro ⟨k, h, xs⟩ n t' n' hr
    rw [spL] at hr
    split at hr
    · split at hr
      · split at hr
        · cases hr
        · rename_i t1 n1 h1
          have := hA _ _ _ _ _ h1
          have := ih _ _ _ _ hr
          omega
      · cases hr
    · split at hr
      · cases hr; exact Nat.le_refl _
      · cases hr
theorem ap_up : ∀ (f : Nat) (L : List T) (sh : Int) (u : Nat) (t : T) (n : Nat) (t' : T) (n' : Nat), ap f L sh u t n = .ok (t', n') → n ≤ n' := by
  intro f
  induction f with
  | zero => intro L sh u t n t' n' h; rw [ap] at h; cases h
  | succ f ih =>
    rintro L sh u ⟨k, h, xs⟩ n t' n' hr
    rw [ap] at hr
    split at hr
    · cases hr
    · split at hr
      · cases hr
      · rename_i args n1 h1
        have := apL_up (fun v x n t' n' h => ih L sh v x n t' n' h) _ _ _ _ _ h1
        split at hr
        · have := spL_up (fun a x n t' n' h => ih [a] 0 0 x n t' n' h) _ _ _ _ _ hr
          omega
        · cases hr
          omega
def lessL (d : Nat) : Except Int (List T × Nat) → Except Int (List T × Nat)
  | .ok (ys, n) => .ok (ys, n - d)
  | .error e => .error e
theorem apL_less {A B : Nat → T → Nat → Res} {k : Int} {m u d n0 : Nat} (hA : ∀ v x n t' n', A v x n = .ok (t', n') → n ≤ n') (hAB : ∀ (v : Nat) (x : T) (n : Nat), n0 ≤ n → A v x n ≠ .error 4 → B v x (n - d) = lessR d (A v x n)) :
    ∀ (xs : List T) (i n : Nat), n0 ≤ n → apL A k m u xs i n ≠ .error 4 → apL B k m u xs i (n - d) = lessL d (apL A k m u xs i n) := by
  intro xs
  induction xs with
  | nil => intro i n hd _; rw [apL, apL, lessL]
  | cons x xs ih =>
    intro i n hd hne
    rw [apL] at hne
    rw [apL, apL]
    cases h1 : A (u + bdn k m i) x n with
    | error e =>
      rw [h1] at hne
      have := hAB (u + bdn k m i) x n hd (by rw [h1]; simpa using hne)
      rw [h1, lessR] at this
      rw [this]
      rfl
    | ok p =>
      obtain ⟨y, n1⟩ := p
      rw [h1] at hne
      simp only at hne
      have hle := hA _ _ _ _ _ h1
      have := hAB (u + bdn k m i) x n hd (by rw [h1]; exact fun e => by cases e)
      rw [h1, lessR] at this
      rw [this]
      simp only
      have i1 := ih (i + 1) n1 (by omega) (fun e => hne (by rw [e]))
      rw [i1]
      cases h2 : apL A k m u xs (i + 1) n1 with
      | error e => rfl
      | ok q => obtain ⟨zs, n2⟩ := q; rfl
theorem spL_less {A B : T → T → Nat → Res} {d n0 : Nat} (hA : ∀ a x n t' n', A a x n = .ok (t', n') → n ≤ n') (hAB : ∀ (a x : T) (n : Nat), n0 ≤ n → A a x n ≠ .error 4 → B a x (n - d) = lessR d (A a x n)) :
    ∀ (bs : List T) (t : T) (n : Nat), n0 ≤ n → spL A t bs n ≠ .error 4 → spL B t bs (n - d) = lessR d (spL A t bs n) := by
  intro bs
  induction bs with
  | nil => intro t n hd _; rw [spL, spL, lessR]
  | cons a bs ih =>
    rintro ⟨k, h, xs⟩ n hd hne
    rw [spL] at hne
    rw [spL, spL]
    by_cases hk : k = 3
    · rw [if_pos hk] at hne ⊢
      rw [if_pos hk]
      by_cases hm : myB a = true
      · rw [if_pos hm] at hne ⊢
        rw [if_pos hm]
        cases h1 : A a (xs.headD (.node 0 0 [])) n with
        | error e =>
          rw [h1] at hne
          have := hAB a _ n hd (by rw [h1]; simpa using hne)
          rw [h1, lessR] at this
          rw [this]
          rfl
        | ok p =>
          obtain ⟨t1, n1⟩ := p
          rw [h1] at hne
          simp only at hne
          have hle := hA _ _ _ _ _ h1
          have := hAB a _ n hd (by rw [h1]; exact fun e => by cases e)
          rw [h1, lessR] at this
          rw [this]
          exact ih t1 n1 (by omega) hne
      · rw [if_neg hm] at hne
        exact absurd rfl hne
    · rw [if_neg hk] at hne ⊢
      rw [if_neg hk]
      split <;> rfl
theorem ap_less {d : Nat} : ∀ (f g : Nat) (L : List T) (sh : Int) (u : Nat) (t : T) (n : Nat), d ≤ n → 40001 ≤ n - d + g → ap f L sh u t n ≠ .error 4 → ap g L sh u t (n - d) = lessR d (ap f L sh u t n) := by
  intro f
  induction f with
  | zero => intro g L sh u t n _ _ h; rw [ap] at h; exact absurd rfl h
  | succ f ih =>
    rintro g L sh u ⟨k, h, xs⟩ n hd hg hne
    rw [ap] at hne
    by_cases hl : 40000 < n + 1
    · rw [if_pos hl] at hne; exact absurd rfl hne
    · rw [if_neg hl] at hne
      obtain ⟨g, rfl⟩ : ∃ g', g = g' + 1 := ⟨g - 1, by omega⟩
      rw [ap, ap, if_neg hl, if_neg (by omega)]
      have e1 := apL_less (A := fun u' x m => ap f L sh u' x m) (B := fun u' x m => ap g L sh u' x m) (k := k) (m := xs.length) (u := u) (d := d) (n0 := n + 1) (fun v x n t' n' h => ap_up f L sh v x n t' n' h)
        (fun v x m hm hx => ih g L sh v x m (by omega) (by omega) hx) xs 0 (n + 1) (Nat.le_refl _)
      rw [show n + 1 - d = n - d + 1 by omega] at e1
      cases h1 : apL (fun u' x m => ap f L sh u' x m) k xs.length u xs 0 (n + 1) with
      | error e =>
        rw [h1] at e1 hne
        rw [e1 (by simpa using hne)]
        rfl
      | ok p =>
        obtain ⟨args, n1⟩ := p
        rw [h1] at e1 hne
        simp only at hne
        rw [e1 (fun e => by cases e)]
        have hn1 := apL_up (fun v x n t' n' h => ap_up f L sh v x n t' n' h) _ _ _ _ _ h1
        simp only [lessL]
        by_cases hc : k = 4 ∧ (u : Int) ≤ h
        · rw [if_pos hc] at hne ⊢
          rw [if_pos hc]
          exact spL_less (n0 := n + 1) (fun a x n t' n' h => ap_up f [a] 0 0 x n t' n' h) (fun a x m hm hx => ih g [a] 0 0 x m (by omega) (by omega) hx) args _ n1 hn1 hne
        · rw [if_neg hc, if_neg hc]
          rfl
theorem sp_less {d f g : Nat} (t : T) (bs : List T) (n : Nat) (hd : d ≤ n) (hg : 40001 ≤ n - d + g) (hne : sp f t bs n ≠ .error 4) : sp g t bs (n - d) = lessR d (sp f t bs n) :=
  spL_less (n0 := n) (fun a x n t' n' h => ap_up f [a] 0 0 x n t' n' h) (fun a x m hm hx => ap_less f g [a] 0 0 x m (by omega) (by omega) hx) bs t n (Nat.le_refl _) hne
end Go.Proofs.YtloeainlpcnhnaaGreat
