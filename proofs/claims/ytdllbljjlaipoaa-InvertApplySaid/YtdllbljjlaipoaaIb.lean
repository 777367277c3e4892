/-
  What a meta must be and substitutions: what is told, under the variables, is the term. No statement is proved here.
-/
import Derived.Test.YtdllbljjlaipoaaIa
import Derived.Test.YtdllbljjlaipoaaPd
namespace Go.Proofs.Ytdllbljjlaipoaa
open Go.RowKit
set_option linter.unusedVariables false

/-- variables as terms -/
def vrs (vs : List Int) : List T := vs.map fun v => .node 4 v []
theorem vrs_len (vs : List Int) : (vrs vs).length = vs.length := by simp [vrs]
theorem vrs_at {vs : List Int} {j : Nat} {x : Int} (h : vs[j]? = some x) : (vrs vs)[j]? = some (.node 4 x []) := by simp [vrs, h]
/-- what a variable is mapped to -/
theorem mp_vrs {vs : List Int} {n x y : Int} {u : Nat} (hv : ∀ v ∈ vs, 0 ≤ v ∧ v < n) (h : igo vs n x = some y) : mpT (vrs vs) n y u = .node 4 (x + u) [] := by
  unfold igo at h
  rw [mpT, vrs_len]
  split at h
  · cases h
    rw [if_pos (by omega)]
    congr 1; omega
  · have hl := pls_lt h
    have ha := vrs_at (pls_at h)
    have h0 := hv x (List.mem_of_getElem? (pls_at h))
    rw [if_neg (by omega), List.getD_eq_getElem?_getD, ha, Option.getD_some, upT, upL, if_pos ⟨rfl, h0.1⟩]
mutual
theorem iv_ren {vs : List Int} {n M : Int} (hv : ∀ v ∈ vs, 0 ≤ v ∧ v < n) (hn : 0 ≤ n) : ∀ (t : T) (s : Nat) (u : T), okT M t → ivT (igo vs n) t s = some u → RenT (vrs vs) n u s t
  | .node k h xs, s, u, ho, e => by
    rw [okT] at ho
    obtain ⟨h', ys, rfl, e2, hl, e3⟩ := iv_node e
    rw [RenT]
    refine ⟨rfl, ?_, hl, by have := iv_renL hv hn k xs.length xs 0 s ys ho.2 e2; rwa [← hl] at this⟩
    rcases e3 with ⟨rfl, hle, y, hy, rfl⟩ | ⟨hc, rfl⟩
    · have h1 := ho.1 rfl
      have h2 : 0 ≤ y := by
        unfold igo at hy
        split at hy
        · cases hy; omega
        · exact (pls_lt hy).1
      rw [if_pos ⟨rfl, by omega⟩, show y + (s : Int) - s = y by omega, mp_vrs hv hy, show h - (s : Int) + s = h by omega]
    · rw [if_neg hc]
theorem iv_renL {vs : List Int} {n M : Int} (hv : ∀ v ∈ vs, 0 ≤ v ∧ v < n) (hn : 0 ≤ n) (k : Int) (m : Nat) : ∀ (xs : List T) (i s : Nat) (us : List T), okL M xs → ivL (igo vs n) k m xs i s = some us → RenL (vrs vs) n k m us i s xs
  | [], i, s, us, _, e => by rw [ivL] at e; cases e; rw [RenL]
  | t :: ts, i, s, us, ho, e => by
    rw [okL] at ho
    obtain ⟨u, zs, rfl, e1, e2⟩ := iv_cons e
    rw [RenL]
    rw [bd_bdn, show (s : Int) + (bdn k m i : Int) = ((s + bdn k m i : Nat) : Int) by omega] at e1
    exact ⟨_, _, rfl, iv_ren hv hn t _ u ho.1 e1, iv_renL hv hn k m ts (i + 1) s zs ho.2 e2⟩
end
theorem vrs_my {vs : List Int} (h : ∀ v ∈ vs, 0 ≤ v) : ∀ x ∈ vrs vs, myB x = true := fun x hx => by
  obtain ⟨v, hv, rfl⟩ := List.mem_map.1 hx
  exact my_var (h v hv)
theorem my_iv {g : Int → Option Int} {M : Int} (hg : ∀ x, 0 ≤ x → x ≤ M → ∀ y, g x = some y → 0 ≤ y) {t u : T} (ho : okT M t) (hm : myB t = true) (e : ivT g t 0 = some u) : myB u = true := by
  obtain ⟨h1, h2, h3⟩ := (myB_iff t).1 hm
  have h4 := nd_iv t 0 u e
  exact (myB_iff u).2 ⟨nodB_iv hg t 0 u (Int.le_refl _) ho h1 e, by omega, by omega⟩
theorem igo_pos {vs : List Int} {n x y : Int} (hn : 0 ≤ n) (h : igo vs n x = some y) : 0 ≤ y := by
  unfold igo at h
  split at h
  · cases h; omega
  · exact (pls_lt h).1
/-- what is told, under these variables, is the term -/
theorem iv_apply {vs : List Int} {n M : Int} {t u : T} (hv : vB n [] vs = true) (hn : 0 ≤ n ∧ n ≤ 1000) (hl : vs.length ≤ 200) (ho : okT M t) (hm : myB t = true) (e : ivT (igo vs n) t 0 = some u) :
    apT u (vrs vs) n = t ∧ apE u (vrs vs) n = 0 ∧ myB u = true := by
  have hv' := (vB_top.1 hv).1
  have hmu := my_iv (M := M) (fun x _ _ y h => igo_pos hn.1 h) ho hm e
  have := ren_tells hmu (sb_of (L := vrs vs) (sh := n) (by rw [vrs_len]; exact hl) (by omega) (vrs_my fun v h => (hv' v h).1)) (iv_ren hv' hn.1 t 0 u ho e) hm
  exact ⟨this.1, this.2, hmu⟩
/-- where a variable of what is told comes from -/
def rho (vs : List Int) (n x : Int) : Option Int := some (if (vs.length : Int) ≤ x then x - vs.length + n else vs.getD (vs.length - 1 - x.toNat) 0)
theorem igo_rho {vs : List Int} {n x y : Int} (hv : vB n [] vs = true) (hx : 0 ≤ x) (h : rho vs n x = some y) : (0 ≤ y ∧ y ≤ x + n) ∧ igo vs n y = some x ∨ n < 0 := by
  obtain ⟨h1, h2⟩ := vB_top.1 hv
  by_cases hn : n < 0
  · exact .inr hn
  refine .inl ?_
  unfold rho at h
  cases h
  by_cases hc : (vs.length : Int) ≤ x
  · rw [if_pos hc, igo, if_pos (by omega)]
    exact ⟨by omega, by congr 1; omega⟩
  · have hl : vs.length - 1 - x.toNat < vs.length := by omega
    rw [if_neg hc, List.getD_eq_getElem?_getD, List.getElem?_eq_getElem hl, Option.getD_some]
    have := h1 _ (List.getElem_mem hl)
    refine ⟨by omega, ?_⟩
    rw [igo, if_neg (by omega), at_pls _ h2 (List.getElem?_eq_getElem hl)]
    congr 1; omega
/-- every term comes from one -/
theorem rho_all {vs : List Int} {n : Int} : ∀ (t : T) (s : Int), ∃ u, ivT (rho vs n) t s = some u := by
  intro t
  induction t using T.ind with
  | step k h xs ih =>
    intro s
    have hl : ∀ (l : List T) (i : Nat), (∀ x ∈ l, x ∈ xs) → ∃ us, ivL (rho vs n) k xs.length l i s = some us := by
      intro l
      induction l with
      | nil => intro i _; exact ⟨[], by rw [ivL]⟩
      | cons x l ih2 =>
        intro i hx
        obtain ⟨u, hu⟩ := ih x (hx x (List.mem_cons_self ..)) (s + bd k xs.length i)
        obtain ⟨us, hus⟩ := ih2 (i + 1) fun y hy => hx y (List.mem_cons_of_mem _ hy)
        exact ⟨_, by rw [ivL, hu, hus]; rfl⟩
    obtain ⟨us, hus⟩ := hl xs 0 fun x hx => hx
    rw [ivT, hus]
    by_cases hc : k = 4 ∧ s ≤ h
    · rw [if_pos hc, rho]
      exact ⟨_, rfl⟩
    · rw [if_neg hc]
      exact ⟨_, rfl⟩
end Go.Proofs.Ytdllbljjlaipoaa
