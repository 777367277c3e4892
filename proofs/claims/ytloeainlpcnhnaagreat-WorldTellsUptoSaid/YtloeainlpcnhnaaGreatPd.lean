/-
  What the laws SubstBeta, SubstScopes and SubstUnder need of substitutions, as plain facts. No statement is proved here.
-/
import Derived.Test.YtloeainlpcnhnaaGreatPc
namespace Go.Proofs.YtloeainlpcnhnaaGreat
open Go.ChangeShapes Go.WideShapes Go.ChangeAt Go.RowKit
set_option linter.unusedVariables false

theorem my_lam {s d : Nat} {t : T} (k : Kn s d t) (hs : s ≤ 3999) (hd : d ≤ 59) : myB (.node 3 0 [t]) = true := by
  obtain ⟨h1, h2, h3⟩ := (myB_iff t).1 k.my
  have h4 := k.nd
  have h5 := k.dp
  refine (myB_iff _).2 ⟨?_, ?_, ?_⟩
  · simp [nodB, nodL, okN, h1]
  · simp only [nd, ndL]; omega
  · simp only [dp, dpL]; omega
theorem lo_lam {t : T} (k : LoT t) : LoT (.node 3 0 [t]) := by
  simp [LoT, okT, okL]; exact k
/-- a row of two terms -/
theorem rd_two {w : World} {b : Nat} {ty : TypeId} {t u : T} {k2 h2 k3 h3 : Int} {A A' : Option Addr} {n c n' c' : Nat} (hb : Box w b ty #[.int .i64 k2, .int .i64 h2, .slice A n c, .int .i64 k3, .int .i64 h3, .slice A' n' c']) (hr : Rd w t (.agg #[.int .i64 k2, .int .i64 h2, .slice A n c])) (hr' : Rd w u (.agg #[.int .i64 k3, .int .i64 h3, .slice A' n' c'])) :
    ∀ i x, [t, u][i]? = some x → RdAt w (some ⟨b, 0, none⟩) i x := fun i x hu => by
  match i, hu with
  | 0, hu =>
    simp only [List.getElem?_cons_zero, Option.some.injEq] at hu
    subst hu
    exact ⟨b, 0, _, _, _, rfl, hb.cell 0, hb.cell 1, hb.cell 2, hr⟩
  | 1, hu =>
    simp only [List.getElem?_cons_succ, List.getElem?_cons_zero, Option.some.injEq] at hu
    subst hu
    exact ⟨b, 0, _, _, _, rfl, hb.cell 3, hb.cell 4, hb.cell 5, hr'⟩
  | i + 2, hu => simp at hu
/-! ### An error is not nought -/
theorem apL_err {A : Nat → T → Nat → Res} {k : Int} {m u : Nat} (hA : ∀ v x n e, A v x n = .error e → e ≠ 0) : ∀ (xs : List T) (i n : Nat) (e : Int), apL A k m u xs i n = .error e → e ≠ 0
  | [], _, _, _, h => by simp [apL] at h
  | x :: xs, i, n, e, h => by
    rw [apL] at h
    split at h
    · rename_i e' h'
      cases h
      exact hA _ _ _ _ h'
    · split at h
      · rename_i e' h'
        cases h
        exact apL_err hA xs _ _ _ h'
      · cases h
theorem spL_err {A : T → T → Nat → Res} (hA : ∀ a x n e, A a x n = .error e → e ≠ 0) : ∀ (bs : List T) (t : T) (n : Nat) (e : Int), spL A t bs n = .error e → e ≠ 0
  | [], _, _, _, h => by simp [spL] at h
  | a :: bs, .node k hd xs, n, e, h => by
    rw [spL] at h
    split at h
    · split at h
      · split at h
        · rename_i e' h'
          cases h
          exact hA _ _ _ _ h'
        · exact spL_err hA bs _ _ _ h
      · cases h; omega
    · split at h
      · cases h
      · cases h; omega
theorem ap_err : ∀ (f : Nat) (L : List T) (sh : Int) (u : Nat) (t : T) (n : Nat) (e : Int), ap f L sh u t n = .error e → e ≠ 0 := by
  intro f
  induction f with
  | zero => intro L sh u t n e h; rw [ap] at h; cases h; omega
  | succ f ih =>
    rintro L sh u ⟨k, hd, xs⟩ n e h
    rw [ap] at h
    split at h
    · cases h; omega
    · split at h
      · rename_i e' h'
        cases h
        exact apL_err (fun v x n e h => ih _ _ _ _ _ _ h) _ _ _ _ h'
      · split at h
        · exact spL_err (fun a x n e h => ih _ _ _ _ _ _ h) _ _ _ _ h
        · cases h
/-- what an answer of Apply may have for Heads -/
theorem ap_low {s d s' d' : Nat} {t x : T} (k : Kn s d t) (kx : Kn s' d' x) : LoT (apT t [x] 0) := by
  have h0 : sbB [x] 0 = true := sb_of (by simp) (by omega) (fun y hy => by rw [List.mem_singleton.1 hy]; exact kx.my)
  have h1 : apT t [x] 0 = anT (apR t [x] 0) := by unfold apT; rw [k.my, h0]; rfl
  rw [h1]
  cases hr : apR t [x] 0 with
  | error e => simp [anT, LoT, okT, okL]
  | ok p =>
    obtain ⟨t', n'⟩ := p
    have hg := ap_good (B := 1099511627776) fl [x] 0 0 t 0 (Nat.le_refl _) (by omega) ⟨fun y hy => by rw [List.mem_singleton.1 hy]; exact kx.my, fun y hy => by rw [List.mem_singleton.1 hy]; exact okT_mono (by unfold btB; omega) _ kx.ok, by omega, by omega⟩ ⟨k.nod, okT_mono (by unfold btB; omega) _ k.ok⟩ t' n' hr
    simp only [anT]
    split
    · exact okT_mono (by unfold btB; omega) _ hg.2.2.1.ok
    · simp [LoT, okT, okL]
/-- a Lam applied to one term -/
theorem beta_one {d s' d' : Nat} {t x : T} (k : Kn 300 d t) (hd : d ≤ 59) (kx : Kn s' d' x) : spT (.node 3 0 [t]) [x] = apT t [x] 0 ∧ spE (.node 3 0 [t]) [x] = apE t [x] 0 := by
  have h0 : sbB [x] 0 = true := sb_of (by simp) (by omega) (fun y hy => by rw [List.mem_singleton.1 hy]; exact kx.my)
  have h1 : spR (.node 3 0 [t]) [x] = apR t [x] 0 := by
    unfold spR apR
    simp only [sp, spL, if_pos, kx.my, List.headD_cons]
    cases ap fl [x] 0 0 t 0 with
    | error e => rfl
    | ok p => obtain ⟨t', n'⟩ := p; rfl
  have h2 := my_lam k (by omega) hd
  unfold spT spE apT apE
  rw [h1, h2, k.my, h0]
  simp [kx.my]
/-- applied to two -/
theorem beta_two {d s' d' s'' d'' : Nat} {t x y : T} (k : Kn 300 d t) (hd : d ≤ 59) (kx : Kn s' d' x) (ky : Kn s'' d'' y) (h : apE t [x] 0 = 0) :
    spE (.node 3 0 [t]) [x, y] = 4 ∨ spE (.node 3 0 [t]) [x, y] = spE (apT t [x] 0) [y] ∧ spT (.node 3 0 [t]) [x, y] = spT (apT t [x] 0) [y] := by
  have h0 : sbB [x] 0 = true := sb_of (by simp) (by omega) (fun y hy => by rw [List.mem_singleton.1 hy]; exact kx.my)
  have h2 := my_lam k (by omega) hd
  have e1 : apE t [x] 0 = anE (apR t [x] 0) := by unfold apE; rw [k.my, h0]; rfl
  have e2 : apT t [x] 0 = anT (apR t [x] 0) := by unfold apT; rw [k.my, h0]; rfl
  have e3 : spE (.node 3 0 [t]) [x, y] = anE (spR (.node 3 0 [t]) [x, y]) := by unfold spE; rw [h2]; simp [kx.my, ky.my]
  have e4 : spT (.node 3 0 [t]) [x, y] = anT (spR (.node 3 0 [t]) [x, y]) := by unfold spT; rw [h2]; simp [kx.my, ky.my]
  rw [e1] at h
  have h3 : spR (.node 3 0 [t]) [x, y] = match apR t [x] 0 with | .error e => .error e | .ok (t', n') => sp fl t' [y] n' := by
    unfold spR apR
    simp only [sp, spL, if_pos, kx.my, List.headD_cons]
    cases ap fl [x] 0 0 t 0 <;> rfl
  cases hr : apR t [x] 0 with
  | error e =>
    rw [hr] at h3 h
    left
    exfalso
    exact ap_err _ _ _ _ _ _ _ hr (by simpa [anE] using h)
  | ok p =>
    obtain ⟨t', n'⟩ := p
    rw [hr] at h3 h e2
    have hm : myB t' = true := by
      cases hm : myB t' with
      | true => rfl
      | false => simp [anE, hm] at h
    simp only [anT, hm, if_pos] at e2
    simp only at h3
    by_cases hne : sp fl t' [y] n' = .error 4
    · left; rw [e3, h3, hne]; rfl
    · right
      have h5 := sp_less (f := fl) (g := fl) t' [y] n' (Nat.le_refl n') (by rw [fl_eq]; omega) hne
      rw [Nat.sub_self] at h5
      have e5 : spE t' [y] = anE (spR t' [y]) := by unfold spE; rw [hm]; simp [ky.my]
      have e6 : spT t' [y] = anT (spR t' [y]) := by unfold spT; rw [hm]; simp [ky.my]
      rw [e3, e4, e2, e5, e6, h3]
      unfold spR
      rw [h5]
      cases sp fl t' [y] n' with
      | error e => exact ⟨rfl, rfl⟩
      | ok q => obtain ⟨a, b⟩ := q; exact ⟨rfl, rfl⟩
end Go.Proofs.YtloeainlpcnhnaaGreat
