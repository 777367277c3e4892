/-
  What tokens come to is scoped, has no metas and no more nodes than tokens; what holds of declarations that are read. No statement is proved here.
-/
import Derived.Test.YtmkahbbcagfbhaaGreatDoorBaC
import Derived.Test.YtmkahbbcagfbhaaGreatDoorSy
namespace Go.Proofs.YtmkahbbcagfbhaaGreatDoor
open Go.ChangeShapes Go.WideShapes Go.ChangeAt Go.RowKit
set_option linter.unusedVariables false
/-- scoped over n names, without metas -/
def ScM (n : Nat) (t : T) : Prop := scC t n 0
theorem posB_lt {s : ByteArray} : ∀ {bs : List ByteArray} {i : Nat}, posB s bs = some i → i < bs.length
  | [], i, h => by cases h
  | b :: bs, i, h => by
    rw [posB] at h
    split at h
    · cases h; simp
    · cases hp : posB s bs with
      | none => rw [hp] at h; cases h
      | some j =>
        rw [hp] at h; cases h
        have := posB_lt hp
        simp only [List.length_cons]; omega
/-- what a head is: a node without Args, that is scoped, and no Pi, Lam or Meta -/
theorem head_sc {sg : List (ByteArray × T)} {bs : List ByteArray} {s : ByteArray} {t : T} (h : headM sg bs s = .ok t) : ∃ k i, t = .node k (i : Nat) [] ∧ (k = 4 ∧ i < bs.length ∨ k = 2 ∨ k = 5) := by
  unfold headM at h
  split at h
  · rename_i i hi
    cases h
    exact ⟨4, i, rfl, .inl ⟨rfl, posB_lt hi⟩⟩
  · split at h
    · rename_i x hx
      cases h
      split
      · exact ⟨2, x.1, rfl, .inr (.inl rfl)⟩
      · exact ⟨5, x.1, rfl, .inr (.inr rfl)⟩
    · cases h
/-- no more nodes than tokens -/
def Few (f : List Tk → Except Int (T × List Tk)) : Prop := ∀ l t r, f l = .ok (t, r) → nd t + r.length ≤ l.length
theorem args_few {sg bs f} (hi : Few f) : ∀ (n : Nat) (l : List Tk) (us : List T) (r : List Tk), argsM sg bs f n l = .ok (us, r) → ndL us + r.length ≤ l.length
  | 0, l, us, r, h => by rw [argsM] at h; cases h; rw [ndL]; omega
  | n + 1, [], us, r, h => by rw [argsM] at h; cases h; rw [ndL]; simp
  | n + 1, t :: l, us, r, h => by
    rw [argsM] at h
    split at h
    · split at h
      · cases h
      · rename_i u r1 h1
        split at h
        · cases h
        · rename_i r2 h2
          split at h
          · cases h
          · rename_i us' r3 h3
            cases h
            have a1 := hi _ _ _ h1
            have a2 := congrArg List.length (take_ok h2)
            have a3 := args_few hi n _ _ _ h3
            rw [ndL]
            simp only [List.length_cons] at a2 ⊢
            omega
    · split at h
      · split at h
        · cases h
        · split at h
          · cases h
          · rename_i u hu
            split at h
            · cases h
            · rename_i us' r3 h3
              cases h
              have a3 := args_few hi n _ _ _ h3
              obtain ⟨k, i, rfl, hk⟩ := head_sc hu
              rw [ndL, nd, ndL]
              simp only [List.length_cons]
              omega
      · cases h; rw [ndL]; simp
theorem app_few {sg bs f} (hi : Few f) : Few (appM sg bs f) := by
  intro l a r h
  cases l with
  | nil => cases h
  | cons t l =>
    rw [appM] at h
    split at h
    · split at h
      · cases h
      · rename_i u r1 h1
        split at h
        · cases h
        · rename_i r2 h2
          split at h
          · cases h
          · cases h
            have a1 := hi _ _ _ h1
            have a2 := congrArg List.length (take_ok h2)
            simp only [List.length_cons] at a2 ⊢
            omega
    · split at h
      · split at h
        · split at h
          · cases h
          · cases h
            rw [nd, ndL]
            simp only [List.length_cons]
            omega
        · split at h
          · cases h
          · rename_i u hu
            split at h
            · cases h
            · rename_i us r3 h3
              cases h
              have a3 := args_few hi _ _ _ _ h3
              obtain ⟨k, i, rfl, hk⟩ := head_sc hu
              rw [addA, List.nil_append, nd]
              simp only [List.length_cons]
              omega
      · cases h
theorem term_few (sg : List (ByteArray × T)) : ∀ (k : Nat) (bs : List ByteArray), Few (termM sg k bs)
  | 0, _ => fun l a r h => by rw [termM] at h; cases h
  | k + 1, bs => by
    intro l a r h
    cases l with
    | nil => rw [termM] at h; cases h
    | cons t l =>
      rw [termM] at h
      split at h
      · split at h
        · cases h
        · rename_i s r1 h1
          split at h
          · cases h
          · rename_i r2 h2
            split at h
            · cases h
            · rename_i a' r3 h3
              split at h
              · cases h
              · rename_i r4 h4
                split at h
                · cases h
                · rename_i b r5 h5
                  cases h
                  have e1 := congrArg List.length (name_ok h1)
                  have e2 := congrArg List.length (take_ok h2)
                  have e3 := term_few sg k bs _ _ _ h3
                  have e4 := congrArg List.length (take_ok h4)
                  have e5 := term_few sg k (s :: bs) _ _ _ h5
                  rw [nd, ndL, ndL, ndL]
                  simp only [List.length_cons] at e1 e2 e4 ⊢
                  omega
      · split at h
        · split at h
          · cases h
          · rename_i s r1 h1
            split at h
            · cases h
            · rename_i r2 h2
              split at h
              · cases h
              · rename_i b r3 h3
                cases h
                have e1 := congrArg List.length (name_ok h1)
                have e2 := congrArg List.length (take_ok h2)
                have e3 := term_few sg k (s :: bs) _ _ _ h3
                rw [nd, ndL, ndL]
                simp only [List.length_cons] at e1 e2 ⊢
                omega
        · exact app_few (term_few sg k bs) _ _ _ h
/-- what holds of declarations that are read: names that may be declared, each once; types that may be, and are scoped -/
structure RdD (may : T → Bool) (nm : ByteArray → Bool) (sg : List (ByteArray × T)) : Prop where
  name : ∀ d ∈ sg, nm d.1 = true
  may : ∀ d ∈ sg, may d.2 = true
  sc : ∀ d ∈ sg, ScM 0 d.2
  once : sg.Pairwise fun a b => a.1 ≠ b.1
end Go.Proofs.YtmkahbbcagfbhaaGreatDoor
