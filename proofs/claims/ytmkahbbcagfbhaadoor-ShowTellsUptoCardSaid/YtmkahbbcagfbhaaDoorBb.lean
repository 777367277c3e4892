/-
  What tokens come to is scoped, has no metas and no more nodes than tokens; what holds of declarations that are read. No statement is proved here.
-/
import Derived.Test.YtmkahbbcagfbhaaDoorBa
import Derived.Test.YtmkahbbcagfbhaaDoorSy
namespace Go.Proofs.YtmkahbbcagfbhaaDoor
open Go.ChangeShapes Go.WideShapes Go.ChangeAt Go.RowKit
set_option linter.unusedVariables false

/-- scoped over n names, without metas -/
def ScM (n : Nat) (t : T) : Prop := scC t n 0
theorem posB_lt {s : ByteArray} : ∀ {bs : List ByteArray} {i : Nat}, posB s bs = some i → i < bs.length
  | [], i, h => by cases h
  | b :: bs, i, h => by
    rw [posB] at h
    split at h
    · cases h; simp
    · cases hp : posB s bs with
      | none => rw [hp] at h; cases h
      | some j =>
        rw [hp] at h; cases h
        have := posB_lt hp
        simp only [List.length_cons]; omega
/-- what a head is: a node without Args, that is scoped, and no Pi, Lam or Meta -/
theorem head_sc {sg : List (ByteArray × T)} {bs : List ByteArray} {s : ByteArray} {t : T} (h : headM sg bs s = .ok t) : ∃ k i, t = .node k (i : Nat) [] ∧ (k = 4 ∧ i < bs.length ∨ k = 2 ∨ k = 5) := by
  unfold headM at h
  split at h
  · rename_i i hi
    cases h
    exact ⟨4, i, rfl, .inl ⟨rfl, posB_lt hi⟩⟩
  · split at h
    · rename_i x hx
      cases h
      split
      · exact ⟨2, x.1, rfl, .inr (.inl rfl)⟩
      · exact ⟨5, x.1, rfl, .inr (.inr rfl)⟩
    · cases h
theorem scL_all {k : Int} (hk : k ≠ 1) (hk3 : k ≠ 3) (m : Nat) {n : Nat} : ∀ (us : List T) (i : Nat), (∀ u ∈ us, ScM n u) → scCL k m us i n 0
  | [], i, _ => by rw [scCL]; trivial
  | u :: us, i, h => by
    rw [scCL]
    refine ⟨?_, scL_all hk hk3 m us (i + 1) fun v hv => h v (List.mem_cons_of_mem _ hv)⟩
    have hb : bd k m i = 0 := by
      unfold bd
      rw [if_neg]
      rintro ⟨h1 | h1, _⟩
      · exact hk h1
      · exact hk3 h1
    rw [hb, Int.add_zero]
    exact h u List.mem_cons_self
/-- what is told is scoped -/
def Scs (n : Nat) (f : List Tk → Except Int (T × List Tk)) : Prop := ∀ l t r, f l = .ok (t, r) → ScM n t
theorem args_sc {sg f} {bs : List ByteArray} (hi : Scs bs.length f) : ∀ (n : Nat) (l : List Tk) (us : List T) (r : List Tk), argsM sg bs f n l = .ok (us, r) → ∀ u ∈ us, ScM bs.length u
  | 0, l, us, r, h => by rw [argsM] at h; cases h; exact fun u hu => by cases hu
  | n + 1, [], us, r, h => by rw [argsM] at h; cases h; exact fun u hu => by cases hu
  | n + 1, t :: l, us, r, h => by
    rw [argsM] at h
    split at h
    · split at h
      · cases h
      · rename_i u r1 h1
        split at h
        · cases h
        · split at h
          · cases h
          · rename_i us' r3 h3
            cases h
            intro y hy
            rcases List.mem_cons.1 hy with rfl | hy
            · exact hi _ _ _ h1
            · exact args_sc hi n _ _ _ h3 y hy
    · split at h
      · split at h
        · cases h
        · split at h
          · cases h
          · rename_i u hu
            split at h
            · cases h
            · rename_i us' r3 h3
              cases h
              intro y hy
              rcases List.mem_cons.1 hy with rfl | hy
              · obtain ⟨k, i, rfl, hk⟩ := head_sc hu
                unfold ScM
                rw [scC, scCL]
                rcases hk with ⟨rfl, hk⟩ | rfl | rfl
                · exact ⟨fun _ => by omega, fun e => absurd e (by decide), trivial⟩
                · exact ⟨fun e => absurd e (by decide), fun e => absurd e (by decide), trivial⟩
                · exact ⟨fun e => absurd e (by decide), fun e => absurd e (by decide), trivial⟩
              · exact args_sc hi n _ _ _ h3 y hy
      · cases h; exact fun u hu => by cases hu
theorem app_sc {sg f} {bs : List ByteArray} (hi : Scs bs.length f) : Scs bs.length (appM sg bs f) := by
  intro l a r h
  cases l with
  | nil => cases h
  | cons t l =>
    rw [appM] at h
    split at h
    · split at h
      · cases h
      · rename_i u r1 h1
        split at h
        · cases h
        · split at h
          · cases h
          · cases h
            exact hi _ _ _ h1
    · split at h
      · split at h
        · split at h
          · cases h
          · cases h
            unfold ScM
            rw [scC, scCL]
            exact ⟨fun e => absurd e (by decide), fun e => absurd e (by decide), trivial⟩
        · split at h
          · cases h
          · rename_i u hu
            split at h
            · cases h
            · rename_i us r3 h3
              cases h
              have ha := args_sc hi _ _ _ _ h3
              obtain ⟨k, i, rfl, hk⟩ := head_sc hu
              rw [addA, List.nil_append]
              unfold ScM
              rw [scC]
              rcases hk with ⟨rfl, hk⟩ | rfl | rfl
              · exact ⟨fun _ => by omega, fun e => absurd e (by decide), scL_all (by decide) (by decide) _ us 0 ha⟩
              · exact ⟨fun e => absurd e (by decide), fun e => absurd e (by decide), scL_all (by decide) (by decide) _ us 0 ha⟩
              · exact ⟨fun e => absurd e (by decide), fun e => absurd e (by decide), scL_all (by decide) (by decide) _ us 0 ha⟩
      · cases h
/-- what is read is scoped, and has no metas -/
theorem term_sc (sg : List (ByteArray × T)) : ∀ (k : Nat) (bs : List ByteArray), Scs bs.length (termM sg k bs)
  | 0, _ => fun l a r h => by rw [termM] at h; cases h
  | k + 1, bs => by
    intro l a r h
    cases l with
    | nil => rw [termM] at h; cases h
    | cons t l =>
      rw [termM] at h
      split at h
      · split at h
        · cases h
        · rename_i s r1 h1
          split at h
          · cases h
          · split at h
            · cases h
            · rename_i a' r3 h3
              split at h
              · cases h
              · split at h
                · cases h
                · rename_i b r5 h5
                  cases h
                  have ha := term_sc sg k bs _ _ _ h3
                  have hb := term_sc sg k (s :: bs) _ _ _ h5
                  unfold ScM at ha hb ⊢
                  rw [scC, scCL, scCL, scCL]
                  refine ⟨fun e => absurd e (by decide), fun e => absurd e (by decide), ?_, ?_, trivial⟩
                  · show scC a' ((bs.length : Int) + bd 1 2 0) 0
                    rw [show bd 1 2 0 = 0 from rfl, Int.add_zero]; exact ha
                  · show scC b ((bs.length : Int) + bd 1 2 1) 0
                    rw [show bd 1 2 1 = 1 from rfl]
                    simpa using hb
      · split at h
        · split at h
          · cases h
          · rename_i s r1 h1
            split at h
            · cases h
            · split at h
              · cases h
              · rename_i b r3 h3
                cases h
                have hb := term_sc sg k (s :: bs) _ _ _ h3
                unfold ScM at hb ⊢
                rw [scC, scCL, scCL]
                refine ⟨fun e => absurd e (by decide), fun e => absurd e (by decide), ?_, trivial⟩
                show scC b ((bs.length : Int) + bd 3 1 0) 0
                rw [show bd 3 1 0 = 1 from rfl]
                simpa using hb
        · exact app_sc (term_sc sg k bs) _ _ _ h

/-- no more nodes than tokens -/
def Few (f : List Tk → Except Int (T × List Tk)) : Prop := ∀ l t r, f l = .ok (t, r) → nd t + r.length ≤ l.length
theorem args_few {sg bs f} (hi : Few f) : ∀ (n : Nat) (l : List Tk) (us : List T) (r : List Tk), argsM sg bs f n l = .ok (us, r) → ndL us + r.length ≤ l.length
  | 0, l, us, r, h => by rw [argsM] at h; cases h; rw [ndL]; omega
  | n + 1, [], us, r, h => by rw [argsM] at h; cases h; rw [ndL]; simp
  | n + 1, t :: l, us, r, h => by
    rw [argsM] at h
    split at h
    · split at h
      · cases h
      · rename_i u r1 h1
        split at h
        · cases h
        · rename_i r2 h2
          split at h
          · cases h
          · rename_i us' r3 h3
            cases h
            have a1 := hi _ _ _ h1
            have a2 := congrArg List.length (take_ok h2)
            have a3 := args_few hi n _ _ _ h3
            rw [ndL]
            simp only [List.length_cons] at a2 ⊢
            omega
    · split at h
      · split at h
        · cases h
        · split at h
          · cases h
          · rename_i u hu
            split at h
            · cases h
            · rename_i us' r3 h3
              cases h
              have a3 := args_few hi n _ _ _ h3
              obtain ⟨k, i, rfl, hk⟩ := head_sc hu
              rw [ndL, nd, ndL]
              simp only [List.length_cons]
              omega
      · cases h; rw [ndL]; simp
theorem app_few {sg bs f} (hi : Few f) : Few (appM sg bs f) := by
  intro l a r h
  cases l with
  | nil => cases h
  | cons t l =>
    rw [appM] at h
    split at h
    · split at h
      · cases h
      · rename_i u r1 h1
        split at h
        · cases h
        · rename_i r2 h2
          split at h
          · cases h
          · cases h
            have a1 := hi _ _ _ h1
            have a2 := congrArg List.length (take_ok h2)
            simp only [List.length_cons] at a2 ⊢
            omega
    · split at h
      · split at h
        · split at h
          · cases h
          · cases h
            rw [nd, ndL]
            simp only [List.length_cons]
            omega
        · split at h
          · cases h
          · rename_i u hu
            split at h
            · cases h
            · rename_i us r3 h3
              cases h
              have a3 := args_few hi _ _ _ _ h3
              obtain ⟨k, i, rfl, hk⟩ := head_sc hu
              rw [addA, List.nil_append, nd]
              simp only [List.length_cons]
              omega
      · cases h
theorem term_few (sg : List (ByteArray × T)) : ∀ (k : Nat) (bs : List ByteArray), Few (termM sg k bs)
  | 0, _ => fun l a r h => by rw [termM] at h; cases h
  | k + 1, bs => by
    intro l a r h
    cases l with
    | nil => rw [termM] at h; cases h
    | cons t l =>
      rw [termM] at h
      split at h
      · split at h
        · cases h
        · rename_i s r1 h1
          split at h
          · cases h
          · rename_i r2 h2
            split at h
            · cases h
            · rename_i a' r3 h3
              split at h
              · cases h
              · rename_i r4 h4
                split at h
                · cases h
                · rename_i b r5 h5
                  cases h
                  have e1 := congrArg List.length (name_ok h1)
                  have e2 := congrArg List.length (take_ok h2)
                  have e3 := term_few sg k bs _ _ _ h3
                  have e4 := congrArg List.length (take_ok h4)
                  have e5 := term_few sg k (s :: bs) _ _ _ h5
                  rw [nd, ndL, ndL, ndL]
                  simp only [List.length_cons] at e1 e2 e4 ⊢
                  omega
      · split at h
        · split at h
          · cases h
          · rename_i s r1 h1
            split at h
            · cases h
            · rename_i r2 h2
              split at h
              · cases h
              · rename_i b r3 h3
                cases h
                have e1 := congrArg List.length (name_ok h1)
                have e2 := congrArg List.length (take_ok h2)
                have e3 := term_few sg k (s :: bs) _ _ _ h3
                rw [nd, ndL, ndL]
                simp only [List.length_cons] at e1 e2 ⊢
                omega
        · exact app_few (term_few sg k bs) _ _ _ h

/-- no such name is declared -/
theorem posD_none {s : ByteArray} : ∀ {sg : List (ByteArray × T)}, posD s sg = none → ∀ d ∈ sg, d.1 ≠ s
  | [], _, d, hd => by cases hd
  | e :: sg, h, d, hd => by
    rw [posD] at h
    split at h
    · cases h
    · rename_i hne
      rcases List.mem_cons.1 hd with rfl | hd
      · exact hne
      · cases hp : posD s sg with
        | none => exact posD_none hp d hd
        | some x => rw [hp] at h; cases h
/-- what holds of declarations that are read: names that may be declared, each once; types that may be, and are scoped -/
structure RdD (may : T → Bool) (nm : ByteArray → Bool) (sg : List (ByteArray × T)) : Prop where
  name : ∀ d ∈ sg, nm d.1 = true
  may : ∀ d ∈ sg, may d.2 = true
  sc : ∀ d ∈ sg, ScM 0 d.2
  once : sg.Pairwise fun a b => a.1 ≠ b.1
theorem decl_rd {may nm sg l d r} (hs : RdD may nm sg) (h : declM may nm sg l = .ok (d, r)) : RdD may nm (sg ++ [d]) := by
  unfold declM at h
  split at h
  · cases h
  · rename_i s r1 h1
    split at h
    · rename_i hn
      split at h
      · cases h
      · split at h
        · cases h
        · rename_i t r3 h3
          split at h
          · cases h
          · cases h
            obtain ⟨ht, hm⟩ := whole_ok h3
            have hsc := term_sc sg 120 [] _ _ _ ht
            refine ⟨fun d hd => ?_, fun d hd => ?_, fun d hd => ?_, ?_⟩
            · rcases List.mem_append.1 hd with hd | hd
              · exact hs.name d hd
              · rw [List.mem_singleton.1 hd]; exact hn.1
            · rcases List.mem_append.1 hd with hd | hd
              · exact hs.may d hd
              · rw [List.mem_singleton.1 hd]; exact hm
            · rcases List.mem_append.1 hd with hd | hd
              · exact hs.sc d hd
              · rw [List.mem_singleton.1 hd]; exact hsc
            · rw [List.pairwise_append]
              refine ⟨hs.once, List.pairwise_singleton _ _, fun a ha b hb => ?_⟩
              rw [List.mem_singleton.1 hb]
              exact posD_none hn.2 a ha
    · cases h
theorem decls_rd {may nm} : ∀ (n : Nat) (sg sg' : List (ByteArray × T)) (l : List Tk), RdD may nm sg → declsM may nm n sg l = .ok sg' → RdD may nm sg'
  | n, sg, sg', [], hs, h => by
    cases n <;> (rw [declsM] at h; cases h; exact hs)
  | 0, sg, sg', t :: l, hs, h => by rw [declsM] at h; cases h
  | n + 1, sg, sg', t :: l, hs, h => by
    rw [declsM] at h
    split at h
    · cases h
    · split at h
      · cases h
      · rename_i d r hd
        exact decls_rd n _ sg' r (decl_rd hs hd) h
theorem rd_nil (may : T → Bool) (nm : ByteArray → Bool) : RdD may nm [] :=
  ⟨fun d hd => absurd hd List.not_mem_nil, fun d hd => absurd hd List.not_mem_nil, fun d hd => absurd hd List.not_mem_nil, List.Pairwise.nil⟩
end Go.Proofs.YtmkahbbcagfbhaaDoor
