/-
  Texts with declarations and terms as plain data: what tokens come to (the document's reading of them), and what holds of that. No statement is proved here.
-/
import Derived.Test.YtmkahbbcagfbhaaDoorXa
import Derived.Test.YtmkahbbcagfbhaaDoorQa
namespace Go.Proofs.YtmkahbbcagfbhaaDoor
open Go.ChangeShapes Go.WideShapes Go.ChangeAt Go.RowKit
set_option linter.unusedVariables false
/-- the marks -/
def mO : Tk := (1, ⟨#[40]⟩)
def mC : Tk := (1, ⟨#[41]⟩)
def mL : Tk := (1, ⟨#[91]⟩)
def mR : Tk := (1, ⟨#[93]⟩)
def mP : Tk := (1, ⟨#[123]⟩)
def mQ : Tk := (1, ⟨#[125]⟩)
def mK : Tk := (1, ⟨#[58]⟩)
def mD : Tk := (1, ⟨#[46]⟩)
/-- the name that is the Sort -/
def tyN : ByteArray := ⟨#[116, 121, 112, 101]⟩
/-- a mark must stand there -/
def takeM (m : Tk) : List Tk → Except Int (List Tk)
  | [] => .error 8
  | t :: l => if t = m then .ok l else .error 8
/-- a name must stand there -/
def nameM : List Tk → Except Int (ByteArray × List Tk)
  | [] => .error 8
  | t :: l => if t.1 = 0 then .ok (t.2, l) else .error 8
/-- may an atom begin there -/
def begM : List Tk → Bool
  | [] => false
  | t :: _ => decide (t = mO) || decide (t.1 = 0)
/-- which one it is, of those that bind (the nearest one first) -/
def posB (s : ByteArray) : List ByteArray → Option Nat
  | [] => none
  | b :: l => if b = s then some 0 else (posB s l).map (· + 1)
/-- which one it is, of those declared -/
def posD (s : ByteArray) : List (ByteArray × T) → Option (Nat × T)
  | [] => none
  | d :: l => if d.1 = s then some (0, d.2) else (posD s l).map fun x => (x.1 + 1, x.2)
/-- what a name is -/
def headM (sg : List (ByteArray × T)) (bd : List ByteArray) (s : ByteArray) : Except Int T :=
  match posB s bd with
  | some i => .ok (.node 4 i [])
  | none => match posD s sg with
    | some x => .ok (.node (if kiB x.2 = true then 2 else 5) x.1 [])
    | none => .error 2
/-- the others of a head -/
def argsM (sg : List (ByteArray × T)) (bd : List ByteArray) (inner : List Tk → Except Int (T × List Tk)) : Nat → List Tk → Except Int (List T × List Tk)
  | 0, l => .ok ([], l)
  | _ + 1, [] => .ok ([], [])
  | n + 1, t :: r =>
    if t = mO then
      match inner r with
      | .error e => .error e
      | .ok (u, r1) => match takeM mC r1 with
        | .error e => .error e
        | .ok r2 => match argsM sg bd inner n r2 with
          | .error e => .error e
          | .ok (us, r3) => .ok (u :: us, r3)
    else if t.1 = 0 then
      if t.2 = tyN then .error 8
      else match headM sg bd t.2 with
        | .error e => .error e
        | .ok u => match argsM sg bd inner n r with
          | .error e => .error e
          | .ok (us, r3) => .ok (u :: us, r3)
    else .ok ([], t :: r)
/-- a head with others -/
def addA : T → List T → T
  | .node k h xs, us => .node k h (xs ++ us)
/-- atoms -/
def appM (sg : List (ByteArray × T)) (bd : List ByteArray) (inner : List Tk → Except Int (T × List Tk)) : List Tk → Except Int (T × List Tk)
  | [] => .error 8
  | t :: r =>
    if t = mO then
      match inner r with
      | .error e => .error e
      | .ok (u, r1) => match takeM mC r1 with
        | .error e => .error e
        | .ok r2 => if begM r2 = true then .error 8 else .ok (u, r2)
    else if t.1 = 0 then
      if t.2 = tyN then if begM r = true then .error 8 else .ok (.node 0 0 [], r)
      else match headM sg bd t.2 with
        | .error e => .error e
        | .ok u => match argsM sg bd inner r.length r with
          | .error e => .error e
          | .ok (us, r3) => .ok (addA u us, r3)
    else .error 8
/-- what is wrong with a TERM that is one too many: its first token, or that -/
def zerM (sg : List (ByteArray × T)) (bd : List ByteArray) : List Tk → Int
  | [] => 8
  | t :: _ =>
    if t = mP then 4
    else if t = mL then 4
    else if t = mO then 4
    else if t.1 = 0 then
      if t.2 = tyN then 4
      else match headM sg bd t.2 with
        | .error e => e
        | .ok _ => 4
    else 8
/-- a TERM; the number: how many may be one in the other -/
def termM (sg : List (ByteArray × T)) : Nat → List ByteArray → List Tk → Except Int (T × List Tk)
  | 0, bd, l => .error (zerM sg bd l)
  | _ + 1, _, [] => .error 8
  | k + 1, bd, t :: r =>
    if t = mP then
      match nameM r with
      | .error e => .error e
      | .ok (s, r1) => match takeM mK r1 with
        | .error e => .error e
        | .ok r2 => match termM sg k bd r2 with
          | .error e => .error e
          | .ok (a, r3) => match takeM mQ r3 with
            | .error e => .error e
            | .ok r4 => match termM sg k (s :: bd) r4 with
              | .error e => .error e
              | .ok (b, r5) => .ok (.node 1 0 [a, b], r5)
    else if t = mL then
      match nameM r with
      | .error e => .error e
      | .ok (s, r1) => match takeM mR r1 with
        | .error e => .error e
        | .ok r2 => match termM sg k (s :: bd) r2 with
          | .error e => .error e
          | .ok (b, r3) => .ok (.node 3 0 [b], r3)
    else appM sg bd (termM sg k bd) (t :: r)

theorem take_ok {m : Tk} {l r : List Tk} (h : takeM m l = .ok r) : l = m :: r := by
  cases l with
  | nil => cases h
  | cons t l =>
    rw [takeM] at h
    split at h
    · rename_i e; cases h; rw [e]
    · cases h
theorem name_ok {s : ByteArray} {l r : List Tk} (h : nameM l = .ok (s, r)) : l = (0, s) :: r := by
  cases l with
  | nil => cases h
  | cons t l =>
    obtain ⟨t1, t2⟩ := t
    rw [nameM] at h
    split at h
    · rename_i e; cases h; cases e; rfl
    · cases h
theorem take_at (m : Tk) (r : List Tk) : takeM m (m :: r) = .ok r := if_pos rfl
theorem name_at (s : ByteArray) (r : List Tk) : nameM ((0, s) :: r) = .ok (s, r) := by rw [nameM, if_pos rfl]

/-- what is told is shorter -/
def Sho {α : Type} (f : List Tk → Except Int (α × List Tk)) : Prop := ∀ l a r, f l = .ok (a, r) → r.length < l.length
theorem args_le {sg bd inner} (hi : Sho inner) : ∀ (n : Nat) (l : List Tk) (us : List T) (r : List Tk), argsM sg bd inner n l = .ok (us, r) → r.length ≤ l.length
  | 0, l, us, r, h => by rw [argsM] at h; cases h; exact Nat.le_refl _
  | n + 1, [], us, r, h => by rw [argsM] at h; cases h; exact Nat.le_refl _
  | n + 1, t :: l, us, r, h => by
    rw [argsM] at h
    split at h
    · split at h
      · cases h
      · rename_i u r1 h1
        split at h
        · cases h
        · rename_i r2 h2
          split at h
          · cases h
          · rename_i us' r3 h3
            cases h
            have a1 := hi _ _ _ h1
            have a2 := take_ok h2
            have a3 := args_le hi n _ _ _ h3
            rw [a2] at a1
            simp only [List.length_cons] at a1 ⊢
            omega
    · split at h
      · split at h
        · cases h
        · split at h
          · cases h
          · split at h
            · cases h
            · rename_i us' r3 h3
              cases h
              have a3 := args_le hi n _ _ _ h3
              simp only [List.length_cons]
              omega
      · cases h; exact Nat.le_refl _
theorem app_sho {sg bd inner} (hi : Sho inner) : Sho (appM sg bd inner) := by
  intro l a r h
  cases l with
  | nil => cases h
  | cons t l =>
    rw [appM] at h
    split at h
    · split at h
      · cases h
      · rename_i u r1 h1
        split at h
        · cases h
        · rename_i r2 h2
          split at h
          · cases h
          · cases h
            have a1 := hi _ _ _ h1
            have a2 := take_ok h2
            rw [a2] at a1
            simp only [List.length_cons] at a1 ⊢
            omega
    · split at h
      · split at h
        · split at h
          · cases h
          · cases h; simp
        · split at h
          · cases h
          · split at h
            · cases h
            · rename_i us r3 h3
              cases h
              have a3 := args_le hi _ _ _ _ h3
              simp only [List.length_cons]
              omega
      · cases h
theorem term_sho (sg : List (ByteArray × T)) : ∀ (k : Nat) (bd : List ByteArray), Sho (termM sg k bd)
  | 0, _ => fun l a r h => by rw [termM] at h; cases h
  | k + 1, bd => by
    intro l a r h
    cases l with
    | nil => rw [termM] at h; cases h
    | cons t l =>
      rw [termM] at h
      split at h
      · split at h
        · cases h
        · rename_i s r1 h1
          split at h
          · cases h
          · rename_i r2 h2
            split at h
            · cases h
            · rename_i a' r3 h3
              split at h
              · cases h
              · rename_i r4 h4
                split at h
                · cases h
                · rename_i b r5 h5
                  cases h
                  have e1 := congrArg List.length (name_ok h1)
                  have e2 := congrArg List.length (take_ok h2)
                  have e3 := term_sho sg k bd _ _ _ h3
                  have e4 := congrArg List.length (take_ok h4)
                  have e5 := term_sho sg k (s :: bd) _ _ _ h5
                  simp only [List.length_cons] at e1 e2 e4 ⊢
                  omega
      · split at h
        · split at h
          · cases h
          · rename_i s r1 h1
            split at h
            · cases h
            · rename_i r2 h2
              split at h
              · cases h
              · rename_i b r3 h3
                cases h
                have e1 := congrArg List.length (name_ok h1)
                have e2 := congrArg List.length (take_ok h2)
                have e3 := term_sho sg k (s :: bd) _ _ _ h3
                simp only [List.length_cons] at e1 e2 ⊢
                omega
        · exact app_sho (term_sho sg k bd) _ _ _ h

/-- more fuel tells no other -/
theorem args_fuel {sg bd inner} (hi : Sho inner) : ∀ (n m : Nat) (l : List Tk), l.length ≤ n → l.length ≤ m → argsM sg bd inner n l = argsM sg bd inner m l
  | 0, 0, l, _, _ => rfl
  | 0, m + 1, [], _, _ => rfl
  | n + 1, 0, [], _, _ => rfl
  | n + 1, m + 1, [], _, _ => rfl
  | n + 1, m + 1, t :: l, hn, hm => by
    rw [argsM, argsM]
    simp only [List.length_cons] at hn hm
    split
    · cases h1 : inner l with
      | error e => rfl
      | ok x =>
        obtain ⟨u, r1⟩ := x
        dsimp only
        cases h2 : takeM mC r1 with
        | error e => rfl
        | ok r2 =>
          dsimp only
          have a1 := hi _ _ _ h1
          have a2 := congrArg List.length (take_ok h2)
          simp only [List.length_cons] at a2
          rw [args_fuel hi n m r2 (by omega) (by omega)]
    · split
      · split
        · rfl
        · cases headM sg bd t.2 with
          | error e => rfl
          | ok u =>
            dsimp only
            rw [args_fuel hi n m l (by omega) (by omega)]
      · rfl

/-- one less may be in the other: the same, or too many -/
def Low (f g : List Tk → Except Int (T × List Tk)) : Prop := ∀ l, f l = g l ∨ f l = .error 4
theorem args_low {sg bd f g} (hi : Low f g) : ∀ (n : Nat) (l : List Tk), argsM sg bd f n l = argsM sg bd g n l ∨ argsM sg bd f n l = .error 4
  | 0, l => .inl rfl
  | n + 1, [] => .inl rfl
  | n + 1, t :: l => by
    rw [argsM, argsM]
    split
    · rcases hi l with h | h
      · rw [h]
        cases g l with
        | error e => exact .inl rfl
        | ok x =>
          obtain ⟨u, r1⟩ := x
          dsimp only
          cases takeM mC r1 with
          | error e => exact .inl rfl
          | ok r2 =>
            dsimp only
            rcases args_low hi n r2 with h2 | h2
            · rw [h2]; exact .inl rfl
            · rw [h2]; exact .inr rfl
      · rw [h]; exact .inr rfl
    · split
      · split
        · exact .inl rfl
        · cases headM sg bd t.2 with
          | error e => exact .inl rfl
          | ok u =>
            dsimp only
            rcases args_low hi n l with h2 | h2
            · rw [h2]; exact .inl rfl
            · rw [h2]; exact .inr rfl
      · exact .inl rfl
theorem app_low {sg bd f g} (hi : Low f g) : Low (appM sg bd f) (appM sg bd g) := by
  intro l
  cases l with
  | nil => exact .inl rfl
  | cons t l =>
    rw [appM, appM]
    split
    · rcases hi l with h | h
      · rw [h]; exact .inl rfl
      · rw [h]; exact .inr rfl
    · split
      · split
        · exact .inl rfl
        · cases headM sg bd t.2 with
          | error e => exact .inl rfl
          | ok u =>
            dsimp only
            rcases args_low hi l.length l with h2 | h2
            · rw [h2]; exact .inl rfl
            · rw [h2]; exact .inr rfl
      · exact .inl rfl
theorem zer_low (sg : List (ByteArray × T)) (bd : List ByteArray) (l : List Tk) : Except.error (zerM sg bd l) = termM sg 1 bd l ∨ zerM sg bd l = 4 := by
  cases l with
  | nil => exact .inl rfl
  | cons t l =>
    simp only [zerM]
    by_cases h1 : t = mP
    · rw [if_pos h1]; exact .inr rfl
    by_cases h2 : t = mL
    · rw [if_neg h1, if_pos h2]; exact .inr rfl
    by_cases h3 : t = mO
    · rw [if_neg h1, if_neg h2, if_pos h3]; exact .inr rfl
    rw [termM]
    simp only [if_neg h1, if_neg h2, appM, if_neg h3]
    by_cases h4 : t.1 = 0
    · simp only [if_pos h4]
      by_cases h5 : t.2 = tyN
      · simp only [if_pos h5]; exact .inr trivial
      · simp only [if_neg h5]
        cases headM sg bd t.2 with
        | error e => exact .inl rfl
        | ok u => exact .inr rfl
    · simp only [if_neg h4]; exact .inl trivial
theorem term_low (sg : List (ByteArray × T)) : ∀ (k : Nat) (bd : List ByteArray), Low (termM sg k bd) (termM sg (k + 1) bd)
  | 0, bd => fun l => by
    rcases zer_low sg bd l with h | h
    · exact .inl (by rw [termM]; exact h)
    · exact .inr (by rw [termM, h])
  | k + 1, bd => by
    intro l
    cases l with
    | nil => exact .inl rfl
    | cons t l =>
      rw [termM, termM]
      split
      · cases nameM l with
        | error e => exact .inl rfl
        | ok x =>
          obtain ⟨s, r1⟩ := x
          dsimp only
          cases takeM mK r1 with
          | error e => exact .inl rfl
          | ok r2 =>
            dsimp only
            rcases term_low sg k bd r2 with h | h
            · rw [h]
              cases termM sg (k + 1) bd r2 with
              | error e => exact .inl rfl
              | ok x =>
                obtain ⟨a, r3⟩ := x
                dsimp only
                cases takeM mQ r3 with
                | error e => exact .inl rfl
                | ok r4 =>
                  dsimp only
                  rcases term_low sg k (s :: bd) r4 with h2 | h2
                  · rw [h2]; exact .inl rfl
                  · rw [h2]; exact .inr rfl
            · rw [h]; exact .inr rfl
      · split
        · cases nameM l with
          | error e => exact .inl rfl
          | ok x =>
            obtain ⟨s, r1⟩ := x
            dsimp only
            cases takeM mR r1 with
            | error e => exact .inl rfl
            | ok r2 =>
              dsimp only
              rcases term_low sg k (s :: bd) r2 with h2 | h2
              · rw [h2]; exact .inl rfl
              · rw [h2]; exact .inr rfl
        · exact app_low (term_low sg k bd) _

/-- what is told is told by the other one, too -/
def Too (f g : List Tk → Except Int (T × List Tk)) : Prop := ∀ l x, f l = .ok x → g l = .ok x
theorem posD_more {s : ByteArray} {x : Nat × T} (ds : List (ByteArray × T)) : ∀ {sg : List (ByteArray × T)}, posD s sg = some x → posD s (sg ++ ds) = some x
  | [], h => by cases h
  | d :: sg, h => by
    rw [posD] at h
    rw [List.cons_append, posD]
    split at h
    · rename_i e; rw [if_pos e]; exact h
    · rename_i e
      rw [if_neg e]
      cases hp : posD s sg with
      | none => rw [hp] at h; cases h
      | some y => rw [hp] at h; rw [posD_more ds hp]; exact h
theorem head_more {sg ds : List (ByteArray × T)} {bd : List ByteArray} {s : ByteArray} {t : T} (h : headM sg bd s = .ok t) : headM (sg ++ ds) bd s = .ok t := by
  unfold headM at h ⊢
  split at h
  · exact h
  · split at h
    · rename_i x hx
      rw [posD_more ds hx]; exact h
    · cases h
theorem args_more {sg ds bd f g} (hi : Too f g) : ∀ (n : Nat) (l : List Tk) (x : List T × List Tk), argsM sg bd f n l = .ok x → argsM (sg ++ ds) bd g n l = .ok x
  | 0, l, x, h => h
  | n + 1, [], x, h => h
  | n + 1, t :: l, x, h => by
    rw [argsM] at h ⊢
    split at h
    · rename_i e
      rw [if_pos e]
      split at h
      · cases h
      · rename_i u r1 h1
        rw [hi _ _ h1]
        dsimp only
        split at h
        · cases h
        · rename_i r2 h2
          split at h
          · cases h
          · rename_i us r3 h3
            rw [args_more hi n _ _ h3]; exact h
    · rename_i e
      rw [if_neg e]
      split at h
      · rename_i e2
        rw [if_pos e2]
        split at h
        · cases h
        · rename_i e3
          rw [if_neg e3]
          split at h
          · cases h
          · rename_i u hu
            rw [head_more hu]
            dsimp only
            split at h
            · cases h
            · rename_i us r3 h3
              rw [args_more hi n _ _ h3]; exact h
      · rename_i e2
        rw [if_neg e2]; exact h
theorem app_more {sg ds bd f g} (hi : Too f g) : Too (appM sg bd f) (appM (sg ++ ds) bd g) := by
  intro l x h
  cases l with
  | nil => cases h
  | cons t l =>
    rw [appM] at h ⊢
    split at h
    · rename_i e
      rw [if_pos e]
      split at h
      · cases h
      · rename_i u r1 h1
        rw [hi _ _ h1]
        exact h
    · rename_i e
      rw [if_neg e]
      split at h
      · rename_i e2
        rw [if_pos e2]
        split at h
        · rename_i e3
          rw [if_pos e3]; exact h
        · rename_i e3
          rw [if_neg e3]
          split at h
          · cases h
          · rename_i u hu
            rw [head_more hu]
            dsimp only
            split at h
            · cases h
            · rename_i us r3 h3
              rw [args_more hi _ _ _ h3]; exact h
      · cases h
/-- over more declarations a term is read as it was -/
theorem term_more (sg ds : List (ByteArray × T)) : ∀ (k : Nat) (bd : List ByteArray), Too (termM sg k bd) (termM (sg ++ ds) k bd)
  | 0, _ => fun l x h => by rw [termM] at h; cases h
  | k + 1, bd => by
    intro l x h
    cases l with
    | nil => rw [termM] at h; cases h
    | cons t l =>
      rw [termM] at h ⊢
      split at h
      · rename_i e
        rw [if_pos e]
        split at h
        · cases h
        · rename_i s r1 h1
          split at h
          · cases h
          · rename_i r2 h2
            split at h
            · cases h
            · rename_i a r3 h3
              rw [term_more sg ds k bd _ _ h3]
              dsimp only
              split at h
              · cases h
              · rename_i r4 h4
                split at h
                · cases h
                · rename_i b r5 h5
                  rw [term_more sg ds k (s :: bd) _ _ h5]; exact h
      · rename_i e
        rw [if_neg e]
        split at h
        · rename_i e2
          rw [if_pos e2]
          split at h
          · cases h
          · rename_i s r1 h1
            split at h
            · cases h
            · rename_i r2 h2
              split at h
              · cases h
              · rename_i b r3 h3
                rw [term_more sg ds k (s :: bd) _ _ h3]; exact h
        · rename_i e2
          rw [if_neg e2]
          exact app_more (term_more sg ds k bd) _ _ h

/-- what stands behind, where something was left, changes nothing -/
def Ext (f : List Tk → Except Int (T × List Tk)) : Prop := ∀ l a r, f l = .ok (a, r) → r ≠ [] → ∀ x, f (l ++ x) = .ok (a, r ++ x)
theorem take_ext {m : Tk} {l r : List Tk} (h : takeM m l = .ok r) (x : List Tk) : takeM m (l ++ x) = .ok (r ++ x) := by
  rw [take_ok h]; exact take_at m (r ++ x)
theorem name_ext {s : ByteArray} {l r : List Tk} (h : nameM l = .ok (s, r)) (x : List Tk) : nameM (l ++ x) = .ok (s, r ++ x) := by
  rw [name_ok h]; exact name_at s (r ++ x)
theorem beg_ext {l : List Tk} (h : l ≠ []) (x : List Tk) : begM (l ++ x) = begM l := by
  cases l with
  | nil => exact absurd rfl h
  | cons t l => rfl
theorem args_ext {sg bd f} (hi : Ext f) (hs : Sho f) : ∀ (n m : Nat) (l : List Tk) (us : List T) (r : List Tk), l.length ≤ n → ∀ x : List Tk, (l ++ x).length ≤ m → argsM sg bd f n l = .ok (us, r) → r ≠ [] → argsM sg bd f m (l ++ x) = .ok (us, r ++ x)
  | 0, m, [], us, r, hn, x, hm, h, hr => by rw [argsM] at h; cases h; exact absurd rfl hr
  | n + 1, m, [], us, r, hn, x, hm, h, hr => by rw [argsM] at h; cases h; exact absurd rfl hr
  | n + 1, 0, t :: l, us, r, hn, x, hm, h, hr => by simp at hm
  | n + 1, m + 1, t :: l, us, r, hn, x, hm, h, hr => by
    rw [argsM] at h
    rw [List.cons_append, argsM]
    simp only [List.cons_append, List.length_cons] at hn hm
    split at h
    · rename_i e
      rw [if_pos e]
      split at h
      · cases h
      · rename_i u r1 h1
        split at h
        · cases h
        · rename_i r2 h2
          have a1 := hs _ _ _ h1
          have a2 := take_ok h2
          rw [hi _ _ _ h1 (by rw [a2]; simp) x]
          dsimp only
          rw [take_ext h2 x]
          dsimp only
          split at h
          · cases h
          · rename_i us' r3 h3
            cases h
            have a3 := congrArg List.length a2
            simp only [List.length_cons, List.length_append] at a3 hm
            rw [args_ext hi hs n m r2 us' r (by omega) x (by rw [List.length_append]; omega) h3 hr]
    · rename_i e
      rw [if_neg e]
      split at h
      · rename_i e2
        rw [if_pos e2]
        split at h
        · cases h
        · rename_i e3
          rw [if_neg e3]
          split at h
          · cases h
          · rename_i u hu
            split at h
            · cases h
            · rename_i us' r3 h3
              cases h
              rw [args_ext hi hs n m l us' r (by omega) x (by omega) h3 hr]
      · rename_i e2
        rw [if_neg e2]
        cases h
        rfl
theorem app_ext {sg bd f} (hi : Ext f) (hs : Sho f) : Ext (appM sg bd f) := by
  intro l a r h hr x
  cases l with
  | nil => cases h
  | cons t l =>
    rw [appM] at h
    rw [List.cons_append, appM]
    split at h
    · rename_i e
      rw [if_pos e]
      split at h
      · cases h
      · rename_i u r1 h1
        split at h
        · cases h
        · rename_i r2 h2
          rw [hi _ _ _ h1 (by rw [take_ok h2]; simp) x]
          dsimp only
          rw [take_ext h2 x]
          dsimp only
          split at h
          · cases h
          · rename_i hb
            cases h
            rw [beg_ext hr, if_neg hb]
    · rename_i e
      rw [if_neg e]
      split at h
      · rename_i e2
        rw [if_pos e2]
        split at h
        · rename_i e3
          rw [if_pos e3]
          split at h
          · cases h
          · rename_i hb
            cases h
            rw [beg_ext hr, if_neg hb]
        · rename_i e3
          rw [if_neg e3]
          split at h
          · cases h
          · rename_i u hu
            split at h
            · cases h
            · rename_i us r3 h3
              cases h
              rw [args_ext hi hs l.length (l ++ x).length l us r (Nat.le_refl _) x (Nat.le_refl _) h3 hr]
      · cases h
theorem term_ext (sg : List (ByteArray × T)) : ∀ (k : Nat) (bd : List ByteArray), Ext (termM sg k bd)
  | 0, _ => fun l a r h => by rw [termM] at h; cases h
  | k + 1, bd => by
    intro l a r h hr x
    cases l with
    | nil => rw [termM] at h; cases h
    | cons t l =>
      rw [termM] at h
      rw [List.cons_append, termM]
      split at h
      · rename_i e
        rw [if_pos e]
        split at h
        · cases h
        · rename_i s r1 h1
          rw [name_ext h1 x]
          dsimp only
          split at h
          · cases h
          · rename_i r2 h2
            rw [take_ext h2 x]
            dsimp only
            split at h
            · cases h
            · rename_i a' r3 h3
              split at h
              · cases h
              · rename_i r4 h4
                rw [term_ext sg k bd _ _ _ h3 (by rw [take_ok h4]; simp) x]
                dsimp only
                rw [take_ext h4 x]
                dsimp only
                split at h
                · cases h
                · rename_i b r5 h5
                  cases h
                  rw [term_ext sg k (s :: bd) _ _ _ h5 hr x]
      · rename_i e
        rw [if_neg e]
        split at h
        · rename_i e2
          rw [if_pos e2]
          split at h
          · cases h
          · rename_i s r1 h1
            rw [name_ext h1 x]
            dsimp only
            split at h
            · cases h
            · rename_i r2 h2
              rw [take_ext h2 x]
              dsimp only
              split at h
              · cases h
              · rename_i b r3 h3
                cases h
                rw [term_ext sg k (s :: bd) _ _ _ h3 hr x]
        · rename_i e2
          rw [if_neg e2]
          exact app_ext (term_ext sg k bd) (term_sho sg k bd) _ _ _ h hr x

/-- what is left is of what there was -/
def SubK (f : List Tk → Except Int (T × List Tk)) : Prop := ∀ l a r, f l = .ok (a, r) → ∀ t ∈ r, t ∈ l
theorem args_sub {sg bd inner} (hi : SubK inner) : ∀ (n : Nat) (l : List Tk) (us : List T) (r : List Tk), argsM sg bd inner n l = .ok (us, r) → ∀ t ∈ r, t ∈ l
  | 0, l, us, r, h => by rw [argsM] at h; cases h; exact fun t ht => ht
  | n + 1, [], us, r, h => by rw [argsM] at h; cases h; exact fun t ht => ht
  | n + 1, t :: l, us, r, h => by
    rw [argsM] at h
    split at h
    · split at h
      · cases h
      · rename_i u r1 h1
        split at h
        · cases h
        · rename_i r2 h2
          split at h
          · cases h
          · rename_i us' r3 h3
            cases h
            intro y hy
            exact List.mem_cons_of_mem _ (hi _ _ _ h1 y (by rw [take_ok h2]; exact List.mem_cons_of_mem _ (args_sub hi n _ _ _ h3 y hy)))
    · split at h
      · split at h
        · cases h
        · split at h
          · cases h
          · split at h
            · cases h
            · rename_i us' r3 h3
              cases h
              intro y hy
              exact List.mem_cons_of_mem _ (args_sub hi n _ _ _ h3 y hy)
      · cases h; exact fun t ht => ht
theorem app_sub {sg bd inner} (hi : SubK inner) : SubK (appM sg bd inner) := by
  intro l a r h
  cases l with
  | nil => cases h
  | cons t l =>
    rw [appM] at h
    split at h
    · split at h
      · cases h
      · rename_i u r1 h1
        split at h
        · cases h
        · rename_i r2 h2
          split at h
          · cases h
          · cases h
            intro y hy
            exact List.mem_cons_of_mem _ (hi _ _ _ h1 y (by rw [take_ok h2]; exact List.mem_cons_of_mem _ hy))
    · split at h
      · split at h
        · split at h
          · cases h
          · cases h; exact fun y hy => List.mem_cons_of_mem _ hy
        · split at h
          · cases h
          · split at h
            · cases h
            · rename_i us r3 h3
              cases h
              exact fun y hy => List.mem_cons_of_mem _ (args_sub hi _ _ _ _ h3 y hy)
      · cases h
theorem term_sub (sg : List (ByteArray × T)) : ∀ (k : Nat) (bd : List ByteArray), SubK (termM sg k bd)
  | 0, _ => fun l a r h => by rw [termM] at h; cases h
  | k + 1, bd => by
    intro l a r h
    cases l with
    | nil => rw [termM] at h; cases h
    | cons t l =>
      rw [termM] at h
      split at h
      · split at h
        · cases h
        · rename_i s r1 h1
          split at h
          · cases h
          · rename_i r2 h2
            split at h
            · cases h
            · rename_i a' r3 h3
              split at h
              · cases h
              · rename_i r4 h4
                split at h
                · cases h
                · rename_i b r5 h5
                  cases h
                  intro y hy
                  have y4 := term_sub sg k (s :: bd) _ _ _ h5 y hy
                  have y2 := term_sub sg k bd _ _ _ h3 y (by rw [take_ok h4]; exact List.mem_cons_of_mem _ y4)
                  rw [name_ok h1, take_ok h2]
                  exact List.mem_cons_of_mem _ (List.mem_cons_of_mem _ (List.mem_cons_of_mem _ y2))
      · split at h
        · split at h
          · cases h
          · rename_i s r1 h1
            split at h
            · cases h
            · rename_i r2 h2
              split at h
              · cases h
              · rename_i b r3 h3
                cases h
                intro y hy
                have y2 := term_sub sg k (s :: bd) _ _ _ h3 y hy
                rw [name_ok h1, take_ok h2]
                exact List.mem_cons_of_mem _ (List.mem_cons_of_mem _ (List.mem_cons_of_mem _ y2))
        · exact app_sub (term_sub sg k bd) _ _ _ h

/-- a name that is not there may be bound around -/
theorem posB_out {s s0 : ByteArray} (h : s ≠ s0) : ∀ bd : List ByteArray, posB s (bd ++ [s0]) = posB s bd
  | [] => by
    show (if s0 = s then some 0 else (posB s []).map (· + 1)) = posB s []
    rw [if_neg (fun e => h e.symm)]; rfl
  | b :: bd => by
    rw [List.cons_append, posB, posB, posB_out h bd]
theorem head_out {sg : List (ByteArray × T)} {bd : List ByteArray} {s s0 : ByteArray} (h : s ≠ s0) : headM sg (bd ++ [s0]) s = headM sg bd s := by
  unfold headM
  rw [posB_out h]
/-- the same for what hasn't the name -/
def Out (s0 : ByteArray) (f g : List Tk → Except Int (T × List Tk)) : Prop := ∀ l, ((0, s0) : Tk) ∉ l → f l = g l
theorem args_out {sg bd f g} {s0 : ByteArray} (hi : Out s0 f g) (hs : SubK g) : ∀ (n : Nat) (l : List Tk), ((0, s0) : Tk) ∉ l → argsM sg (bd ++ [s0]) f n l = argsM sg bd g n l
  | 0, l, _ => rfl
  | n + 1, [], _ => rfl
  | n + 1, t :: l, h => by
    have hl : ((0, s0) : Tk) ∉ l := fun e => h (List.mem_cons_of_mem _ e)
    rw [argsM, argsM]
    split
    · rw [hi l hl]
      cases h1 : g l with
      | error e => rfl
      | ok x =>
        obtain ⟨u, r1⟩ := x
        dsimp only
        cases h2 : takeM mC r1 with
        | error e => rfl
        | ok r2 =>
          dsimp only
          rw [args_out hi hs n r2 (fun e => hl (hs _ _ _ h1 _ (by rw [take_ok h2]; exact List.mem_cons_of_mem _ e)))]
    · split
      · rename_i e2
        split
        · rfl
        · rw [head_out (fun e => h (by rw [← e, ← e2]; exact List.mem_cons_self))]
          cases headM sg bd t.2 with
          | error e => rfl
          | ok u =>
            dsimp only
            rw [args_out hi hs n l hl]
      · rfl
theorem app_out {sg bd f g} {s0 : ByteArray} (hi : Out s0 f g) (hs : SubK g) : Out s0 (appM sg (bd ++ [s0]) f) (appM sg bd g) := by
  intro l h
  cases l with
  | nil => rfl
  | cons t l =>
    have hl : ((0, s0) : Tk) ∉ l := fun e => h (List.mem_cons_of_mem _ e)
    rw [appM, appM]
    split
    · rw [hi l hl]
    · split
      · rename_i e2
        split
        · rfl
        · rw [head_out (fun e => h (by rw [← e, ← e2]; exact List.mem_cons_self))]
          cases headM sg bd t.2 with
          | error e => rfl
          | ok u =>
            dsimp only
            rw [args_out hi hs _ l hl]
      · rfl
theorem term_out (sg : List (ByteArray × T)) (s0 : ByteArray) : ∀ (k : Nat) (bd : List ByteArray), Out s0 (termM sg k (bd ++ [s0])) (termM sg k bd)
  | 0, bd => fun l h => by
    rw [termM, termM]
    cases l with
    | nil => rfl
    | cons t l =>
      simp only [zerM]
      split
      · rfl
      · split
        · rfl
        · split
          · rfl
          · split
            · rename_i e0
              have hne : t.2 ≠ s0 := fun e => h (by
                rw [show t = ((0, s0) : Tk) from Prod.ext e0 e]; exact List.mem_cons_self)
              rw [head_out hne]
            · rfl
  | k + 1, bd => by
    intro l h
    cases l with
    | nil => rfl
    | cons t l =>
      have hl : ((0, s0) : Tk) ∉ l := fun e => h (List.mem_cons_of_mem _ e)
      rw [termM, termM]
      split
      · cases h1 : nameM l with
        | error e => rfl
        | ok x =>
          obtain ⟨s, r1⟩ := x
          dsimp only
          cases h2 : takeM mK r1 with
          | error e => rfl
          | ok r2 =>
            dsimp only
            have hl2 : ((0, s0) : Tk) ∉ r2 := fun e => hl (by rw [name_ok h1, take_ok h2]; exact List.mem_cons_of_mem _ (List.mem_cons_of_mem _ e))
            rw [term_out sg s0 k bd r2 hl2]
            cases h3 : termM sg k bd r2 with
            | error e => rfl
            | ok x =>
              obtain ⟨a, r3⟩ := x
              dsimp only
              cases h4 : takeM mQ r3 with
              | error e => rfl
              | ok r4 =>
                dsimp only
                have hl4 : ((0, s0) : Tk) ∉ r4 := fun e => hl2 (term_sub sg k bd _ _ _ h3 _ (by rw [take_ok h4]; exact List.mem_cons_of_mem _ e))
                rw [← List.cons_append, term_out sg s0 k (s :: bd) r4 hl4]
      · split
        · cases h1 : nameM l with
          | error e => rfl
          | ok x =>
            obtain ⟨s, r1⟩ := x
            dsimp only
            cases h2 : takeM mR r1 with
            | error e => rfl
            | ok r2 =>
              dsimp only
              have hl2 : ((0, s0) : Tk) ∉ r2 := fun e => hl (by rw [name_ok h1, take_ok h2]; exact List.mem_cons_of_mem _ (List.mem_cons_of_mem _ e))
              rw [← List.cons_append, term_out sg s0 k (s :: bd) r2 hl2]
        · exact app_out (term_out sg s0 k bd) (term_sub sg k bd) _ h

/-- a TERM that may be; 'may' tells which -/
def wholeM (may : T → Bool) (sg : List (ByteArray × T)) (l : List Tk) : Except Int (T × List Tk) :=
  match termM sg 120 [] l with
  | .error e => .error e
  | .ok (t, r) => if may t = true then .ok (t, r) else .error 4
/-- a declaration; 'nm' tells which names may be declared -/
def declM (may : T → Bool) (nm : ByteArray → Bool) (sg : List (ByteArray × T)) (l : List Tk) : Except Int ((ByteArray × T) × List Tk) :=
  match nameM l with
  | .error e => .error e
  | .ok (s, r1) =>
    if nm s = true ∧ posD s sg = none then
      match takeM mK r1 with
      | .error e => .error e
      | .ok r2 => match wholeM may sg r2 with
        | .error e => .error e
        | .ok (t, r3) => match takeM mD r3 with
          | .error e => .error e
          | .ok r4 => .ok ((s, t), r4)
    else .error 8
/-- declarations, of as many tokens as the number has -/
def declsM (may : T → Bool) (nm : ByteArray → Bool) : Nat → List (ByteArray × T) → List Tk → Except Int (List (ByteArray × T))
  | _, sg, [] => .ok sg
  | 0, sg, _ :: _ => .error 0
  | n + 1, sg, t :: l =>
    if 40 ≤ sg.length then .error 4
    else match declM may nm sg (t :: l) with
      | .error e => .error e
      | .ok (d, r) => declsM may nm n (sg ++ [d]) r
theorem whole_ok {may sg l t r} (h : wholeM may sg l = .ok (t, r)) : termM sg 120 [] l = .ok (t, r) ∧ may t = true := by
  unfold wholeM at h
  split at h
  · cases h
  · rename_i t' r' h'
    split at h
    · rename_i hm
      cases h
      exact ⟨h', hm⟩
    · cases h
theorem whole_ext {may sg l t r} (h : wholeM may sg l = .ok (t, r)) (hr : r ≠ []) (x : List Tk) : wholeM may sg (l ++ x) = .ok (t, r ++ x) := by
  obtain ⟨h1, h2⟩ := whole_ok h
  unfold wholeM
  rw [term_ext sg 120 [] _ _ _ h1 hr x]
  dsimp only
  rw [if_pos h2]
theorem decl_ext {may nm sg l d r} (h : declM may nm sg l = .ok (d, r)) (x : List Tk) : declM may nm sg (l ++ x) = .ok (d, r ++ x) := by
  unfold declM at h ⊢
  split at h
  · cases h
  · rename_i s r1 h1
    rw [name_ext h1 x]
    dsimp only
    split at h
    · rename_i hn
      rw [if_pos hn]
      split at h
      · cases h
      · rename_i r2 h2
        rw [take_ext h2 x]
        dsimp only
        split at h
        · cases h
        · rename_i t r3 h3
          split at h
          · cases h
          · rename_i r4 h4
            cases h
            rw [whole_ext h3 (by rw [take_ok h4]; simp) x]
            dsimp only
            rw [take_ext h4 x]
    · cases h
theorem decl_len {may nm sg l d r} (h : declM may nm sg l = .ok (d, r)) : r.length < l.length := by
  unfold declM at h
  split at h
  · cases h
  · rename_i s r1 h1
    split at h
    · split at h
      · cases h
      · rename_i r2 h2
        split at h
        · cases h
        · rename_i t r3 h3
          split at h
          · cases h
          · rename_i r4 h4
            cases h
            have a1 := congrArg List.length (name_ok h1)
            have a2 := congrArg List.length (take_ok h2)
            have a3 := term_sho sg 120 [] _ _ _ (whole_ok h3).1
            have a4 := congrArg List.length (take_ok h4)
            simp only [List.length_cons] at a1 a2 a4
            omega
    · cases h
/-- more fuel tells no other -/
theorem decls_fuel {may nm} : ∀ (n m : Nat) (sg : List (ByteArray × T)) (l : List Tk), l.length ≤ n → l.length ≤ m → declsM may nm n sg l = declsM may nm m sg l
  | 0, 0, sg, l, _, _ => rfl
  | 0, m + 1, sg, [], _, _ => rfl
  | n + 1, 0, sg, [], _, _ => rfl
  | n + 1, m + 1, sg, [], _, _ => rfl
  | n + 1, m + 1, sg, t :: l, hn, hm => by
    rw [declsM, declsM]
    split
    · rfl
    · cases h : declM may nm sg (t :: l) with
      | error e => rfl
      | ok x =>
        obtain ⟨d, r⟩ := x
        have := decl_len h
        exact decls_fuel n m _ r (by omega) (by omega)
/-- what stands behind is read over what was declared ahead -/
theorem decls_join {may nm} : ∀ (n m : Nat) (sg sg' : List (ByteArray × T)) (l x : List Tk), l.length ≤ n → (l ++ x).length ≤ m → declsM may nm n sg l = .ok sg' → declsM may nm m sg (l ++ x) = declsM may nm x.length sg' x
  | n, m, sg, sg', [], x, hn, hm, h => by
    cases n <;> (rw [declsM] at h; cases h; exact decls_fuel _ _ _ x (by simpa using hm) (Nat.le_refl _))
  | 0, m, sg, sg', t :: l, x, hn, hm, h => by simp at hn
  | n + 1, 0, sg, sg', t :: l, x, hn, hm, h => by simp at hm
  | n + 1, m + 1, sg, sg', t :: l, x, hn, hm, h => by
    rw [declsM] at h
    rw [List.cons_append, declsM]
    split at h
    · cases h
    · rename_i h40
      rw [if_neg h40]
      split at h
      · cases h
      · rename_i d r hd
        rw [← List.cons_append, decl_ext hd x]
        dsimp only
        have a1 := decl_len hd
        simp only [List.length_append, List.length_cons] at hn hm a1
        exact decls_join n m _ sg' r x (by omega) (by rw [List.length_append]; omega) h
/-- what was declared ahead is still there -/
theorem decls_ahead {may nm} : ∀ (n : Nat) (sg sg' : List (ByteArray × T)) (l : List Tk), declsM may nm n sg l = .ok sg' → ∃ ds, sg' = sg ++ ds
  | n, sg, sg', [], h => by
    cases n <;> (rw [declsM] at h; cases h; exact ⟨[], by simp⟩)
  | 0, sg, sg', t :: l, h => by rw [declsM] at h; cases h
  | n + 1, sg, sg', t :: l, h => by
    rw [declsM] at h
    split at h
    · cases h
    · split at h
      · cases h
      · rename_i d r hd
        obtain ⟨ds, e⟩ := decls_ahead n _ sg' r h
        exact ⟨d :: ds, by rw [e]; simp⟩
end Go.Proofs.YtmkahbbcagfbhaaDoor
