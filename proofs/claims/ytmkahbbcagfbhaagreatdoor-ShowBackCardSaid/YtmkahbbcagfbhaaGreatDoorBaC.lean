/-
  Texts with declarations and terms as plain data: what tokens come to (the document's reading of them), and what holds of that. No statement is proved here.
-/
import Derived.Test.YtmkahbbcagfbhaaGreatDoorXa
import Derived.Test.YtmkahbbcagfbhaaGreatDoorQa
namespace Go.Proofs.YtmkahbbcagfbhaaGreatDoor
open Go.ChangeShapes Go.WideShapes Go.ChangeAt Go.RowKit
set_option linter.unusedVariables false
/-- the marks -/
def mO : Tk := (1, ⟨#[40]⟩)
def mC : Tk := (1, ⟨#[41]⟩)
def mL : Tk := (1, ⟨#[91]⟩)
def mR : Tk := (1, ⟨#[93]⟩)
def mP : Tk := (1, ⟨#[123]⟩)
def mQ : Tk := (1, ⟨#[125]⟩)
def mK : Tk := (1, ⟨#[58]⟩)
def mD : Tk := (1, ⟨#[46]⟩)
/-- the name that is the Sort -/
def tyN : ByteArray := ⟨#[116, 121, 112, 101]⟩
/-- a mark must stand there -/
def takeM (m : Tk) : List Tk → Except Int (List Tk)
  | [] => .error 8
  | t :: l => if t = m then .ok l else .error 8
/-- a name must stand there -/
def nameM : List Tk → Except Int (ByteArray × List Tk)
  | [] => .error 8
  | t :: l => if t.1 = 0 then .ok (t.2, l) else .error 8
/-- may an atom begin there -/
def begM : List Tk → Bool
  | [] => false
  | t :: _ => decide (t = mO) || decide (t.1 = 0)
/-- which one it is, of those that bind (the nearest one first) -/
def posB (s : ByteArray) : List ByteArray → Option Nat
  | [] => none
  | b :: l => if b = s then some 0 else (posB s l).map (· + 1)
/-- which one it is, of those declared -/
def posD (s : ByteArray) : List (ByteArray × T) → Option (Nat × T)
  | [] => none
  | d :: l => if d.1 = s then some (0, d.2) else (posD s l).map fun x => (x.1 + 1, x.2)
/-- what a name is -/
def headM (sg : List (ByteArray × T)) (bd : List ByteArray) (s : ByteArray) : Except Int T :=
  match posB s bd with
  | some i => .ok (.node 4 i [])
  | none => match posD s sg with
    | some x => .ok (.node (if kiB x.2 = true then 2 else 5) x.1 [])
    | none => .error 2
/-- the others of a head -/
def argsM (sg : List (ByteArray × T)) (bd : List ByteArray) (inner : List Tk → Except Int (T × List Tk)) : Nat → List Tk → Except Int (List T × List Tk)
  | 0, l => .ok ([], l)
  | _ + 1, [] => .ok ([], [])
  | n + 1, t :: r =>
    if t = mO then
      match inner r with
      | .error e => .error e
      | .ok (u, r1) => match takeM mC r1 with
        | .error e => .error e
        | .ok r2 => match argsM sg bd inner n r2 with
          | .error e => .error e
          | .ok (us, r3) => .ok (u :: us, r3)
    else if t.1 = 0 then
      if t.2 = tyN then .error 8
      else match headM sg bd t.2 with
        | .error e => .error e
        | .ok u => match argsM sg bd inner n r with
          | .error e => .error e
          | .ok (us, r3) => .ok (u :: us, r3)
    else .ok ([], t :: r)
/-- a head with others -/
def addA : T → List T → T
  | .node k h xs, us => .node k h (xs ++ us)
/-- atoms -/
def appM (sg : List (ByteArray × T)) (bd : List ByteArray) (inner : List Tk → Except Int (T × List Tk)) : List Tk → Except Int (T × List Tk)
  | [] => .error 8
  | t :: r =>
    if t = mO then
      match inner r with
      | .error e => .error e
      | .ok (u, r1) => match takeM mC r1 with
        | .error e => .error e
        | .ok r2 => if begM r2 = true then .error 8 else .ok (u, r2)
    else if t.1 = 0 then
      if t.2 = tyN then if begM r = true then .error 8 else .ok (.node 0 0 [], r)
      else match headM sg bd t.2 with
        | .error e => .error e
        | .ok u => match argsM sg bd inner r.length r with
          | .error e => .error e
          | .ok (us, r3) => .ok (addA u us, r3)
    else .error 8
/-- what is wrong with a TERM that is one too many: its first token, or that -/
def zerM (sg : List (ByteArray × T)) (bd : List ByteArray) : List Tk → Int
  | [] => 8
  | t :: _ =>
    if t = mP then 4
    else if t = mL then 4
    else if t = mO then 4
    else if t.1 = 0 then
      if t.2 = tyN then 4
      else match headM sg bd t.2 with
        | .error e => e
        | .ok _ => 4
    else 8
/-- a TERM; the number: how many may be one in the other -/
def termM (sg : List (ByteArray × T)) : Nat → List ByteArray → List Tk → Except Int (T × List Tk)
  | 0, bd, l => .error (zerM sg bd l)
  | _ + 1, _, [] => .error 8
  | k + 1, bd, t :: r =>
    if t = mP then
      match nameM r with
      | .error e => .error e
      | .ok (s, r1) => match takeM mK r1 with
        | .error e => .error e
        | .ok r2 => match termM sg k bd r2 with
          | .error e => .error e
          | .ok (a, r3) => match takeM mQ r3 with
            | .error e => .error e
            | .ok r4 => match termM sg k (s :: bd) r4 with
              | .error e => .error e
              | .ok (b, r5) => .ok (.node 1 0 [a, b], r5)
    else if t = mL then
      match nameM r with
      | .error e => .error e
      | .ok (s, r1) => match takeM mR r1 with
        | .error e => .error e
        | .ok r2 => match termM sg k (s :: bd) r2 with
          | .error e => .error e
          | .ok (b, r3) => .ok (.node 3 0 [b], r3)
    else appM sg bd (termM sg k bd) (t :: r)
theorem take_ok {m : Tk} {l r : List Tk} (h : takeM m l = .ok r) : l = m :: r := by
  cases l with
  | nil => cases h
  | cons t l =>
    rw [takeM] at h
    split at h
    · rename_i e; cases h; rw [e]
    · cases h
theorem name_ok {s : ByteArray} {l r : List Tk} (h : nameM l = .ok (s, r)) : l = (0, s) :: r := by
  cases l with
  | nil => cases h
  | cons t l =>
    obtain ⟨t1, t2⟩ := t
    rw [nameM] at h
    split at h
    · rename_i e; cases h; cases e; rfl
    · cases h
theorem take_at (m : Tk) (r : List Tk) : takeM m (m :: r) = .ok r := if_pos rfl
theorem name_at (s : ByteArray) (r : List Tk) : nameM ((0, s) :: r) = .ok (s, r) := by rw [nameM, if_pos rfl]
/-- what is told is shorter -/
def Sho {α : Type} (f : List Tk → Except Int (α × List Tk)) : Prop := ∀ l a r, f l = .ok (a, r) → r.length < l.length
theorem args_le {sg bd inner} (hi : Sho inner) : ∀ (n : Nat) (l : List Tk) (us : List T) (r : List Tk), argsM sg bd inner n l = .ok (us, r) → r.length ≤ l.length
  | 0, l, us, r, h => by rw [argsM] at h; cases h; exact Nat.le_refl _
  | n + 1, [], us, r, h => by rw [argsM] at h; cases h; exact Nat.le_refl _
  | n + 1, t :: l, us, r, h => by
    rw [argsM] at h
    split at h
    · split at h
      · cases h
      · rename_i u r1 h1
        split at h
        · cases h
        · rename_i r2 h2
          split at h
          · cases h
          · rename_i us' r3 h3
            cases h
            have a1 := hi _ _ _ h1
            have a2 := take_ok h2
            have a3 := args_le hi n _ _ _ h3
            rw [a2] at a1
            simp only [List.length_cons] at a1 ⊢
            omega
    · split at h
      · split at h
        · cases h
        · split at h
          · cases h
          · split at h
            · cases h
            · rename_i us' r3 h3
              cases h
              have a3 := args_le hi n _ _ _ h3
              simp only [List.length_cons]
              omega
      · cases h; exact Nat.le_refl _
theorem app_sho {sg bd inner} (hi : Sho inner) : Sho (appM sg bd inner) := by
  intro l a r h
  cases l with
  | nil => cases h
  | cons t l =>
    rw [appM] at h
    split at h
    · split at h
      · cases h
      · rename_i u r1 h1
        split at h
        · cases h
        · rename_i r2 h2
          split at h
          · cases h
          · cases h
            have a1 := hi _ _ _ h1
            have a2 := take_ok h2
            rw [a2] at a1
            simp only [List.length_cons] at a1 ⊢
            omega
    · split at h
      · split at h
        · split at h
          · cases h
          · cases h; simp
        · split at h
          · cases h
          · split at h
            · cases h
            · rename_i us r3 h3
              cases h
              have a3 := args_le hi _ _ _ _ h3
              simp only [List.length_cons]
              omega
      · cases h
theorem term_sho (sg : List (ByteArray × T)) : ∀ (k : Nat) (bd : List ByteArray), Sho (termM sg k bd)
  | 0, _ => fun l a r h => by rw [termM] at h; cases h
  | k + 1, bd => by
    intro l a r h
    cases l with
    | nil => rw [termM] at h; cases h
    | cons t l =>
      rw [termM] at h
      split at h
      · split at h
        · cases h
        · rename_i s r1 h1
          split at h
          · cases h
          · rename_i r2 h2
            split at h
            · cases h
            · rename_i a' r3 h3
              split at h
              · cases h
              · rename_i r4 h4
                split at h
                · cases h
                · rename_i b r5 h5
                  cases h
                  have e1 := congrArg List.length (name_ok h1)
                  have e2 := congrArg List.length (take_ok h2)
                  have e3 := term_sho sg k bd _ _ _ h3
                  have e4 := congrArg List.length (take_ok h4)
                  have e5 := term_sho sg k (s :: bd) _ _ _ h5
                  simp only [List.length_cons] at e1 e2 e4 ⊢
                  omega
      · split at h
        · split at h
          · cases h
          · rename_i s r1 h1
            split at h
            · cases h
            · rename_i r2 h2
              split at h
              · cases h
              · rename_i b r3 h3
                cases h
                have e1 := congrArg List.length (name_ok h1)
                have e2 := congrArg List.length (take_ok h2)
                have e3 := term_sho sg k (s :: bd) _ _ _ h3
                simp only [List.length_cons] at e1 e2 ⊢
                omega
        · exact app_sho (term_sho sg k bd) _ _ _ h
/-- more fuel tells no other -/
theorem args_fuel {sg bd inner} (hi : Sho inner) : ∀ (n m : Nat) (l : List Tk), l.length ≤ n → l.length ≤ m → argsM sg bd inner n l = argsM sg bd inner m l
  | 0, 0, l, _, _ => rfl
  | 0, m + 1, [], _, _ => rfl
  | n + 1, 0, [], _, _ => rfl
  | n + 1, m + 1, [], _, _ => rfl
  | n + 1, m + 1, t :: l, hn, hm => by
    rw [argsM, argsM]
    simp only [List.length_cons] at hn hm
    split
    · cases h1 : inner l with
      | error e => rfl
      | ok x =>
        obtain ⟨u, r1⟩ := x
        dsimp only
        cases h2 : takeM mC r1 with
        | error e => rfl
        | ok r2 =>
          dsimp only
          have a1 := hi _ _ _ h1
          have a2 := congrArg List.length (take_ok h2)
          simp only [List.length_cons] at a2
          rw [args_fuel hi n m r2 (by omega) (by omega)]
    · split
      · split
        · rfl
        · cases headM sg bd t.2 with
          | error e => rfl
          | ok u =>
            dsimp only
            rw [args_fuel hi n m l (by omega) (by omega)]
      · rfl
/-- a TERM that may be; 'may' tells which -/
def wholeM (may : T → Bool) (sg : List (ByteArray × T)) (l : List Tk) : Except Int (T × List Tk) :=
  match termM sg 120 [] l with
  | .error e => .error e
  | .ok (t, r) => if may t = true then .ok (t, r) else .error 4
/-- a declaration; 'nm' tells which names may be declared -/
def declM (may : T → Bool) (nm : ByteArray → Bool) (sg : List (ByteArray × T)) (l : List Tk) : Except Int ((ByteArray × T) × List Tk) :=
  match nameM l with
  | .error e => .error e
  | .ok (s, r1) =>
    if nm s = true ∧ posD s sg = none then
      match takeM mK r1 with
      | .error e => .error e
      | .ok r2 => match wholeM may sg r2 with
        | .error e => .error e
        | .ok (t, r3) => match takeM mD r3 with
          | .error e => .error e
          | .ok r4 => .ok ((s, t), r4)
    else .error 8
/-- declarations, of as many tokens as the number has -/
def declsM (may : T → Bool) (nm : ByteArray → Bool) : Nat → List (ByteArray × T) → List Tk → Except Int (List (ByteArray × T))
  | _, sg, [] => .ok sg
  | 0, sg, _ :: _ => .error 0
  | n + 1, sg, t :: l =>
    if 40 ≤ sg.length then .error 4
    else match declM may nm sg (t :: l) with
      | .error e => .error e
      | .ok (d, r) => declsM may nm n (sg ++ [d]) r
theorem whole_ok {may sg l t r} (h : wholeM may sg l = .ok (t, r)) : termM sg 120 [] l = .ok (t, r) ∧ may t = true := by
  unfold wholeM at h
  split at h
  · cases h
  · rename_i t' r' h'
    split at h
    · rename_i hm
      cases h
      exact ⟨h', hm⟩
    · cases h
theorem decl_len {may nm sg l d r} (h : declM may nm sg l = .ok (d, r)) : r.length < l.length := by
  unfold declM at h
  split at h
  · cases h
  · rename_i s r1 h1
    split at h
    · split at h
      · cases h
      · rename_i r2 h2
        split at h
        · cases h
        · rename_i t r3 h3
          split at h
          · cases h
          · rename_i r4 h4
            cases h
            have a1 := congrArg List.length (name_ok h1)
            have a2 := congrArg List.length (take_ok h2)
            have a3 := term_sho sg 120 [] _ _ _ (whole_ok h3).1
            have a4 := congrArg List.length (take_ok h4)
            simp only [List.length_cons] at a1 a2 a4
            omega
    · cases h
/-- more fuel tells no other -/
theorem decls_fuel {may nm} : ∀ (n m : Nat) (sg : List (ByteArray × T)) (l : List Tk), l.length ≤ n → l.length ≤ m → declsM may nm n sg l = declsM may nm m sg l
  | 0, 0, sg, l, _, _ => rfl
  | 0, m + 1, sg, [], _, _ => rfl
  | n + 1, 0, sg, [], _, _ => rfl
  | n + 1, m + 1, sg, [], _, _ => rfl
  | n + 1, m + 1, sg, t :: l, hn, hm => by
    rw [declsM, declsM]
    split
    · rfl
    · cases h : declM may nm sg (t :: l) with
      | error e => rfl
      | ok x =>
        obtain ⟨d, r⟩ := x
        have := decl_len h
        exact decls_fuel n m _ r (by omega) (by omega)
end Go.Proofs.YtmkahbbcagfbhaaGreatDoor
