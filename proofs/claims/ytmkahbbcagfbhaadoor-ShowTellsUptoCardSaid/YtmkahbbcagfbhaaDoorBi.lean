/-
  What the calls tell by which package parse reads a term, as plain functions, and against one; answers that are terms in memory. No statement is proved here.
-/
import Derived.Test.YtmkahbbcagfbhaaDoorBh
import Derived.Test.YtmkahbbcagfbhaaDoorBb
namespace Go.Proofs.YtmkahbbcagfbhaaDoor
open Go.ChangeShapes Go.WideShapes Go.ChangeAt Go.RowKit
set_option linter.unusedVariables false

abbrev Rt := Except Int (T × List Tk)
/-- a TERM, and the mark that must stand behind it -/
def closedM (m : Tk) (r : Rt) : Rt := match r with
  | .error e => .error e
  | .ok (t, y) => match takeM m y with
    | .error e => .error e
    | .ok z => .ok (t, z)
/-- what no others may stand behind -/
def aloneM (r : Rt) : Rt := match r with
  | .error e => .error e
  | .ok (t, y) => if begM y = true then .error 8 else .ok (t, y)
def piM (sg : List (ByteArray × T)) (k : Nat) (bd : List ByteArray) (x : List Tk) : Rt := match namedM mK x with
  | .error e => .error e
  | .ok (s, r2) => match closedM mQ (termM sg k bd r2) with
    | .error e => .error e
    | .ok (a, r4) => match termM sg k (s :: bd) r4 with
      | .error e => .error e
      | .ok (b, r5) => .ok (.node 1 0 [a, b], r5)
def lamM (sg : List (ByteArray × T)) (k : Nat) (bd : List ByteArray) (x : List Tk) : Rt := match namedM mR x with
  | .error e => .error e
  | .ok (s, r2) => match termM sg k (s :: bd) r2 with
    | .error e => .error e
    | .ok (b, r3) => .ok (.node 3 0 [b], r3)
/-- one of the others -/
def otherM (sg : List (ByteArray × T)) (bd : List ByteArray) (f : List Tk → Rt) : List Tk → Rt
  | [] => .error 8
  | t :: r => if t = mO then closedM mC (f r) else if t.2 = tyN then .error 8 else match headM sg bd t.2 with
    | .error e => .error e
    | .ok u => .ok (u, r)
/-- a head with its others -/
def othersM (sg : List (ByteArray × T)) (bd : List ByteArray) (f : List Tk → Rt) (k g : Int) (us : List T) (x : List Tk) : Rt := match argsM sg bd f x.length x with
  | .error e => .error e
  | .ok (vs, y) => .ok (.node k g (us ++ vs), y)
/-- what a first token is -/
def firM (sg : List (ByteArray × T)) (bd : List ByteArray) (t : Tk) : Except Int T := if t.1 = 0 then hdM sg bd t.2 else if t = mP ∨ t = mL ∨ t = mO then .ok (.node 0 0 []) else .error 8
theorem args_stop {sg bd f} {y : List Tk} (h : begM y = false) (n : Nat) : argsM sg bd f n y = .ok ([], y) := by
  cases n with
  | zero => rfl
  | succ n =>
    cases y with
    | nil => rfl
    | cons t r =>
      rw [begM, Bool.or_eq_false_iff, decide_eq_false_iff_not, decide_eq_false_iff_not] at h
      rw [argsM, if_neg h.1, if_neg h.2]
theorem args_go {sg bd f} {y : List Tk} (h : begM y = true) (n : Nat) : argsM sg bd f (n + 1) y = match otherM sg bd f y with
    | .error e => .error e
    | .ok (u, z) => match argsM sg bd f n z with
      | .error e => .error e
      | .ok (us, r) => .ok (u :: us, r) := by
  cases y with
  | nil => cases h
  | cons t r =>
    rw [begM, Bool.or_eq_true, decide_eq_true_eq, decide_eq_true_eq] at h
    rw [argsM, otherM]
    by_cases h1 : t = mO
    · simp only [if_pos h1, closedM]
      cases f r with
      | error e => rfl
      | ok p =>
        obtain ⟨u, r1⟩ := p
        dsimp only
        cases takeM mC r1 <;> rfl
    · have h0 := h.resolve_left h1
      simp only [if_neg h1, if_pos h0]
      by_cases h2 : t.2 = tyN
      · simp only [if_pos h2]
      · simp only [if_neg h2]
        cases headM sg bd t.2 <;> rfl
theorem other_sho {sg bd f} (hf : Sho f) {y : List Tk} {u : T} {z : List Tk} (h : otherM sg bd f y = .ok (u, z)) : z.length < y.length := by
  cases y with
  | nil => cases h
  | cons t r =>
    rw [otherM] at h
    split at h
    · unfold closedM at h
      split at h
      · cases h
      · rename_i t' y' h1
        split at h
        · cases h
        · rename_i z' h2
          cases h
          have a1 := hf _ _ _ h1
          have a2 := congrArg List.length (take_ok h2)
          simp only [List.length_cons] at a2 ⊢
          omega
    · split at h
      · cases h
      · split at h
        · cases h
        · cases h; simp
/-- one of the others more -/
theorem others_go {sg bd f} (hf : Sho f) {k g : Int} {us : List T} {y : List Tk} (h : begM y = true) : othersM sg bd f k g us y = match otherM sg bd f y with
    | .error e => .error e
    | .ok (u, z) => othersM sg bd f k g (us ++ [u]) z := by
  obtain ⟨m, hm⟩ : ∃ m, y.length = m + 1 := by
    cases y with
    | nil => cases h
    | cons t r => exact ⟨r.length, rfl⟩
  unfold othersM
  rw [hm, args_go h]
  cases ho : otherM sg bd f y with
  | error e => rfl
  | ok p =>
    obtain ⟨u, z⟩ := p
    dsimp only
    have hz := other_sho hf ho
    rw [args_fuel hf m z.length z (by omega) (Nat.le_refl _)]
    cases argsM sg bd f z.length z with
    | error e => rfl
    | ok q =>
      obtain ⟨vs, r⟩ := q
      simp
theorem others_stop {sg bd f} {k g : Int} {us : List T} {y : List Tk} (h : begM y = false) : othersM sg bd f k g us y = .ok (.node k g us, y) := by
  unfold othersM
  rw [args_stop h]
  simp
/-- a TERM by its first token -/
theorem term_P (sg : List (ByteArray × T)) (k : Nat) (bd : List ByteArray) (r : List Tk) : termM sg (k + 1) bd (mP :: r) = piM sg k bd r := by
  rw [termM, if_pos rfl, piM, namedM]
  cases nameM r with
  | error e => rfl
  | ok p =>
    obtain ⟨s, r1⟩ := p
    dsimp only
    cases takeM mK r1 with
    | error e => rfl
    | ok r2 =>
      dsimp only
      unfold closedM
      cases termM sg k bd r2 with
      | error e => rfl
      | ok q =>
        obtain ⟨a, r3⟩ := q
        dsimp only
        cases takeM mQ r3 <;> rfl
theorem term_L (sg : List (ByteArray × T)) (k : Nat) (bd : List ByteArray) (r : List Tk) : termM sg (k + 1) bd (mL :: r) = lamM sg k bd r := by
  rw [termM, if_neg (by decide), if_pos rfl, lamM, namedM]
  cases nameM r with
  | error e => rfl
  | ok p =>
    obtain ⟨s, r1⟩ := p
    dsimp only
    cases takeM mR r1 <;> rfl
theorem term_O (sg : List (ByteArray × T)) (k : Nat) (bd : List ByteArray) (r : List Tk) : termM sg (k + 1) bd (mO :: r) = aloneM (closedM mC (termM sg k bd r)) := by
  rw [termM, if_neg (by decide), if_neg (by decide), appM, if_pos rfl]
  unfold closedM
  cases termM sg k bd r with
  | error e => rfl
  | ok p =>
    obtain ⟨u, r1⟩ := p
    dsimp only
    cases takeM mC r1 <;> rfl
theorem term_T (sg : List (ByteArray × T)) (k : Nat) (bd : List ByteArray) (r : List Tk) : termM sg (k + 1) bd ((0, tyN) :: r) = aloneM (.ok (.node 0 0 [], r)) := by
  rw [termM, if_neg (by decide), if_neg (by decide), appM, if_neg (by decide), if_pos rfl, if_pos rfl]
  rfl
theorem term_N (sg : List (ByteArray × T)) (k : Nat) (bd : List ByteArray) (s : ByteArray) (r : List Tk) (hs : s ≠ tyN) {k' g : Int} (hh : headM sg bd s = .ok (.node k' g [])) : termM sg (k + 1) bd ((0, s) :: r) = othersM sg bd (termM sg k bd) k' g [] r := by
  rw [termM, if_neg (by intro e; cases e), if_neg (by intro e; cases e), appM, if_neg (by intro e; cases e), if_pos rfl, if_neg hs, hh]
  unfold othersM
  dsimp only
  cases argsM sg bd (termM sg k bd) r.length r with
  | error e => rfl
  | ok p => rfl
theorem term_bad (sg : List (ByteArray × T)) (k : Nat) (bd : List ByteArray) (x : List Tk) {e : Int} (he : firM sg bd (hdT x) = .error e) : termM sg k bd x = .error e := by
  unfold firM at he
  cases x with
  | nil =>
    rw [if_neg (by decide), if_neg (by decide)] at he
    cases he
    cases k <;> rfl
  | cons t r =>
    have ht : hdT (t :: r) = t := rfl
    rw [ht] at he
    by_cases h0 : t.1 = 0
    · rw [if_pos h0] at he
      unfold hdM at he
      have n1 : t ≠ mP := fun e => by rw [e] at h0; cases h0
      have n2 : t ≠ mL := fun e => by rw [e] at h0; cases h0
      have n3 : t ≠ mO := fun e => by rw [e] at h0; cases h0
      split at he
      · cases he
      · rename_i hty
        cases k with
        | zero =>
          rw [termM, zerM, if_neg n1, if_neg n2, if_neg n3, if_pos h0, if_neg hty, he]
        | succ k =>
          rw [termM, if_neg n1, if_neg n2, appM, if_neg n3, if_pos h0, if_neg hty, he]
    · rw [if_neg h0] at he
      split at he
      · cases he
      · rename_i hm
        cases he
        have n1 : t ≠ mP := fun e => hm (.inl e)
        have n2 : t ≠ mL := fun e => hm (.inr (.inl e))
        have n3 : t ≠ mO := fun e => hm (.inr (.inr e))
        cases k with
        | zero => rw [termM, zerM, if_neg n1, if_neg n2, if_neg n3, if_neg h0]
        | succ k => rw [termM, if_neg n1, if_neg n2, appM, if_neg n3, if_neg h0]
theorem term_deep (sg : List (ByteArray × T)) (bd : List ByteArray) (x : List Tk) {t : T} (ht : firM sg bd (hdT x) = .ok t) : termM sg 0 bd x = .error 4 := by
  rw [termM]
  unfold firM at ht
  cases x with
  | nil =>
    rw [if_neg (by decide), if_neg (by decide)] at ht
    cases ht
  | cons u r =>
    have hu : hdT (u :: r) = u := rfl
    rw [hu] at ht
    rw [zerM]
    by_cases n1 : u = mP
    · rw [if_pos n1]
    by_cases n2 : u = mL
    · rw [if_neg n1, if_pos n2]
    by_cases n3 : u = mO
    · rw [if_neg n1, if_neg n2, if_pos n3]
    rw [if_neg n1, if_neg n2, if_neg n3]
    by_cases h0 : u.1 = 0
    · rw [if_pos h0] at ht ⊢
      unfold hdM at ht
      split at ht
      · rename_i hty; rw [if_pos hty]
      · rename_i hty; rw [if_neg hty, ht]
    · rw [if_neg h0, if_neg (by rintro (e | e | e) <;> contradiction)] at ht
      cases ht
/-- what a head is lies in bounds -/
theorem hd_bound {sg : List (ByteArray × T)} {bd : List ByteArray} {s : ByteArray} {k g : Int} {xs : List T} (h : hdM sg bd s = .ok (.node k g xs)) (h1 : sg.length ≤ 1000) (h2 : bd.length ≤ 1000000) : xs = [] ∧ 0 ≤ k ∧ k ≤ 6 ∧ 0 ≤ g ∧ g ≤ 1000000 := by
  unfold hdM at h
  split at h
  · cases h; exact ⟨rfl, by omega, by omega, by omega, by omega⟩
  · unfold headM at h
    split at h
    · rename_i i hi
      cases h
      have := posB_lt hi
      exact ⟨rfl, by omega, by omega, by omega, by omega⟩
    · split at h
      · rename_i p hp
        obtain ⟨i, t⟩ := p
        obtain ⟨s', hs⟩ := posD_get hp
        have := (List.getElem?_eq_some_iff.1 hs).1
        cases h
        refine ⟨rfl, ?_, ?_, by dsimp only; omega, by dsimp only; omega⟩
        · dsimp only; split <;> omega
        · dsimp only; split <;> omega
      · cases h
theorem wfB {z : Int} (h0 : 0 ≤ z) (h1 : z ≤ 1000000) : (Lit.int .i64 z).wf = true := by
  show (decide (IntKind.i64.min ≤ z) && decide (z ≤ IntKind.i64.max)) = true
  have e1 : IntKind.i64.min = -9223372036854775808 := by decide
  have e2 : IntKind.i64.max = 9223372036854775807 := by decide
  rw [Bool.and_eq_true, decide_eq_true_eq, decide_eq_true_eq]
  omega

/-! ### Answers -/
/-- what a call tells that reads a term -/
def TmE (b0 R K : Nat) (SA : Option Addr) (sn sc : Nat) (sg : List (ByteArray × T)) (r : Rt) (w : World) (e : Ending) (w' : World) : Prop :=
  FrB R w w' ∧ ∃ k g A n c ec, e = .returned (.tuple #[.agg #[.int .i64 k, .int .i64 g, .slice A n c], .int .i64 ec]) ∧
    ((∃ t y, r = .ok (t, y) ∧ ec = 0 ∧ RdN w.heap.size w' t (.agg #[.int .i64 k, .int .i64 g, .slice A n c]) ∧ PS b0 R K SA sn sc sg y w') ∨ (r = .error ec ∧ ec ≠ 0 ∧ k = 0 ∧ g = 0 ∧ A = none ∧ n = 0 ∧ c = 0))
theorem RdN.to {lo : Nat} {w w' : World} {t : T} {v : Value} (h : RdN lo w t v) (hm : ∀ b, lo ≤ b → b < w.heap.size → w'.heap[b]? = w.heap[b]?) : RdN lo w' t v :=
  RdF.moveQ (fun b hb hl => ⟨hb, hm b hb hl⟩) _ _ h
theorem RdN.leaf {lo : Nat} {w : World} {k g : Int} (h0 : 0 ≤ k) (h1 : k ≤ 6) (h2 : 0 ≤ g) (h3 : g ≤ 1000000) : RdN lo w (.node k g []) (.agg #[.int .i64 k, .int .i64 g, .slice none 0 0]) :=
  RdF_node.2 ⟨none, 0, 0, rfl, wfB h0 (by omega), wfB h2 h3, rfl, Nat.le_refl _, Nat.zero_le _, fun i t ht => by simp at ht⟩
/-- a term is read at each depth up to a number -/
def TmC (b0 R K : Nat) (SA : Option Addr) (sn sc : Nat) (sg : List (ByteArray × T)) (k : Nat) : Prop :=
  ∀ (x : List Tk) (w : World) (ss : List ByteArray) (A : Option Addr) (n c : Nat) (tm : Int), PS b0 R K SA sn sc sg x w → NL w ss A n c → ss.length + k ≤ 1000 → tm + k = 121 →
    Calls Tryd.prog 54 #[.pointer (some ⟨R, 0, none⟩), .agg #[.slice A n c, .int .i64 tm]] w (TmE b0 R K SA sn sc sg (termM sg k ss.reverse x) w)
/-- what is as it was between two blocks -/
def Mid (lo hi : Nat) (w w' : World) : Prop := ∀ b, lo ≤ b → b < hi → w'.heap[b]? = w.heap[b]?
theorem Mid.refl (lo hi : Nat) (w : World) : Mid lo hi w w := fun _ _ _ => rfl
theorem Mid.below {lo hi : Nat} {a b c : World} (h : Mid lo hi a b) (k : Below b.heap.size b c) (hh : hi ≤ b.heap.size) : Mid lo hi a c := fun i h1 h2 => (k.block i (by omega)).trans (h i h1 h2)
theorem Mid.fr {lo hi R : Nat} {a b c : World} (h : Mid lo hi a b) (k : FrB R b c) (hR : R < lo) (hh : hi ≤ b.heap.size) : Mid lo hi a c := fun i h1 h2 => (k.block i (by omega) (by omega)).trans (h i h1 h2)
theorem Mid.set {lo hi p : Nat} {a b : World} (h : Mid lo hi a b) (hp : p < lo ∨ hi ≤ p) (i : Nat) (v : Value) : Mid lo hi a (b.setCell ⟨p, i, none⟩ v) := fun j h1 h2 => (Below.heap_setCell _ _ _ _ (by dsimp only; omega)).trans (h j h1 h2)
theorem Mid.set3 {lo hi p : Nat} {a b : World} (h : Mid lo hi a b) (hp : p < lo ∨ hi ≤ p) (u0 u1 u2 : Value) : Mid lo hi a (((b.setCell ⟨p, 0, none⟩ u0).setCell ⟨p, 1, none⟩ u1).setCell ⟨p, 2, none⟩ u2) := ((h.set hp 0 u0).set hp 1 u1).set hp 2 u2
end Go.Proofs.YtmkahbbcagfbhaaDoor
