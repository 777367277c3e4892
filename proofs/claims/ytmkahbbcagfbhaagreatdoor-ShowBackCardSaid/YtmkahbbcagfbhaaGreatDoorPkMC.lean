/-
  Texts of one proof, put together. No statement is proved here.
-/
import Derived.Test.YtmkahbbcagfbhaaGreatDoorBhC
import Derived.Test.YtmkahbbcagfbhaaGreatDoorBbC
/-
  What the calls tell by which package parse reads a term, as plain functions, and against one; answers that are terms in memory. No statement is proved here.
-/
namespace Go.Proofs.YtmkahbbcagfbhaaGreatDoor
open Go.ChangeShapes Go.WideShapes Go.ChangeAt Go.RowKit
set_option linter.unusedVariables false
abbrev Rt := Except Int (T × List Tk)
/-- a TERM, and the mark that must stand behind it -/
def closedM (m : Tk) (r : Rt) : Rt := match r with
  | .error e => .error e
  | .ok (t, y) => match takeM m y with
    | .error e => .error e
    | .ok z => .ok (t, z)
/-- what no others may stand behind -/
def aloneM (r : Rt) : Rt := match r with
  | .error e => .error e
  | .ok (t, y) => if begM y = true then .error 8 else .ok (t, y)
def piM (sg : List (ByteArray × T)) (k : Nat) (bd : List ByteArray) (x : List Tk) : Rt := match namedM mK x with
  | .error e => .error e
  | .ok (s, r2) => match closedM mQ (termM sg k bd r2) with
    | .error e => .error e
    | .ok (a, r4) => match termM sg k (s :: bd) r4 with
      | .error e => .error e
      | .ok (b, r5) => .ok (.node 1 0 [a, b], r5)
def lamM (sg : List (ByteArray × T)) (k : Nat) (bd : List ByteArray) (x : List Tk) : Rt := match namedM mR x with
  | .error e => .error e
  | .ok (s, r2) => match termM sg k (s :: bd) r2 with
    | .error e => .error e
    | .ok (b, r3) => .ok (.node 3 0 [b], r3)
/-- one of the others -/
def otherM (sg : List (ByteArray × T)) (bd : List ByteArray) (f : List Tk → Rt) : List Tk → Rt
  | [] => .error 8
  | t :: r => if t = mO then closedM mC (f r) else if t.2 = tyN then .error 8 else match headM sg bd t.2 with
    | .error e => .error e
    | .ok u => .ok (u, r)
/-- a head with its others -/
def othersM (sg : List (ByteArray × T)) (bd : List ByteArray) (f : List Tk → Rt) (k g : Int) (us : List T) (x : List Tk) : Rt := match argsM sg bd f x.length x with
  | .error e => .error e
  | .ok (vs, y) => .ok (.node k g (us ++ vs), y)
/-- what a first token is -/
def firM (sg : List (ByteArray × T)) (bd : List ByteArray) (t : Tk) : Except Int T := if t.1 = 0 then hdM sg bd t.2 else if t = mP ∨ t = mL ∨ t = mO then .ok (.node 0 0 []) else .error 8
theorem args_stop {sg bd f} {y : List Tk} (h : begM y = false) (n : Nat) : argsM sg bd f n y = .ok ([], y) := by
  cases n with
  | zero => rfl
  | succ n =>
    cases y with
    | nil => rfl
    | cons t r =>
      rw [begM, Bool.or_eq_false_iff, decide_eq_false_iff_not, decide_eq_false_iff_not] at h
      rw [argsM, if_neg h.1, if_neg h.2]
theorem args_go {sg bd f} {y : List Tk} (h : begM y = true) (n : Nat) : argsM sg bd f (n + 1) y = match otherM sg bd f y with
    | .error e => .error e
    | .ok (u, z) => match argsM sg bd f n z with
      | .error e => .error e
      | .ok (us, r) => .ok (u :: us, r) := by
  cases y with
  | nil => cases h
  | cons t r =>
    rw [begM, Bool.or_eq_true, decide_eq_true_eq, decide_eq_true_eq] at h
    rw [argsM, otherM]
    by_cases h1 : t = mO
    · simp only [if_pos h1, closedM]
      cases f r with
      | error e => rfl
      | ok p =>
        obtain ⟨u, r1⟩ := p
        dsimp only
        cases takeM mC r1 <;> rfl
    · have h0 := h.resolve_left h1
      simp only [if_neg h1, if_pos h0]
      by_cases h2 : t.2 = tyN
      · simp only [if_pos h2]
      · simp only [if_neg h2]
        cases headM sg bd t.2 <;> rfl
theorem other_sho {sg bd f} (hf : Sho f) {y : List Tk} {u : T} {z : List Tk} (h : otherM sg bd f y = .ok (u, z)) : z.length < y.length := by
  cases y with
  | nil => cases h
  | cons t r =>
    rw [otherM] at h
    split at h
    · unfold closedM at h
      split at h
      · cases h
      · rename_i t' y' h1
        split at h
        · cases h
        · rename_i z' h2
          cases h
          have a1 := hf _ _ _ h1
          have a2 := congrArg List.length (take_ok h2)
          simp only [List.length_cons] at a2 ⊢
          omega
    · split at h
      · cases h
      · split at h
        · cases h
        · cases h; simp
/-- one of the others more -/
theorem others_go {sg bd f} (hf : Sho f) {k g : Int} {us : List T} {y : List Tk} (h : begM y = true) : othersM sg bd f k g us y = match otherM sg bd f y with
    | .error e => .error e
    | .ok (u, z) => othersM sg bd f k g (us ++ [u]) z := by
  obtain ⟨m, hm⟩ : ∃ m, y.length = m + 1 := by
    cases y with
    | nil => cases h
    | cons t r => exact ⟨r.length, rfl⟩
  unfold othersM
  rw [hm, args_go h]
  cases ho : otherM sg bd f y with
  | error e => rfl
  | ok p =>
    obtain ⟨u, z⟩ := p
    dsimp only
    have hz := other_sho hf ho
    rw [args_fuel hf m z.length z (by omega) (Nat.le_refl _)]
    cases argsM sg bd f z.length z with
    | error e => rfl
    | ok q =>
      obtain ⟨vs, r⟩ := q
      simp
theorem others_stop {sg bd f} {k g : Int} {us : List T} {y : List Tk} (h : begM y = false) : othersM sg bd f k g us y = .ok (.node k g us, y) := by
  unfold othersM
  rw [args_stop h]
  simp
/-- a TERM by its first token -/
theorem term_P (sg : List (ByteArray × T)) (k : Nat) (bd : List ByteArray) (r : List Tk) : termM sg (k + 1) bd (mP :: r) = piM sg k bd r := by
  rw [termM, if_pos rfl, piM, namedM]
  cases nameM r with
  | error e => rfl
  | ok p =>
    obtain ⟨s, r1⟩ := p
    dsimp only
    cases takeM mK r1 with
    | error e => rfl
    | ok r2 =>
      dsimp only
      unfold closedM
      cases termM sg k bd r2 with
      | error e => rfl
      | ok q =>
        obtain ⟨a, r3⟩ := q
        dsimp only
        cases takeM mQ r3 <;> rfl
theorem term_L (sg : List (ByteArray × T)) (k : Nat) (bd : List ByteArray) (r : List Tk) : termM sg (k + 1) bd (mL :: r) = lamM sg k bd r := by
  rw [termM, if_neg (by decide), if_pos rfl, lamM, namedM]
  cases nameM r with
  | error e => rfl
  | ok p =>
    obtain ⟨s, r1⟩ := p
    dsimp only
    cases takeM mR r1 <;> rfl
theorem term_O (sg : List (ByteArray × T)) (k : Nat) (bd : List ByteArray) (r : List Tk) : termM sg (k + 1) bd (mO :: r) = aloneM (closedM mC (termM sg k bd r)) := by
  rw [termM, if_neg (by decide), if_neg (by decide), appM, if_pos rfl]
  unfold closedM
  cases termM sg k bd r with
  | error e => rfl
  | ok p =>
    obtain ⟨u, r1⟩ := p
    dsimp only
    cases takeM mC r1 <;> rfl
theorem term_T (sg : List (ByteArray × T)) (k : Nat) (bd : List ByteArray) (r : List Tk) : termM sg (k + 1) bd ((0, tyN) :: r) = aloneM (.ok (.node 0 0 [], r)) := by
  rw [termM, if_neg (by decide), if_neg (by decide), appM, if_neg (by decide), if_pos rfl, if_pos rfl]
  rfl
theorem term_N (sg : List (ByteArray × T)) (k : Nat) (bd : List ByteArray) (s : ByteArray) (r : List Tk) (hs : s ≠ tyN) {k' g : Int} (hh : headM sg bd s = .ok (.node k' g [])) : termM sg (k + 1) bd ((0, s) :: r) = othersM sg bd (termM sg k bd) k' g [] r := by
  rw [termM, if_neg (by intro e; cases e), if_neg (by intro e; cases e), appM, if_neg (by intro e; cases e), if_pos rfl, if_neg hs, hh]
  unfold othersM
  dsimp only
  cases argsM sg bd (termM sg k bd) r.length r with
  | error e => rfl
  | ok p => rfl
theorem term_bad (sg : List (ByteArray × T)) (k : Nat) (bd : List ByteArray) (x : List Tk) {e : Int} (he : firM sg bd (hdT x) = .error e) : termM sg k bd x = .error e := by
  unfold firM at he
  cases x with
  | nil =>
    rw [if_neg (by decide), if_neg (by decide)] at he
    cases he
    cases k <;> rfl
  | cons t r =>
    have ht : hdT (t :: r) = t := rfl
    rw [ht] at he
    by_cases h0 : t.1 = 0
    · rw [if_pos h0] at he
      unfold hdM at he
      have n1 : t ≠ mP := fun e => by rw [e] at h0; cases h0
      have n2 : t ≠ mL := fun e => by rw [e] at h0; cases h0
      have n3 : t ≠ mO := fun e => by rw [e] at h0; cases h0
      split at he
      · cases he
      · rename_i hty
        cases k with
        | zero =>
          rw [termM, zerM, if_neg n1, if_neg n2, if_neg n3, if_pos h0, if_neg hty, he]
        | succ k =>
          rw [termM, if_neg n1, if_neg n2, appM, if_neg n3, if_pos h0, if_neg hty, he]
    · rw [if_neg h0] at he
      split at he
      · cases he
      · rename_i hm
        cases he
        have n1 : t ≠ mP := fun e => hm (.inl e)
        have n2 : t ≠ mL := fun e => hm (.inr (.inl e))
        have n3 : t ≠ mO := fun e => hm (.inr (.inr e))
        cases k with
        | zero => rw [termM, zerM, if_neg n1, if_neg n2, if_neg n3, if_neg h0]
        | succ k => rw [termM, if_neg n1, if_neg n2, appM, if_neg n3, if_neg h0]
theorem term_deep (sg : List (ByteArray × T)) (bd : List ByteArray) (x : List Tk) {t : T} (ht : firM sg bd (hdT x) = .ok t) : termM sg 0 bd x = .error 4 := by
  rw [termM]
  unfold firM at ht
  cases x with
  | nil =>
    rw [if_neg (by decide), if_neg (by decide)] at ht
    cases ht
  | cons u r =>
    have hu : hdT (u :: r) = u := rfl
    rw [hu] at ht
    rw [zerM]
    by_cases n1 : u = mP
    · rw [if_pos n1]
    by_cases n2 : u = mL
    · rw [if_neg n1, if_pos n2]
    by_cases n3 : u = mO
    · rw [if_neg n1, if_neg n2, if_pos n3]
    rw [if_neg n1, if_neg n2, if_neg n3]
    by_cases h0 : u.1 = 0
    · rw [if_pos h0] at ht ⊢
      unfold hdM at ht
      split at ht
      · rename_i hty; rw [if_pos hty]
      · rename_i hty; rw [if_neg hty, ht]
    · rw [if_neg h0, if_neg (by rintro (e | e | e) <;> contradiction)] at ht
      cases ht
/-- what a head is lies in bounds -/
theorem hd_bound {sg : List (ByteArray × T)} {bd : List ByteArray} {s : ByteArray} {k g : Int} {xs : List T} (h : hdM sg bd s = .ok (.node k g xs)) (h1 : sg.length ≤ 1000) (h2 : bd.length ≤ 1000000) : xs = [] ∧ 0 ≤ k ∧ k ≤ 6 ∧ 0 ≤ g ∧ g ≤ 1000000 := by
  unfold hdM at h
  split at h
  · cases h; exact ⟨rfl, by omega, by omega, by omega, by omega⟩
  · unfold headM at h
    split at h
    · rename_i i hi
      cases h
      have := posB_lt hi
      exact ⟨rfl, by omega, by omega, by omega, by omega⟩
    · split at h
      · rename_i p hp
        obtain ⟨i, t⟩ := p
        obtain ⟨s', hs⟩ := posD_get hp
        have := (List.getElem?_eq_some_iff.1 hs).1
        cases h
        refine ⟨rfl, ?_, ?_, by dsimp only; omega, by dsimp only; omega⟩
        · dsimp only; split <;> omega
        · dsimp only; split <;> omega
      · cases h
theorem wfB {z : Int} (h0 : 0 ≤ z) (h1 : z ≤ 1000000) : (Lit.int .i64 z).wf = true := by
  show (decide (IntKind.i64.min ≤ z) && decide (z ≤ IntKind.i64.max)) = true
  have e1 : IntKind.i64.min = -9223372036854775808 := by decide
  have e2 : IntKind.i64.max = 9223372036854775807 := by decide
  rw [Bool.and_eq_true, decide_eq_true_eq, decide_eq_true_eq]
  omega
/-! ### Answers -/
/-- what a call tells that reads a term -/
def TmE (b0 R K : Nat) (SA : Option Addr) (sn sc : Nat) (sg : List (ByteArray × T)) (r : Rt) (w : World) (e : Ending) (w' : World) : Prop :=
  FrB R w w' ∧ ∃ k g A n c ec, e = .returned (.tuple #[.agg #[.int .i64 k, .int .i64 g, .slice A n c], .int .i64 ec]) ∧
    ((∃ t y, r = .ok (t, y) ∧ ec = 0 ∧ RdN w.heap.size w' t (.agg #[.int .i64 k, .int .i64 g, .slice A n c]) ∧ PS b0 R K SA sn sc sg y w') ∨ (r = .error ec ∧ ec ≠ 0 ∧ k = 0 ∧ g = 0 ∧ A = none ∧ n = 0 ∧ c = 0))
theorem RdN.to {lo : Nat} {w w' : World} {t : T} {v : Value} (h : RdN lo w t v) (hm : ∀ b, lo ≤ b → b < w.heap.size → w'.heap[b]? = w.heap[b]?) : RdN lo w' t v :=
  RdF.moveQ (fun b hb hl => ⟨hb, hm b hb hl⟩) _ _ h
theorem RdN.leaf {lo : Nat} {w : World} {k g : Int} (h0 : 0 ≤ k) (h1 : k ≤ 6) (h2 : 0 ≤ g) (h3 : g ≤ 1000000) : RdN lo w (.node k g []) (.agg #[.int .i64 k, .int .i64 g, .slice none 0 0]) :=
  RdF_node.2 ⟨none, 0, 0, rfl, wfB h0 (by omega), wfB h2 h3, rfl, Nat.le_refl _, Nat.zero_le _, fun i t ht => by simp at ht⟩
/-- a term is read at each depth up to a number -/
def TmCb (b0 R K : Nat) (SA : Option Addr) (sn sc : Nat) (sg : List (ByteArray × T)) (k : Nat) : Prop :=
  ∀ (x : List Tk) (w : World) (ss : List ByteArray) (A : Option Addr) (n c : Nat) (tm : Int), PS b0 R K SA sn sc sg x w → NL w ss A n c → ss.length + k ≤ 1000 → tm + k = 121 →
    Calls Tryz.prog 61 #[.pointer (some ⟨R, 0, none⟩), .agg #[.slice A n c, .int .i64 tm]] w (TmE b0 R K SA sn sc sg (termM sg k ss.reverse x) w)
/-- what is as it was between two blocks -/
def Mid (lo hi : Nat) (w w' : World) : Prop := ∀ b, lo ≤ b → b < hi → w'.heap[b]? = w.heap[b]?
theorem Mid.refl (lo hi : Nat) (w : World) : Mid lo hi w w := fun _ _ _ => rfl
theorem Mid.below {lo hi : Nat} {a b c : World} (h : Mid lo hi a b) (k : Below b.heap.size b c) (hh : hi ≤ b.heap.size) : Mid lo hi a c := fun i h1 h2 => (k.block i (by omega)).trans (h i h1 h2)
theorem Mid.fr {lo hi R : Nat} {a b c : World} (h : Mid lo hi a b) (k : FrB R b c) (hR : R < lo) (hh : hi ≤ b.heap.size) : Mid lo hi a c := fun i h1 h2 => (k.block i (by omega) (by omega)).trans (h i h1 h2)
theorem Mid.set {lo hi p : Nat} {a b : World} (h : Mid lo hi a b) (hp : p < lo ∨ hi ≤ p) (i : Nat) (v : Value) : Mid lo hi a (b.setCell ⟨p, i, none⟩ v) := fun j h1 h2 => (Below.heap_setCell _ _ _ _ (by dsimp only; omega)).trans (h j h1 h2)
theorem Mid.set3 {lo hi p : Nat} {a b : World} (h : Mid lo hi a b) (hp : p < lo ∨ hi ≤ p) (u0 u1 u2 : Value) : Mid lo hi a (((b.setCell ⟨p, 0, none⟩ u0).setCell ⟨p, 1, none⟩ u1).setCell ⟨p, 2, none⟩ u2) := ((h.set hp 0 u0).set hp 1 u1).set hp 2 u2
end Go.Proofs.YtmkahbbcagfbhaaGreatDoor
/-
  Contracts of package parse's first, alone and closed. No statement is proved here.
-/
namespace Go.Proofs.YtmkahbbcagfbhaaGreatDoor
open Go.ChangeShapes Go.WideShapes Go.ChangeAt Go.RowKit
set_option linter.unusedVariables false
/-- what a call tells that hands a term on, all of which lies from a block on -/
def TmX (lo b0 R K : Nat) (SA : Option Addr) (sn sc : Nat) (sg : List (ByteArray × T)) (r : Rt) (w : World) (e : Ending) (w' : World) : Prop :=
  FrB R w w' ∧ ∃ k g A n c ec, e = .returned (.tuple #[.agg #[.int .i64 k, .int .i64 g, .slice A n c], .int .i64 ec]) ∧
    ((∃ t y, r = .ok (t, y) ∧ ec = 0 ∧ RdN lo w' t (.agg #[.int .i64 k, .int .i64 g, .slice A n c]) ∧ PS b0 R K SA sn sc sg y w') ∨ (r = .error ec ∧ ec ≠ 0 ∧ k = 0 ∧ g = 0 ∧ A = none ∧ n = 0 ∧ c = 0))
theorem PS.move {b0 R K : Nat} {SA : Option Addr} {sn sc : Nat} {sg : List (ByteArray × T)} {x : List Tk} {w w' : World} (h : PS b0 R K SA sn sc sg x w) (f : FrB R w w') (hR : w'.heap[R]? = w.heap[R]?) : PS b0 R K SA sn sc sg x w' := by
  obtain ⟨A, n, c, hb, hx, hA⟩ := h.box
  exact h.to f (hR.trans hb) hx (Nat.le_refl _) (fun t ht => ht) hA
/-- what is told is handed on by later calls -/
theorem TmX.less {lo lo' b0 R K : Nat} {SA : Option Addr} {sn sc : Nat} {sg : List (ByteArray × T)} {r : Rt} {w : World} {e : Ending} {w' : World} (h : TmX lo b0 R K SA sn sc sg r w e w') (hl : lo' ≤ lo) : TmX lo' b0 R K SA sn sc sg r w e w' := by
  obtain ⟨f, k, g, A, n, c, ec, e1, h1⟩ := h
  refine ⟨f, k, g, A, n, c, ec, e1, ?_⟩
  rcases h1 with ⟨t, y, a, b, d, p⟩ | h1
  · exact .inl ⟨t, y, a, b, d.less hl, p⟩
  · exact .inr h1
theorem TmX.after {lo b0 R K : Nat} {SA : Option Addr} {sn sc : Nat} {sg : List (ByteArray × T)} {r : Rt} {w0 w : World} {e : Ending} {w' : World} (h : TmX lo b0 R K SA sn sc sg r w e w') (f0 : FrB R w0 w) : TmX lo b0 R K SA sn sc sg r w0 e w' := by
  obtain ⟨f, h1⟩ := h
  exact ⟨f0.trans f, h1⟩
set_option maxRecDepth 100000 in
set_option maxHeartbeats 8000000 in
theorem pFirstC {b0 R K : Nat} {SA : Option Addr} {sn sc : Nat} {sg : List (ByteArray × T)} {x : List Tk} {w : World} (h : PS b0 R K SA sn sc sg x w) (ss : List ByteArray) (A : Option Addr) (n c : Nat) (tm : Int) (hN : NL w ss A n c) (t1 : Int) (t2 : ByteArray) (ht : t2.size ≤ maxLen) :
    Calls Tryz.prog 80 #[.pointer (some ⟨R, 0, none⟩), .agg #[.int .i64 t1, .string t2], .agg #[.slice A n c, .int .i64 tm]] w fun e w' =>
      Below w.heap.size w w' ∧ ∃ k g ec, e = .returned (.tuple #[.agg #[.int .i64 k, .int .i64 g, .slice none 0 0], .int .i64 ec]) ∧ ((firM sg ss.reverse (t1, t2) = .ok (.node k g []) ∧ ec = 0) ∨ (firM sg ss.reverse (t1, t2) = .error ec ∧ ec ≠ 0 ∧ k = 0 ∧ g = 0)) := by
  obtain ⟨W, hW⟩ : ∃ W, ((w.alloc (.cells #[.int .i64 t1, .string t2] 79)).alloc (.cells #[.slice A n c, .int .i64 tm] 100)).alloc (.cells #[.int .i64 0, .int .i64 0, .slice none 0 0] 36) = W := ⟨_, rfl⟩
  have hb : Below w.heap.size w W := by rw [← hW]; exact (((Below.refl _ _).alloc (Nat.le_refl _) _).alloc (by simp) _).alloc (by simp; omega) _
  have x0 : BoxX W w.heap.size 79 #[.int .i64 t1, .string t2] := by rw [← hW]; exact ((BoxX.new _ _ _).alloc _).alloc _
  have x1 : BoxX W (w.heap.size + 1) 100 #[.slice A n c, .int .i64 tm] := by
    have := (BoxX.new (w.alloc (.cells #[.int .i64 t1, .string t2] 79)) 100 #[.slice A n c, .int .i64 tm]).alloc (.cells #[.int .i64 0, .int .i64 0, .slice none 0 0] 36)
    rw [← hW]; simpa using this
  have x2 : BoxX W (w.heap.size + 1 + 1) 36 #[.int .i64 0, .int .i64 0, .slice none 0 0] := by
    have := BoxX.new ((w.alloc (.cells #[.int .i64 t1, .string t2] 79)).alloc (.cells #[.slice A n c, .int .i64 tm] 100)) 36 #[.int .i64 0, .int .i64 0, .slice none 0 0]
    rw [← hW]; simpa using this
  have c0 := x0.cell 0
  have c1 := x0.cell 1
  have d0 := x1.cell 0
  have d1 := x1.cell 1
  simp only [List.getElem?_toArray, List.getElem?_cons_zero, List.getElem?_cons_succ] at c0 c1 d0 d1
  have HB := Lib.hid hb
  have HX := Lib.hid x2
  by_cases h0 : t1 = 0
  · subst h0
    have HC := Lib.hid (pHeadC (h.keep hb) t2 ht ss A n c tm (hN.keep hb))
    have HF := Lib.hid (show firM sg ss.reverse (0, t2) = hdM sg ss.reverse t2 from if_pos rfl)
    clear hb x0 x1 x2 h hN
    subst hW
    go_enter Tryz.func80, Tryz.ntmps80
    go_wp2_with fail
    refine HC.out.mono ?_
    rintro e w1 ⟨hb1, k, g, ec, rfl, hres⟩
    have y2 := HX.out.keep hb1 HX.out.lt
    have HB1 := Lib.hid (HB.out.trans (hb1.mono HB.out.size))
    have HR := Lib.hid hres
    clear hb1 HX HC c0 c1 d0 d1 hres HB
    have z9 := ((y2.put 0 (.int .i64 k)).put 1 (.int .i64 g)).put 2 (.slice none 0 0)
    have e0 := z9.cell 0
    have e1 := z9.cell 1
    have e2 := z9.cell 2
    have r0 := y2.cell 0
    have r1 := y2.cell 1
    have r2 := y2.cell 2
    have fz0 := y2.frozen 0
    have fz1 := y2.frozen 1
    have fz2 := y2.frozen 2
    have lz := y2.lt
    simp only [List.setIfInBounds_toArray, List.set_cons_zero, List.set_cons_succ, List.getElem?_toArray, List.getElem?_cons_zero, List.getElem?_cons_succ] at e0 e1 e2 r0 r1 r2
    clear z9 y2
    go_wp2_with fail
    refine bodyPost_ret (v := .tuple #[.agg #[.int .i64 k, .int .i64 g, .slice none 0 0], .int .i64 ec]) (by simp [results, Tryz.results80, go_sem, e0, e1, e2]) rfl ?_
    refine ⟨((HB1.out.setCell (by dsimp only; omega) _).setCell (by dsimp only; omega) _).setCell (by dsimp only; omega) _, k, g, ec, rfl, ?_⟩
    rw [HF.out]
    rcases HR.out with h1 | ⟨h1, h2, h3, h4⟩
    · exact .inl h1
    · exact .inr ⟨h1, by omega, h3, h4⟩
  · have d9 : (t1 == 0) = false := by simpa using h0
    obtain ⟨q1, hq1⟩ : ∃ q, decide (((t1, t2) : Tk) = mP) = q := ⟨_, rfl⟩
    obtain ⟨q2, hq2⟩ : ∃ q, decide (((t1, t2) : Tk) = mL) = q := ⟨_, rfl⟩
    obtain ⟨q3, hq3⟩ : ∃ q, decide (((t1, t2) : Tk) = mO) = q := ⟨_, rfl⟩
    have hE1 : ∀ W, (Op.equalIn 10000 79 (.agg #[.int .i64 t1, .string t2]) (.agg #[.int .i64 1, .string ⟨#[123]⟩])).run Tryz.prog W = .ok q1 W := fun W => by rw [run_eqB, ← hq1]; rfl
    have hE2 : ∀ W, (Op.equalIn 10000 79 (.agg #[.int .i64 t1, .string t2]) (.agg #[.int .i64 1, .string ⟨#[91]⟩])).run Tryz.prog W = .ok q2 W := fun W => by rw [run_eqB, ← hq2]; rfl
    have hE3 : ∀ W, (Op.equalIn 10000 79 (.agg #[.int .i64 t1, .string t2]) (.agg #[.int .i64 1, .string ⟨#[40]⟩])).run Tryz.prog W = .ok q3 W := fun W => by rw [run_eqB, ← hq3]; rfl
    have HF : Hid (firM sg ss.reverse (t1, t2) = if q1 = true ∨ q2 = true ∨ q3 = true then .ok (.node 0 0 []) else .error 8) := Lib.hid (by
      rw [← hq1, ← hq2, ← hq3]
      simp only [decide_eq_true_eq]
      exact if_neg h0)
    clear hb x0 x1 x2 h hN hq1 hq2 hq3
    have HW := Lib.hid hW
    clear hW
    go_enter Tryz.func80, Tryz.ntmps80
    go_wp2_with fail
    try rw [HW.out]
    clear HW
    have HKS : Hid (∀ w' : World, Below W.heap.size W w' → (fun w' => w'.cell? ⟨w.heap.size, 0, none⟩ = some (.int .i64 t1) ∧ w'.cell? ⟨w.heap.size, 1, none⟩ = some (.string t2)) w') := Lib.hid fun w' h => ⟨(h.cell (cell_ltX c0)).trans c0, (h.cell (cell_ltX c1)).trans c1⟩
    have hbd : Below W.heap.size W W.drew := (Below.refl _ W).drew
    refine zzR HKS hbd (fun hS => ?_)
    simp only [List.size_toArray, List.length_cons, List.length_nil, Nat.reduceAdd]
    refine wpAnyH_take (i := 0) (v := .agg #[.int .i64 t1, .string t2]) rfl (by kernel_rfl) (by kernel_rfl) (by kernel_rfl) (fun _ _ _ h => h) (Or.inl ⟨by kernel_rfl, ?_⟩) hS ?_
    · intro w' hSw
      obtain ⟨s0, s1⟩ := hSw
      go_simp
    try simp only [Act.put, List.getElem_toArray, List.getElem_cons_zero, List.setIfInBounds_toArray, List.set_cons_zero, List.set_cons_succ]
    refine wpAnyH_ready (rs := [1]) (by kernel_rfl) (by simp) ?_
    refine AllReadyH.cons rfl (fun KN hK => ?_) AllReadyH.nil
    go_simp
    refine (pMarkC _ _).mono ?_
    rintro e w1 ⟨rfl, hb1⟩
    have hb1' := hbd.trans (hb1.mono hbd.size)
    refine hK.out _ _ (HKS.out _ hb1') (fun hS => ?_)
    clear hK KN
    try simp only [Act.put, zzP]
    refine wpAnyH_take (i := 2) (v := .bool q1) rfl (by kernel_rfl) (by kernel_rfl) (by kernel_rfl) (fun _ _ _ h => h) (Or.inl ⟨by kernel_rfl, ?_⟩) hS ?_
    · intro w' hSw
      obtain ⟨s0, s1⟩ := hSw
      go_simp
    try simp only [Act.put, List.getElem_toArray, List.getElem_cons_succ, List.getElem_cons_zero, List.setIfInBounds_toArray, List.set_cons_zero, List.set_cons_succ]
    refine wpAnyH_take (i := 3) (v := .bool q1) rfl (by kernel_rfl) (by kernel_rfl) (by kernel_rfl) (fun _ _ _ h => h) (Or.inl ⟨by kernel_rfl, ?_⟩) hS ?_
    · intro w' hSw
      obtain ⟨s0, s1⟩ := hSw
      go_simp
    try simp only [Act.put, List.getElem_toArray, List.getElem_cons_succ, List.getElem_cons_zero, List.setIfInBounds_toArray, List.set_cons_zero, List.set_cons_succ]
    refine wpAnyH_done (by kernel_rfl) ?_ _
    try simp only [zzP]
    obtain ⟨c0_2, c1_2⟩ := hS
    have HB1 := Lib.hid (HB.out.trans (hb1'.mono HB.out.size))
    have HX1 := Lib.hid (HX.out.keep hb1' HX.out.lt)
    clear HKS hbd hb1 hb1'
    cases q1 with
    | true =>
      have HF1 := Lib.hid (show firM sg ss.reverse (t1, t2) = .ok (.node 0 0 []) by rw [HF.out]; simp)
      clear HF
      have y2 := HX1.out
      have z9 := ((y2.put 0 (.int .i64 0)).put 1 (.int .i64 0)).put 2 (.slice none 0 0)
      have e0 := z9.cell 0
      have e1 := z9.cell 1
      have e2 := z9.cell 2
      have r0 := y2.cell 0
      have r1 := y2.cell 1
      have r2 := y2.cell 2
      have fz0 := y2.frozen 0
      have fz1 := y2.frozen 1
      have fz2 := y2.frozen 2
      have lz := y2.lt
      simp only [List.setIfInBounds_toArray, List.set_cons_zero, List.set_cons_succ, List.getElem?_toArray, List.getElem?_cons_zero, List.getElem?_cons_succ] at e0 e1 e2 r0 r1 r2
      clear z9 y2
      go_wp2_with fail
      refine bodyPost_ret (v := .tuple #[.agg #[.int .i64 0, .int .i64 0, .slice none 0 0], .int .i64 0]) (by simp [results, Tryz.results80, go_sem, e0, e1, e2]) rfl ?_
      refine ⟨((HB1.out.setCell (by dsimp only; omega) _).setCell (by dsimp only; omega) _).setCell (by dsimp only; omega) _, 0, 0, 0, rfl, .inl ⟨HF1.out, rfl⟩⟩
    | false =>
      go_wp2_with fail
      have HKS : Hid (∀ w' : World, Below w1.heap.size w1 w' → (fun w' => w'.cell? ⟨w.heap.size, 0, none⟩ = some (.int .i64 t1) ∧ w'.cell? ⟨w.heap.size, 1, none⟩ = some (.string t2)) w') := Lib.hid fun w' h => ⟨(h.cell (cell_ltX c0_2)).trans c0_2, (h.cell (cell_ltX c1_2)).trans c1_2⟩
      have hbd : Below w1.heap.size w1 w1.drew := (Below.refl _ w1).drew
      refine zzR HKS hbd (fun hS => ?_)
      simp only [List.size_toArray, List.length_cons, List.length_nil, Nat.reduceAdd]
      refine wpAnyH_take (i := 0) (v := .agg #[.int .i64 t1, .string t2]) rfl (by kernel_rfl) (by kernel_rfl) (by kernel_rfl) (fun _ _ _ h => h) (Or.inl ⟨by kernel_rfl, ?_⟩) hS ?_
      · intro w' hSw
        obtain ⟨s0, s1⟩ := hSw
        go_simp
      try simp only [Act.put, List.getElem_toArray, List.getElem_cons_zero, List.setIfInBounds_toArray, List.set_cons_zero, List.set_cons_succ]
      refine wpAnyH_ready (rs := [1]) (by kernel_rfl) (by simp) ?_
      refine AllReadyH.cons rfl (fun KN hK => ?_) AllReadyH.nil
      go_simp
      refine (pMarkC _ _).mono ?_
      rintro e w2 ⟨rfl, hb2⟩
      have hb2' := hbd.trans (hb2.mono hbd.size)
      refine hK.out _ _ (HKS.out _ hb2') (fun hS => ?_)
      clear hK KN
      try simp only [Act.put, zzP]
      refine wpAnyH_take (i := 2) (v := .bool q2) rfl (by kernel_rfl) (by kernel_rfl) (by kernel_rfl) (fun _ _ _ h => h) (Or.inl ⟨by kernel_rfl, ?_⟩) hS ?_
      · intro w' hSw
        obtain ⟨s0, s1⟩ := hSw
        go_simp
      try simp only [Act.put, List.getElem_toArray, List.getElem_cons_succ, List.getElem_cons_zero, List.setIfInBounds_toArray, List.set_cons_zero, List.set_cons_succ]
      refine wpAnyH_take (i := 3) (v := .bool q2) rfl (by kernel_rfl) (by kernel_rfl) (by kernel_rfl) (fun _ _ _ h => h) (Or.inl ⟨by kernel_rfl, ?_⟩) hS ?_
      · intro w' hSw
        obtain ⟨s0, s1⟩ := hSw
        go_simp
      try simp only [Act.put, List.getElem_toArray, List.getElem_cons_succ, List.getElem_cons_zero, List.setIfInBounds_toArray, List.set_cons_zero, List.set_cons_succ]
      refine wpAnyH_done (by kernel_rfl) ?_ _
      try simp only [zzP]
      obtain ⟨c0_3, c1_3⟩ := hS
      have HB2 := Lib.hid (HB1.out.trans (hb2'.mono HB1.out.size))
      have HX2 := Lib.hid (HX1.out.keep hb2' HX1.out.lt)
      clear HKS hbd hb2 hb2'
      cases q2 with
      | true =>
        have HF1 := Lib.hid (show firM sg ss.reverse (t1, t2) = .ok (.node 0 0 []) by rw [HF.out]; simp)
        clear HF
        have y2 := HX2.out
        have z9 := ((y2.put 0 (.int .i64 0)).put 1 (.int .i64 0)).put 2 (.slice none 0 0)
        have e0 := z9.cell 0
        have e1 := z9.cell 1
        have e2 := z9.cell 2
        have r0 := y2.cell 0
        have r1 := y2.cell 1
        have r2 := y2.cell 2
        have fz0 := y2.frozen 0
        have fz1 := y2.frozen 1
        have fz2 := y2.frozen 2
        have lz := y2.lt
        simp only [List.setIfInBounds_toArray, List.set_cons_zero, List.set_cons_succ, List.getElem?_toArray, List.getElem?_cons_zero, List.getElem?_cons_succ] at e0 e1 e2 r0 r1 r2
        clear z9 y2
        go_wp2_with fail
        refine bodyPost_ret (v := .tuple #[.agg #[.int .i64 0, .int .i64 0, .slice none 0 0], .int .i64 0]) (by simp [results, Tryz.results80, go_sem, e0, e1, e2]) rfl ?_
        refine ⟨((HB2.out.setCell (by dsimp only; omega) _).setCell (by dsimp only; omega) _).setCell (by dsimp only; omega) _, 0, 0, 0, rfl, .inl ⟨HF1.out, rfl⟩⟩
      | false =>
        go_wp2_with fail
        have HKS : Hid (∀ w' : World, Below w2.heap.size w2 w' → (fun w' => w'.cell? ⟨w.heap.size, 0, none⟩ = some (.int .i64 t1) ∧ w'.cell? ⟨w.heap.size, 1, none⟩ = some (.string t2)) w') := Lib.hid fun w' h => ⟨(h.cell (cell_ltX c0_3)).trans c0_3, (h.cell (cell_ltX c1_3)).trans c1_3⟩
        have hbd : Below w2.heap.size w2 w2.drew := (Below.refl _ w2).drew
        refine zzR HKS hbd (fun hS => ?_)
        simp only [List.size_toArray, List.length_cons, List.length_nil, Nat.reduceAdd]
        refine wpAnyH_take (i := 0) (v := .agg #[.int .i64 t1, .string t2]) rfl (by kernel_rfl) (by kernel_rfl) (by kernel_rfl) (fun _ _ _ h => h) (Or.inl ⟨by kernel_rfl, ?_⟩) hS ?_
        · intro w' hSw
          obtain ⟨s0, s1⟩ := hSw
          go_simp
        try simp only [Act.put, List.getElem_toArray, List.getElem_cons_zero, List.setIfInBounds_toArray, List.set_cons_zero, List.set_cons_succ]
        refine wpAnyH_ready (rs := [1]) (by kernel_rfl) (by simp) ?_
        refine AllReadyH.cons rfl (fun KN hK => ?_) AllReadyH.nil
        go_simp
        refine (pMarkC _ _).mono ?_
        rintro e w3 ⟨rfl, hb3⟩
        have hb3' := hbd.trans (hb3.mono hbd.size)
        refine hK.out _ _ (HKS.out _ hb3') (fun hS => ?_)
        clear hK KN
        try simp only [Act.put, zzP]
        refine wpAnyH_take (i := 2) (v := .bool q3) rfl (by kernel_rfl) (by kernel_rfl) (by kernel_rfl) (fun _ _ _ h => h) (Or.inl ⟨by kernel_rfl, ?_⟩) hS ?_
        · intro w' hSw
          obtain ⟨s0, s1⟩ := hSw
          go_simp
        try simp only [Act.put, List.getElem_toArray, List.getElem_cons_succ, List.getElem_cons_zero, List.setIfInBounds_toArray, List.set_cons_zero, List.set_cons_succ]
        refine wpAnyH_take (i := 3) (v := .bool q3) rfl (by kernel_rfl) (by kernel_rfl) (by kernel_rfl) (fun _ _ _ h => h) (Or.inl ⟨by kernel_rfl, ?_⟩) hS ?_
        · intro w' hSw
          obtain ⟨s0, s1⟩ := hSw
          go_simp
        try simp only [Act.put, List.getElem_toArray, List.getElem_cons_succ, List.getElem_cons_zero, List.setIfInBounds_toArray, List.set_cons_zero, List.set_cons_succ]
        refine wpAnyH_done (by kernel_rfl) ?_ _
        try simp only [zzP]
        obtain ⟨c0_4, c1_4⟩ := hS
        have HB3 := Lib.hid (HB2.out.trans (hb3'.mono HB2.out.size))
        have HX3 := Lib.hid (HX2.out.keep hb3' HX2.out.lt)
        clear HKS hbd hb3 hb3'
        cases q3 with
        | true =>
          have HF1 := Lib.hid (show firM sg ss.reverse (t1, t2) = .ok (.node 0 0 []) by rw [HF.out]; simp)
          clear HF
          have y2 := HX3.out
          have z9 := ((y2.put 0 (.int .i64 0)).put 1 (.int .i64 0)).put 2 (.slice none 0 0)
          have e0 := z9.cell 0
          have e1 := z9.cell 1
          have e2 := z9.cell 2
          have r0 := y2.cell 0
          have r1 := y2.cell 1
          have r2 := y2.cell 2
          have fz0 := y2.frozen 0
          have fz1 := y2.frozen 1
          have fz2 := y2.frozen 2
          have lz := y2.lt
          simp only [List.setIfInBounds_toArray, List.set_cons_zero, List.set_cons_succ, List.getElem?_toArray, List.getElem?_cons_zero, List.getElem?_cons_succ] at e0 e1 e2 r0 r1 r2
          clear z9 y2
          go_wp2_with fail
          refine bodyPost_ret (v := .tuple #[.agg #[.int .i64 0, .int .i64 0, .slice none 0 0], .int .i64 0]) (by simp [results, Tryz.results80, go_sem, e0, e1, e2]) rfl ?_
          refine ⟨((HB3.out.setCell (by dsimp only; omega) _).setCell (by dsimp only; omega) _).setCell (by dsimp only; omega) _, 0, 0, 0, rfl, .inl ⟨HF1.out, rfl⟩⟩
        | false =>
          have HF1 := Lib.hid (show firM sg ss.reverse (t1, t2) = .error 8 by rw [HF.out]; simp)
          clear HF
          have y2 := HX3.out
          have z9 := ((y2.put 0 (.int .i64 0)).put 1 (.int .i64 0)).put 2 (.slice none 0 0)
          have e0 := z9.cell 0
          have e1 := z9.cell 1
          have e2 := z9.cell 2
          have r0 := y2.cell 0
          have r1 := y2.cell 1
          have r2 := y2.cell 2
          have fz0 := y2.frozen 0
          have fz1 := y2.frozen 1
          have fz2 := y2.frozen 2
          have lz := y2.lt
          simp only [List.setIfInBounds_toArray, List.set_cons_zero, List.set_cons_succ, List.getElem?_toArray, List.getElem?_cons_zero, List.getElem?_cons_succ] at e0 e1 e2 r0 r1 r2
          clear z9 y2
          go_wp2_with fail
          refine bodyPost_ret (v := .tuple #[.agg #[.int .i64 0, .int .i64 0, .slice none 0 0], .int .i64 8]) (by simp [results, Tryz.results80, go_sem, e0, e1, e2]) rfl ?_
          refine ⟨((HB3.out.setCell (by dsimp only; omega) _).setCell (by dsimp only; omega) _).setCell (by dsimp only; omega) _, 0, 0, 8, rfl, .inr ⟨HF1.out, by decide, rfl, rfl⟩⟩
end Go.Proofs.YtmkahbbcagfbhaaGreatDoor
/-
  Contracts of package parse's alone and closed. No statement is proved here.
-/
namespace Go.Proofs.YtmkahbbcagfbhaaGreatDoor
open Go.ChangeShapes Go.WideShapes Go.ChangeAt Go.RowKit
set_option linter.unusedVariables false
set_option maxRecDepth 100000 in
set_option maxHeartbeats 8000000 in
theorem pAloneC {b0 R K : Nat} {SA : Option Addr} {sn sc : Nat} {sg : List (ByteArray × T)} (lo : Nat) (r : Rt) (k g : Int) (A : Option Addr) (n c : Nat) (ec : Int) (w : World) (hR : R < lo) (hlo : lo ≤ w.heap.size)
    (h : (∃ t y, r = .ok (t, y) ∧ ec = 0 ∧ RdN lo w t (.agg #[.int .i64 k, .int .i64 g, .slice A n c]) ∧ PS b0 R K SA sn sc sg y w) ∨ (r = .error ec ∧ ec ≠ 0 ∧ k = 0 ∧ g = 0 ∧ A = none ∧ n = 0 ∧ c = 0)) :
    Calls Tryz.prog 83 #[.pointer (some ⟨R, 0, none⟩), .agg #[.int .i64 k, .int .i64 g, .slice A n c], .int .i64 ec] w (TmX lo b0 R K SA sn sc sg (aloneM r) w) := by
  obtain ⟨W, hW⟩ : ∃ W, (w.alloc (.cells #[.int .i64 k, .int .i64 g, .slice A n c] 36)).alloc (.cells #[.int .i64 0, .int .i64 0, .slice none 0 0] 36) = W := ⟨_, rfl⟩
  have hb : Below w.heap.size w W := by rw [← hW]; exact ((Below.refl _ _).alloc (Nat.le_refl _) _).alloc (by simp) _
  have x0 : BoxX W w.heap.size 36 #[.int .i64 k, .int .i64 g, .slice A n c] := by rw [← hW]; exact (BoxX.new _ _ _).alloc _
  have x1 : BoxX W (w.heap.size + 1) 36 #[.int .i64 0, .int .i64 0, .slice none 0 0] := by
    have := BoxX.new (w.alloc (.cells #[.int .i64 k, .int .i64 g, .slice A n c] 36)) 36 #[.int .i64 0, .int .i64 0, .slice none 0 0]
    rw [← hW]; simpa using this
  have HB := Lib.hid hb
  have HX0 := Lib.hid x0
  have HX1 := Lib.hid x1
  rcases h with ⟨t, y, hr, rfl, hrd, hps⟩ | ⟨hr, he, rfl, rfl, rfl, rfl, rfl⟩
  · have HA := Lib.hid (pAtC (hps.keep hb))
    have HR := Lib.hid (And.intro hr (And.intro hrd hps))
    clear hb x0 x1 hr hrd hps
    subst hW
    go_enter Tryz.func83, Tryz.ntmps83
    go_wp2_with fail
    refine HA.out.mono ?_
    rintro e w1 ⟨rfl, hb1⟩
    have HB1 := Lib.hid (HB.out.trans (hb1.mono HB.out.size))
    have y0 := HX0.out.keep hb1 HX0.out.lt
    have y1 := HX1.out.keep hb1 HX1.out.lt
    have q0 := y0.cell 0
    have q1 := y0.cell 1
    have q2 := y0.cell 2
    simp only [List.getElem?_toArray, List.getElem?_cons_zero, List.getElem?_cons_succ] at q0 q1 q2
    clear hb1 HA HX0 HX1 y0 HB
    cases hbe : begM y with
    | true =>
      have HE := Lib.hid hbe
      clear hbe
      have z9 := ((y1.put 0 (.int .i64 0)).put 1 (.int .i64 0)).put 2 (.slice none 0 0)
      have e0 := z9.cell 0
      have e1 := z9.cell 1
      have e2 := z9.cell 2
      have r0 := y1.cell 0
      have r1 := y1.cell 1
      have r2 := y1.cell 2
      have fz0 := y1.frozen 0
      have fz1 := y1.frozen 1
      have fz2 := y1.frozen 2
      have lz := y1.lt
      simp only [List.setIfInBounds_toArray, List.set_cons_zero, List.set_cons_succ, List.getElem?_toArray, List.getElem?_cons_zero, List.getElem?_cons_succ] at e0 e1 e2 r0 r1 r2
      clear z9 y1 q0 q1 q2
      go_wp2_with fail
      refine bodyPost_ret (v := .tuple #[.agg #[.int .i64 0, .int .i64 0, .slice none 0 0], .int .i64 8]) (by simp [results, Tryz.results83, go_sem, e0, e1, e2]) rfl ?_
      have hbf := ((HB1.out.setCell (p := ⟨w.heap.size + 1, 0, none⟩) (by dsimp only; omega) (.int .i64 0)).setCell (p := ⟨w.heap.size + 1, 1, none⟩) (by dsimp only; omega) (.int .i64 0)).setCell (p := ⟨w.heap.size + 1, 2, none⟩) (by dsimp only; omega) (.slice none 0 0)
      refine ⟨FrB.below hbf, 0, 0, none, 0, 0, 8, rfl, .inr ⟨?_, by decide, rfl, rfl, rfl, rfl, rfl⟩⟩
      rw [HR.out.1, aloneM, if_pos HE.out]
    | false =>
      have HE := Lib.hid hbe
      clear hbe
      have z9 := ((y1.put 0 (.int .i64 k)).put 1 (.int .i64 g)).put 2 (.slice A n c)
      have e0 := z9.cell 0
      have e1 := z9.cell 1
      have e2 := z9.cell 2
      have r0 := y1.cell 0
      have r1 := y1.cell 1
      have r2 := y1.cell 2
      have fz0 := y1.frozen 0
      have fz1 := y1.frozen 1
      have fz2 := y1.frozen 2
      have lz := y1.lt
      simp only [List.setIfInBounds_toArray, List.set_cons_zero, List.set_cons_succ, List.getElem?_toArray, List.getElem?_cons_zero, List.getElem?_cons_succ] at e0 e1 e2 r0 r1 r2
      clear z9 y1
      go_wp2_with fail
      refine bodyPost_ret (v := .tuple #[.agg #[.int .i64 k, .int .i64 g, .slice A n c], .int .i64 0]) (by simp [results, Tryz.results83, go_sem, e0, e1, e2]) rfl ?_
      have hbf := ((HB1.out.setCell (p := ⟨w.heap.size + 1, 0, none⟩) (by dsimp only; omega) (.int .i64 k)).setCell (p := ⟨w.heap.size + 1, 1, none⟩) (by dsimp only; omega) (.int .i64 g)).setCell (p := ⟨w.heap.size + 1, 2, none⟩) (by dsimp only; omega) (.slice A n c)
      refine ⟨FrB.below hbf, k, g, A, n, c, 0, rfl, .inl ⟨t, y, ?_, rfl, HR.out.2.1.keep hbf, HR.out.2.2.keep hbf⟩⟩
      rw [HR.out.1, aloneM, if_neg (by rw [HE.out]; simp)]
  · have d9 : (ec == 0) = false := by simpa using he
    have HR := Lib.hid (And.intro hr he)
    have q0 := x0.cell 0
    have q1 := x0.cell 1
    have q2 := x0.cell 2
    simp only [List.getElem?_toArray, List.getElem?_cons_zero, List.getElem?_cons_succ] at q0 q1 q2
    clear hb x0 x1 hr he
    have HW := Lib.hid hW
    clear hW
    go_enter Tryz.func83, Tryz.ntmps83
    go_wp2_with fail
    refine bodyPost_ret (v := .tuple #[.agg #[.int .i64 0, .int .i64 0, .slice none 0 0], .int .i64 ec]) (by simp [results, Tryz.results83, go_sem]) rfl ?_
    refine ⟨FrB.below (((Below.refl _ _).alloc (Nat.le_refl _) _).alloc (by simp) _), 0, 0, none, 0, 0, ec, rfl, .inr ⟨?_, HR.out.2, rfl, rfl, rfl, rfl, rfl⟩⟩
    rw [HR.out.1, aloneM]
set_option maxRecDepth 100000 in
set_option maxHeartbeats 8000000 in
theorem pClosedC {b0 R K : Nat} {SA : Option Addr} {sn sc : Nat} {sg : List (ByteArray × T)} {k : Nat} (IH : TmCb b0 R K SA sn sc sg k) {x : List Tk} {w : World} (h : PS b0 R K SA sn sc sg x w) (ss : List ByteArray) (A : Option Addr) (n c : Nat) (tm : Int) (hN : NL w ss A n c) (hk : ss.length + k ≤ 1000) (htm : tm + k = 121) (m : ByteArray) (hm : m ≠ ⟨#[]⟩) :
    Calls Tryz.prog 84 #[.pointer (some ⟨R, 0, none⟩), .string m, .agg #[.slice A n c, .int .i64 tm]] w (TmX w.heap.size b0 R K SA sn sc sg (closedM (1, m) (termM sg k ss.reverse x)) w) := by
  obtain ⟨W, hW⟩ : ∃ W, (w.alloc (.cells #[.slice A n c, .int .i64 tm] 100)).alloc (.cells #[.int .i64 0, .int .i64 0, .slice none 0 0] 36) = W := ⟨_, rfl⟩
  have hb : Below w.heap.size w W := by rw [← hW]; exact ((Below.refl _ _).alloc (Nat.le_refl _) _).alloc (by simp) _
  have x0 : BoxX W w.heap.size 100 #[.slice A n c, .int .i64 tm] := by rw [← hW]; exact (BoxX.new _ _ _).alloc _
  have x1 : BoxX W (w.heap.size + 1) 36 #[.int .i64 0, .int .i64 0, .slice none 0 0] := by
    have := BoxX.new (w.alloc (.cells #[.slice A n c, .int .i64 tm] 100)) 36 #[.int .i64 0, .int .i64 0, .slice none 0 0]
    rw [← hW]; simpa using this
  have hsz : W.heap.size = w.heap.size + 2 := by rw [← hW]; simp
  have c0 := x0.cell 0
  have c1 := x0.cell 1
  simp only [List.getElem?_toArray, List.getElem?_cons_zero, List.getElem?_cons_succ] at c0 c1
  have hlt := h.lt
  have HC := Lib.hid (IH x W ss A n c tm (h.keep hb) (hN.keep hb) hk htm)
  have HB := Lib.hid hb
  have HX1 := Lib.hid x1
  have HB0 := Lib.hid h.le
  have HM := Lib.hid (show ((1, m) : Tk) ≠ (1, ⟨#[]⟩) from fun e => hm (congrArg Prod.snd e))
  clear hb x0 x1 h hN
  subst hW
  go_enter Tryz.func84, Tryz.ntmps84
  go_wp2_with fail
  refine HC.out.mono ?_
  rintro e w2 ⟨hf2, k1, g1, A1, n1, c1', ec, rfl, hres⟩
  have x2 := HX1.out.fr hf2 (by omega)
  have hs2 := hf2.size
  rw [hsz] at hs2
  have HF2 := Lib.hid ((FrB.below HB.out).trans hf2)
  have HSZ := Lib.hid hsz
  clear HX1 HC c0 c1 HB hsz hf2
  generalize ((w.alloc (.cells #[.slice A n c, .int .i64 tm] 100)).alloc (.cells #[.int .i64 0, .int .i64 0, .slice none 0 0] 36)) = W at *
  rcases hres with ⟨t, y, hr, rfl, hrd, hps⟩ | ⟨hr, he, rfl, rfl, rfl, rfl, rfl⟩
  · obtain ⟨q, hq⟩ : ∃ q, decide (hdT y = (1, m)) = q := ⟨_, rfl⟩
    have hbA : Below w2.heap.size w2 (w2.alloc (.cells #[.int .i64 k1, .int .i64 g1, .slice A1 n1 c1'] 36)) := (Below.refl _ _).alloc (Nat.le_refl _) _
    have ht := pTakeC (hps.keep hbA) m
    rw [hq] at ht
    have x8 := BoxX.new w2 36 #[.int .i64 k1, .int .i64 g1, .slice A1 n1 c1']
    have x9 := x2.alloc (.cells #[.int .i64 k1, .int .i64 g1, .slice A1 n1 c1'] 36)
    have HA := Lib.hid hbA
    have HT := Lib.hid ht
    have HX8 := Lib.hid x8
    have HX9 := Lib.hid x9
    have HR := Lib.hid (And.intro hr (And.intro hrd hq))
    clear hr hrd hq hps hbA ht x8 x9 x2
    go_wp2_with fail
    refine HT.out.mono ?_
    rintro e w3 ⟨rfl, hps3, hf3⟩
    have y8 := HX8.out.fr hf3 (by omega)
    have y9 := HX9.out.fr hf3 (by omega)
    have hs3 := hf3.size
    simp only [World.size_alloc] at hs3
    have q0 := y8.cell 0
    have q1 := y8.cell 1
    have q2 := y8.cell 2
    simp only [List.getElem?_toArray, List.getElem?_cons_zero, List.getElem?_cons_succ] at q0 q1 q2
    have HF3 := Lib.hid (HF2.out.trans ((FrB.below HA.out).trans hf3))
    have HMid := Lib.hid (((Mid.refl W.heap.size w2.heap.size w2).below HA.out (Nat.le_refl _)).fr hf3 (by rw [HSZ.out]; omega) (by simp))
    have HP3 := Lib.hid hps3
    clear HX8 HX9 HT HA HF2 hf3 hps3 y8
    cases q with
    | true =>
      have z9 := ((y9.put 0 (.int .i64 k1)).put 1 (.int .i64 g1)).put 2 ((.slice A1 n1 c1'))
      have e0 := z9.cell 0
      have e1 := z9.cell 1
      have e2 := z9.cell 2
      have r0 := y9.cell 0
      have r1 := y9.cell 1
      have r2 := y9.cell 2
      have fz0 := y9.frozen 0
      have fz1 := y9.frozen 1
      have fz2 := y9.frozen 2
      have lz := y9.lt
      simp only [List.setIfInBounds_toArray, List.set_cons_zero, List.set_cons_succ, List.getElem?_toArray, List.getElem?_cons_zero, List.getElem?_cons_succ] at e0 e1 e2 r0 r1 r2
      clear z9 y9
      go_wp2_with fail
      refine bodyPost_ret (v := .tuple #[.agg #[.int .i64 k1, .int .i64 g1, (.slice A1 n1 c1')], .int .i64 0]) (by simp [results, Tryz.results84, go_sem, e0, e1, e2]) rfl ?_
      have hff := HF3.out.put3 (P := w.heap.size + 1) (by omega) (.int .i64 k1) (.int .i64 g1) (.slice A1 n1 c1')
      have hfl : FrB R w3 (((w3.setCell ⟨w.heap.size + 1, 0, none⟩ (.int .i64 k1)).setCell ⟨w.heap.size + 1, 1, none⟩ (.int .i64 g1)).setCell ⟨w.heap.size + 1, 2, none⟩ (.slice A1 n1 c1')) → True := fun _ => trivial
      obtain ⟨hr, hrd, hq⟩ := HR.out
      have hh : hdT y = (1, m) := of_decide_eq_true hq
      have hp3 := HP3.out
      rw [if_pos hh] at hp3
      have htk : takeM (1, m) y = .ok y.tail := by
        rcases hd_take (x := y) HM.out with ⟨_, h2⟩ | ⟨h1, _⟩
        · exact h2
        · exact absurd hh h1
      refine ⟨hff, k1, g1, A1, n1, c1', 0, rfl, .inl ⟨t, y.tail, by rw [hr, closedM, htk], rfl, ?_, hp3.put3 (by have := HB0.out; omega) (by omega) _ _ _⟩⟩
      exact (hrd.to (HMid.out.set3 (.inl (by rw [HSZ.out]; omega)) _ _ _)).less (by rw [HSZ.out]; omega)
    | false =>
      have z9 := ((y9.put 0 (.int .i64 0)).put 1 (.int .i64 0)).put 2 (.slice none 0 0)
      have e0 := z9.cell 0
      have e1 := z9.cell 1
      have e2 := z9.cell 2
      have r0 := y9.cell 0
      have r1 := y9.cell 1
      have r2 := y9.cell 2
      have fz0 := y9.frozen 0
      have fz1 := y9.frozen 1
      have fz2 := y9.frozen 2
      have lz := y9.lt
      simp only [List.setIfInBounds_toArray, List.set_cons_zero, List.set_cons_succ, List.getElem?_toArray, List.getElem?_cons_zero, List.getElem?_cons_succ] at e0 e1 e2 r0 r1 r2
      clear z9 y9 q0 q1 q2
      go_wp2_with fail
      refine bodyPost_ret (v := .tuple #[.agg #[.int .i64 0, .int .i64 0, .slice none 0 0], .int .i64 8]) (by simp [results, Tryz.results84, go_sem, e0, e1, e2]) rfl ?_
      have hff := HF3.out.put3 (P := w.heap.size + 1) (by omega) (.int .i64 0) (.int .i64 0) (.slice none 0 0)
      obtain ⟨hr, hrd, hq⟩ := HR.out
      have hh : hdT y ≠ (1, m) := of_decide_eq_false hq
      have htk : takeM (1, m) y = .error 8 := by
        rcases hd_take (x := y) HM.out with ⟨h1, _⟩ | ⟨_, h2⟩
        · exact absurd h1 hh
        · exact h2
      exact ⟨hff, 0, 0, none, 0, 0, 8, rfl, .inr ⟨by rw [hr, closedM, htk], by decide, rfl, rfl, rfl, rfl, rfl⟩⟩
  · have d9 : (ec == 0) = false := by simpa using he
    have HR := Lib.hid (And.intro hr he)
    have x9 := x2.alloc (.cells #[.int .i64 0, .int .i64 0, .slice none 0 0] 36)
    have x8 := BoxX.new w2 36 #[.int .i64 0, .int .i64 0, .slice none 0 0]
    have q0 := x8.cell 0
    have q1 := x8.cell 1
    have q2 := x8.cell 2
    simp only [List.getElem?_toArray, List.getElem?_cons_zero, List.getElem?_cons_succ] at q0 q1 q2
    have hbA : Below w2.heap.size w2 (w2.alloc (.cells #[.int .i64 0, .int .i64 0, .slice none 0 0] 36)) := (Below.refl _ _).alloc (Nat.le_refl _) _
    have HF3 := Lib.hid (HF2.out.then hbA)
    clear hr he x2 hbA x8
    have z9 := ((x9.put 0 (.int .i64 0)).put 1 (.int .i64 0)).put 2 ((.slice none 0 0))
    have e0 := z9.cell 0
    have e1 := z9.cell 1
    have e2 := z9.cell 2
    have r0 := x9.cell 0
    have r1 := x9.cell 1
    have r2 := x9.cell 2
    have fz0 := x9.frozen 0
    have fz1 := x9.frozen 1
    have fz2 := x9.frozen 2
    have lz := x9.lt
    simp only [List.setIfInBounds_toArray, List.set_cons_zero, List.set_cons_succ, List.getElem?_toArray, List.getElem?_cons_zero, List.getElem?_cons_succ] at e0 e1 e2 r0 r1 r2
    clear z9 x9
    go_wp2_with fail
    refine bodyPost_ret (v := .tuple #[.agg #[.int .i64 0, .int .i64 0, (.slice none 0 0)], .int .i64 ec]) (by simp [results, Tryz.results84, go_sem, e0, e1, e2]) rfl ?_
    have hff := HF3.out.put3 (P := w.heap.size + 1) (by omega) (.int .i64 0) (.int .i64 0) (.slice none 0 0)
    exact ⟨hff, 0, 0, none, 0, 0, ec, rfl, .inr ⟨by rw [HR.out.1, closedM], HR.out.2, rfl, rfl, rfl, rfl, rfl⟩⟩
end Go.Proofs.YtmkahbbcagfbhaaGreatDoor
/-
  Contracts of package parse's pi and lam. No statement is proved here.
-/
namespace Go.Proofs.YtmkahbbcagfbhaaGreatDoor
open Go.ChangeShapes Go.WideShapes Go.ChangeAt Go.RowKit
set_option linter.unusedVariables false
theorem NL.full {w : World} {ss : List ByteArray} {A : Option Addr} {n c : Nat} (h : NL w ss A n c) : NL w ss A n n := ⟨h.len, Nat.le_refl _, Nat.le_trans h.le h.cap, h.at_⟩
/-- a node of one or two terms in a row of their own -/
theorem RdN.node1 {lo G : Nat} {w : World} {a : T} {k g : Int} {A : Option Addr} {n c : Nat} {ty : TypeId} {z : Nat × Nat} (hG : w.heap[G]? = some (.cells #[.int .i64 k, .int .i64 g, .slice A n c] ty z)) (hlo : lo ≤ G) (ha : RdN lo w a (.agg #[.int .i64 k, .int .i64 g, .slice A n c])) :
    RdN lo w (.node 3 0 [a]) (.agg #[.int .i64 3, .int .i64 0, .slice (some ⟨G, 0, none⟩) 1 1]) := by
  refine RdF_node.2 ⟨some ⟨G, 0, none⟩, 1, 1, rfl, wfB (by omega) (by omega), wfB (by omega) (by omega), rfl, Nat.le_refl _, by unfold maxLen; omega, fun i t ht => ?_⟩
  have hc : ∀ j, w.cell? ⟨G, j, none⟩ = #[.int .i64 k, .int .i64 g, .slice A n c][j]? := fun j => by simp [World.cell?, hG]
  match i, ht with
  | 0, ht =>
    obtain rfl : a = t := by simpa using ht
    exact ⟨G, 0, _, _, _, rfl, hlo, hc 0, hc 1, hc 2, ha⟩
  | i + 1, ht => simp at ht
theorem RdN.node2 {lo G : Nat} {w : World} {a b : T} {k g k' g' : Int} {A A' : Option Addr} {n c n' c' : Nat} {ty : TypeId} {z : Nat × Nat} (hG : w.heap[G]? = some (.cells #[.int .i64 k, .int .i64 g, .slice A n c, .int .i64 k', .int .i64 g', .slice A' n' c'] ty z)) (hlo : lo ≤ G) (ha : RdN lo w a (.agg #[.int .i64 k, .int .i64 g, .slice A n c])) (hb : RdN lo w b (.agg #[.int .i64 k', .int .i64 g', .slice A' n' c'])) :
    RdN lo w (.node 1 0 [a, b]) (.agg #[.int .i64 1, .int .i64 0, .slice (some ⟨G, 0, none⟩) 2 2]) := by
  refine RdF_node.2 ⟨some ⟨G, 0, none⟩, 2, 2, rfl, wfB (by omega) (by omega), wfB (by omega) (by omega), rfl, Nat.le_refl _, by unfold maxLen; omega, fun i t ht => ?_⟩
  have hc : ∀ j, w.cell? ⟨G, j, none⟩ = #[.int .i64 k, .int .i64 g, .slice A n c, .int .i64 k', .int .i64 g', .slice A' n' c'][j]? := fun j => by simp [World.cell?, hG]
  match i, ht with
  | 0, ht =>
    obtain rfl : a = t := by simpa using ht
    exact ⟨G, 0, _, _, _, rfl, hlo, hc 0, hc 1, hc 2, ha⟩
  | 1, ht =>
    obtain rfl : b = t := by simpa using ht
    exact ⟨G, 0, _, _, _, rfl, hlo, hc 3, hc 4, hc 5, hb⟩
  | i + 2, ht => simp at ht
set_option maxRecDepth 100000 in
set_option maxHeartbeats 2000000 in
theorem pLamC {b0 R K : Nat} {SA : Option Addr} {sn sc : Nat} {sg : List (ByteArray × T)} {k : Nat} (IH : TmCb b0 R K SA sn sc sg k) {x : List Tk} {w : World} (h : PS b0 R K SA sn sc sg x w) (ss : List ByteArray) (A : Option Addr) (n c : Nat) (tm : Int) (hN : NL w ss A n c) (hk : ss.length + (k + 1) ≤ 1000) (htm : tm + (k + 1) = 121) (h0tm : 0 ≤ tm) :
    Calls Tryz.prog 82 #[.pointer (some ⟨R, 0, none⟩), .agg #[.slice A n c, .int .i64 tm]] w (TmX w.heap.size b0 R K SA sn sc sg (lamM sg k ss.reverse x) w) := by
  obtain ⟨W, hW⟩ : ∃ W, (w.alloc (.cells #[.slice A n c, .int .i64 tm] 100)).alloc (.cells #[.int .i64 0, .int .i64 0, .slice none 0 0] 36) = W := ⟨_, rfl⟩
  have hb : Below w.heap.size w W := by rw [← hW]; exact ((Below.refl _ _).alloc (Nat.le_refl _) _).alloc (by simp) _
  have x0 : BoxX W w.heap.size 100 #[.slice A n c, .int .i64 tm] := by rw [← hW]; exact (BoxX.new _ _ _).alloc _
  have x1 : BoxX W (w.heap.size + 1) 36 #[.int .i64 0, .int .i64 0, .slice none 0 0] := by
    have := BoxX.new (w.alloc (.cells #[.slice A n c, .int .i64 tm] 100)) 36 #[.int .i64 0, .int .i64 0, .slice none 0 0]
    rw [← hW]; simpa using this
  have hsz : W.heap.size = w.heap.size + 2 := by rw [← hW]; simp
  have hlt := h.lt
  have HB0 := Lib.hid h.le
  have HN := Lib.hid (pNamedC (h.keep hb) ⟨#[93]⟩ (by decide))
  have HNL := Lib.hid (hN.keep hb)
  have HP0 := Lib.hid (h.keep hb)
  have HB := Lib.hid hb
  have HX0 := Lib.hid x0
  have HX1 := Lib.hid x1
  have HSZ := Lib.hid hsz
  clear hb x0 x1 h hN hsz
  subst hW
  go_enter Tryz.func82, Tryz.ntmps82
  go_wp2_with fail
  refine HN.out.mono ?_
  rintro e w1 ⟨hf1, s, q, rfl, _, hres⟩
  have y0 := HX0.out.fr hf1 (by omega)
  have y1 := HX1.out.fr hf1 (by omega)
  have HNL1 := Lib.hid (HNL.out.fr HP0.out hf1)
  have hs1 := hf1.size
  rw [HSZ.out] at hs1
  have HF1 := Lib.hid ((FrB.below HB.out).trans hf1)
  clear HN HNL HP0 HX0 HX1 HB hf1
  generalize ((w.alloc (.cells #[.slice A n c, .int .i64 tm] 100)).alloc (.cells #[.int .i64 0, .int .i64 0, .slice none 0 0] 36)) = W at *
  rcases hres with ⟨y, rfl, hr, hps⟩ | ⟨rfl, hr, _, _⟩
  rotate_left
  · have HR := Lib.hid (show namedM mR x = .error 8 from hr)
    clear hr y0 HNL1
    have z9 := ((y1.put 0 (.int .i64 0)).put 1 (.int .i64 0)).put 2 ((.slice none 0 0))
    have e0 := z9.cell 0
    have e1 := z9.cell 1
    have e2 := z9.cell 2
    have r0 := y1.cell 0
    have r1 := y1.cell 1
    have r2 := y1.cell 2
    have fz0 := y1.frozen 0
    have fz1 := y1.frozen 1
    have fz2 := y1.frozen 2
    have lz := y1.lt
    simp only [List.setIfInBounds_toArray, List.set_cons_zero, List.set_cons_succ, List.getElem?_toArray, List.getElem?_cons_zero, List.getElem?_cons_succ] at e0 e1 e2 r0 r1 r2
    clear z9 y1
    go_wp2_with fail
    refine bodyPost_ret (v := .tuple #[.agg #[.int .i64 0, .int .i64 0, (.slice none 0 0)], .int .i64 8]) (by simp [results, Tryz.results82, go_sem, e0, e1, e2]) rfl ?_
    have hff := HF1.out.put3 (P := w.heap.size + 1) (by omega) (.int .i64 0) (.int .i64 0) (.slice none 0 0)
    exact ⟨hff, 0, 0, none, 0, 0, 8, rfl, .inr ⟨by unfold lamM; rw [HR.out], by decide, rfl, rfl, rfl, rfl, rfl⟩⟩
  have HR := Lib.hid (show namedM mR x = .ok (s, y) from hr)
  have HP1 := Lib.hid hps
  clear hr hps
  have p0 := y0.cell 0
  have p1 := y0.cell 1
  simp only [List.getElem?_toArray, List.getElem?_cons_zero, List.getElem?_cons_succ] at p0 p1
  obtain ⟨W1, hW1⟩ : ∃ W1, w1.alloc (.cells #[.string s] 9) = W1 := ⟨_, rfl⟩
  have hbA : Below w1.heap.size w1 W1 := by rw [← hW1]; exact (Below.refl _ _).alloc (Nat.le_refl _) _
  have xs : BoxX W1 w1.heap.size 9 #[.string s] := by rw [← hW1]; exact BoxX.new _ _ _
  have hI := pInner1C A n c tm W1 (by omega) (by omega) (HNL1.out.keep hbA) (by have := HNL1.out.len; omega) _ s xs
  have HI := Lib.hid hI
  have HA := Lib.hid hbA
  clear hI hbA xs
  subst hW1
  go_wp2_with fail
  refine HI.out.mono ?_
  rintro e w2 ⟨A2, n2, c2, rfl, hnl2, hb2⟩
  have hb2' := HA.out.trans (hb2.mono HA.out.size)
  have hC := IH y w2 (ss ++ [s]) A2 n2 c2 (tm + 1) (HP1.out.keep hb2') hnl2 (by rw [List.length_append, List.length_singleton]; omega) (by omega)
  rw [List.reverse_append] at hC
  have HC := Lib.hid hC
  have HB2 := Lib.hid hb2'
  clear hC hb2 hb2' HI HA hnl2
  go_wp2_with fail
  refine HC.out.mono ?_
  rintro e w3 ⟨hf3, k1, g1, A1, n1, c1', ec, rfl, hres⟩
  have hs2 := HB2.out.size
  have hs3 := hf3.size
  have HF3 := Lib.hid (HF1.out.trans ((FrB.below HB2.out).trans hf3))
  have HM3 := Lib.hid (fun (lo : Nat) (hl : R < lo) => ((Mid.refl lo w1.heap.size w1).below HB2.out (Nat.le_refl _)).fr hf3 hl hs2)
  have z1 := (y1.keep HB2.out y1.lt).fr hf3 (by omega)
  clear HC y0 y1 p0 p1 HNL1 HB2 hf3 HF1 HP1
  rcases hres with ⟨b, y3, hr3, rfl, hrd3, hps3⟩ | ⟨hr3, he3, rfl, rfl, rfl, rfl, rfl⟩
  · have z8 := BoxX.new w3 36 #[.int .i64 k1, .int .i64 g1, .slice A1 n1 c1']
    have q0 := z8.cell 0
    have q1 := z8.cell 1
    have q2 := z8.cell 2
    simp only [List.getElem?_toArray, List.getElem?_cons_zero, List.getElem?_cons_succ] at q0 q1 q2
    obtain ⟨W4, hW4⟩ : ∃ W4, ((w3.alloc (.cells #[.int .i64 k1, .int .i64 g1, (.slice A1 n1 c1')] 36)).alloc (.cells #[.int .i64 k1, .int .i64 g1, (.slice A1 n1 c1')] 36)) = W4 := ⟨_, rfl⟩
    have hb4 : Below w3.heap.size w3 W4 := by rw [← hW4]; exact ((Below.refl _ _).alloc (Nat.le_refl _) _).alloc (by simp) _
    have hG4 : W4.heap[w3.heap.size + 1]? = some (.cells #[.int .i64 k1, .int .i64 g1, .slice A1 n1 c1'] 36 (0, 0)) := by
      have := heap_alloc_new (w3.alloc (.cells #[.int .i64 k1, .int .i64 g1, (.slice A1 n1 c1')] 36)) (.cells #[.int .i64 k1, .int .i64 g1, .slice A1 n1 c1'] 36)
      rw [← hW4]; simpa using this
    have z4 := z1.keep hb4 z1.lt
    have HF4 := Lib.hid (HF3.out.then hb4)
    have HR3 := Lib.hid (And.intro hr3 (And.intro (hrd3.keep hb4) (And.intro (hps3.keep hb4) hG4)))
    have hs4 := hb4.size
    clear hr3 hrd3 hps3 hb4 z8 z1 HF3 HM3 hG4
    subst hW4
    have z9 := ((z4.put 0 (.int .i64 3)).put 1 (.int .i64 0)).put 2 ((.slice (some ⟨w3.heap.size + 1, 0, none⟩) 1 1))
    have e0 := z9.cell 0
    have e1 := z9.cell 1
    have e2 := z9.cell 2
    have r0 := z4.cell 0
    have r1 := z4.cell 1
    have r2 := z4.cell 2
    have fz0 := z4.frozen 0
    have fz1 := z4.frozen 1
    have fz2 := z4.frozen 2
    have lz := z4.lt
    simp only [List.setIfInBounds_toArray, List.set_cons_zero, List.set_cons_succ, List.getElem?_toArray, List.getElem?_cons_zero, List.getElem?_cons_succ] at e0 e1 e2 r0 r1 r2
    clear z9 z4
    go_wp2_with fail
    refine bodyPost_ret (v := .tuple #[.agg #[.int .i64 3, .int .i64 0, (.slice (some ⟨w3.heap.size + 1, 0, none⟩) 1 1)], .int .i64 0]) (by simp [results, Tryz.results82, go_sem, e0, e1, e2]) rfl ?_
    have hff := HF4.out.put3 (P := w.heap.size + 1) (by omega) (.int .i64 3) (.int .i64 0) (.slice (some ⟨w3.heap.size + 1, 0, none⟩) 1 1)
    obtain ⟨hr3, hrd3, hps3, hG4⟩ := HR3.out
    refine ⟨hff, 3, 0, some ⟨w3.heap.size + 1, 0, none⟩, 1, 1, 0, rfl, .inl ⟨.node 3 0 [b], y3, ?_, rfl, ?_, hps3.put3 (by have := HB0.out; omega) (by omega) _ _ _⟩⟩
    · unfold lamM; rw [HR.out]; dsimp only; rw [show termM sg k (s :: ss.reverse) y = .ok (b, y3) from hr3]
    · refine RdN.less (lo := w2.heap.size) ?_ (by omega)
      refine RdN.node1 (G := w3.heap.size + 1) ((heap_other3Q _ _ _ _ _ _ (by omega)).trans hG4) (by omega) ?_
      exact hrd3.to fun b' h1 h2 => heap_other3Q _ _ _ _ _ _ (by omega)
  · have d9 : (ec == 0) = false := by simpa using he3
    have HR3 := Lib.hid (And.intro hr3 he3)
    have z8 := BoxX.new w3 36 #[.int .i64 0, .int .i64 0, .slice none 0 0]
    have q0 := z8.cell 0
    have q1 := z8.cell 1
    have q2 := z8.cell 2
    simp only [List.getElem?_toArray, List.getElem?_cons_zero, List.getElem?_cons_succ] at q0 q1 q2
    have z4 := z1.alloc (.cells #[.int .i64 0, .int .i64 0, .slice none 0 0] 36)
    have HF4 := Lib.hid (HF3.out.then ((Below.refl _ _).alloc (Nat.le_refl _) (.cells #[.int .i64 0, .int .i64 0, .slice none 0 0] 36)))
    clear hr3 he3 z8 z1 HF3 HM3
    have z9 := ((z4.put 0 (.int .i64 0)).put 1 (.int .i64 0)).put 2 ((.slice none 0 0))
    have e0 := z9.cell 0
    have e1 := z9.cell 1
    have e2 := z9.cell 2
    have r0 := z4.cell 0
    have r1 := z4.cell 1
    have r2 := z4.cell 2
    have fz0 := z4.frozen 0
    have fz1 := z4.frozen 1
    have fz2 := z4.frozen 2
    have lz := z4.lt
    simp only [List.setIfInBounds_toArray, List.set_cons_zero, List.set_cons_succ, List.getElem?_toArray, List.getElem?_cons_zero, List.getElem?_cons_succ] at e0 e1 e2 r0 r1 r2
    clear z9 z4
    go_wp2_with fail
    refine bodyPost_ret (v := .tuple #[.agg #[.int .i64 0, .int .i64 0, (.slice none 0 0)], .int .i64 ec]) (by simp [results, Tryz.results82, go_sem, e0, e1, e2]) rfl ?_
    have hff := HF4.out.put3 (P := w.heap.size + 1) (by omega) (.int .i64 0) (.int .i64 0) (.slice none 0 0)
    exact ⟨hff, 0, 0, none, 0, 0, ec, rfl, .inr ⟨by unfold lamM; rw [HR.out]; dsimp only; rw [show termM sg k (s :: ss.reverse) y = .error ec from HR3.out.1], HR3.out.2, rfl, rfl, rfl, rfl, rfl⟩⟩
set_option maxRecDepth 100000 in
set_option maxHeartbeats 2000000 in
theorem pPiC {b0 R K : Nat} {SA : Option Addr} {sn sc : Nat} {sg : List (ByteArray × T)} {k : Nat} (IH : TmCb b0 R K SA sn sc sg k) {x : List Tk} {w : World} (h : PS b0 R K SA sn sc sg x w) (ss : List ByteArray) (A : Option Addr) (n c : Nat) (tm : Int) (hN : NL w ss A n c) (hk : ss.length + (k + 1) ≤ 1000) (htm : tm + (k + 1) = 121) (h0tm : 0 ≤ tm) :
    Calls Tryz.prog 81 #[.pointer (some ⟨R, 0, none⟩), .agg #[.slice A n c, .int .i64 tm]] w (TmX w.heap.size b0 R K SA sn sc sg (piM sg k ss.reverse x) w) := by
  obtain ⟨W, hW⟩ : ∃ W, (w.alloc (.cells #[.slice A n c, .int .i64 tm] 100)).alloc (.cells #[.int .i64 0, .int .i64 0, .slice none 0 0] 36) = W := ⟨_, rfl⟩
  have hb : Below w.heap.size w W := by rw [← hW]; exact ((Below.refl _ _).alloc (Nat.le_refl _) _).alloc (by simp) _
  have x0 : BoxX W w.heap.size 100 #[.slice A n c, .int .i64 tm] := by rw [← hW]; exact (BoxX.new _ _ _).alloc _
  have x1 : BoxX W (w.heap.size + 1) 36 #[.int .i64 0, .int .i64 0, .slice none 0 0] := by
    have := BoxX.new (w.alloc (.cells #[.slice A n c, .int .i64 tm] 100)) 36 #[.int .i64 0, .int .i64 0, .slice none 0 0]
    rw [← hW]; simpa using this
  have hsz : W.heap.size = w.heap.size + 2 := by rw [← hW]; simp
  have hlt := h.lt
  have HB0 := Lib.hid h.le
  have HN := Lib.hid (pNamedC (h.keep hb) ⟨#[58]⟩ (by decide))
  have HNL := Lib.hid (hN.keep hb)
  have HP0 := Lib.hid (h.keep hb)
  have HB := Lib.hid hb
  have HX0 := Lib.hid x0
  have HX1 := Lib.hid x1
  have HSZ := Lib.hid hsz
  clear hb x0 x1 h hN hsz
  subst hW
  go_enter Tryz.func81, Tryz.ntmps81
  go_wp2_with fail
  refine HN.out.mono ?_
  rintro e w1 ⟨hf1, s, q, rfl, _, hres⟩
  have y0 := HX0.out.fr hf1 (by omega)
  have y1 := HX1.out.fr hf1 (by omega)
  have HNL1 := Lib.hid (HNL.out.fr HP0.out hf1)
  have hs1 := hf1.size
  rw [HSZ.out] at hs1
  have HF1 := Lib.hid ((FrB.below HB.out).trans hf1)
  clear HN HNL HP0 HX0 HX1 HB hf1
  generalize ((w.alloc (.cells #[.slice A n c, .int .i64 tm] 100)).alloc (.cells #[.int .i64 0, .int .i64 0, .slice none 0 0] 36)) = W at *
  rcases hres with ⟨y, rfl, hr, hps⟩ | ⟨rfl, hr, _, _⟩
  rotate_left
  · have HR := Lib.hid (show namedM mK x = .error 8 from hr)
    clear hr y0 HNL1
    have z9 := ((y1.put 0 (.int .i64 0)).put 1 (.int .i64 0)).put 2 ((.slice none 0 0))
    have e0 := z9.cell 0
    have e1 := z9.cell 1
    have e2 := z9.cell 2
    have r0 := y1.cell 0
    have r1 := y1.cell 1
    have r2 := y1.cell 2
    have fz0 := y1.frozen 0
    have fz1 := y1.frozen 1
    have fz2 := y1.frozen 2
    have lz := y1.lt
    simp only [List.setIfInBounds_toArray, List.set_cons_zero, List.set_cons_succ, List.getElem?_toArray, List.getElem?_cons_zero, List.getElem?_cons_succ] at e0 e1 e2 r0 r1 r2
    clear z9 y1
    go_wp2_with fail
    refine bodyPost_ret (v := .tuple #[.agg #[.int .i64 0, .int .i64 0, (.slice none 0 0)], .int .i64 8]) (by simp [results, Tryz.results81, go_sem, e0, e1, e2]) rfl ?_
    have hff := HF1.out.put3 (P := w.heap.size + 1) (by omega) (.int .i64 0) (.int .i64 0) (.slice none 0 0)
    exact ⟨hff, 0, 0, none, 0, 0, 8, rfl, .inr ⟨by unfold piM; rw [HR.out], by decide, rfl, rfl, rfl, rfl, rfl⟩⟩
  have HR := Lib.hid (show namedM mK x = .ok (s, y) from hr)
  have HP1 := Lib.hid hps
  clear hr hps
  have p0 := y0.cell 0
  have p1 := y0.cell 1
  simp only [List.getElem?_toArray, List.getElem?_cons_zero, List.getElem?_cons_succ] at p0 p1
  have hI := pInner0C A n c tm w1 (by omega) (by omega) HNL1.out
  have HI := Lib.hid hI
  clear hI
  go_wp2_with fail
  refine HI.out.mono ?_
  rintro e w2 ⟨rfl, hb2⟩
  have hC := pClosedC IH (HP1.out.keep hb2) ss A n n (tm + 1) (HNL1.out.full.keep hb2) (by omega) (by omega) ⟨#[125]⟩ (by decide)
  have HC := Lib.hid hC
  have HB2 := Lib.hid hb2
  clear hC hb2 HI
  go_wp2_with fail
  refine HC.out.mono ?_
  rintro e w3 ⟨hf3, ka, ga, Aa, na, ca, ec, rfl, hres⟩
  have hs2 := HB2.out.size
  have hs3 := hf3.size
  have HF3 := Lib.hid (HF1.out.trans ((FrB.below HB2.out).trans hf3))
  have z1 := (y1.keep HB2.out y1.lt).fr hf3 (by omega)
  have z0 := (y0.keep HB2.out y0.lt).fr hf3 (by omega)
  have HNL3 := Lib.hid ((HNL1.out.keep HB2.out).fr (HP1.out.keep HB2.out) hf3)
  clear HC y0 y1 p0 p1 HNL1 HB2 hf3 HF1 HP1
  rcases hres with ⟨a, y2, hr3, rfl, hrd3, hps3⟩ | ⟨hr3, he3, rfl, rfl, rfl, rfl, rfl⟩
  · have z8 := BoxX.new w3 36 #[.int .i64 ka, .int .i64 ga, .slice Aa na ca]
    have q0 := z8.cell 0
    have q1 := z8.cell 1
    have q2 := z8.cell 2
    simp only [List.getElem?_toArray, List.getElem?_cons_zero, List.getElem?_cons_succ] at q0 q1 q2
    obtain ⟨W4, hW4⟩ : ∃ W4, (w3.alloc (.cells #[.int .i64 ka, .int .i64 ga, (.slice Aa na ca)] 36)) = W4 := ⟨_, rfl⟩
    have hb4 : Below w3.heap.size w3 W4 := by rw [← hW4]; exact (Below.refl _ _).alloc (Nat.le_refl _) _
    have z14 := z1.keep hb4 z1.lt
    have z04 := z0.keep hb4 z0.lt
    rw [hW4] at z8 q0 q1 q2
    have HF4 := Lib.hid (HF3.out.then hb4)
    have HNL4 := Lib.hid (HNL3.out.keep hb4)
    have HP4 := Lib.hid (hps3.keep hb4)
    have HRa := Lib.hid (And.intro hr3 (hrd3.keep hb4))
    have hs4 := hb4.size
    have hl4 : W4.heap.size = w3.heap.size + 1 := by rw [← hW4]; simp
    clear hr3 hrd3 hps3 hb4 z1 z0 HF3 HNL3
    have p0 := z04.cell 0
    have p1 := z04.cell 1
    simp only [List.getElem?_toArray, List.getElem?_cons_zero, List.getElem?_cons_succ] at p0 p1
    obtain ⟨W5, hW5⟩ : ∃ W5, W4.alloc (.cells #[.string s] 9) = W5 := ⟨_, rfl⟩
    have hbA : Below W4.heap.size W4 W5 := by rw [← hW5]; exact (Below.refl _ _).alloc (Nat.le_refl _) _
    have xs : BoxX W5 (w3.heap.size + 1) 9 #[.string s] := by rw [← hW5, ← hl4]; exact BoxX.new _ _ _
    have hI := pInner1C A n c tm W5 (by omega) (by omega) (HNL4.out.keep hbA) (by have := HNL4.out.len; omega) _ s xs
    have HI := Lib.hid hI
    have HA := Lib.hid hbA
    clear hI hbA xs
    subst hW5
    subst hW4
    go_wp2_with fail
    refine HI.out.mono ?_
    rintro e w5 ⟨A2, n2, c2, rfl, hnl5, hb5⟩
    have hb5' := HA.out.trans (hb5.mono HA.out.size)
    have hC := IH y2 w5 (ss ++ [s]) A2 n2 c2 (tm + 1) (HP4.out.keep hb5') hnl5 (by rw [List.length_append, List.length_singleton]; omega) (by omega)
    rw [List.reverse_append] at hC
    have HC := Lib.hid hC
    have HB5 := Lib.hid hb5'
    clear hC hb5 hb5' HI HA hnl5
    go_wp2_with fail
    refine HC.out.mono ?_
    rintro e w6 ⟨hf6, kb, gb, Ab, nb, cb, ec, rfl, hres⟩
    have hs5 := HB5.out.size
    have hs6 := hf6.size
    have HF6 := Lib.hid (HF4.out.trans ((FrB.below HB5.out).trans hf6))
    have HMa := Lib.hid (((Mid.refl w2.heap.size (w3.alloc (.cells #[.int .i64 ka, .int .i64 ga, (.slice Aa na ca)] 36)).heap.size (w3.alloc (.cells #[.int .i64 ka, .int .i64 ga, (.slice Aa na ca)] 36))).below HB5.out (Nat.le_refl _)).fr hf6 (by omega) hs5)
    have z16 := (z14.keep HB5.out z14.lt).fr hf6 (by omega)
    have z86 := (z8.keep HB5.out z8.lt).fr hf6 (by omega)
    have HRa6 := Lib.hid (And.intro HRa.out.1 (RdN.to HRa.out.2 HMa.out))
    clear HC z14 z8 z04 p0 p1 q0 q1 q2 HNL4 HB5 hf6 HF4 HP4 HRa HMa
    generalize (w3.alloc (.cells #[.int .i64 ka, .int .i64 ga, (.slice Aa na ca)] 36)) = W4 at *
    rcases hres with ⟨b, y3, hr6, rfl, hrd6, hps6⟩ | ⟨hr6, he6, rfl, rfl, rfl, rfl, rfl⟩
    · have z9 := BoxX.new w6 36 #[.int .i64 kb, .int .i64 gb, .slice Ab nb cb]
      have q0 := z9.cell 0
      have q1 := z9.cell 1
      have q2 := z9.cell 2
      simp only [List.getElem?_toArray, List.getElem?_cons_zero, List.getElem?_cons_succ] at q0 q1 q2
      have z87 := z86.alloc (.cells #[.int .i64 kb, .int .i64 gb, .slice Ab nb cb] 36)
      have s0 := z87.cell 0
      have s1 := z87.cell 1
      have s2 := z87.cell 2
      simp only [List.getElem?_toArray, List.getElem?_cons_zero, List.getElem?_cons_succ] at s0 s1 s2
      obtain ⟨W7, hW7⟩ : ∃ W7, ((w6.alloc (.cells #[.int .i64 kb, .int .i64 gb, (.slice Ab nb cb)] 36)).alloc (.cells #[.int .i64 ka, .int .i64 ga, .slice Aa na ca, .int .i64 kb, .int .i64 gb, .slice Ab nb cb] 36)) = W7 := ⟨_, rfl⟩
      have hb7 : Below w6.heap.size w6 W7 := by rw [← hW7]; exact ((Below.refl _ _).alloc (Nat.le_refl _) _).alloc (by simp) _
      have hG7 : W7.heap[w6.heap.size + 1]? = some (.cells #[.int .i64 ka, .int .i64 ga, .slice Aa na ca, .int .i64 kb, .int .i64 gb, .slice Ab nb cb] 36 (0, 0)) := by
        have := heap_alloc_new (w6.alloc (.cells #[.int .i64 kb, .int .i64 gb, (.slice Ab nb cb)] 36)) (.cells #[.int .i64 ka, .int .i64 ga, .slice Aa na ca, .int .i64 kb, .int .i64 gb, .slice Ab nb cb] 36)
        rw [← hW7]; simpa using this
      have z17 := z16.keep hb7 z16.lt
      have HF7 := Lib.hid (HF6.out.then hb7)
      have HR7 := Lib.hid (And.intro hr6 (And.intro (hrd6.keep hb7) (And.intro (hps6.keep hb7) (And.intro hG7 (And.intro HRa6.out.1 (RdN.keep HRa6.out.2 hb7))))))
      have hs7 := hb7.size
      clear hr6 hrd6 hps6 hb7 z9 z16 HF6 hG7 HRa6 z86 z87
      subst hW7
      have z9 := ((z17.put 0 (.int .i64 1)).put 1 (.int .i64 0)).put 2 ((.slice (some ⟨w6.heap.size + 1, 0, none⟩) 2 2))
      have e0 := z9.cell 0
      have e1 := z9.cell 1
      have e2 := z9.cell 2
      have r0 := z17.cell 0
      have r1 := z17.cell 1
      have r2 := z17.cell 2
      have fz0 := z17.frozen 0
      have fz1 := z17.frozen 1
      have fz2 := z17.frozen 2
      have lz := z17.lt
      simp only [List.setIfInBounds_toArray, List.set_cons_zero, List.set_cons_succ, List.getElem?_toArray, List.getElem?_cons_zero, List.getElem?_cons_succ] at e0 e1 e2 r0 r1 r2
      clear z9 z17
      go_wp2_with fail
      refine bodyPost_ret (v := .tuple #[.agg #[.int .i64 1, .int .i64 0, (.slice (some ⟨w6.heap.size + 1, 0, none⟩) 2 2)], .int .i64 0]) (by simp [results, Tryz.results81, go_sem, e0, e1, e2]) rfl ?_
      have hff := HF7.out.put3 (P := w.heap.size + 1) (by omega) (.int .i64 1) (.int .i64 0) (.slice (some ⟨w6.heap.size + 1, 0, none⟩) 2 2)
      obtain ⟨hr6, hrd6, hps6, hG7, hra, hrda⟩ := HR7.out
      refine ⟨hff, 1, 0, some ⟨w6.heap.size + 1, 0, none⟩, 2, 2, 0, rfl, .inl ⟨.node 1 0 [a, b], y3, ?_, rfl, ?_, hps6.put3 (by have := HB0.out; omega) (by omega) _ _ _⟩⟩
      · unfold piM; rw [HR.out]; dsimp only; rw [show closedM mQ (termM sg k ss.reverse y) = .ok (a, y2) from hra]; dsimp only; rw [show termM sg k (s :: ss.reverse) y2 = .ok (b, y3) from hr6]
      · refine RdN.less (lo := w2.heap.size) ?_ (by omega)
        refine RdN.node2 (G := w6.heap.size + 1) ((heap_other3Q _ _ _ _ _ _ (by omega)).trans hG7) (by omega) ?_ ?_
        · exact hrda.to fun b' h1 h2 => heap_other3Q _ _ _ _ _ _ (by omega)
        · exact (hrd6.to fun b' h1 h2 => heap_other3Q _ _ _ _ _ _ (by omega)).less (by omega)
    · have d9 : (ec == 0) = false := by simpa using he6
      have HR7 := Lib.hid (And.intro hr6 (And.intro he6 HRa6.out.1))
      have z9 := BoxX.new w6 36 #[.int .i64 0, .int .i64 0, .slice none 0 0]
      have q0 := z9.cell 0
      have q1 := z9.cell 1
      have q2 := z9.cell 2
      simp only [List.getElem?_toArray, List.getElem?_cons_zero, List.getElem?_cons_succ] at q0 q1 q2
      have z17 := z16.alloc (.cells #[.int .i64 0, .int .i64 0, .slice none 0 0] 36)
      have HF7 := Lib.hid (HF6.out.then ((Below.refl _ _).alloc (Nat.le_refl _) (.cells #[.int .i64 0, .int .i64 0, .slice none 0 0] 36)))
      clear hr6 he6 z9 z16 HF6 HRa6 z86
      have z9 := ((z17.put 0 (.int .i64 0)).put 1 (.int .i64 0)).put 2 ((.slice none 0 0))
      have e0 := z9.cell 0
      have e1 := z9.cell 1
      have e2 := z9.cell 2
      have r0 := z17.cell 0
      have r1 := z17.cell 1
      have r2 := z17.cell 2
      have fz0 := z17.frozen 0
      have fz1 := z17.frozen 1
      have fz2 := z17.frozen 2
      have lz := z17.lt
      simp only [List.setIfInBounds_toArray, List.set_cons_zero, List.set_cons_succ, List.getElem?_toArray, List.getElem?_cons_zero, List.getElem?_cons_succ] at e0 e1 e2 r0 r1 r2
      clear z9 z17
      go_wp2_with fail
      refine bodyPost_ret (v := .tuple #[.agg #[.int .i64 0, .int .i64 0, (.slice none 0 0)], .int .i64 ec]) (by simp [results, Tryz.results81, go_sem, e0, e1, e2]) rfl ?_
      have hff := HF7.out.put3 (P := w.heap.size + 1) (by omega) (.int .i64 0) (.int .i64 0) (.slice none 0 0)
      exact ⟨hff, 0, 0, none, 0, 0, ec, rfl, .inr ⟨by unfold piM; rw [HR.out]; dsimp only; rw [show closedM mQ (termM sg k ss.reverse y) = .ok (a, y2) from HR7.out.2.2]; dsimp only; rw [show termM sg k (s :: ss.reverse) y2 = .error ec from HR7.out.1], HR7.out.2.1, rfl, rfl, rfl, rfl, rfl⟩⟩
  · have d9 : (ec == 0) = false := by simpa using he3
    have HR3 := Lib.hid (And.intro hr3 he3)
    have z8 := BoxX.new w3 36 #[.int .i64 0, .int .i64 0, .slice none 0 0]
    have q0 := z8.cell 0
    have q1 := z8.cell 1
    have q2 := z8.cell 2
    simp only [List.getElem?_toArray, List.getElem?_cons_zero, List.getElem?_cons_succ] at q0 q1 q2
    have z4 := z1.alloc (.cells #[.int .i64 0, .int .i64 0, .slice none 0 0] 36)
    have HF4 := Lib.hid (HF3.out.then ((Below.refl _ _).alloc (Nat.le_refl _) (.cells #[.int .i64 0, .int .i64 0, .slice none 0 0] 36)))
    clear hr3 he3 z8 z1 z0 HF3 HNL3
    have z9 := ((z4.put 0 (.int .i64 0)).put 1 (.int .i64 0)).put 2 ((.slice none 0 0))
    have e0 := z9.cell 0
    have e1 := z9.cell 1
    have e2 := z9.cell 2
    have r0 := z4.cell 0
    have r1 := z4.cell 1
    have r2 := z4.cell 2
    have fz0 := z4.frozen 0
    have fz1 := z4.frozen 1
    have fz2 := z4.frozen 2
    have lz := z4.lt
    simp only [List.setIfInBounds_toArray, List.set_cons_zero, List.set_cons_succ, List.getElem?_toArray, List.getElem?_cons_zero, List.getElem?_cons_succ] at e0 e1 e2 r0 r1 r2
    clear z9 z4
    go_wp2_with fail
    refine bodyPost_ret (v := .tuple #[.agg #[.int .i64 0, .int .i64 0, (.slice none 0 0)], .int .i64 ec]) (by simp [results, Tryz.results81, go_sem, e0, e1, e2]) rfl ?_
    have hff := HF4.out.put3 (P := w.heap.size + 1) (by omega) (.int .i64 0) (.int .i64 0) (.slice none 0 0)
    exact ⟨hff, 0, 0, none, 0, 0, ec, rfl, .inr ⟨by unfold piM; rw [HR.out]; dsimp only; rw [show closedM mQ (termM sg k ss.reverse y) = .error ec from HR3.out.1], HR3.out.2, rfl, rfl, rfl, rfl, rfl⟩⟩
end Go.Proofs.YtmkahbbcagfbhaaGreatDoor
