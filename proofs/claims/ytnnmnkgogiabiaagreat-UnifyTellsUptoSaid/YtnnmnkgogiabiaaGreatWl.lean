/-
  awake: the chapter's example of layer 3 comes out as the document says; the document's Lights. No statement is proved here.
-/
import Derived.Test.YtnnmnkgogiabiaaGreatWk
import Derived.Test.YtnnmnkgogiabiaaGreatPb
namespace Go.Proofs.YtnnmnkgogiabiaaGreat
open Go.ChangeShapes Go.WideShapes Go.ChangeAt Go.RowKit
set_option linter.unusedVariables false

theorem lights_all {xs : List T} {s d : Int} (h : xs.all (fun t => ltB t s d) = true) : ∀ x ∈ xs, ltB x s d = true := List.all_eq_true.1 h
/-- are all light, and at most 60? -/
def lsB (xs : List T) (s d : Int) : Bool := decide (xs.length ≤ 60) && xs.all fun t => ltB t s d

/-- Var 0 of Const 1, Lam of Var 0 -/
def awX : T := .node 4 0 [.node 5 1 []]
def awF : T := .node 3 0 [.node 4 0 []]
theorem aw_T : apT awX [awF] 0 = .node 5 1 [] := by kernel_rfl
theorem aw_E : apE awX [awF] 0 = 0 := by kernel_rfl
theorem lo_awX : LoT awX := by simp [LoT, awX, okT, okL]
theorem lo_awF : LoT awF := by simp [LoT, awF, okT, okL]
theorem rd_one {w : World} {b : Nat} {ty : TypeId} {t : T} {k h k2 h2 : Int} {A : Option Addr} {n c : Nat} (hb : Box w b ty #[.int .i64 k2, .int .i64 h2, .slice A n c]) (hr : Rd w t (.agg #[.int .i64 k2, .int .i64 h2, .slice A n c])) :
    ∀ i u, [t][i]? = some u → RdAt w (some ⟨b, 0, none⟩) i u := fun i u hu => by
  cases i with
  | zero =>
    simp only [List.getElem?_cons_zero, Option.some.injEq] at hu
    subst hu
    obtain ⟨c0, c1, c2⟩ := hb.three
    exact ⟨b, 0, _, _, _, rfl, c0, c1, c2, hr⟩
  | succ i => simp at hu
theorem rd_leaf {w : World} {k h : Int} (hk : (Lit.int .i64 k).wf = true) (hh : (Lit.int .i64 h).wf = true) : Rd w (.node k h []) (.agg #[.int .i64 k, .int .i64 h, .slice none 0 0]) :=
  Rd_node.2 ⟨none, 0, 0, rfl, hk, hh, rfl, Nat.le_refl _, Nat.zero_le _, fun i t ht => by simp at ht⟩
theorem rd_node1 {w : World} {b : Nat} {ty : TypeId} {t : T} {k h k2 h2 : Int} {A : Option Addr} {n c : Nat} (hb : Box w b ty #[.int .i64 k2, .int .i64 h2, .slice A n c]) (hr : Rd w t (.agg #[.int .i64 k2, .int .i64 h2, .slice A n c])) (hk : (Lit.int .i64 k).wf = true) (hh : (Lit.int .i64 h).wf = true) :
    Rd w (.node k h [t]) (.agg #[.int .i64 k, .int .i64 h, .slice (some ⟨b, 0, none⟩) 1 1]) :=
  Rd_node.2 ⟨some ⟨b, 0, none⟩, 1, 1, rfl, hk, hh, rfl, Nat.le_refl _, by unfold maxLen; omega, rd_one (k := 0) (h := 0) hb hr⟩

end Go.Proofs.YtnnmnkgogiabiaaGreat
