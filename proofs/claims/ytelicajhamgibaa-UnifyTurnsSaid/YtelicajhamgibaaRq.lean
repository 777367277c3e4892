/-
  Contracts of the document's own functions of layer 2.
-/
import Derived.Test.YtelicajhamgibaaSu
import Derived.Test.YtelicajhamgibaaLast
import Derived.Deep.AppendLies
import Derived.Deep.RegionHeld3
namespace Go.Proofs.Ytelicajhamgibaa
open Go.ChangeShapes Go.WideShapes Go.ChangeAt Go.RowKit
set_option linter.unusedVariables false


/-! ### What the document's up tells -/
mutual
def upW (b : Int) : T → Int → T
  | .node k h xs, f => .node k (if k = 4 ∧ f ≤ h then wrap64 (h + b) else h) (upWL b k xs.length xs 0 f)
def upWL (b k : Int) (n : Nat) : List T → Nat → Int → List T
  | [], _, _ => []
  | t :: ts, i, f => upW b t (wrap64 (f + bd k n i)) :: upWL b k n ts (i + 1) f
end

/-- cells that are terms, three by three -/
def KidL (w : World) (ok : Nat → Prop) (cs : List Value) (ys : List T) : Prop :=
  ∀ i t, ys[i]? = some t → ∃ k h A n c, cs[i * 3]? = some (.int .i64 k) ∧ cs[i * 3 + 1]? = some (.int .i64 h) ∧ cs[i * 3 + 2]? = some (.slice A n c) ∧ RdF ok w t (.agg #[.int .i64 k, .int .i64 h, .slice A n c])
theorem KidL.move {w w' : World} {ok ok' : Nat → Prop} {cs : List Value} {ys : List T} (hk : KidL w ok cs ys) (hok : ∀ b, ok b → ok' b) (hm : ∀ b, ok b → b < w.heap.size → w'.heap[b]? = w.heap[b]?) : KidL w' ok' cs ys := fun i t ht => by
  obtain ⟨k', h', A', n', c', e0, e1, e2, hr⟩ := hk i t ht
  exact ⟨k', h', A', n', c', e0, e1, e2, RdF.move hok hm _ _ hr⟩
theorem KidL.snoc {w : World} {ok : Nat → Prop} {cs : List Value} {ys : List T} {t : T} {k h : Int} {A : Option Addr} {n c : Nat} (hk : KidL w ok cs ys) (hl : cs.length = ys.length * 3)
    (hr : RdF ok w t (.agg #[.int .i64 k, .int .i64 h, .slice A n c])) : KidL w ok (cs ++ [.int .i64 k, .int .i64 h, .slice A n c]) (ys ++ [t]) := fun i u hu => by
  rcases Nat.lt_or_ge i ys.length with hi | hi
  · rw [List.getElem?_append_left hi] at hu
    obtain ⟨k', h', A', n', c', e0, e1, e2, hr'⟩ := hk i u hu
    refine ⟨k', h', A', n', c', ?_, ?_, ?_, hr'⟩
    · rw [List.getElem?_append_left (by omega)]; exact e0
    · rw [List.getElem?_append_left (by omega)]; exact e1
    · rw [List.getElem?_append_left (by omega)]; exact e2
  · rw [List.getElem?_append_right hi] at hu
    have hi' : i = ys.length := by
      rcases Nat.eq_or_lt_of_le hi with h | h
      · exact h.symm
      · rw [List.getElem?_eq_none (by simp; omega)] at hu; cases hu
    subst hi'
    rw [Nat.sub_self] at hu
    simp only [List.getElem?_cons_zero, Option.some.injEq] at hu
    subst hu
    refine ⟨k, h, A, n, c, ?_, ?_, ?_, hr⟩
    · rw [List.getElem?_append_right (by omega), hl, Nat.sub_self]; rfl
    · rw [List.getElem?_append_right (by omega), hl, show ys.length * 3 + 1 - ys.length * 3 = 1 by omega]; rfl
    · rw [List.getElem?_append_right (by omega), hl, show ys.length * 3 + 2 - ys.length * 3 = 2 by omega]; rfl

/-- how the document's up ends -/
def FEnd (t : T) (w : World) (e : Ending) (w' : World) : Prop := ∃ v, e = .returned v ∧ RdF (fun g => w.heap.size ≤ g ∧ g < w'.heap.size) w' t v ∧ Below w.heap.size w w'

theorem own_none (v : Value) : v.ownBlock = none ∨ v.ownBlock ≠ none := by
  cases v.ownBlock <;> simp
theorem grown_set (w : World) (a : Addr) (v : Value) : w.grownBy (w.setCell a v) (some a.block) :=
  ⟨rfl, rfl, rfl, by simp, fun g _ hne => Below.heap_setCell _ _ _ _ (fun e => hne (by rw [e]))⟩

theorem grown_set3 (w : World) (a : Nat) (u0 u1 u2 : Value) : w.grownBy (((w.setCell ⟨a, 0, none⟩ u0).setCell ⟨a, 1, none⟩ u1).setCell ⟨a, 2, none⟩ u2) (some a) :=
  ⟨rfl, rfl, rfl, by simp, fun g _ hne => heap_other3 w a u0 u1 u2 g (fun e => hne (by rw [e]))⟩
theorem below_grown {B : Nat} {w a b : World} {row : Option Nat} (h : Below B w a) (hg : a.grownBy b row) (hr : ∀ r, row = some r → B ≤ r) (hB : B ≤ a.heap.size) : Below B w b :=
  h.trans ⟨hg.os, hg.tape, hg.output, hg.size, fun k hk => hg.block k (by omega) (fun e => by have := hr k e.symm; omega)⟩
/-- a row of its own whose cells are terms: a node -/
theorem rdF_row {w : World} {ok ok' : Nat → Prop} {base n : Nat} {A : Option Addr} {c : Nat} {cs : List Value} {ys : List T} {k h : Int} (how : w.ownsRow base 31 3 (.slice A n c) n cs) (hk : KidL w ok cs ys) (hy : ys.length = n)
    (hok : ∀ g, ok g → ok' g) (hrow : ∀ g, Value.ownBlock (.slice A n c) = some g → ok' g) (wk : (Lit.int .i64 k).wf = true) (wh : (Lit.int .i64 h).wf = true) : RdF ok' w (.node k h ys) (.agg #[.int .i64 k, .int .i64 h, .slice A n c]) := by
  have hcell := fun g (hg : Value.ownBlock (.slice A n c) = some g) => how.cells hg
  refine RdF_node.2 ⟨A, n, c, rfl, wk, wh, hy, ?_, ?_, fun i t ht => ?_⟩
  · rcases how.2 with ⟨e, _⟩ | ⟨g, cap, cur, e, _, _, h1, _⟩
    · injection e with e1 e2 e3; omega
    · injection e with e1 e2 e3; omega
  · rcases how.2 with ⟨e, _⟩ | ⟨g, cap, cur, e, _, _, h1, h2, _⟩
    · injection e with e1 e2 e3; rw [e3]; exact Nat.zero_le _
    · injection e with e1 e2 e3; rw [e3]; exact h2
  · obtain ⟨k', h', A', n', c', e0, e1, e2, hr⟩ := hk i t ht
    have hi := (List.getElem?_eq_some_iff.1 ht).1
    rcases how.2 with ⟨e, h0⟩ | ⟨g, cap, cur, e, _, _, h1, h2, _⟩
    · omega
    · injection e with ea _ _
      subst ea
      have hc := hcell g rfl
      have c0 := hc _ _ e0
      have c1 := hc _ _ e1
      have c2 := hc _ _ e2
      rw [addr_add] at c0 c1 c2
      exact ⟨g, 0, _, _, _, rfl, hrow g rfl, c0, c1, c2, RdF.move hok (fun _ _ _ => rfl) _ _ hr⟩

/-- what a round of the document's up reads -/
def SUp (z : Nat) (k h : Int) (bA oA n c : Nat) (vs : Value) (j : Nat) (k2 h2 : Int) (A2 : Option Addr) (n2 c2 : Nat) (w' : World) : Prop :=
  w'.cell? ⟨z, 0, none⟩ = some (.int .i64 k) ∧ w'.cell? ⟨z, 1, none⟩ = some (.int .i64 h) ∧ w'.cell? ⟨z, 2, none⟩ = some (.slice (some ⟨bA, oA, none⟩) n c) ∧ w'.cell? ⟨z + 1 + 1, 2, none⟩ = some vs ∧ w'.cell? ⟨bA, oA + j * 3, none⟩ = some (.int .i64 k2) ∧
    w'.cell? ⟨bA, oA + j * 3 + 1, none⟩ = some (.int .i64 h2) ∧ w'.cell? ⟨bA, oA + j * 3 + 2, none⟩ = some (.slice A2 n2 c2)

theorem RdF.full {ok : Nat → Prop} {w : World} {t : T} {v : Value} (h : RdF ok w t v) : ∃ k h A n c, v = .agg #[.int .i64 k, .int .i64 h, .slice A n c] := (RdF.rd _ _ h).full

end Go.Proofs.Ytelicajhamgibaa
