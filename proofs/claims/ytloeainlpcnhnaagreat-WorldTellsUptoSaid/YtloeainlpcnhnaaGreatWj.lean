/-
  The contracts of package subst's Same and Under. No statement is proved here.
-/
import Derived.Test.YtloeainlpcnhnaaGreatWi
namespace Go.Proofs.YtloeainlpcnhnaaGreat
open Go.ChangeShapes Go.WideShapes Go.ChangeAt Go.RowKit
set_option linter.unusedVariables false

/-- how a call ends that tells a substitution of its own -/
def SEnd (L : List T) (sh : Int) (w : World) (e : Ending) (w' : World) : Prop :=
  ∃ A n c, e = .returned (.agg #[.slice A n c, .int .i64 sh]) ∧ RXL (fun b => b < w.heap.size) w' L A n c ∧ Below w.heap.size w w'
/-- variables n - 1 to 0, from a place on -/
def vsL (n : Nat) : List T := (List.range n).map fun (i : Nat) => T.node 4 ((n : Int) - 1 - (i : Int)) []
def clN (n : Int) : Nat := if n < 0 then 0 else if 200 < n then 200 else n.toNat
theorem Box.put2 {w : World} {p : Nat} {ty : TypeId} {x0 x1 : Value} (h : Box w p ty #[x0, x1]) (u0 u1 : Value) : Box ((w.setCell ⟨p, 0, none⟩ u0).setCell ⟨p, 1, none⟩ u1) p ty #[u0, u1] := by
  have := (h.setAt 0 u0).setAt 1 u1
  simpa using this
theorem vsL_at (m : Nat) (i : Nat) (t : T) (h : (vsL m)[i]? = some t) : i < m ∧ t = .node 4 ((m : Int) - 1 - (i : Int)) [] := by
  unfold vsL at h
  rw [List.getElem?_map, Option.map_eq_some_iff] at h
  obtain ⟨k, hk, rfl⟩ := h
  obtain ⟨h1, h2⟩ := List.getElem?_eq_some_iff.1 hk
  rw [List.length_range] at h1
  rw [List.getElem_range] at h2
  subst h2
  exact ⟨h1, rfl⟩
/-- three cells are laid -/
theorem lay3 {cs : Array Value} {m j : Nat} {v0 v1 v2 : Value} {p : Nat → Value → Value → Value → Prop} (hs : cs.size = m * 3) (hj : j < m)
    (h : ∀ i, i < j → ∃ a b c, cs[i * 3]? = some a ∧ cs[i * 3 + 1]? = some b ∧ cs[i * 3 + 2]? = some c ∧ p i a b c) (hp : p j v0 v1 v2) :
    ∀ i, i < j + 1 → ∃ a b c, (((cs.setIfInBounds (j * 3) v0).setIfInBounds (j * 3 + 1) v1).setIfInBounds (j * 3 + 2) v2)[i * 3]? = some a ∧ (((cs.setIfInBounds (j * 3) v0).setIfInBounds (j * 3 + 1) v1).setIfInBounds (j * 3 + 2) v2)[i * 3 + 1]? = some b ∧
      (((cs.setIfInBounds (j * 3) v0).setIfInBounds (j * 3 + 1) v1).setIfInBounds (j * 3 + 2) v2)[i * 3 + 2]? = some c ∧ p i a b c := by
  intro i hi
  by_cases e : i = j
  · subst e
    refine ⟨v0, v1, v2, ?_, ?_, ?_, hp⟩
    · rw [Array.getElem?_setIfInBounds_ne (by omega), Array.getElem?_setIfInBounds_ne (by omega), Array.getElem?_setIfInBounds_self_of_lt (by omega)]
    · rw [Array.getElem?_setIfInBounds_ne (by omega), Array.getElem?_setIfInBounds_self_of_lt (by simp; omega)]
    · rw [Array.getElem?_setIfInBounds_self_of_lt (by simp; omega)]
  · obtain ⟨a, b, c, h0, h1, h2, h3⟩ := h i (by omega)
    refine ⟨a, b, c, ?_, ?_, ?_, h3⟩
    · rw [Array.getElem?_setIfInBounds_ne (by omega), Array.getElem?_setIfInBounds_ne (by omega), Array.getElem?_setIfInBounds_ne (by omega), h0]
    · rw [Array.getElem?_setIfInBounds_ne (by omega), Array.getElem?_setIfInBounds_ne (by omega), Array.getElem?_setIfInBounds_ne (by omega), h1]
    · rw [Array.getElem?_setIfInBounds_ne (by omega), Array.getElem?_setIfInBounds_ne (by omega), Array.getElem?_setIfInBounds_ne (by omega), h2]
theorem vsL_len (m : Nat) : (vsL m).length = m := by simp [vsL]
/-- what holds at the head of Same's loop -/
structure SaI (m : Nat) (w : World) (j : Nat) (wr : World) (cs : Array Value) : Prop where
  res : Box wr w.heap.size 118 #[.slice none 0 0, .int .i64 0]
  row : Box wr (w.heap.size + 1) 44 cs
  size : cs.size = m * 3
  at_ : ∀ i, i < j → ∃ a b c, cs[i * 3]? = some a ∧ cs[i * 3 + 1]? = some b ∧ cs[i * 3 + 2]? = some c ∧ (a = .int .i64 4 ∧ b = .int .i64 ((m : Int) - 1 - (i : Int)) ∧ c = .slice none 0 0)
  below : Below w.heap.size w wr
end Go.Proofs.YtloeainlpcnhnaaGreat
