/-
  The document's own Ints, the laws' own in: contracts; the chapter's example of layer 5. No statement is proved here.
-/
import Derived.Test.YtooihffijpndoaaOf
namespace Go.Proofs.Ytooihffijpndoaa
open Go.ChangeShapes Go.WideShapes Go.ChangeAt Go.RowKit
set_option linter.unusedVariables false

theorem Ns.cell {w : World} {A : Option Addr} {n c : Nat} {zs : List Int} (h : Ns w (.slice A n c) zs) {j : Nat} (hj : j < n) : ∃ b o z, A = some ⟨b, o, none⟩ ∧ zs[j]? = some z ∧ w.cell? ⟨b, o + j, none⟩ = some (.int .i64 z) := by
  obtain ⟨A', c', e, h2, h3, h4⟩ := h
  have e' : A = A' ∧ n = zs.length ∧ c = c' := by simpa using e
  obtain ⟨rfl, rfl, rfl⟩ := e'
  have hz : zs[j]? = some zs[j] := List.getElem?_eq_getElem hj
  obtain ⟨b, o, rfl, hc⟩ := h4 j _ hz
  exact ⟨b, o, _, rfl, hz, hc⟩
theorem Ns.full {w : World} {v : Value} {zs : List Int} (h : Ns w v zs) : ∃ A n c, v = .slice A n c ∧ zs.length = n ∧ n ≤ c ∧ c ≤ maxLen := by
  obtain ⟨A, c, rfl, h2, h3, _⟩ := h
  exact ⟨A, _, c, rfl, rfl, h2, h3⟩
theorem take_snoc {α : Type} {l : List α} {j : Nat} {x : α} (h : l[j]? = some x) : l.take (j + 1) = l.take j ++ [x] := by
  rw [List.take_add_one, h]; rfl


end Go.Proofs.Ytooihffijpndoaa
