/-
  The document's own Pattern. No statement is proved here.
-/
import Derived.Test.YtooihffijpndoaaOk
namespace Go.Proofs.Ytooihffijpndoaa
open Go.ChangeShapes Go.WideShapes Go.ChangeAt Go.RowKit Go.Maps
set_option linter.unusedVariables false

/-- an entry's head, where it lies -/
theorem head_cell {w : World} {A : Option Addr} {xs : List T} (hx : ∀ i t, xs[i]? = some t → RdAt w A i t) {b o : Nat} (hA : A = some ⟨b, o, none⟩) {m : Nat} {t : T} (ht : xs[m]? = some t) : w.cell? ⟨b, o + m * 3 + 1, none⟩ = some (.int .i64 (hd t)) := by
  obtain ⟨b', o', k, h, A', n', c', e, _, c1, _, hr⟩ := (hx m t ht).full
  rw [hA] at e
  have e' : b = b' ∧ o = o' := by simpa using e
  obtain ⟨rfl, rfl⟩ := e'
  obtain ⟨k3, h3, ys⟩ := t
  obtain ⟨A3, n3, c3, e3, _⟩ := Rd_node.1 hr
  have e4 : k = k3 ∧ h = h3 ∧ A' = A3 ∧ n' = n3 ∧ c' = c3 := by simpa using e3
  obtain ⟨_, rfl, _⟩ := e4
  exact c1

end Go.Proofs.Ytooihffijpndoaa
