/-
  Contract of package term's Scoped.
-/
import Derived.Test.YtloeainlpcnhnaaGreatTe
namespace Go.Proofs.YtloeainlpcnhnaaGreat
open Go.ChangeShapes Go.WideShapes Go.ChangeAt Go.RowKit Go.Shelf
set_option linter.unusedVariables false

attribute [local go_sem] Oper.semAt_some

/-- is one node in scope? -/
def scT (vars metas : Int) (x : Key) : Bool := !(x.k == 4 && decide (wrap64 (vars + x.b) ≤ x.h)) && !(x.k == 6 && decide (metas ≤ x.h))
theorem all_prefix {p : Key → Bool} {ks ls : List Key} (h : ks <+: ls) (hf : ks.all p = false) : ls.all p = false := by
  obtain ⟨r, rfl⟩ := h
  rw [List.all_append, hf, Bool.false_and]
/-- are all in scope that have come? -/
def scAll (vars metas : Int) (pre : List Nd) : Bool := (pre.map Nd.key).all (scT vars metas)
theorem all_snoc (p : Key → Bool) (pre : List Nd) (x : Nd) (h : (pre.map Nd.key).all p = true) : ((pre ++ [x]).map Nd.key).all p = p x.key := by
  rw [List.map_append, List.all_append, h, Bool.true_and]; simp

end Go.Proofs.YtloeainlpcnhnaaGreat
