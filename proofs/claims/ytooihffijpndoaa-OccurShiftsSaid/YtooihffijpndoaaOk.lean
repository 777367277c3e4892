/-
  The document's own Metas of layer 5, and its Vars. No statement is proved here.
-/
import Derived.Test.YtooihffijpndoaaOj
namespace Go.Proofs.Ytooihffijpndoaa
open Go.ChangeShapes Go.WideShapes Go.ChangeAt Go.RowKit Go.Maps
set_option linter.unusedVariables false

mutual
theorem mt_any : ∀ (t : T) (b d : Int), (nds t b).flatMap mt1 = (nds t d).flatMap mt1
  | .node k h xs, b, d => by rw [mt_node, mt_node, mt_anyL k xs.length xs 0 b d]
theorem mt_anyL (k : Int) (n : Nat) : ∀ (xs : List T) (i : Nat) (b d : Int), (ndsL k n xs i b).flatMap mt1 = (ndsL k n xs i d).flatMap mt1
  | [], _, _, _ => by rw [ndsL, ndsL]
  | t :: ts, i, b, d => by rw [ndsL, ndsL, List.flatMap_append, List.flatMap_append, mt_any t _ (wrap64 (d + bd k n i)), mt_anyL k n ts (i + 1) b d]
end



end Go.Proofs.Ytooihffijpndoaa
