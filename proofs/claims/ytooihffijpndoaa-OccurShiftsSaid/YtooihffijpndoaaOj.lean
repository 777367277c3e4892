/-
  The document's own Vars and Metas of layer 5. No statement is proved here.
-/
import Derived.Test.YtooihffijpndoaaOi
namespace Go.Proofs.Ytooihffijpndoaa
open Go.ChangeShapes Go.WideShapes Go.ChangeAt Go.RowKit Go.Maps
set_option linter.unusedVariables false

attribute [local go_sem] Oper.semAt_some

def insF (zs l : List Int) : List Int := l.foldl (fun s n => ins n s) zs
theorem insF_app (zs l m : List Int) : insF zs (l ++ m) = insF (insF zs l) m := by simp [insF]
theorem insF_len : ∀ (l zs : List Int), (insF zs l).length ≤ zs.length + l.length
  | [], zs => by simp [insF]
  | n :: l, zs => by
    have h1 := insF_len l (ins n zs)
    have h2 := ins_len n zs
    show (insF (ins n zs) l).length ≤ _
    rw [List.length_cons]; omega
theorem insF_asc {zs l : List Int} (h : Asc zs) : Asc (insF zs l) := (fold_ins l zs h).1
theorem fv_flat_le (l : List (Int × T)) : (l.flatMap fv1).length ≤ l.length := flat1_le fv1 fv1_le l
theorem mt_flat_le (l : List (Int × T)) : (l.flatMap mt1).length ≤ l.length := flat1_le mt1 mt1_le l

theorem fv_node (k h b : Int) (xs : List T) : ((nds (.node k h xs) b).flatMap fv1) = (if k = 4 ∧ b ≤ h then [wrap64 (h - b)] else []) ++ (ndsL k xs.length xs 0 b).flatMap fv1 := by rw [nds, List.flatMap_cons]; rfl
theorem mt_node (k h b : Int) (xs : List T) : ((nds (.node k h xs) b).flatMap mt1) = (if k = 6 then [h] else []) ++ (ndsL k xs.length xs 0 b).flatMap mt1 := by rw [nds, List.flatMap_cons]; rfl

end Go.Proofs.Ytooihffijpndoaa
