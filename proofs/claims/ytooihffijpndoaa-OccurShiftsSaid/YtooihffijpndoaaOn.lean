/-
  The document's own Patterns. No statement is proved here.
-/
import Derived.Test.YtooihffijpndoaaOm
namespace Go.Proofs.Ytooihffijpndoaa
open Go.ChangeShapes Go.WideShapes Go.ChangeAt Go.RowKit Go.Maps
set_option linter.unusedVariables false

mutual
def patB : T → Int → Bool
  | .node k h xs, n => (!(k == 6) || (ptn n [] xs).isSome) && patL k xs.length xs 0 n
def patL (k : Int) (m : Nat) : List T → Nat → Int → Bool
  | [], _, _ => true
  | t :: ts, i, n => patB t (wrap64 (n + bd k m i)) && patL k m ts (i + 1) n
end
mutual
theorem pat_nds (n : Int) : ∀ (t : T) (b : Int), (nds t b).all (pa1 n) = patB t (wrap64 (n + b))
  | .node k h xs, b => by rw [nds, List.all_cons, patB, pat_ndsL n k xs.length xs 0 b]; rfl
theorem pat_ndsL (n k : Int) (m : Nat) : ∀ (xs : List T) (i : Nat) (b : Int), (ndsL k m xs i b).all (pa1 n) = patL k m xs i (wrap64 (n + b))
  | [], _, _ => by rw [ndsL, patL]; rfl
  | t :: ts, i, b => by
    rw [ndsL, List.all_append, patL, pat_nds n t, pat_ndsL n k m ts (i + 1) b]
    congr 2
    rw [wrap_add', wrap_add]
    congr 1
    omega
end
theorem pat_top {n : Int} (hn : (Lit.int .i64 n).wf = true) (t : T) : (nds t 0).all (pa1 n) = patB t n := by
  rw [pat_nds, Int.add_zero, wf_wrap hn]

theorem cur_allocO {W W' : World} (h : Hid (Below W.heap.size W W')) (o : Obj) : Hid (Below W.heap.size W (W'.alloc o)) := Lib.hid (h.out.alloc h.out.size o)

end Go.Proofs.Ytooihffijpndoaa
