/-
  The contract of package subst's Under. No statement is proved here.
-/
import Derived.Test.YtloeainlpcnhnaaGreatWj
namespace Go.Proofs.YtloeainlpcnhnaaGreat
open Go.ChangeShapes Go.WideShapes Go.ChangeAt Go.RowKit
set_option linter.unusedVariables false

abbrev upO (t : T) : T := upX t 1 0
/-- what Under tells -/
def undX (L : List T) : List T := L.map upO ++ [.node 4 0 []]
/-- what holds at the head of Under's loop -/
structure UnI (L : List T) (A : Option Addr) (n c : Nat) (sh : Int) (w : World) (j : Nat) (wr : World) (g cap : Nat) (cs : List Value) : Prop where
  box : Box wr w.heap.size 118 #[.slice A n c, .int .i64 sh]
  res : Box wr (w.heap.size + 1) 118 #[.slice none 0 0, .int .i64 0]
  own : wr.ownsRow (w.heap.size + 2) 44 3 (.slice (some ⟨g, 0, none⟩) j cap) j cs
  kids : KidL wr (fun b => w.heap.size + 2 ≤ b ∧ b ≠ g) cs ((L.take j).map upO)
  below : Below w.heap.size w wr

/-- one more is appended -/
theorem UnI.snoc {w wr w1 w4 : World} {g g' : Nat} {cs : List Value} {ys : List T} {u : T} {k h : Int} {A3 : Option Addr} {n3 c3 : Nat}
    (hk : KidL wr (fun b => w.heap.size + 2 ≤ b ∧ b ≠ g) cs ys) (hl : cs.length = ys.length * 3) (hb : Below wr.heap.size wr w1) (hu : RdF (fun b => wr.heap.size ≤ b ∧ b < w1.heap.size) w1 u (.agg #[.int .i64 k, .int .i64 h, .slice A3 n3 c3])) (hwr : w.heap.size + 2 ≤ wr.heap.size) (hg0 : g < wr.heap.size)
    (hgr : World.grownBy (w1.alloc (.cells #[.int .i64 k, .int .i64 h, .slice A3 n3 c3] 44)) w4 (some g)) (hg : g' = g ∨ g' = w1.heap.size + 1) :
    KidL w4 (fun b => w.heap.size + 2 ≤ b ∧ b ≠ g') (cs ++ [.int .i64 k, .int .i64 h, .slice A3 n3 c3]) (ys ++ [u]) := by
  have hsz := hb.size
  have e : ∀ b, b < w1.heap.size → b ≠ g → w4.heap[b]? = w1.heap[b]? := fun b hl hne => (hgr.block b (by simp; omega) (by simpa using hne)).trans (Below.heap_alloc _ _ _ hl)
  refine KidL.snoc (fun i t ht => ?_) hl (RdF.moveX (fun b hb' hl' => ⟨⟨by omega, by omega⟩, e b hl' (by omega)⟩) _ _ hu)
  obtain ⟨k1, h1, A1, n1, c1, e0, e1, e2, hr⟩ := hk i t ht
  exact ⟨k1, h1, A1, n1, c1, e0, e1, e2, RdF.moveX (fun b hb' hl' => ⟨⟨hb'.1, by omega⟩, (e b (by omega) hb'.2).trans (hb.block b hl')⟩) _ _ hr⟩

theorem rx_leaf' {ok : Nat → Prop} {w : World} {k h : Int} (hk : (Lit.int .i64 k).wf = true) (hh : (Lit.int .i64 h).wf = true) : RdF ok w (.node k h []) (.agg #[.int .i64 k, .int .i64 h, .slice none 0 0]) :=
  RdF_node.2 ⟨none, 0, 0, rfl, hk, hh, rfl, Nat.le_refl _, Nat.zero_le _, fun i t ht => by simp at ht⟩
end Go.Proofs.YtloeainlpcnhnaaGreat
