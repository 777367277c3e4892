/-
  Contract of the document's own down.
-/
import Derived.Test.YtnnmnkgogiabiaaGreatRq
namespace Go.Proofs.YtnnmnkgogiabiaaGreat
open Go.ChangeShapes Go.WideShapes Go.ChangeAt Go.RowKit
set_option linter.unusedVariables false

mutual
def dnW (b : Int) : T → Int → Option T
  | .node k h xs, f => if k = 4 ∧ f ≤ h ∧ h < wrap64 (f + b) then none else (dnWL b k xs.length xs 0 f).map (.node k (if k = 4 ∧ f ≤ h then wrap64 (h - b) else h))
def dnWL (b k : Int) (n : Nat) : List T → Nat → Int → Option (List T)
  | [], _, _ => some []
  | t :: ts, i, f => (dnW b t (wrap64 (f + bd k n i))).bind fun u => (dnWL b k n ts (i + 1) f).map (u :: ·)
end
theorem dnWL_none {b k : Int} {n : Nat} {t : T} {ts : List T} {i : Nat} {f : Int} (h : dnW b t (wrap64 (f + bd k n i)) = none) : dnWL b k n (t :: ts) i f = none := by rw [dnWL, h]; rfl
theorem dnWL_some {b k : Int} {n : Nat} {t u : T} {ts : List T} {i : Nat} {f : Int} (h : dnW b t (wrap64 (f + bd k n i)) = some u) : dnWL b k n (t :: ts) i f = (dnWL b k n ts (i + 1) f).map (u :: ·) := by rw [dnWL, h]; rfl

/-- what is told: a term in new memory and true, or noughts and false -/
def DOut (o : Option T) (ok : Nat → Prop) (w' : World) (v : Value) (bo : Bool) : Prop :=
  (∃ t, o = some t ∧ bo = true ∧ RdF ok w' t v) ∨ (o = none ∧ bo = false ∧ v = .agg #[.int .i64 0, .int .i64 0, .slice none 0 0])
theorem DOut.move {o : Option T} {ok ok' : Nat → Prop} {w w' : World} {v : Value} {bo : Bool} (h : DOut o ok w v bo) (hok : ∀ b, ok b → ok' b) (hm : ∀ b, ok b → b < w.heap.size → w'.heap[b]? = w.heap[b]?) : DOut o ok' w' v bo := by
  rcases h with ⟨t, h1, h2, h3⟩ | h
  · exact .inl ⟨t, h1, h2, RdF.move hok hm _ _ h3⟩
  · exact .inr h
def DEnd (o : Option T) (w : World) (e : Ending) (w' : World) : Prop :=
  ∃ k h A n c bo, e = .returned (.tuple #[.agg #[.int .i64 k, .int .i64 h, .slice A n c], .bool bo]) ∧ DOut o (fun g => w.heap.size ≤ g ∧ g < w'.heap.size) w' (.agg #[.int .i64 k, .int .i64 h, .slice A n c]) bo ∧ Below w.heap.size w w'

/-- what a round of the document's down reads -/
def SDn (z : Nat) (k h : Int) (bA oA n c j : Nat) (k2 h2 : Int) (A2 : Option Addr) (n2 c2 : Nat) (w' : World) : Prop :=
  w'.cell? ⟨z, 0, none⟩ = some (.int .i64 k) ∧ w'.cell? ⟨z, 1, none⟩ = some (.int .i64 h) ∧ w'.cell? ⟨z, 2, none⟩ = some (.slice (some ⟨bA, oA, none⟩) n c) ∧ w'.cell? ⟨bA, oA + j * 3, none⟩ = some (.int .i64 k2) ∧
    w'.cell? ⟨bA, oA + j * 3 + 1, none⟩ = some (.int .i64 h2) ∧ w'.cell? ⟨bA, oA + j * 3 + 2, none⟩ = some (.slice A2 n2 c2)

theorem Box.set3 {w : World} {p : Nat} {ty : TypeId} {x0 x1 x2 : Value} (h : Box w p ty #[x0, x1, x2]) (u0 u1 u2 : Value) : Box (((w.setCell ⟨p, 0, none⟩ u0).setCell ⟨p, 1, none⟩ u1).setCell ⟨p, 2, none⟩ u2) p ty #[u0, u1, u2] := by
  simpa using ((h.setAt 0 u0).setAt 1 u1).setAt 2 u2

end Go.Proofs.YtnnmnkgogiabiaaGreat
