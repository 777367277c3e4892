/-
  Contracts of package shift's inner functions: what a number of a variable becomes, how many a node binds, a list rebuilt.
-/
import Derived.Test.YtloeainlpcnhnaaGreatOw
import Derived.Test.YtloeainlpcnhnaaGreatCs
namespace Go.Proofs.YtloeainlpcnhnaaGreat
open Go.ChangeShapes Go.WideShapes Go.ChangeAt Go.RowKit
set_option linter.unusedVariables false

/-! ### What renumbering tells, as plain functions -/
/-- what a head becomes -/
def rnH (tf : Int → Option Int) (k h b : Int) : Option Int := if k = 4 ∧ b ≤ h then (tf (wrap64 (h - b))).map (fun f => wrap64 (f + b)) else some h
mutual
def rn (tf : Int → Option Int) : T → Int → Option T
  | .node k h xs, b => (rnH tf k h b).bind fun h' => (rnL tf k xs.length xs 0 b).map (.node k h')
def rnL (tf : Int → Option Int) (k : Int) (n : Nat) : List T → Nat → Int → Option (List T)
  | [], _, _ => some []
  | t :: ts, i, b => (rn tf t (wrap64 (b + bd k n i))).bind fun t' => (rnL tf k n ts (i + 1) b).map (t' :: ·)
end
/-- a list, each by its place -/
def eachP (g : Nat → T → Option T) : List T → Nat → Option (List T)
  | [], _ => some []
  | t :: ts, i => (g i t).bind fun t' => (eachP g ts (i + 1)).map (t' :: ·)
theorem rnL_each (tf : Int → Option Int) (k : Int) (n : Nat) (b : Int) : ∀ (xs : List T) (i : Nat), rnL tf k n xs i b = eachP (fun i t => rn tf t (wrap64 (b + bd k n i))) xs i
  | [], i => by rw [rnL, eachP]
  | t :: ts, i => by rw [rnL, eachP, rnL_each tf k n b ts (i + 1)]
theorem eachP_len (g : Nat → T → Option T) : ∀ (xs : List T) (i : Nat) (ys : List T), eachP g xs i = some ys → ys.length = xs.length
  | [], i, ys, h => by rw [eachP] at h; cases h; rfl
  | t :: ts, i, ys, h => by
    rw [eachP, Option.bind_eq_some_iff] at h
    obtain ⟨t', _, h⟩ := h
    rw [Option.map_eq_some_iff] at h
    obtain ⟨zs, hz, rfl⟩ := h
    rw [List.length_cons, List.length_cons, eachP_len g ts (i + 1) zs hz]

def upTo (by' from' : Int) (x : Int) : Option Int := if x < from' then some x else some (wrap64 (x + by'))
def dnTo (by' from' : Int) (x : Int) : Option Int := if x < from' then some x else if x < wrap64 (from' + by') then none else some (wrap64 (x - by'))

/-- how a call ends that tells a term of its own, or noughts and false -/
def REnd (o : Option T) (w : World) (e : Ending) (w' : World) : Prop :=
  Below w.heap.size w w' ∧ ((∃ t v, o = some t ∧ e = .returned (.tuple #[v, .bool true]) ∧ OwT w' w.heap.size t v) ∨
    (o = none ∧ e = .returned (.tuple #[.agg #[.int .i64 0, .int .i64 0, .slice none 0 0], .bool false])))

/-- a number that a method value tells -/
def ToC (g : FuncId) (m : Value) (tf : Int → Option Int) : Prop :=
  ∀ (x : Int) (w : World), Calls Tryz.prog g #[m, .int .i64 x] w fun e w' => e = .returned (.tuple #[.int .i64 ((tf x).getD 0), .bool (tf x).isSome]) ∧ Below w.heap.size w w'

set_option maxHeartbeats 1000000 in
theorem upM (b f : Int) : ToC 145 (.agg #[.int .i64 b, .int .i64 f]) (upTo b f) := by
  intro x w
  have hb : Below w.heap.size w (w.alloc (.cells #[.int .i64 b, .int .i64 f] 158)) := (Below.refl _ _).alloc (Nat.le_refl _) _
  by_cases h : x < f
  · have e : upTo b f x = some x := by simp [upTo, h]
    rw [e]
    have d : decide (x < f) = true := by simpa using h
    go_enter Tryz.func145, Tryz.ntmps145
    go_wp2_with fail
    go_ret2
    exact ⟨rfl, hb⟩
  · have e : upTo b f x = some (wrap64 (x + b)) := by simp [upTo, h]
    rw [e]
    have d : decide (x < f) = false := by simpa using h
    go_enter Tryz.func145, Tryz.ntmps145
    go_wp2_with fail
    go_ret2
    exact ⟨rfl, hb⟩


/-- may by and from be? -/
def mvB (b f : Int) : Bool := decide (0 ≤ b) && decide (b ≤ 1048576) && decide (0 ≤ f) && decide (f ≤ 1048576)
set_option maxHeartbeats 1000000 in
theorem mayM (b f : Int) (w : World) : Calls Tryz.prog 143 #[.agg #[.int .i64 b, .int .i64 f]] w fun e w' => e = .returned (.bool (mvB b f)) ∧ Below w.heap.size w w' := by
  have hb : Below w.heap.size w (w.alloc (.cells #[.int .i64 b, .int .i64 f] 158)) := (Below.refl _ _).alloc (Nat.le_refl _) _
  rw [mvB]
  cases h1 : decide (0 ≤ b)
  · go_enter Tryz.func143, Tryz.ntmps143
    go_wp2_with fail
    go_ret
    exact ⟨rfl, hb⟩
  cases h2 : decide (b ≤ 1048576)
  · go_enter Tryz.func143, Tryz.ntmps143
    go_wp2_with fail
    go_ret
    exact ⟨rfl, hb⟩
  cases h3 : decide (0 ≤ f)
  · go_enter Tryz.func143, Tryz.ntmps143
    go_wp2_with fail
    go_ret
    exact ⟨rfl, hb⟩
  go_enter Tryz.func143, Tryz.ntmps143
  go_wp2_with fail
  go_ret
  exact ⟨by simp, hb⟩

end Go.Proofs.YtloeainlpcnhnaaGreat
