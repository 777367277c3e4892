/-
  Terms as plain data, and how a Go value of the type api.Term reads as one in a world. No statement is proved here.
-/
import Derived.Test.YtmkahbbcagfbhaaGreatDoorRows
import Derived.WalkKit
import Derived.ProofKit
import Derived.OpenShut
import Derived.Lib.Hide
import Derived.Deep.Slices
import Derived.Deep.Fields
import Derived.Deep.Strs
import Derived.ChangeSame
import Derived.Deep.QuietTactic
import Derived.BigQuiet
namespace Go.Proofs.YtmkahbbcagfbhaaGreatDoor
open Go.ChangeShapes Go.WideShapes Go.ChangeAt Go.RowKit
set_option linter.unusedVariables false

inductive T where
  | node (k h : Int) (xs : List T)

theorem T.ind {M : T → Prop} (step : ∀ k h xs, (∀ t ∈ xs, M t) → M (.node k h xs)) (t : T) : M t :=
  T.rec (motive_1 := M) (motive_2 := fun l => ∀ t ∈ l, M t) (fun k h xs ih => step k h xs ih) (fun _ h => by cases h)
    (fun x l hx hl t ht => by
      rcases List.mem_cons.1 ht with rfl | h
      · exact hx
      · exact hl t h) t

mutual
def Rd (w : World) : T → Value → Prop
  | .node k h xs, v => ∃ (A : Option Addr) (n c : Nat), v = .agg #[.int .i64 k, .int .i64 h, .slice A n c] ∧ (Lit.int .i64 k).wf = true ∧ (Lit.int .i64 h).wf = true ∧
      xs.length = n ∧ n ≤ c ∧ c ≤ maxLen ∧ RdL w xs A 0
def RdL (w : World) : List T → Option Addr → Nat → Prop
  | [], _, _ => True
  | t :: ts, A, j => (∃ b o v0 v1 v2, A = some ⟨b, o, none⟩ ∧ w.cell? ⟨b, o + j * 3, none⟩ = some v0 ∧ w.cell? ⟨b, o + j * 3 + 1, none⟩ = some v1 ∧
      w.cell? ⟨b, o + j * 3 + 2, none⟩ = some v2 ∧ Rd w t (.agg #[v0, v1, v2])) ∧ RdL w ts A (j + 1)
end

/-- What one entry of a list of terms in memory is. -/
def RdAt (w : World) (A : Option Addr) (j : Nat) (t : T) : Prop :=
  ∃ b o v0 v1 v2, A = some ⟨b, o, none⟩ ∧ w.cell? ⟨b, o + j * 3, none⟩ = some v0 ∧ w.cell? ⟨b, o + j * 3 + 1, none⟩ = some v1 ∧
      w.cell? ⟨b, o + j * 3 + 2, none⟩ = some v2 ∧ Rd w t (.agg #[v0, v1, v2])

theorem RdL_iff (w : World) (A : Option Addr) : ∀ (ts : List T) (j : Nat), RdL w ts A j ↔ ∀ i t, ts[i]? = some t → RdAt w A (j + i) t
  | [], j => by simp [RdL]
  | t :: ts, j => by
    rw [RdL, RdL_iff w A ts (j + 1)]
    constructor
    · rintro ⟨h0, h1⟩ i u hu
      cases i with
      | zero => simp only [List.getElem?_cons_zero, Option.some.injEq] at hu; subst hu; exact h0
      | succ i => have := h1 i u (by simpa using hu); rw [show j + (i + 1) = j + 1 + i by omega]; exact this
    · intro h
      refine ⟨h 0 t rfl, fun i u hu => ?_⟩
      have := h (i + 1) u (by simpa using hu)
      rw [show j + 1 + i = j + (i + 1) by omega]; exact this

theorem Rd_node {w : World} {k h : Int} {xs : List T} {v : Value} : Rd w (.node k h xs) v ↔
    ∃ (A : Option Addr) (n c : Nat), v = .agg #[.int .i64 k, .int .i64 h, .slice A n c] ∧ (Lit.int .i64 k).wf = true ∧ (Lit.int .i64 h).wf = true ∧
      xs.length = n ∧ n ≤ c ∧ c ≤ maxLen ∧ ∀ i t, xs[i]? = some t → RdAt w A i t := by
  rw [Rd]
  simp only [RdL_iff, Nat.zero_add]

theorem cell_lt {w : World} {a : Addr} {v : Value} (h : w.cell? a = some v) : a.block < w.heap.size := by
  unfold World.cell? at h
  split at h
  · rename_i hh; exact (Array.getElem?_eq_some_iff.1 hh).1
  · cases h

/-- Below the heap's size nothing has turned: a term reads as it did. -/
theorem Rd.keep {w w' : World} (hk : Below w.heap.size w w') : ∀ (t : T) (v : Value), Rd w t v → Rd w' t v := by
  refine T.ind fun k h xs ih v hv => ?_
  obtain ⟨A, n, c, rfl, h1, h2, h3, h4, h5, h6⟩ := Rd_node.1 hv
  refine Rd_node.2 ⟨A, n, c, rfl, h1, h2, h3, h4, h5, fun i t ht => ?_⟩
  obtain ⟨b, o, v0, v1, v2, rfl, c0, c1, c2, hr⟩ := h6 i t ht
  refine ⟨b, o, v0, v1, v2, rfl, (hk.cell (cell_lt c0)).trans c0, (hk.cell (cell_lt c1)).trans c1, (hk.cell (cell_lt c2)).trans c2, ih t (List.mem_of_getElem? ht) _ hr⟩

theorem RdAt.keep {w w' : World} (hk : Below w.heap.size w w') {A : Option Addr} {j : Nat} {t : T} (h : RdAt w A j t) : RdAt w' A j t := by
  obtain ⟨b, o, v0, v1, v2, rfl, c0, c1, c2, hr⟩ := h
  exact ⟨b, o, v0, v1, v2, rfl, (hk.cell (cell_lt c0)).trans c0, (hk.cell (cell_lt c1)).trans c1, (hk.cell (cell_lt c2)).trans c2, Rd.keep hk t _ hr⟩

/-- An entry, its cells written out. -/
theorem RdAt.full {w : World} {A : Option Addr} {j : Nat} {t : T} (h : RdAt w A j t) :
    ∃ b o k h A' n c, A = some ⟨b, o, none⟩ ∧ w.cell? ⟨b, o + j * 3, none⟩ = some (.int .i64 k) ∧ w.cell? ⟨b, o + j * 3 + 1, none⟩ = some (.int .i64 h) ∧
      w.cell? ⟨b, o + j * 3 + 2, none⟩ = some (.slice A' n c) ∧ Rd w t (.agg #[.int .i64 k, .int .i64 h, .slice A' n c]) := by
  obtain ⟨b, o, v0, v1, v2, rfl, c0, c1, c2, hr⟩ := h
  obtain ⟨k, h, xs⟩ := t
  have hr' := hr
  obtain ⟨A', n, c, e, _⟩ := Rd_node.1 hr
  have e' : v0 = .int .i64 k ∧ v1 = .int .i64 h ∧ v2 = .slice A' n c := by simpa using e
  obtain ⟨rfl, rfl, rfl⟩ := e'
  exact ⟨b, o, k, h, A', n, c, rfl, c0, c1, c2, hr'⟩
/-- A term's value, its parts written out. -/
theorem Rd.full {w : World} {t : T} {v : Value} (h : Rd w t v) : ∃ k h A n c, v = .agg #[.int .i64 k, .int .i64 h, .slice A n c] := by
  obtain ⟨k, g, xs⟩ := t
  obtain ⟨A, n, c, e, _⟩ := Rd_node.1 h
  exact ⟨k, g, A, n, c, e⟩

/-! ### Regions that draw their order, whose operations read and whose callees make memory: the class of the worlds that come of one -/
structure Past (w : World) where
  wd : World
  h : Below w.heap.size w wd
instance (w : World) : Nonempty (Past w) := ⟨⟨w, Below.refl _ _⟩⟩

theorem wp_region_past {P : Program} {id : Nat} {Q : Exit → Act → World → Prop} {a : Act} {w : World} {l : List Oper} (hm : P.follows .mixedOrders = true) (hB : Region.lexB .any l.toArray = true)
    (h : wpQuiet P l.toArray (fun w' => ∃ z : Past w, w' = z.wd) (fun a' => ∀ w', (∃ z : Past w, w' = z.wd) → Q .normal a' w') l a) : (Code.region id l.toArray true).wp P Q a w :=
  wp_region_quiet (C := fun w' => ∃ z : Past w, w' = z.wd) hm hB ⟨⟨w.drew, (Below.refl _ _).drew⟩, rfl⟩ (by simpa using h)

theorem calls_past {P : Program} {f : FuncId} {args : Array Value} {w : World} {z : Past w} {v : Value} (h : Calls P f args z.wd fun e w' => e = .returned v ∧ Below z.wd.heap.size z.wd w') :
    Calls P f args z.wd fun e w'' => e = .returned v ∧ ∃ z' : Past w, w'' = z'.wd :=
  h.mono fun _ w' ⟨he, hw⟩ => ⟨he, ⟨w', z.h.trans (hw.mono z.h.size)⟩, rfl⟩

theorem Past.cell {w : World} {a : Addr} {v : Value} (h : w.cell? a = some v) (z : Past w) : z.wd.cell? a = some v := (z.h.cell (cell_lt h)).trans h

/-! ### From the reading of an argument -/
section
variable {H : Type} {enc : TypeId × Value → H} {w : World} {base : Nat} {spare : Nat → Bool} {held : Bool}

theorem Tryz.cellsTerm : Tryz.prog.cellsOf 36 = 3 := by kernel_rfl
theorem Tryz.cellsInt : Tryz.prog.cellsOf 3 = 1 := by kernel_rfl
theorem Tryz.cellsArgs : Tryz.prog.cellsOf 34 = 1 := by kernel_rfl

end
end Go.Proofs.YtmkahbbcagfbhaaGreatDoor
