/-
  Contract of package term's Own: the same term once more, in new memory, its top list in a block of its own ahead of all others.
-/
import Derived.Test.YtmkahbbcagfbhaaDoorSa
import Derived.Deep.RegionHeld3
namespace Go.Proofs.YtmkahbbcagfbhaaDoor
open Go.ChangeShapes Go.WideShapes Go.ChangeAt Go.RowKit
set_option linter.unusedVariables false

mutual
/-- a term in memory all of whose lists lie in blocks that are ok -/
def RdF (ok : Nat → Prop) (w : World) : T → Value → Prop
  | .node k h xs, v => ∃ (A : Option Addr) (n c : Nat), v = .agg #[.int .i64 k, .int .i64 h, .slice A n c] ∧ (Lit.int .i64 k).wf = true ∧ (Lit.int .i64 h).wf = true ∧
      xs.length = n ∧ n ≤ c ∧ c ≤ maxLen ∧ RdFL ok w xs A 0
def RdFL (ok : Nat → Prop) (w : World) : List T → Option Addr → Nat → Prop
  | [], _, _ => True
  | t :: ts, A, j => (∃ b o v0 v1 v2, A = some ⟨b, o, none⟩ ∧ ok b ∧ w.cell? ⟨b, o + j * 3, none⟩ = some v0 ∧ w.cell? ⟨b, o + j * 3 + 1, none⟩ = some v1 ∧
      w.cell? ⟨b, o + j * 3 + 2, none⟩ = some v2 ∧ RdF ok w t (.agg #[v0, v1, v2])) ∧ RdFL ok w ts A (j + 1)
end
def RdFAt (ok : Nat → Prop) (w : World) (A : Option Addr) (j : Nat) (t : T) : Prop :=
  ∃ b o v0 v1 v2, A = some ⟨b, o, none⟩ ∧ ok b ∧ w.cell? ⟨b, o + j * 3, none⟩ = some v0 ∧ w.cell? ⟨b, o + j * 3 + 1, none⟩ = some v1 ∧
      w.cell? ⟨b, o + j * 3 + 2, none⟩ = some v2 ∧ RdF ok w t (.agg #[v0, v1, v2])
theorem RdFL_iff (ok : Nat → Prop) (w : World) (A : Option Addr) : ∀ (ts : List T) (j : Nat), RdFL ok w ts A j ↔ ∀ i t, ts[i]? = some t → RdFAt ok w A (j + i) t
  | [], j => by simp [RdFL]
  | t :: ts, j => by
    rw [RdFL, RdFL_iff ok w A ts (j + 1)]
    constructor
    · rintro ⟨h0, h1⟩ i u hu
      cases i with
      | zero => simp only [List.getElem?_cons_zero, Option.some.injEq] at hu; subst hu; exact h0
      | succ i => have := h1 i u (by simpa using hu); rw [show j + (i + 1) = j + 1 + i by omega]; exact this
    · intro h
      refine ⟨h 0 t rfl, fun i u hu => ?_⟩
      have := h (i + 1) u (by simpa using hu)
      rw [show j + 1 + i = j + (i + 1) by omega]; exact this
theorem RdF_node {ok : Nat → Prop} {w : World} {k h : Int} {xs : List T} {v : Value} : RdF ok w (.node k h xs) v ↔
    ∃ (A : Option Addr) (n c : Nat), v = .agg #[.int .i64 k, .int .i64 h, .slice A n c] ∧ (Lit.int .i64 k).wf = true ∧ (Lit.int .i64 h).wf = true ∧
      xs.length = n ∧ n ≤ c ∧ c ≤ maxLen ∧ ∀ i t, xs[i]? = some t → RdFAt ok w A i t := by
  rw [RdF]
  simp only [RdFL_iff, Nat.zero_add]

theorem RdF.rd {ok : Nat → Prop} {w : World} : ∀ (t : T) (v : Value), RdF ok w t v → Rd w t v := by
  refine T.ind fun k h xs ih v hv => ?_
  obtain ⟨A, n, c, rfl, h1, h2, h3, h4, h5, h6⟩ := RdF_node.1 hv
  refine Rd_node.2 ⟨A, n, c, rfl, h1, h2, h3, h4, h5, fun i t ht => ?_⟩
  obtain ⟨b, o, v0, v1, v2, rfl, _, c0, c1, c2, hr⟩ := h6 i t ht
  exact ⟨b, o, v0, v1, v2, rfl, c0, c1, c2, ih t (List.mem_of_getElem? ht) _ hr⟩
/-- it is so in every world in which those blocks are as they were -/
theorem RdF.move {ok ok' : Nat → Prop} {w w' : World} (hok : ∀ b, ok b → ok' b) (hk : ∀ b, ok b → b < w.heap.size → w'.heap[b]? = w.heap[b]?) : ∀ (t : T) (v : Value), RdF ok w t v → RdF ok' w' t v := by
  refine T.ind fun k h xs ih v hv => ?_
  obtain ⟨A, n, c, rfl, h1, h2, h3, h4, h5, h6⟩ := RdF_node.1 hv
  refine RdF_node.2 ⟨A, n, c, rfl, h1, h2, h3, h4, h5, fun i t ht => ?_⟩
  obtain ⟨b, o, v0, v1, v2, rfl, hb, c0, c1, c2, hr⟩ := h6 i t ht
  have e : ∀ j, w'.cell? ⟨b, j, none⟩ = w.cell? ⟨b, j, none⟩ := fun j => World.cell?_of_block (w := w) (hk b hb (cell_lt c0))
  exact ⟨b, o, v0, v1, v2, rfl, hok b hb, (e _).trans c0, (e _).trans c1, (e _).trans c2, ih t (List.mem_of_getElem? ht) _ hr⟩

/-- so many cells that begin with so many terms -/
def Kids (w : World) (ok : Nat → Prop) (cs : Array Value) (xs : List T) : Prop :=
  ∀ i t, xs[i]? = some t → ∃ k h A n c, cs[i * 3]? = some (.int .i64 k) ∧ cs[i * 3 + 1]? = some (.int .i64 h) ∧ cs[i * 3 + 2]? = some (.slice A n c) ∧ RdF ok w t (.agg #[.int .i64 k, .int .i64 h, .slice A n c])

/-- a term of its own, from block lo on: its top list in a block ahead of all others -/
def OwT (w : World) (lo : Nat) : T → Value → Prop
  | .node k h xs, v => ∃ A n c, v = .agg #[.int .i64 k, .int .i64 h, .slice A n c] ∧ (Lit.int .i64 k).wf = true ∧ (Lit.int .i64 h).wf = true ∧ xs.length = n ∧ n ≤ c ∧ c ≤ maxLen ∧
      (n = 0 ∨ ∃ b cs, A = some ⟨b, 0, none⟩ ∧ lo ≤ b ∧ Box w b 24 cs ∧ cs.size = n * 3 ∧ Kids w (fun g => b < g) cs xs)

theorem OwT.rdF {w : World} {lo : Nat} {t : T} {v : Value} (h : OwT w lo t v) : RdF (fun g => lo ≤ g) w t v := by
  obtain ⟨k, g, xs⟩ := t
  obtain ⟨A, n, c, rfl, h1, h2, h3, h4, h5, h6⟩ := h
  refine RdF_node.2 ⟨A, n, c, rfl, h1, h2, h3, h4, h5, fun i t ht => ?_⟩
  rcases h6 with rfl | ⟨b, cs, rfl, hb, hbox, hsz, hk⟩
  · have := (List.getElem?_eq_some_iff.1 ht).1; omega
  · obtain ⟨k', h', A', n', c', e0, e1, e2, hr⟩ := hk i t ht
    refine ⟨b, 0, _, _, _, rfl, hb, ?_, ?_, ?_, RdF.move (fun g hg => by omega) (fun _ _ _ => rfl) _ _ hr⟩
    · rw [hbox.cell, Nat.zero_add]; exact e0
    · rw [hbox.cell, Nat.zero_add]; exact e1
    · rw [hbox.cell, Nat.zero_add]; exact e2

theorem OwT.full {w : World} {lo : Nat} {t : T} {v : Value} (h : OwT w lo t v) : ∃ k h A n c, v = .agg #[.int .i64 k, .int .i64 h, .slice A n c] := by
  obtain ⟨k, g, xs⟩ := t
  obtain ⟨A, n, c, e, _⟩ := h
  exact ⟨k, g, A, n, c, e⟩
theorem Box.there {w : World} {b : Nat} {ty : TypeId} {cs : Array Value} (h : Box w b ty cs) {i : Nat} (hi : i < cs.size) : ∃ u, w.cell? ⟨b, i, none⟩ = some u := ⟨_, by rw [h.cell]; exact Array.getElem?_eq_getElem hi⟩

/-- one more is laid -/
theorem Kids.put {w w' : World} {ok : Nat → Prop} {cs : Array Value} {xs : List T} {j : Nat} {t : T} {k h : Int} {A : Option Addr} {n c : Nat} (hk : Kids w ok cs (xs.take j)) (hm : ∀ b, ok b → b < w.heap.size → w'.heap[b]? = w.heap[b]?)
    (hj : xs[j]? = some t) (hr : RdF ok w' t (.agg #[.int .i64 k, .int .i64 h, .slice A n c])) (hsz : j * 3 + 2 < cs.size) :
    Kids w' ok (((cs.setIfInBounds (j * 3) (.int .i64 k)).setIfInBounds (j * 3 + 1) (.int .i64 h)).setIfInBounds (j * 3 + 2) (.slice A n c)) (xs.take (j + 1)) := by
  intro i u hu
  have hi : i < j + 1 := by have := (List.getElem?_eq_some_iff.1 hu).1; simp at this; omega
  rw [List.getElem?_take_of_lt hi] at hu
  rcases Nat.lt_or_ge i j with h1 | h1
  · obtain ⟨k', h', A', n', c', e0, e1, e2, hr'⟩ := hk i u (by rw [List.getElem?_take_of_lt h1]; exact hu)
    refine ⟨k', h', A', n', c', ?_, ?_, ?_, RdF.move (fun _ h => h) hm _ _ hr'⟩
    all_goals simp only [Array.getElem?_setIfInBounds]
    · rw [if_neg (by omega), if_neg (by omega), if_neg (by omega)]; exact e0
    · rw [if_neg (by omega), if_neg (by omega), if_neg (by omega)]; exact e1
    · rw [if_neg (by omega), if_neg (by omega), if_neg (by omega)]; exact e2
  · obtain rfl : i = j := by omega
    rw [hj] at hu
    cases hu
    refine ⟨k, h, A, n, c, ?_, ?_, ?_, hr⟩
    all_goals simp only [Array.getElem?_setIfInBounds, Array.size_setIfInBounds]
    · rw [if_neg (by omega), if_neg (by omega), if_pos trivial, if_pos (by omega)]
    · rw [if_neg (by omega), if_pos trivial, if_pos (by omega)]
    · rw [if_pos trivial, if_pos (by omega)]

theorem infoTerm : (Tryd.prog.info? 24).map (fun i => (i.zero, i.size, i.bytes)) = some (some (.agg #[.int .i64 0, .int .i64 0, .slice none 0 0]), 3, 40) := by kernel_rfl

/-- how Own ends -/
def OEnd (t : T) (w : World) (e : Ending) (w' : World) : Prop := ∃ v, e = .returned v ∧ OwT w' w.heap.size t v ∧ Below w.heap.size w w'

end Go.Proofs.YtmkahbbcagfbhaaDoor
