/-
  Beginnings of patterns, and patterns with one more; a list of terms copied cell by cell: for the law OccurLess. No statement is proved here.
-/
import Derived.Test.YtehdbjfalpjpeaaOr
import Derived.Deep.AppendLies
import Derived.Deep.RegionHeld3
namespace Go.Proofs.Ytehdbjfalpjpeaa
open Go.ChangeShapes Go.WideShapes Go.ChangeAt Go.RowKit Go.Maps
set_option linter.unusedVariables false

theorem pvB_more {below m : Int} (hm : 0 ≤ m) {t : T} (h : pvB below t = true) : pvB (below + m) t = true := by
  obtain ⟨k, hh, xs⟩ := t
  simp only [pvB, Bool.and_eq_true, decide_eq_true_eq] at h ⊢
  exact ⟨h.1, by omega⟩
theorem less_take {below : Int} {L : List T} {zs : List Int} (h : ptn below [] L = some zs) (K : Nat) (hK : K ≤ L.length) : ∃ ys, ptn below [] (L.take K) = some ys ∧ ys.length = K := by
  obtain ⟨h1, h2, rfl⟩ := (ptn_top below L zs).1 h
  refine ⟨_, (ptn_top below (L.take K) _).2 ⟨fun t ht => h1 t (List.mem_of_mem_take ht), ?_, rfl⟩, by simp; omega⟩
  rw [List.map_take]
  exact h2.sublist (List.take_sublist _ _)
theorem less_twice {below : Int} {L : List T} {K : Nat} {x : T} (hx : L[K]? = some x) : ptn below [] (L ++ [x]) = none := by
  cases h : ptn below [] (L ++ [x]) with
  | none => rfl
  | some zs =>
    obtain ⟨_, h2, _⟩ := (ptn_top below _ zs).1 h
    rw [List.map_append] at h2
    exact absurd rfl ((List.nodup_append.1 h2).2.2 (hd x) (List.mem_map.2 ⟨x, List.mem_of_getElem? hx, rfl⟩) (hd x) (by simp))
theorem less_more {below m : Int} {L : List T} {zs : List Int} (hm : 0 ≤ m) (h : ptn below [] L = some zs) : ptn (below + m) [] L = some zs := by
  obtain ⟨h1, h2, h3⟩ := (ptn_top below L zs).1 h
  exact (ptn_top _ L zs).2 ⟨fun t ht => pvB_more hm (h1 t ht), h2, h3⟩
theorem less_one {below : Int} {L : List T} {zs : List Int} (h : ptn below [] L = some zs) {K : Nat} {x : T} (hx : L[K]? = some x) : nd x = 1 := by
  obtain ⟨h1, _⟩ := (ptn_top below L zs).1 h
  have := h1 x (List.mem_of_getElem? hx)
  obtain ⟨k, hh, xs⟩ := x
  simp only [pvB, Bool.and_eq_true, beq_iff_eq, decide_eq_true_eq] at this
  rw [List.length_eq_zero_iff.1 this.1.1.2, nd, ndL]

/-- the cells of a row, as they lie -/
def rawCs (w : World) (b o m : Nat) : List Value := (List.range m).map fun q => (w.cell? ⟨b, o + q, none⟩).getD undef
theorem rawCs_len (w : World) (b o m : Nat) : (rawCs w b o m).length = m := by simp [rawCs]
theorem rawCs_at {w : World} {b o m q : Nat} (hq : q < m) : (rawCs w b o m)[q]? = some ((w.cell? ⟨b, o + q, none⟩).getD undef) := by
  unfold rawCs
  rw [List.getElem?_map, List.getElem?_range hq]
  rfl
theorem raw_cell {w : World} {b o n : Nat} {L : List T} (hx : ∀ i t, L[i]? = some t → RdAt w (some ⟨b, o, none⟩) i t) (hn : L.length = n) {q : Nat} (hq : q < n * 3) : ∃ u, w.cell? ⟨b, o + q, none⟩ = some u ∧ u.oneCell' = true := by
  have hlt : q / 3 < n := by omega
  obtain ⟨t, ht⟩ := at_of hn hlt
  obtain ⟨b', o', k, h, A', n', c', e, c0, c1, c2, _⟩ := (hx _ t ht).full
  have e' : b = b' ∧ o = o' := by simpa using e
  obtain ⟨rfl, rfl⟩ := e'
  have h3 : q % 3 = 0 ∨ q % 3 = 1 ∨ q % 3 = 2 := by omega
  rcases h3 with h3 | h3 | h3
  · exact ⟨_, by rw [show o + q = o + q / 3 * 3 by omega]; exact c0, rfl⟩
  · exact ⟨_, by rw [show o + q = o + q / 3 * 3 + 1 by omega]; exact c1, rfl⟩
  · exact ⟨_, by rw [show o + q = o + q / 3 * 3 + 2 by omega]; exact c2, rfl⟩
theorem raw_get {w : World} {b o n : Nat} {L : List T} (hx : ∀ i t, L[i]? = some t → RdAt w (some ⟨b, o, none⟩) i t) (hn : L.length = n) {q : Nat} {u : Value} (hu : (rawCs w b o (n * 3))[q]? = some u) : w.cell? ⟨b, o + q, none⟩ = some u := by
  have hq : q < n * 3 := by have := (List.getElem?_eq_some_iff.1 hu).1; rwa [rawCs_len] at this
  obtain ⟨u', h1, _⟩ := raw_cell hx hn hq
  rw [rawCs_at hq, h1] at hu
  rw [h1]
  simpa using hu
theorem raw_one {w : World} {b o n : Nat} {L : List T} (hx : ∀ i t, L[i]? = some t → RdAt w (some ⟨b, o, none⟩) i t) (hn : L.length = n) : ∀ u ∈ rawCs w b o (n * 3), u.oneCell' = true := fun u hu => by
  obtain ⟨q, hq⟩ := List.getElem?_of_mem hu
  have hlt : q < n * 3 := by have := (List.getElem?_eq_some_iff.1 hq).1; rwa [rawCs_len] at this
  obtain ⟨u', h1, h2⟩ := raw_cell hx hn hlt
  have := raw_get hx hn hq
  rw [h1] at this
  cases this
  exact h2
/-- behind both appends: the list, and one of it once more -/
theorem rdAt_row {w W' : World} {b o n K g cap base : Nat} {e : TypeId} {L : List T} {x : T} {u0 u1 u2 : Value} (hx : ∀ i t, L[i]? = some t → RdAt w (some ⟨b, o, none⟩) i t) (hn : L.length = n) (hk : Below w.heap.size w W') (ht : L[K]? = some x)
    (c0 : w.cell? ⟨b, o + K * 3, none⟩ = some u0) (c1 : w.cell? ⟨b, o + K * 3 + 1, none⟩ = some u1) (c2 : w.cell? ⟨b, o + K * 3 + 2, none⟩ = some u2)
    (hrow : W'.ownsRow base e 3 (.slice (some ⟨g, 0, none⟩) (n + 1) cap) (n + 1) (rawCs w b o (n * 3) ++ [u0, u1, u2])) :
    (L ++ [x]).length = n + 1 ∧ n + 1 ≤ cap ∧ cap ≤ maxLen ∧ ∀ i t, (L ++ [x])[i]? = some t → RdAt W' (some ⟨g, 0, none⟩) i t := by
  have hcell : ∀ q u, (rawCs w b o (n * 3) ++ [u0, u1, u2])[q]? = some u → W'.cell? ⟨g, 0 + q, none⟩ = some u := fun q u hu => by
    have := hrow.cells (g := g) rfl q u hu
    rwa [addr_add] at this
  have hcap : n + 1 ≤ cap ∧ cap ≤ maxLen := by
    rcases hrow.2 with ⟨h0, _⟩ | ⟨g', cap', cur, hv, _, _, h1, h2, _⟩
    · cases h0
    · cases hv; exact ⟨h1, h2⟩
  refine ⟨by simp [hn], hcap.1, hcap.2, fun i t hi => ?_⟩
  by_cases hlt : i < n
  · rw [List.getElem?_append_left (by omega)] at hi
    obtain ⟨b', o', k2, h2, A2, n2, c2', e1, d0, d1, d2, hr⟩ := (hx i t hi).full
    have e' : b = b' ∧ o = o' := by simpa using e1
    obtain ⟨rfl, rfl⟩ := e'
    have get : ∀ q u, q < n * 3 → w.cell? ⟨b, o + q, none⟩ = some u → W'.cell? ⟨g, 0 + q, none⟩ = some u := fun q u hq hu => by
      refine hcell q u ?_
      rw [List.getElem?_append_left (by rw [rawCs_len]; exact hq), rawCs_at hq, hu]
      rfl
    exact ⟨g, 0, _, _, _, rfl, get (i * 3) _ (by omega) d0, by rw [Nat.add_assoc]; exact get (i * 3 + 1) _ (by omega) (by rw [← Nat.add_assoc]; exact d1), by rw [Nat.add_assoc]; exact get (i * 3 + 2) _ (by omega) (by rw [← Nat.add_assoc]; exact d2), Rd.keep hk _ _ hr⟩
  · have hin : i = n := by have := (List.getElem?_eq_some_iff.1 hi).1; simp at this; omega
    subst hin
    rw [List.getElem?_append_right (by omega), hn, Nat.sub_self] at hi
    obtain rfl : x = t := by simpa using hi
    obtain ⟨b', o', v0, v1, v2, e1, d0, d1, d2, hr⟩ := hx K x ht
    have e' : b = b' ∧ o = o' := by simpa using e1
    obtain ⟨rfl, rfl⟩ := e'
    obtain rfl : u0 = v0 := by simpa using c0.symm.trans d0
    obtain rfl : u1 = v1 := by simpa using c1.symm.trans d1
    obtain rfl : u2 = v2 := by simpa using c2.symm.trans d2
    have get : ∀ q u, [u0, u1, u2][q]? = some u → W'.cell? ⟨g, 0 + (i * 3 + q), none⟩ = some u := fun q u hu => by
      refine hcell _ u ?_
      rw [List.getElem?_append_right (by rw [rawCs_len]; omega), rawCs_len, show i * 3 + q - i * 3 = q by omega]
      exact hu
    exact ⟨g, 0, _, _, _, rfl, get 0 _ rfl, get 1 _ rfl, get 2 _ rfl, Rd.keep hk _ _ hr⟩
end Go.Proofs.Ytehdbjfalpjpeaa
