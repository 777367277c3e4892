/-
  An argument of the type api.Term, as the form reads it, is a term in memory; it has at most as many nodes as its reading is of bulk.
-/
import Derived.Test.YtmkahbbcagfbhaaGreatDoorTm
namespace Go.Proofs.YtmkahbbcagfbhaaGreatDoor
open Go.ChangeShapes Go.WideShapes Go.ChangeAt Go.RowKit Go.Deep
set_option linter.unusedVariables false

mutual
/-- how many nodes -/
def nd : T → Nat
  | .node _ _ xs => 1 + ndL xs
def ndL : List T → Nat
  | [] => 0
  | t :: ts => nd t + ndL ts
end

mutual
/-- the greatest number of Args of a node -/
def wd : T → Nat
  | .node _ _ xs => max xs.length (wdL xs)
def wdL : List T → Nat
  | [] => 0
  | t :: ts => max (wd t) (wdL ts)
end
theorem wdL_le {n : Nat} : ∀ {xs : List T}, (∀ t ∈ xs, wd t ≤ n) → wdL xs ≤ n
  | [], _ => Nat.zero_le _
  | t :: ts, h => by
    have h1 := h t (List.mem_cons_self ..)
    have h2 := wdL_le (xs := ts) fun u hu => h u (List.mem_cons_of_mem _ hu)
    rw [wdL]; omega
theorem wd_mem {t : T} : ∀ {xs : List T}, t ∈ xs → wd t ≤ wdL xs
  | x :: xs, h => by
    rw [wdL]
    rcases List.mem_cons.1 h with rfl | h
    · omega
    · have := wd_mem h; omega
mutual
theorem wd_nd : ∀ t : T, wd t ≤ nd t
  | .node k h xs => by have := wdL_nd xs; rw [wd, nd]; omega
theorem wdL_nd : ∀ xs : List T, wdL xs ≤ ndL xs ∧ xs.length ≤ ndL xs
  | [] => by simp [wdL, ndL]
  | t :: ts => by
    have := wd_nd t
    have := wdL_nd ts
    have : 1 ≤ nd t := by obtain ⟨k, h, xs⟩ := t; rw [nd]; omega
    rw [wdL, ndL, List.length_cons]; omega
end

theorem list_of {M : Nat → T → Prop} : ∀ n : Nat, (∀ i, i < n → ∃ t, M i t) → ∃ xs : List T, xs.length = n ∧ ∀ i t, xs[i]? = some t → M i t
  | 0, _ => ⟨[], rfl, fun i t h => by simp at h⟩
  | n + 1, h => by
    obtain ⟨xs, hl, hx⟩ := list_of (M := M) n fun i hi => h i (by omega)
    obtain ⟨t, ht⟩ := h n (by omega)
    refine ⟨xs ++ [t], by simp [hl], fun i u hu => ?_⟩
    rcases Nat.lt_or_ge i n with hi | hi
    · rw [List.getElem?_append_left (by omega)] at hu
      exact hx i u hu
    · rw [List.getElem?_append_right (by omega)] at hu
      rcases Nat.eq_or_lt_of_le hi with rfl | hi
      · rw [hl, Nat.sub_self] at hu
        simp only [List.getElem?_cons_zero, Option.some.injEq] at hu
        subst hu; exact ht
      · rw [List.getElem?_eq_none (by simp; omega)] at hu
        cases hu

theorem cell_spot {w : World} {a : Addr} {v : Value} (h : w.cell? a = some v) : a.spot = none := by
  unfold World.cell? at h
  split at h
  · split at h
    · cases h
    · rename_i hs; simpa using hs
  · cases h

theorem addr_add {b o : Nat} (i : Nat) : (Addr.mk b o none).add i = ⟨b, o + i, none⟩ := by
  unfold Addr.add
  split
  · rename_i h; subst h; rfl
  · rfl

section
variable {H : Type} {enc : TypeId × Value → H} {w : World} {base : Nat} {spare : Nat → Bool} {held : Bool}

theorem bulk_ge {H : Type} : ∀ (xs : List T) (ds : List (DataW H)), (∀ (i : Nat) (t : T), xs[i]? = some t → ∃ d, ds[i]? = some d ∧ nd t ≤ Rows.uptoBulk d) → ndL xs ≤ Rows.uptoBulkAll ds
  | [], ds, _ => by simp [ndL]
  | t :: xs, [], h => by obtain ⟨d, hd, _⟩ := h 0 t rfl; simp at hd
  | t :: xs, d :: ds, h => by
    obtain ⟨d', hd, hle⟩ := h 0 t rfl
    simp only [List.getElem?_cons_zero, Option.some.injEq] at hd
    subst hd
    have := bulk_ge xs ds fun i u hu => by
      obtain ⟨d', hd, hle⟩ := h (i + 1) u (by simpa using hu)
      exact ⟨d', by simpa using hd, hle⟩
    simp only [ndL, Rows.uptoBulkAll]
    omega

theorem bytesTerm : Tryz.prog.bytesOf 36 = 40 := by kernel_rfl
theorem weights_at {e : TypeId} : ∀ {ds : List (DataW H)} {i : Nat} {d : DataW H}, ds[i]? = some d → ∀ n ∈ d.weights Tryz.prog e, n ∈ DataW.weightsAll Tryz.prog e ds
  | [], i, d, h => by simp at h
  | x :: ds, 0, d, h => by
    simp only [List.getElem?_cons_zero, Option.some.injEq] at h
    subst h
    intro n hn
    rw [DataW.weightsAll]; exact List.mem_append_left _ hn
  | x :: ds, i + 1, d, h => by
    intro n hn
    rw [DataW.weightsAll]; exact List.mem_append_right _ (weights_at (by simpa using h) n hn)

set_option maxRecDepth 100000 in
theorem trod_term : ∀ (fuel : Nat) (cs : List Value) (x : DataW H × List MemPlace), DataW.trod enc Tryz.prog w base spare held fuel 36 cs = some x →
    ∃ (t : T) (v0 v1 v2 : Value), cs = [v0, v1, v2] ∧ Rd w t (.agg #[v0, v1, v2]) ∧ nd t ≤ Rows.uptoBulk x.1 ∧
      ((∀ n ∈ x.1.weights Tryz.prog 36, n ≤ reachBytes) → wd t ≤ 3518437208780) := by
  intro fuel
  induction fuel using Nat.strongRecOn with
  | _ fuel ih =>
    intro cs x hx
    obtain ⟨ys, n, rfl, hxe, hl, hyl, hf⟩ := DataW.trod_struct Tryz.underlying36 hx
    rw [Tryz.cellsTerm] at hl
    match cs, hl with
    | [v0, v1, v2], _ =>
      match ys, hyl with
      | [y0, y1, y2], _ =>
        have h0 : DataW.trod enc Tryz.prog w base spare held n 3 (([v0, v1, v2].drop 0).take (Tryz.prog.cellsOf 3)) = some y0 := hf 0 _ rfl
        have h1 : DataW.trod enc Tryz.prog w base spare held n 3 (([v0, v1, v2].drop 1).take (Tryz.prog.cellsOf 3)) = some y1 := hf 1 _ rfl
        have h2 : DataW.trod enc Tryz.prog w base spare held n 34 (([v0, v1, v2].drop 2).take (Tryz.prog.cellsOf 34)) = some y2 := hf 2 _ rfl
        simp only [Tryz.cellsInt, Tryz.cellsArgs, List.drop_zero, List.drop_succ_cons, List.take_succ_cons, List.take_zero] at h0 h1 h2
        obtain ⟨k, e0, _, hk⟩ := DataW.trod_int Tryz.underlying3 h0
        obtain ⟨h, e1, _, hh⟩ := DataW.trod_int Tryz.underlying3 h1
        simp only [List.cons.injEq, and_true] at e0 e1
        subst e0 e1
        rcases DataW.trod_slice Tryz.underlying34 h2 with ⟨e2, hy2⟩ | ⟨a, len, cap, elems, rest, m, rfl, e2, hy2, hb, hlc, hm, hel, hat, _, _⟩
        · simp only [List.cons.injEq, and_true] at e2
          subst e2
          refine ⟨.node k h [], _, _, _, rfl, Rd_node.2 ⟨none, 0, 0, rfl, hk, hh, rfl, Nat.le_refl _, Nat.zero_le _, fun i t ht => by simp at ht⟩, ?_, fun _ => by simp [wd, wdL]⟩
          subst hxe
          simp only [List.map_cons, List.map_nil, Rows.uptoBulk, nd, ndL]
          omega
        · simp only [List.cons.injEq, and_true] at e2
          subst e2
          -- each entry is a term
          have each : ∀ i, i < len → ∃ t : T, ∃ d, (elems.map (·.1))[i]? = some d ∧ nd t ≤ Rows.uptoBulk d ∧ ((∀ n ∈ d.weights Tryz.prog 36, n ≤ reachBytes) → wd t ≤ 3518437208780) ∧ RdAt w (some a) i t := by
            intro i hi
            have hi' := hat i hi
            rw [List.getElem?_eq_getElem (by omega), Option.bind_eq_some_iff] at hi'
            obtain ⟨cs', hcs, htr⟩ := hi'
            obtain ⟨t, u0, u1, u2, rfl, hr, hle, hwt⟩ := ih m (by omega) cs' _ htr
            rw [Tryz.cellsTerm] at hcs
            obtain ⟨_, _, hcell⟩ := World.cells?_some hcs
            have c0 := hcell 0 (by omega)
            have c1 := hcell 1 (by omega)
            have c2 := hcell 2 (by omega)
            simp only [List.getElem?_cons_zero, List.getElem?_cons_succ, add_add, Nat.add_zero] at c0 c1 c2
            have hs : a.spot = none := by
              have := cell_spot c0
              unfold Addr.add at this
              split at this
              · exact this
              · rename_i h3
                -- the first entry's address has the same spot
                have h0' := hat 0 (by omega)
                rw [List.getElem?_eq_getElem (by omega), Option.bind_eq_some_iff] at h0'
                obtain ⟨cs0, hcs0, _⟩ := h0'
                rw [Tryz.cellsTerm] at hcs0
                obtain ⟨_, hl0, hcell0⟩ := World.cells?_some hcs0
                have := hcell0 0 (by omega)
                rw [List.getElem?_eq_getElem (by omega)] at this
                have := cell_spot this
                simpa [Addr.add] using this
            obtain ⟨b, o, s⟩ := a
            dsimp only at hs
            subst hs
            rw [addr_add] at c0 c1 c2
            refine ⟨t, _, by rw [List.getElem?_map, List.getElem?_eq_getElem (by omega)]; rfl, hle, hwt, b, o, u0, u1, u2, rfl, c0, ?_, ?_, hr⟩
            · rw [Nat.add_assoc]; exact c1
            · rw [Nat.add_assoc]; exact c2
          obtain ⟨xs, hxl, hxs⟩ := list_of len each
          refine ⟨.node k h xs, _, _, _, rfl, Rd_node.2 ⟨some a, len, cap, rfl, hk, hh, hxl, hlc, hm, fun i t ht => ?_⟩, ?_, fun hwn => ?_⟩
          · obtain ⟨_, _, _, _, hr⟩ := hxs i t ht
            exact hr
          · subst hxe
            have hge := bulk_ge xs (elems.map (·.1)) fun i t ht => by
              obtain ⟨d, hd, hle, _, _⟩ := hxs i t ht
              exact ⟨d, hd, hle⟩
            simp only [List.map_cons, List.map_nil, Rows.uptoBulk, Rows.uptoBulkAll, nd]
            rw [hy2]
            simp only [Rows.uptoBulk]
            omega
          · subst hxe
            have hws : ∀ n ∈ y2.1.weights Tryz.prog 34, n ≤ reachBytes := fun n hn => hwn n (by
              show n ∈ DataW.weights Tryz.prog 36 (.agg [y0.1, y1.1, y2.1])
              rw [DataW.weights, Tryz.underlying36]
              simp [DataW.weightsEach, hn])
            rw [hy2] at hws
            simp only [DataW.weights, Tryz.underlying34, bytesTerm, List.mem_cons, List.mem_append] at hws
            have hw0 := hws _ (Or.inl rfl)
            simp only [List.length_map, reachBytes] at hw0
            rw [wd]
            have : wdL xs ≤ 3518437208780 := wdL_le fun t ht => by
              obtain ⟨i, hi⟩ := List.getElem?_of_mem ht
              obtain ⟨d, hd, _, hwt, _⟩ := hxs i t hi
              exact hwt fun n hn => hws n (Or.inr (Or.inl (weights_at hd n hn)))
            omega

set_option maxRecDepth 100000 in
theorem open_term {r : Reach} {b0 : Nat} {v : Value} {d : DataW H} {p : List MemPlace} (hv : Value.okWide Tryz.prog w r b0 36 v) (h : DataW.Trod enc Tryz.prog w base spare held 36 v d p) :
    ∃ t : T, Rd w t v ∧ nd t ≤ Rows.uptoBulk d ∧ ((∀ n ∈ d.weights Tryz.prog 36, n ≤ reachBytes) → wd t ≤ 3518437208780) := by
  obtain ⟨cs, rfl, _⟩ := okWide_struct Tryz.underlying36 hv
  obtain ⟨fuel, hf⟩ := h
  obtain ⟨t, v0, v1, v2, e, hr, hle, hwt⟩ := trod_term fuel _ _ hf
  have : cs = #[v0, v1, v2] := by
    cases cs
    simpa [Value.cells] using e
  subst this
  exact ⟨t, hr, hle, hwt⟩
end
end Go.Proofs.YtmkahbbcagfbhaaGreatDoor
