/-
  An argument's reading that is a list of terms. No statement is proved here.
-/
import Derived.Test.YtloeainlpcnhnaaGreatOp
namespace Go.Proofs.YtloeainlpcnhnaaGreat
open Go.ChangeShapes Go.WideShapes Go.ChangeAt Go.RowKit Go.Deep
set_option linter.unusedVariables false
section
variable {H : Type} {enc : TypeId × Value → H} {w : World} {base : Nat} {spare : Nat → Bool} {held : Bool}

set_option maxRecDepth 100000 in
set_option maxRecDepth 100000 in
theorem open_terms {r : Reach} {b0 : Nat} {v : Value} {d : DataW H} {p : List MemPlace} (hv : Value.okWide Tryz.prog w r b0 24 v) (h : DataW.Trod enc Tryz.prog w base spare held 24 v d p) :
    ∃ (xs : List T) (A : Option Addr) (n c : Nat), v = .slice A n c ∧ xs.length = n ∧ n ≤ c ∧ c ≤ maxLen ∧ (∀ i t, xs[i]? = some t → RdAt w A i t) ∧ ndL xs ≤ Rows.uptoBulk d := by
  obtain ⟨fuel, hf⟩ := h
  obtain ⟨a0, l0, c0, rfl⟩ := okWide_slice Tryz.underlying24 hv
  rcases DataW.trod_slice Tryz.underlying24 hf with ⟨e2, hy2⟩ | ⟨a, len, cap, elems, rest, m, rfl, e2, hy2, hb, hlc, hm, hel, hat, _, _⟩
  · simp only [Value.cells, List.cons.injEq, and_true] at e2
    exact ⟨[], none, 0, 0, e2, rfl, Nat.le_refl _, Nat.zero_le _, fun i t ht => by simp at ht, by simp [ndL]⟩
  · simp only [Value.cells, List.cons.injEq, and_true] at e2
    rw [e2]
    have each : ∀ i, i < len → ∃ t : T, ∃ d, (elems.map (·.1))[i]? = some d ∧ nd t ≤ Rows.uptoBulk d ∧ ((∀ n ∈ d.weights Tryz.prog 44, n ≤ reachBytes) → wd t ≤ 3518437208780) ∧ RdAt w (some a) i t := by
      intro i hi
      have hi' := hat i hi
      rw [List.getElem?_eq_getElem (by omega), Option.bind_eq_some_iff] at hi'
      obtain ⟨cs', hcs, htr⟩ := hi'
      obtain ⟨t, u0, u1, u2, rfl, hr, hle, hwt⟩ := trod_term m cs' _ htr
      rw [Tryz.cellsTerm] at hcs
      obtain ⟨_, _, hcell⟩ := World.cells?_some hcs
      have c0 := hcell 0 (by omega)
      have c1 := hcell 1 (by omega)
      have c2 := hcell 2 (by omega)
      simp only [List.getElem?_cons_zero, List.getElem?_cons_succ, add_add, Nat.add_zero] at c0 c1 c2
      have hs : a.spot = none := by
        have := cell_spot c0
        unfold Addr.add at this
        split at this
        · exact this
        · rename_i h3
          -- the first entry's address has the same spot
          have h0' := hat 0 (by omega)
          rw [List.getElem?_eq_getElem (by omega), Option.bind_eq_some_iff] at h0'
          obtain ⟨cs0, hcs0, _⟩ := h0'
          rw [Tryz.cellsTerm] at hcs0
          obtain ⟨_, hl0, hcell0⟩ := World.cells?_some hcs0
          have := hcell0 0 (by omega)
          rw [List.getElem?_eq_getElem (by omega)] at this
          have := cell_spot this
          simpa [Addr.add] using this
      obtain ⟨b, o, s⟩ := a
      dsimp only at hs
      subst hs
      rw [addr_add] at c0 c1 c2
      refine ⟨t, _, by rw [List.getElem?_map, List.getElem?_eq_getElem (by omega)]; rfl, hle, hwt, b, o, u0, u1, u2, rfl, c0, ?_, ?_, hr⟩
      · rw [Nat.add_assoc]; exact c1
      · rw [Nat.add_assoc]; exact c2

    obtain ⟨xs, hxl, hxs⟩ := list_of len each
    refine ⟨xs, some a, len, cap, rfl, hxl, hlc, hm, fun i t ht => by obtain ⟨_, _, _, _, hr⟩ := hxs i t ht; exact hr, ?_⟩
    have hge := bulk_ge xs (elems.map (·.1)) fun i t ht => by
      obtain ⟨d, hd, hle, _, _⟩ := hxs i t ht
      exact ⟨d, hd, hle⟩
    rw [show d = _ from congrArg Prod.fst hy2]
    simp only [Rows.uptoBulk]
    omega
end
end Go.Proofs.YtloeainlpcnhnaaGreat
