/-
  An argument's reading that is a list of numbers, and how long it is. No statement is proved here.
-/
import Derived.Test.YtnnmnkgogiabiaaGreatOp
import Derived.ChangeSlices
import Derived.Carry
namespace Go.Proofs.YtnnmnkgogiabiaaGreat
open Go.ChangeShapes Go.WideShapes Go.ChangeAt Go.RowKit Go.Deep
set_option linter.unusedVariables false
set_option maxRecDepth 100000
section
variable {H : Type} {enc : TypeId × Value → H} {w : World} {base : Nat} {spare : Nat → Bool} {held : Bool}
theorem bulk_lits {H : Type} (k : IntKind) : ∀ l : List Int, Rows.uptoBulkAll (lits (H := H) k l) = l.length
  | [] => rfl
  | x :: l => by
    have := bulk_lits (H := H) k l
    unfold lits at this ⊢
    rw [List.map_cons, Rows.uptoBulkAll, this, List.length_cons]
    simp only [Rows.uptoBulk]
    omega
theorem open_ns {r : Reach} {b0 : Nat} {v : Value} {d : DataW H} {p : List MemPlace} (hv : Value.okWide Tryz.prog w r b0 25 v) (h : DataW.Trod enc Tryz.prog w base spare held 25 v d p) :
    ∃ (us : List Int) (A : Option Addr) (n c : Nat), v = .slice A n c ∧ us.length = n ∧ n ≤ c ∧ c ≤ maxLen ∧ (∀ i u, us[i]? = some u → ∃ b o, A = some ⟨b, o, none⟩ ∧ w.cell? ⟨b, o + i, none⟩ = some (.int .i64 u)) ∧ n ≤ Rows.uptoBulk d ∧ (∀ u ∈ us, (Lit.int .i64 u).wf = true) := by
  obtain ⟨fuel, hf⟩ := h
  obtain ⟨a0, l0, c0, rfl⟩ := okWide_slice Tryz.underlying25 hv
  rcases open_ints Tryz.underlying25 Tryz.underlying3 (by kernel_rfl) hf with ⟨e, _⟩ | ⟨a, len, cap, zs, e, _, hlc, hm, hzl, hx, hz, hwf⟩
  · simp only [Value.cells, List.cons.injEq, and_true] at e
    exact ⟨[], none, 0, 0, e, rfl, Nat.le_refl _, Nat.zero_le _, fun i t ht => by simp at ht, Nat.zero_le _, fun u hu => by cases hu⟩
  · simp only [Value.cells, List.cons.injEq, and_true] at e
    have hge : len ≤ zs.length := by rw [hzl]; split <;> omega
    refine ⟨zs.take len, some a, len, cap, e, by rw [List.length_take]; omega, hlc, hm, fun i u hu => ?_, ?_, fun u hu => hwf u (List.mem_of_mem_take hu)⟩
    · have hi : i < len := by have := (List.getElem?_eq_some_iff.1 hu).1; simp at this; omega
      rw [List.getElem?_take_of_lt hi] at hu
      have hc := hz i (by omega)
      have hc0 := hz 0 (by omega)
      have hs : a.spot = none := by
        have := cell_spot hc0
        simpa [Addr.add] using this
      obtain ⟨b, o, s⟩ := a
      dsimp only at hs
      subst hs
      rw [addr_add] at hc
      refine ⟨b, o, rfl, ?_⟩
      rw [hc, List.getD_eq_getElem?_getD, hu]
      rfl
    · rw [show d = _ from congrArg Prod.fst hx]
      simp only [Rows.uptoBulk, bulk_lits]
      simp
      omega
end
end Go.Proofs.YtnnmnkgogiabiaaGreat
