/-
  An argument's reading that is a list of terms: how long the list can be. No statement is proved here.
-/
import Derived.Test.YtehdbjfalpjpeaaOl
namespace Go.Proofs.Ytehdbjfalpjpeaa
open Go.ChangeShapes Go.WideShapes Go.ChangeAt Go.RowKit Go.Deep
set_option linter.unusedVariables false
section
variable {H : Type} {enc : TypeId × Value → H} {w : World} {base : Nat} {spare : Nat → Bool} {held : Bool}

set_option maxRecDepth 100000 in
theorem terms_len {r : Reach} {b0 : Nat} {A : Option Addr} {n c : Nat} {d : DataW H} {p : List MemPlace} (hv : Value.okWide Try.prog w r b0 22 (.slice A n c)) (h : DataW.Trod enc Try.prog w base spare held 22 (.slice A n c) d p)
    (hw : ∀ m ∈ d.weights Try.prog 22, m ≤ reachBytes) : n ≤ 3518437208780 := by
  obtain ⟨fuel, hf⟩ := h
  rcases DataW.trod_slice Try.underlying22 hf with ⟨e2, hy2⟩ | ⟨a, len, cap, elems, rest, m, rfl, e2, hy2, hb, hlc, hm, hel, hat, _, _⟩
  · simp only [Value.cells, List.cons.injEq, and_true] at e2
    injection e2 with e3 e4 e5
    omega
  · simp only [Value.cells, List.cons.injEq, and_true] at e2
    injection e2 with e3 e4 e5
    rw [show d = _ from congrArg Prod.fst hy2] at hw
    simp only [DataW.weights, Try.underlying22, bytesTerm, List.mem_cons, List.mem_append] at hw
    have hw0 := hw _ (Or.inl rfl)
    simp only [List.length_map, reachBytes] at hw0
    omega
end
end Go.Proofs.Ytehdbjfalpjpeaa
