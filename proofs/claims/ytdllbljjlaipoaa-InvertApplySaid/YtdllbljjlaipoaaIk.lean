/-
  What Invert's answer says of a term that is known. No statement is proved here.
-/
import Derived.Test.YtdllbljjlaipoaaIf
import Derived.Test.YtdllbljjlaipoaaIj
import Derived.Test.YtdllbljjlaipoaaPc
namespace Go.Proofs.Ytdllbljjlaipoaa
open Go.ChangeShapes Go.WideShapes Go.ChangeAt Go.RowKit
set_option linter.unusedVariables false

theorem ivR_cases {s d : Nat} {t : T} (k : Kn s d t) (vs : List Int) (n : Int) (hl : vs.length ≤ 1000) :
    ((0 ≤ n ∧ n ≤ 1000) ∧ vB n [] vs = true ∧ ((∃ u, ivR t vs n = .ok u ∧ ivT (igo vs n) t 0 = some u) ∨ (ivR t vs n = .error 7 ∧ ivT (igo vs n) t 0 = none))) ∨ ivR t vs n = .error 1 := by
  have hs : nd t ≤ 1048576 := by have := ((myB_iff t).1 k.my).2.1; omega
  have ho := okT_of t k.nod k.lo
  by_cases h : (decide (0 ≤ n) && decide (n ≤ 1000) && mayB t && vB n [] vs) = true
  · have h2 := h
    simp only [Bool.and_eq_true, decide_eq_true_eq] at h2
    have hr : ivR t vs n = ivO (ivT (igo vs n) t 0) := by
      rw [ivR, if_pos h, rn_iv (M := 1099511627776) (g := igo vs n) (by omega) (fun x h0 hx => ⟨igW_eq h0 (by omega) h2.1.1 (by omega), fun y hy => by have := igo_bd (M := 1099511627776) (by omega) hx h2.1.1.1 hy; omega⟩) t 0 ho (by omega) (by omega)]
    refine .inl ⟨h2.1.1, h2.2, ?_⟩
    cases hq : ivT (igo vs n) t 0 with
    | none => exact .inr ⟨by rw [hr, hq]; rfl, rfl⟩
    | some u => exact .inl ⟨u, by rw [hr, hq]; rfl, rfl⟩
  · exact .inr (ivR_bad (by simpa using h))
/-- how great Heads are in what is told -/
theorem iv_low {s d : Nat} {t u : T} (k : Kn s d t) {vs : List Int} {n : Int} (hn : 0 ≤ n ∧ n ≤ 1000) (hl : vs.length ≤ 1000) (h : ivT (igo vs n) t 0 = some u) : okT (1099511627776 + 1000) u :=
  ok_iv (M := 1099511627776) (fun x h0 hx y hy => by
    unfold igo at hy
    split at hy
    · cases hy; omega
    · have := pls_lt hy; omega) (by omega) t 0 u (Int.le_refl _) (okT_of t k.nod k.lo) h
theorem vrs_low {vs : List Int} {n : Int} (hn : n ≤ 1000) (hv : vB n [] vs = true) : ∀ x ∈ vrs vs, okT 1099511627776 x := fun x hx => by
  obtain ⟨v, hm, rfl⟩ := List.mem_map.1 hx
  have := (vB_top.1 hv).1 v hm
  rw [okT, okL]
  exact ⟨fun _ => by omega, trivial⟩
theorem vrs_wf {vs : List Int} {n : Int} (hn : n ≤ 1000) (hv : vB n [] vs = true) : ∀ v ∈ vs, (Lit.int .i64 v).wf = true := fun v hm => by
  have := (vB_top.1 hv).1 v hm
  have h : -9223372036854775808 ≤ v ∧ v ≤ 9223372036854775807 := by omega
  simpa [Lit.wf, IntKind.min, IntKind.max, IntKind.signed, IntKind.bits] using h
/-- a leaf has no Args -/
theorem leaf_len {ok : Nat → Prop} {w : World} {k h k' h' : Int} {A : Option Addr} {n c : Nat} (hr : RdF ok w (.node k' h' []) (.agg #[.int .i64 k, .int .i64 h, .slice A n c])) : n = 0 := by
  obtain ⟨A', n', c', e, _, _, h3, _⟩ := RdF_node.1 hr
  simp at e
  have : n' = 0 := h3.symm
  omega
end Go.Proofs.Ytdllbljjlaipoaa
