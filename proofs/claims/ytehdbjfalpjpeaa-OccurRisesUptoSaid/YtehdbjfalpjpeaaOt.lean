/-
  What is free in a part, and which metas: plain facts of layer 5. No statement is proved here.
-/
import Derived.Test.YtehdbjfalpjpeaaOo
namespace Go.Proofs.Ytehdbjfalpjpeaa
open Go.ChangeShapes Go.WideShapes Go.ChangeAt Go.RowKit Go.Maps
set_option linter.unusedVariables false

mutual
theorem nds_bnd : ∀ (t : T) (b : Int), 0 ≤ b → b + nd t ≤ 4194304 → ∀ x ∈ nds t b, 0 ≤ x.1 ∧ x.1 ≤ 4194304
  | .node k h xs, b, h0, h1 => by
    rw [nd] at h1
    intro x hx
    rw [nds] at hx
    rcases List.mem_cons.1 hx with rfl | hx
    · exact ⟨h0, by dsimp only; omega⟩
    · exact nds_bndL k xs.length xs 0 b h0 (by omega) x hx
theorem nds_bndL (k : Int) (n : Nat) : ∀ (xs : List T) (i : Nat) (b : Int), 0 ≤ b → b + 1 + ndL xs ≤ 4194304 → ∀ x ∈ ndsL k n xs i b, 0 ≤ x.1 ∧ x.1 ≤ 4194304
  | [], _, _, _, _ => by intro x hx; rw [ndsL] at hx; cases hx
  | t :: ts, i, b, h0, h1 => by
    rw [ndL] at h1
    intro x hx
    rw [ndsL] at hx
    have hb := bd_01 k n i
    have hw : wrap64 (b + bd k n i) = b + bd k n i := wrap_small (by omega) (by omega)
    rw [hw] at hx
    rcases List.mem_append.1 hx with hx | hx
    · exact nds_bnd t (b + bd k n i) (by omega) (by omega) x hx
    · exact nds_bndL k n ts (i + 1) b h0 (by omega) x hx
end
mutual
theorem nds_low : ∀ (t : T) (b : Int), lowB t = true → ∀ x ∈ nds t b, hd x.2 ≤ 1099511627776
  | .node k h xs, b, hl => by
    rw [lowB, Bool.and_eq_true, decide_eq_true_eq] at hl
    intro x hx
    rw [nds] at hx
    rcases List.mem_cons.1 hx with rfl | hx
    · exact hl.1
    · exact nds_lowL k xs.length xs 0 b hl.2 x hx
theorem nds_lowL (k : Int) (n : Nat) : ∀ (xs : List T) (i : Nat) (b : Int), lowL xs = true → ∀ x ∈ ndsL k n xs i b, hd x.2 ≤ 1099511627776
  | [], _, _, _ => by intro x hx; rw [ndsL] at hx; cases hx
  | t :: ts, i, b, hl => by
    rw [lowL, Bool.and_eq_true] at hl
    intro x hx
    rw [ndsL] at hx
    rcases List.mem_append.1 hx with hx | hx
    · exact nds_low t _ hl.1 x hx
    · exact nds_lowL k n ts (i + 1) b hl.2 x hx
end
mutual
theorem nds_move (m : Int) : ∀ (t : T) (b : Int), nds t (wrap64 (b + m)) = (nds t b).map fun x => (wrap64 (x.1 + m), x.2)
  | .node k h xs, b => by rw [nds, nds, List.map_cons, nds_moveL m k xs.length xs 0 b]
theorem nds_moveL (m k : Int) (n : Nat) : ∀ (xs : List T) (i : Nat) (b : Int), ndsL k n xs i (wrap64 (b + m)) = (ndsL k n xs i b).map fun x => (wrap64 (x.1 + m), x.2)
  | [], _, _ => by rw [ndsL, ndsL]; rfl
  | t :: ts, i, b => by
    have e : wrap64 (wrap64 (b + m) + bd k n i) = wrap64 (wrap64 (b + bd k n i) + m) := by
      rw [wrap_add, wrap_add]; congr 1; omega
    rw [ndsL, ndsL, List.map_append, e, nds_move m t, nds_moveL m k n ts (i + 1) b]
end
theorem ndsL_mem (k : Int) (n : Nat) : ∀ (xs : List T) (i j : Nat) (b : Int) (a : T), xs[j]? = some a → ∀ x ∈ nds a (wrap64 (b + bd k n (i + j))), x ∈ ndsL k n xs i b
  | [], _, _, _, _, h => by simp at h
  | t :: ts, i, 0, b, a, h => by
    obtain rfl : t = a := by simpa using h
    intro x hx
    rw [ndsL]
    exact List.mem_append_left _ hx
  | t :: ts, i, j + 1, b, a, h => by
    intro x hx
    rw [ndsL]
    refine List.mem_append_right _ (ndsL_mem k n ts (i + 1) j b a (by simpa using h) x ?_)
    rwa [show i + 1 + j = i + (j + 1) by omega]
theorem nds_part {k h : Int} {xs : List T} {j : Nat} {a : T} (hj : xs[j]? = some a) : ∀ x ∈ nds a 0, (wrap64 (x.1 + bd k xs.length j), x.2) ∈ nds (.node k h xs) 0 := fun x hx => by
  rw [nds]
  refine List.mem_cons_of_mem _ (ndsL_mem k xs.length xs 0 j 0 a hj _ ?_)
  rw [Nat.zero_add, nds_move]
  exact List.mem_map.2 ⟨x, hx, rfl⟩
theorem part_mt {k h : Int} {xs : List T} {j : Nat} {a : T} (hj : xs[j]? = some a) : ∀ m ∈ rs ((nds a 0).flatMap mt1), m ∈ rs ((nds (.node k h xs) 0).flatMap mt1) := fun m hm => by
  obtain ⟨x, hx, hxm⟩ := List.mem_flatMap.1 (mem_rs.1 hm)
  refine mem_rs.2 (List.mem_flatMap.2 ⟨_, nds_part hj x hx, ?_⟩)
  rw [mem_mt1] at hxm ⊢
  exact hxm
theorem part_fv {k h : Int} {xs : List T} {j : Nat} {a : T} (hj : xs[j]? = some a) (hl : lowB a = true) (hs : nd a ≤ 1048576) :
    ∀ f ∈ rs ((nds a 0).flatMap fv1), (0 ≤ f ∧ f ≤ 1099511627776) ∧ (bd k xs.length j ≤ f → f - bd k xs.length j ∈ rs ((nds (.node k h xs) 0).flatMap fv1)) := fun f hf => by
  obtain ⟨x, hx, hxf⟩ := List.mem_flatMap.1 (mem_rs.1 hf)
  obtain ⟨h1, h2, h3⟩ := mem_fv1.1 hxf
  have h4 := nds_bnd a 0 (by omega) (by omega) x hx
  have h5 := nds_low a 0 hl x hx
  rw [wrap_small (by omega) (by omega)] at h3
  have hb := bd_01 k xs.length j
  refine ⟨by omega, fun hbf => mem_rs.2 (List.mem_flatMap.2 ⟨_, nds_part hj x hx, ?_⟩)⟩
  have hw : wrap64 (x.1 + bd k xs.length j) = x.1 + bd k xs.length j := wrap_small (by omega) (by omega)
  rw [mem_fv1]
  refine ⟨h1, by dsimp only; rw [hw]; omega, ?_⟩
  dsimp only
  rw [hw, wrap_small (by omega) (by omega)]
  omega
theorem asc_step {l : List Int} (h : Asc l) {j : Nat} {x y : Int} (hx : l[j]? = some x) (hy : l[j + 1]? = some y) : x < y := by
  obtain ⟨h1, rfl⟩ := List.getElem?_eq_some_iff.1 hx
  obtain ⟨h2, rfl⟩ := List.getElem?_eq_some_iff.1 hy
  exact List.pairwise_iff_getElem.1 h j (j + 1) h1 h2 (by omega)
theorem lowL_mem : ∀ {xs : List T}, lowL xs = true → ∀ t ∈ xs, lowB t = true
  | t :: ts, h, u, hu => by
    rw [lowL, Bool.and_eq_true] at h
    rcases List.mem_cons.1 hu with rfl | hu
    · exact h.1
    · exact lowL_mem h.2 u hu
end Go.Proofs.Ytehdbjfalpjpeaa
