/-
  What package term's functions tell, and what the document's own tell, as plain functions: they are the same.
-/
import Derived.Test.YtmkahbbcagfbhaaGreatDoorTf
import Derived.Test.YtmkahbbcagfbhaaGreatDoorOp
namespace Go.Proofs.YtmkahbbcagfbhaaGreatDoor
open Go.RowKit
set_option linter.unusedVariables false

theorem wrap_add (x y : Int) : wrap64 (wrap64 x + y) = wrap64 (x + y) := by unfold wrap64; omega
theorem wrap_add' (x y : Int) : wrap64 (x + wrap64 y) = wrap64 (x + y) := by unfold wrap64; omega
theorem wrap_small {x : Int} (h : -9223372036854775808 ≤ x) (h' : x ≤ 9223372036854775807) : wrap64 x = x := by unfold wrap64; omega

theorem wf_wrap {a : Int} (h : (Lit.int .i64 a).wf = true) : wrap64 a = a := by
  have : -9223372036854775808 ≤ a ∧ a ≤ 9223372036854775807 := by simpa [Lit.wf, IntKind.min, IntKind.max, IntKind.signed, IntKind.bits] using h
  exact wrap_small this.1 this.2
theorem nd_mem {t : T} : ∀ {xs : List T}, t ∈ xs → nd t ≤ ndL xs
  | x :: xs, h => by
    rw [ndL]
    rcases List.mem_cons.1 h with rfl | h
    · omega
    · have := nd_mem h; omega

theorem cntW_eq : ∀ n : Nat, cntW n = wrap64 n
  | 0 => by simp [cntW, wrap64]
  | n + 1 => by rw [cntW, cntW_eq n, wrap_add]; simp

/-! ### Sizes -/
mutual
theorem flat_len : ∀ (t : T) (d b : Int), (flat t d b).length = nd t
  | .node k h xs, d, b => by rw [flat, nd, List.length_cons, flatL_len k xs.length xs 0 d b]; omega
theorem flatL_len (k : Int) (n : Nat) : ∀ (xs : List T) (i : Nat) (d b : Int), (flatL k n xs i d b).length = ndL xs
  | [], _, _, _ => by simp [flatL, ndL]
  | t :: ts, i, d, b => by rw [flatL, ndL, List.length_append, flat_len t, flatL_len k n ts]
end
mutual
theorem szW_eq : ∀ t : T, szW t = wrap64 (nd t)
  | .node k h xs => by
    rw [szW, nd, show (1 : Int) = wrap64 1 by unfold wrap64; omega, szWL_eq xs 1]
    congr 1
theorem szWL_eq : ∀ (xs : List T) (m : Int), szWL xs (wrap64 m) = wrap64 (m + ndL xs)
  | [], m => by simp [szWL, ndL]
  | t :: ts, m => by
    rw [szWL, szW_eq t, wrap_add', wrap_add, szWL_eq ts, ndL]
    congr 1
    omega
end
theorem size_eq (t : T) : cntW (flat t 1 0).length = szW t := by rw [cntW_eq, flat_len, szW_eq]
theorem nd_pos : ∀ t : T, 1 ≤ nd t
  | .node k h xs => by rw [nd]; omega
theorem szW_small {t : T} (h : nd t ≤ 1048576) : szW t = nd t := by rw [szW_eq, wrap_small (by omega) (by omega)]

/-! ### Depths -/
mutual
def dp : T → Nat
  | .node _ _ xs => 1 + dpL xs
def dpL : List T → Nat
  | [] => 0
  | t :: ts => max (dp t) (dpL ts)
end
mutual
theorem dp_le : ∀ t : T, dp t ≤ nd t
  | .node k h xs => by have := dpL_le xs; rw [dp, nd]; omega
theorem dpL_le : ∀ xs : List T, dpL xs ≤ ndL xs
  | [] => by simp [dpL]
  | t :: ts => by have := dp_le t; have := dpL_le ts; rw [dpL, ndL]; omega
end
theorem dp_pos : ∀ t : T, 1 ≤ dp t
  | .node k h xs => by rw [dp]; omega
mutual
theorem dpW_eq : ∀ t : T, nd t ≤ 1048576 → dpW t = dp t
  | .node k h xs, hs => by
    rw [nd] at hs
    have := dpL_le xs
    rw [dpW, dpWL_eq xs 0 (by omega) (by omega), dp, wrap_small (by omega) (by omega)]
    omega
theorem dpWL_eq : ∀ (xs : List T) (m : Int), ndL xs ≤ 1048576 → 0 ≤ m → dpWL xs m = max m (dpL xs)
  | [], m, _, hm => by rw [dpWL, dpL]; omega
  | t :: ts, m, hs, hm => by
    rw [ndL] at hs
    rw [dpWL, dpW_eq t (by omega), dpL]
    split
    · rw [dpWL_eq ts _ (by omega) (by omega)]; omega
    · rw [dpWL_eq ts _ (by omega) hm]; omega
end
def maxF (ks : List Key) (m : Int) : Int := ks.foldl (fun m x => if m < x.d then x.d else m) m
theorem maxF_app (ks ls : List Key) (m : Int) : maxF (ks ++ ls) m = maxF ls (maxF ks m) := by simp [maxF]
mutual
theorem flat_dp : ∀ (t : T) (d b m : Int), 0 ≤ d → d + nd t ≤ 1099511627776 → maxF (flat t d b) m = max m (d + dp t - 1)
  | .node k h xs, d, b, m, hd, hs => by
    rw [nd] at hs
    rw [flat, dp, show maxF (⟨d, b, k, h, xs.length⟩ :: flatL k xs.length xs 0 d b) m = maxF (flatL k xs.length xs 0 d b) (if m < d then d else m) from rfl]
    rw [flatL_dp k _ xs 0 d b _ hd (by omega)]
    split <;> split <;> omega
theorem flatL_dp (k : Int) (n : Nat) : ∀ (xs : List T) (i : Nat) (d b m : Int), 0 ≤ d → d + 1 + ndL xs ≤ 1099511627776 → maxF (flatL k n xs i d b) m = if dpL xs = 0 then m else max m (d + dpL xs)
  | [], i, d, b, m, _, _ => by simp [flatL, dpL, maxF]
  | t :: ts, i, d, b, m, hd, hs => by
    rw [ndL] at hs
    have hp := dp_pos t
    have hw : wrap64 (d + 1) = d + 1 := wrap_small (by omega) (by omega)
    rw [flatL, maxF_app, hw, flat_dp t (d + 1) _ m (by omega) (by omega), flatL_dp k n ts (i + 1) d b _ hd (by omega), dpL]
    split <;> split <;> omega
end
theorem depth_eq {t : T} (h : nd t ≤ 1048576) : maxD (flat t 1 0) = dpW t := by
  have := flat_dp t 1 0 0 (by omega) (by omega)
  have e : maxD (flat t 1 0) = maxF (flat t 1 0) 0 := rfl
  have hp := dp_pos t
  rw [e, this, dpW_eq t h]
  omega

/-! ### What may be -/
mutual
theorem flat_ok : ∀ (t : T) (d b : Int), (flat t d b).all (fun x => okN x.k x.h x.n) = nodB t
  | .node k h xs, d, b => by rw [flat, List.all_cons, flatL_ok k _ xs 0 d b, nodB]
theorem flatL_ok (k : Int) (n : Nat) : ∀ (xs : List T) (i : Nat) (d b : Int), (flatL k n xs i d b).all (fun x => okN x.k x.h x.n) = nodL xs
  | [], _, _, _ => by simp [flatL, nodL]
  | t :: ts, i, d, b => by rw [flatL, List.all_append, flat_ok t, flatL_ok k n ts, nodL]
end
mutual
theorem flat_deep : ∀ (t : T) (d b : Int), 0 ≤ d → d + nd t ≤ 1099511627776 → (flat t d b).all (fun x => decide (x.d ≤ 60)) = decide (d + dp t ≤ 61)
  | .node k h xs, d, b, hd, hs => by
    rw [nd] at hs
    rw [flat, List.all_cons, flatL_deep k _ xs 0 d b hd (by omega), dp]
    rw [Bool.eq_iff_iff]
    simp only [Bool.and_eq_true, decide_eq_true_eq]
    omega
theorem flatL_deep (k : Int) (n : Nat) : ∀ (xs : List T) (i : Nat) (d b : Int), 0 ≤ d → d + 1 + ndL xs ≤ 1099511627776 → (flatL k n xs i d b).all (fun x => decide (x.d ≤ 60)) = decide (dpL xs = 0 ∨ d + dpL xs ≤ 60)
  | [], i, d, b, _, _ => by simp [flatL, dpL]
  | t :: ts, i, d, b, hd, hs => by
    rw [ndL] at hs
    have hp := dp_pos t
    have hw : wrap64 (d + 1) = d + 1 := wrap_small (by omega) (by omega)
    rw [flatL, List.all_append, hw, flat_deep t (d + 1) _ (by omega) (by omega), flatL_deep k n ts (i + 1) d b hd (by omega), dpL]
    rw [Bool.eq_iff_iff]
    simp only [Bool.and_eq_true, decide_eq_true_eq]
    omega
end
theorem all_and {α : Type} (p q : α → Bool) (l : List α) : l.all (fun x => p x && q x) = (l.all p && l.all q) := by
  induction l with
  | nil => rfl
  | cons x l ih => simp only [List.all_cons, ih]; cases p x <;> cases q x <;> simp
theorem may_eq {t : T} (h : nd t ≤ 1048576) : mayK (flat t 1 0) = mayB t := by
  have e : (flat t 1 0).all okK = (decide (1 + (dp t : Int) ≤ 61) && nodB t) := by
    rw [show okK = fun x => decide (x.d ≤ 60) && okN x.k x.h x.n from rfl, all_and, flat_deep t 1 0 (by omega) (by omega), flat_ok]
  rw [mayK, mayB, flat_len, e, szW_small h, dpW_eq t h]
  rw [Bool.eq_iff_iff]
  simp only [Bool.and_eq_true, decide_eq_true_eq]
  constructor
  · rintro ⟨h1, h2, h3⟩; exact ⟨⟨h3, by omega⟩, by omega⟩
  · rintro ⟨⟨h3, h1⟩, h2⟩; exact ⟨by omega, by omega, h3⟩

/-! ### What is in scope -/
mutual
theorem flat_sc (vars metas : Int) : ∀ (t : T) (d b : Int), (flat t d b).all (scT vars metas) = scB t (wrap64 (vars + b)) metas
  | .node k h xs, d, b => by
    rw [flat, List.all_cons, flatL_sc vars metas k _ xs 0 d b, scB]
    simp only [scT, Bool.not_or]
theorem flatL_sc (vars metas k : Int) (n : Nat) : ∀ (xs : List T) (i : Nat) (d b : Int), (flatL k n xs i d b).all (scT vars metas) = scL k n xs i (wrap64 (vars + b)) metas
  | [], _, _, _ => by simp [flatL, scL]
  | t :: ts, i, d, b => by
    rw [flatL, List.all_append, flat_sc vars metas t, flatL_sc vars metas k n ts, scL, wrap_add', wrap_add, Int.add_assoc]
end
theorem scoped_eq (t : T) {vars : Int} (metas : Int) (h : wrap64 vars = vars) : (flat t 1 0).all (scT vars metas) = scB t vars metas := by
  rw [flat_sc, Int.add_zero, h]
end Go.Proofs.YtmkahbbcagfbhaaGreatDoor
