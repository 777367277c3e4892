/-
  Scopes and what is free: plain facts of layer 5. No statement is proved here.
-/
import Derived.Test.YtooihffijpndoaaOn
namespace Go.Proofs.Ytooihffijpndoaa
open Go.ChangeShapes Go.WideShapes Go.ChangeAt Go.RowKit Go.Maps
set_option linter.unusedVariables false

def kd : T → Int
  | .node k _ _ => k
theorem bd_01 (k : Int) (n i : Nat) : bd k n i = 0 ∨ bd k n i = 1 := by unfold bd; split <;> simp

/-- what holds of each node of a light term that may be -/
def NOk (x : Int × T) : Prop := 0 ≤ x.1 ∧ x.1 ≤ 2097152 ∧ ((kd x.2 = 4 ∨ kd x.2 = 6) → 0 ≤ hd x.2) ∧ hd x.2 ≤ 1099511627776
mutual
theorem nds_ok : ∀ (t : T) (b : Int), nodB t = true → lowB t = true → 0 ≤ b → b + nd t ≤ 2097152 → ∀ x ∈ nds t b, NOk x
  | .node k h xs, b, hn, hl, h0, h1 => by
    rw [nodB, Bool.and_eq_true] at hn
    rw [lowB, Bool.and_eq_true, decide_eq_true_eq] at hl
    rw [nd] at h1
    intro x hx
    rw [nds] at hx
    rcases List.mem_cons.1 hx with rfl | hx
    · refine ⟨h0, by dsimp only; omega, fun h46 => ?_, hl.1⟩
      have := okN_cases hn.1
      simp only [kd, hd] at h46 ⊢
      omega
    · exact nds_okL k xs.length xs 0 b hn.2 hl.2 h0 (by omega) x hx
theorem nds_okL (k : Int) (n : Nat) : ∀ (xs : List T) (i : Nat) (b : Int), nodL xs = true → lowL xs = true → 0 ≤ b → b + 1 + ndL xs ≤ 2097152 → ∀ x ∈ ndsL k n xs i b, NOk x
  | [], _, _, _, _, _, _ => by intro x hx; rw [ndsL] at hx; cases hx
  | t :: ts, i, b, hn, hl, h0, h1 => by
    rw [nodL, Bool.and_eq_true] at hn
    rw [lowL, Bool.and_eq_true] at hl
    rw [ndL] at h1
    intro x hx
    rw [ndsL] at hx
    have hb := bd_01 k n i
    have hw : wrap64 (b + bd k n i) = b + bd k n i := wrap_small (by omega) (by omega)
    rw [hw] at hx
    rcases List.mem_append.1 hx with hx | hx
    · exact nds_ok t (b + bd k n i) hn.1 hl.1 (by omega) (by omega) x hx
    · exact nds_okL k n ts (i + 1) b hn.2 hl.2 h0 (by omega) x hx
end

/-- a node in scope -/
def sc2 (F M : Int) (x : Int × T) : Bool := !(kd x.2 == 4 && decide (wrap64 (F + x.1) ≤ hd x.2)) && !(kd x.2 == 6 && decide (M ≤ hd x.2))
mutual
theorem flat_nds (F M : Int) : ∀ (t : T) (d b : Int), (flat t d b).all (scT F M) = (nds t b).all (sc2 F M)
  | .node k h xs, d, b => by rw [flat, nds, List.all_cons, List.all_cons, flat_ndsL F M k xs.length xs 0 d b]; rfl
theorem flat_ndsL (F M k : Int) (n : Nat) : ∀ (xs : List T) (i : Nat) (d b : Int), (flatL k n xs i d b).all (scT F M) = (ndsL k n xs i b).all (sc2 F M)
  | [], _, _, _ => by rw [flatL, ndsL]; rfl
  | t :: ts, i, d, b => by rw [flatL, ndsL, List.all_append, List.all_append, flat_nds F M t, flat_ndsL F M k n ts]
end

theorem mem_fv1 {x : Int × T} {f : Int} : f ∈ fv1 x ↔ kd x.2 = 4 ∧ x.1 ≤ hd x.2 ∧ f = wrap64 (hd x.2 - x.1) := by
  obtain ⟨b, k, h, xs⟩ := x
  simp only [fv1, kd, hd]
  split
  · rename_i e; simp [e]
  · rename_i e
    simp only [List.not_mem_nil, false_iff]
    exact fun h => e ⟨h.1, h.2.1⟩
theorem mem_mt1 {x : Int × T} {f : Int} : f ∈ mt1 x ↔ kd x.2 = 6 ∧ f = hd x.2 := by
  obtain ⟨b, k, h, xs⟩ := x
  simp only [mt1, kd, hd]
  split
  · rename_i e; simp [e]
  · rename_i e
    simp only [List.not_mem_nil, false_iff]
    exact fun h => e h.1
theorem fv_ok {x : Int × T} (h : NOk x) {f : Int} (hf : f ∈ fv1 x) : f = hd x.2 - x.1 ∧ 0 ≤ f ∧ f ≤ 1099511627776 := by
  obtain ⟨h1, h2, h3⟩ := mem_fv1.1 hf
  obtain ⟨a, b, c, d⟩ := h
  rw [wrap_small (by omega) (by omega)] at h3
  omega
theorem mt_ok {x : Int × T} (h : NOk x) {f : Int} (hf : f ∈ mt1 x) : 0 ≤ f ∧ f ≤ 1099511627776 := by
  obtain ⟨h1, rfl⟩ := mem_mt1.1 hf
  exact ⟨h.2.2.1 (.inr h1), h.2.2.2⟩
theorem sc2_iff {x : Int × T} (h : NOk x) {F M : Int} (hF : 0 ≤ F) (hF2 : F ≤ 4398046511104) : sc2 F M x = true ↔ (∀ f ∈ fv1 x, f < F) ∧ ∀ m ∈ mt1 x, m < M := by
  have h' := h
  obtain ⟨a, b, c, d⟩ := h
  have hw : wrap64 (F + x.1) = F + x.1 := wrap_small (by omega) (by omega)
  unfold sc2
  rw [hw]
  simp only [Bool.and_eq_true, Bool.not_eq_true', Bool.and_eq_false_iff, beq_eq_false_iff_ne, decide_eq_false_iff_not]
  constructor
  · rintro ⟨h1, h2⟩
    refine ⟨fun f hf => ?_, fun m hm => ?_⟩
    · have e := (fv_ok h' hf).1
      have := (mem_fv1.1 hf).1
      omega
    · obtain ⟨e1, rfl⟩ := mem_mt1.1 hm
      omega
  · rintro ⟨h1, h2⟩
    constructor
    · by_cases k4 : kd x.2 = 4
      · right
        by_cases hb : x.1 ≤ hd x.2
        · have h3 := mem_fv1.2 ⟨k4, hb, rfl⟩
          have h4 := h1 _ h3
          have h5 := (fv_ok h' h3).1
          omega
        · omega
      · exact .inl k4
    · by_cases k6 : kd x.2 = 6
      · right
        have := h2 _ (mem_mt1.2 ⟨k6, rfl⟩)
        omega
      · exact .inl k6
theorem sc_mem {l : List (Int × T)} (hl : ∀ x ∈ l, NOk x) {F M : Int} (hF : 0 ≤ F) (hF2 : F ≤ 4398046511104) : l.all (sc2 F M) = true ↔ (∀ f ∈ l.flatMap fv1, f < F) ∧ ∀ m ∈ l.flatMap mt1, m < M := by
  rw [List.all_eq_true]
  constructor
  · intro h
    refine ⟨fun f hf => ?_, fun m hm => ?_⟩
    · obtain ⟨x, hx, hfx⟩ := List.mem_flatMap.1 hf
      exact ((sc2_iff (hl x hx) hF hF2).1 (h x hx)).1 f hfx
    · obtain ⟨x, hx, hfx⟩ := List.mem_flatMap.1 hm
      exact ((sc2_iff (hl x hx) hF hF2).1 (h x hx)).2 m hfx
  · rintro ⟨h1, h2⟩ x hx
    exact (sc2_iff (hl x hx) hF hF2).2 ⟨fun f hf => h1 f (List.mem_flatMap.2 ⟨x, hx, hf⟩), fun m hm => h2 m (List.mem_flatMap.2 ⟨x, hx, hm⟩)⟩

/-- one more than the last one -/
def top (l : List Int) : Int := match l.getLast? with
  | some x => x + 1
  | none => 0
theorem top_nil : top [] = 0 := rfl
theorem top_at {l : List Int} {z : Int} (h : l[l.length - 1]? = some z) : top l = z + 1 := by
  unfold top
  rw [List.getLast?_eq_getElem?, h]
theorem top_le {l : List Int} (ha : Asc l) {F : Int} (hF : 0 ≤ F) : (∀ x ∈ l, x < F) ↔ top l ≤ F := by
  unfold top
  cases hg : l.getLast? with
  | none =>
    rw [List.getLast?_eq_none_iff] at hg
    subst hg
    simp [hF]
  | some z =>
    obtain ⟨ys, rfl⟩ := List.getLast?_eq_some_iff.1 hg
    dsimp only
    obtain ⟨_, _, h3⟩ := List.pairwise_append.1 ha
    constructor
    · intro h
      have := h z (by simp)
      omega
    · intro h x hx
      rcases List.mem_append.1 hx with hx | hx
      · have := h3 x hx z (by simp); omega
      · have : x = z := by simpa using hx
        omega
theorem top_range {l : List Int} (h : ∀ x ∈ l, 0 ≤ x ∧ x ≤ 1099511627776) : 0 ≤ top l ∧ top l ≤ 1099511627777 ∧ (l ≠ [] → 1 ≤ top l) := by
  unfold top
  cases hg : l.getLast? with
  | none =>
    rw [List.getLast?_eq_none_iff] at hg
    subst hg
    simp
  | some z =>
    have hz := h z (List.mem_of_getLast? hg)
    dsimp only
    omega

/-- what a law knows of a light term that may be -/
structure Kv (t : T) : Prop where
  nod : nodB t = true
  low : lowB t = true
  n4 : nd t ≤ 4000
theorem kv_of {t : T} {s d : Int} (h1 : ltB t s d = true) (h2 : mayK (flat t 1 0) = true) : Kv t := by
  rw [mayK, Bool.and_eq_true, decide_eq_true_eq, flat_len] at h2
  rw [ltB, Bool.and_eq_true, Bool.and_eq_true] at h1
  refine ⟨?_, h1.1.1, h2.1⟩
  have h3 := h2.2
  rw [show okK = fun x => decide (x.d ≤ 60) && okN x.k x.h x.n from rfl, all_and, Bool.and_eq_true, flat_ok] at h3
  exact h3.2
abbrev VsT (t : T) : List Int := rs ((nds t 0).flatMap fv1)
abbrev MsT (t : T) : List Int := rs ((nds t 0).flatMap mt1)
theorem Kv.nodes {t : T} (k : Kv t) : ∀ x ∈ nds t 0, NOk x := nds_ok t 0 k.nod k.low (by omega) (by have := k.n4; omega)
theorem Kv.vs {t : T} (k : Kv t) : ∀ x ∈ VsT t, 0 ≤ x ∧ x ≤ 1099511627776 := fun x hx => by
  obtain ⟨y, hy, hxy⟩ := List.mem_flatMap.1 (mem_rs.1 hx)
  exact (fv_ok (k.nodes y hy) hxy).2
theorem Kv.ms {t : T} (k : Kv t) : ∀ x ∈ MsT t, 0 ≤ x ∧ x ≤ 1099511627776 := fun x hx => by
  obtain ⟨y, hy, hxy⟩ := List.mem_flatMap.1 (mem_rs.1 hx)
  exact mt_ok (k.nodes y hy) hxy
theorem Kv.within {t : T} (k : Kv t) {F M : Int} (hF : 0 ≤ F) (hF2 : F ≤ 4398046511104) (hM : 0 ≤ M) : (flat t 1 0).all (scT F M) = (decide (top (VsT t) ≤ F) && decide (top (MsT t) ≤ M)) := by
  rw [flat_nds, Bool.eq_iff_iff, sc_mem k.nodes hF hF2, Bool.and_eq_true, decide_eq_true_eq, decide_eq_true_eq, ← top_le (rs_asc _) hF, ← top_le (rs_asc _) hM]
  simp only [mem_rs]
end Go.Proofs.Ytooihffijpndoaa
