/-
  What is up, and what is free in it; patterns as lists of variables: plain facts of layer 5. No statement is proved here.
-/
import Derived.Test.YtooihffijpndoaaOq
import Derived.Test.YtooihffijpndoaaSm
namespace Go.Proofs.Ytooihffijpndoaa
open Go.ChangeShapes Go.WideShapes Go.ChangeAt Go.RowKit Go.Maps
set_option linter.unusedVariables false

theorem upL_lenO (b k : Int) (n : Nat) : ∀ (xs : List T) (i : Nat) (f : Int), (upL b k n xs i f).length = xs.length
  | [], _, _ => rfl
  | t :: ts, i, f => by rw [upL, List.length_cons, List.length_cons, upL_lenO b k n ts]
mutual
theorem fv_up {m : Int} (hm : 0 ≤ m ∧ m ≤ 1000) : ∀ (t : T) (b : Int), nodB t = true → lowB t = true → 0 ≤ b → b + nd t ≤ 2097152 → (nds (upT m t b) b).flatMap fv1 = ((nds t b).flatMap fv1).map (· + m)
  | .node k h xs, b, hn, hl, h0, h1 => by
    have hok := nds_ok (.node k h xs) b hn hl h0 h1 (b, .node k h xs) (by rw [nds]; exact List.mem_cons_self ..)
    rw [nodB, Bool.and_eq_true] at hn
    rw [lowB, Bool.and_eq_true, decide_eq_true_eq] at hl
    rw [nd] at h1
    rw [upT, fv_node, fv_node, List.map_append, upL_lenO, fv_upL hm k xs.length xs 0 b hn.2 hl.2 h0 (by omega)]
    congr 1
    obtain ⟨_, _, h46, _⟩ := hok
    simp only [kd, hd] at h46
    by_cases k4 : k = 4
    · subst k4
      have hh := h46 (.inl rfl)
      by_cases hb : b ≤ h
      · have e : (if (4 : Int) = 4 ∧ b ≤ h then h + m else h) = h + m := if_pos ⟨rfl, hb⟩
        rw [e, if_pos ⟨rfl, by omega⟩, if_pos ⟨rfl, hb⟩, wrap_small (by omega) (by omega), wrap_small (by omega) (by omega)]
        simp; omega
      · have e : (if (4 : Int) = 4 ∧ b ≤ h then h + m else h) = h := if_neg (fun e => hb e.2)
        rw [e, if_neg (fun e => hb e.2)]; rfl
    · rw [if_neg (fun e => k4 e.1), if_neg (fun e => k4 e.1)]; rfl
theorem fv_upL {m : Int} (hm : 0 ≤ m ∧ m ≤ 1000) (k : Int) (n : Nat) : ∀ (xs : List T) (i : Nat) (b : Int), nodL xs = true → lowL xs = true → 0 ≤ b → b + 1 + ndL xs ≤ 2097152 → (ndsL k n (upL m k n xs i b) i b).flatMap fv1 = ((ndsL k n xs i b).flatMap fv1).map (· + m)
  | [], _, _, _, _, _, _ => by rw [upL, ndsL]; rfl
  | t :: ts, i, b, hn, hl, h0, h1 => by
    rw [nodL, Bool.and_eq_true] at hn
    rw [lowL, Bool.and_eq_true] at hl
    rw [ndL] at h1
    have hb := bd_01 k n i
    have hw : wrap64 (b + bd k n i) = b + bd k n i := wrap_small (by omega) (by omega)
    rw [upL, ndsL, ndsL, List.flatMap_append, List.flatMap_append, List.map_append, hw, fv_up hm t _ hn.1 hl.1 (by omega) (by omega), fv_upL hm k n ts (i + 1) b hn.2 hl.2 h0 (by omega)]
end
theorem rs_map (m : Int) (l : List Int) : rs (l.map (· + m)) = (rs l).map (· + m) := by
  symm
  refine rs_eq ?_ fun x => ?_
  · exact List.pairwise_map.2 ((rs_asc l).imp fun {a b} h => by omega)
  · simp only [List.mem_map, mem_rs]
theorem Kv.up {t : T} (k : Kv t) {m : Int} (hm : 0 ≤ m ∧ m ≤ 1000) : VsT (upT m t 0) = (VsT t).map (· + m) := by
  show rs _ = _
  rw [fv_up hm t 0 k.nod k.low (by omega) (by have := k.n4; omega), rs_map]
theorem kv_up {t : T} {s d : Int} (h1 : ltB t s d = true) (h2 : mayK (flat t 1 0) = true) {m : Int} (hm : 0 ≤ m ∧ m ≤ 1000) : upX t m 0 = upT m t 0 := by
  have k := kv_of h1 h2
  have n4 := k.n4
  exact upX_eq (M := 1099511627776) (by omega) (okT_of t k.nod k.low) (by omega) (by rw [← may_eq (by omega)]; exact h2) ⟨hm.1, by omega⟩ ⟨by omega, by omega⟩

/-! ### Patterns -/
/-- a variable alone, below a number -/
def pvB (below : Int) : T → Bool
  | .node k h xs => k == 4 && xs.length == 0 && decide (0 ≤ h) && decide (h < below)
theorem pt1_iff (seen : List Int) (below : Int) (t : T) : pt1 seen below t = (pvB below t && !seen.contains (hd t)) := by
  obtain ⟨k, h, xs⟩ := t
  rfl
theorem ptn_iff (below : Int) : ∀ (l : List T) (seen zs : List Int), seen.Nodup → (ptn below seen l = some zs ↔ (∀ t ∈ l, pvB below t = true) ∧ (seen ++ l.map hd).Nodup ∧ zs = seen ++ l.map hd)
  | [], seen, zs, hs => by
    rw [ptn]
    simp only [List.map_nil, List.append_nil, Option.some.injEq]
    exact ⟨fun h => ⟨fun t ht => (by cases ht), hs, h.symm⟩, fun h => h.2.2.symm⟩
  | t :: ts, seen, zs, hs => by
    rw [ptn, pt1_iff]
    by_cases h1 : pvB below t = true
    · by_cases h2 : hd t ∈ seen
      · have : seen.contains (hd t) = true := by simpa using h2
        rw [h1, this]
        simp only [Bool.not_true, Bool.and_false, Bool.false_eq_true, if_false]
        refine ⟨fun h => (by cases h), fun h => ?_⟩
        have := (List.nodup_append.1 h.2.1).2.2 (hd t) h2 (hd t) (by simp)
        exact absurd rfl this
      · have h3 : seen.contains (hd t) = false := by simpa using h2
        rw [h1, h3]
        simp only [Bool.not_false, Bool.and_self, if_true]
        have hs' : (seen ++ [hd t]).Nodup := List.nodup_append.2 ⟨hs, by simp, fun a ha b hb => by simp at hb; subst hb; exact fun e => h2 (e ▸ ha)⟩
        rw [ptn_iff below ts (seen ++ [hd t]) zs hs']
        simp only [List.append_assoc, List.map_cons, List.singleton_append, List.mem_cons, forall_eq_or_imp, h1, true_and]
    · have h3 : pvB below t = false := by simpa using h1
      rw [h3]
      simp only [Bool.false_and, Bool.false_eq_true, if_false]
      refine ⟨fun h => (by cases h), fun h => ?_⟩
      exact absurd (h.1 t (List.mem_cons_self ..)) h1
theorem ptn_top (below : Int) (l : List T) (zs : List Int) : ptn below [] l = some zs ↔ (∀ t ∈ l, pvB below t = true) ∧ (l.map hd).Nodup ∧ zs = l.map hd := by
  have := ptn_iff below l [] zs List.nodup_nil
  simpa using this
theorem vsO_hd (m : Nat) : (vsO m).map hd = (List.range m).map fun (i : Nat) => (m : Int) - 1 - (i : Int) := by
  unfold vsO
  rw [List.map_map]
  rfl
theorem vsO_pat (m : Nat) : ptn m [] (vsO m) = some ((vsO m).map hd) := by
  rw [ptn_top]
  refine ⟨fun t ht => ?_, ?_, rfl⟩
  · obtain ⟨i, hi⟩ := List.getElem?_of_mem ht
    obtain ⟨h1, rfl⟩ := vsO_at _ _ _ hi
    have q0 : decide ((0 : Int) ≤ (m : Int) - 1 - (i : Int)) = true := by simp; omega
    have q1 : decide ((m : Int) - 1 - (i : Int) < (m : Int)) = true := by simp; omega
    simp only [pvB, q0, q1]
    rfl
  · rw [vsO_hd]
    refine List.pairwise_map.2 (List.nodup_range.imp_of_mem fun {a b} ha hb hab => ?_)
    omega
theorem vsO_less (m : Nat) : (ptn ((m : Int) - 1) [] (vsO m)).isSome = decide (m = 0) := by
  cases m with
  | zero => rfl
  | succ k =>
    have h1 : (vsO (k + 1))[0]? = some (.node 4 (k : Int) []) := by
      unfold vsO
      rw [List.getElem?_map, List.getElem?_range (by omega)]
      simp
    cases hl : vsO (k + 1) with
    | nil => rw [hl] at h1; simp at h1
    | cons x xs =>
      rw [hl] at h1
      obtain rfl : x = .node 4 (k : Int) [] := by simpa using h1
      rw [ptn]
      have q1 : decide ((k : Int) < ((k + 1 : Nat) : Int) - 1) = false := by simp
      have : pt1 [] (((k + 1 : Nat) : Int) - 1) (.node 4 (k : Int) []) = false := by
        simp only [pt1, q1]
        simp
      rw [this]
      rfl
theorem clO_eq {n : Int} (h0 : 0 ≤ n) (h1 : n ≤ 200) : ((clO n : Nat) : Int) = n ∧ clO n ≤ 200 := by
  unfold clO
  rw [if_neg (by omega), if_neg (by omega)]
  omega
theorem PtEnd.some {zs : List Int} {w w' : World} {e : Ending} (h : PtEnd (Option.some zs) w e w') : ∃ p, e = .returned (.tuple #[p, .bool true]) ∧ Ns w' p zs ∧ Below w.heap.size w w' := by
  rcases h with ⟨zs', p, hz, he, hn, hb⟩ | ⟨h0, _⟩
  · obtain rfl : zs = zs' := by simpa using hz
    exact ⟨p, he, hn, hb⟩
  · cases h0
theorem Ns.len {w : World} {v : Value} {zs : List Int} {n : Nat} (h : Ns w v zs) (hl : zs.length = n) : ∃ A c, v = .slice A n c := by
  obtain ⟨A, c, e, _⟩ := h
  exact ⟨A, c, by rw [e, hl]⟩
end Go.Proofs.Ytooihffijpndoaa
