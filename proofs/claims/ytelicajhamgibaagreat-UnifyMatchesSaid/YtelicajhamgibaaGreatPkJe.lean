/-
  Where no meta is something a term is as it was when resolved, made the same as itself by nothing, and as another one without metas just if it is that. No statement is proved here.
-/
import Derived.Test.YtelicajhamgibaaGreatPkB
namespace Go.Proofs.YtelicajhamgibaaGreat
open Go.ChangeShapes Go.WideShapes Go.ChangeAt Go.RowKit
set_option linter.unusedVariables false

/-- none of these metas is something -/
def noneB (bs : List BT) (l : List Int) : Prop := ∀ h ∈ l, thI bs h = false
theorem noneB.sub {bs : List BT} {l l' : List Int} (h : noneB bs l) (hs : ∀ x ∈ l', x ∈ l) : noneB bs l' := fun x hx => h x (hs x hx)
theorem mts_arg {k h : Int} {xs : List T} : ∀ x ∈ mtsL xs, x ∈ mts (.node k h xs) := fun x hx => by rw [mts]; exact List.mem_append.2 (.inr hx)
theorem mts_own {h : Int} {xs : List T} : h ∈ mts (.node 6 h xs) := by rw [mts]; simp
theorem som_no {bs : List BT} {k h : Int} {xs : List T} (hn : noneB bs (mts (.node k h xs))) : som bs (.node k h xs) = false := by
  rw [som]
  by_cases hk : k = 6
  · subst hk; rw [hn h mts_own, Bool.and_false]
  · rw [decide_eq_false hk]; rfl
theorem rdU_no {bs : List BT} {m : Int} {f : Nat} {t : T} {N : Nat} (hn : noneB bs (mts t)) (hf : 40001 ≤ f + N) (hN : N + 1 ≤ 40000) : rdU bs m f t N = .ok (t, N + 1) := by
  obtain ⟨g, rfl⟩ : ∃ g, f = g + 1 := ⟨f - 1, by omega⟩
  obtain ⟨k, h, xs⟩ := t
  rw [rdU, if_neg (by omega), if_neg (by rw [som_no hn]; exact Bool.false_ne_true)]
theorem rsL_no {A : T → Int → Nat → Res} {k : Int} {n : Nat} {m : Int} : ∀ (xs : List T) (i N : Nat), (∀ x ∈ xs, ∀ (m : Int) (N' : Nat), N ≤ N' → N' + nd x ≤ 40000 → A x m N' = .ok (x, N' + nd x)) → N + ndL xs ≤ 40000 → rsL A k n m xs i N = .ok (xs, N + ndL xs)
  | [], i, N, _, _ => by rw [rsL, ndL]; rfl
  | x :: xs, i, N, hA, hN => by
    rw [ndL] at hN
    rw [rsL, hA x (List.mem_cons_self ..) _ N (Nat.le_refl _) (by omega)]
    simp only
    rw [rsL_no xs (i + 1) (N + nd x) (fun y hy m N' h1 h2 => hA y (List.mem_cons_of_mem _ hy) m N' (by omega) h2) (by omega)]
    simp only [ndL, Nat.add_assoc]
theorem mem_mtsL {x : T} {h : Int} : ∀ {xs : List T}, x ∈ xs → h ∈ mts x → h ∈ mtsL xs
  | y :: ys, hx, hh => by
    rw [mtsL, List.mem_append]
    rcases List.mem_cons.1 hx with rfl | hx
    · exact .inl hh
    · exact .inr (mem_mtsL hx hh)
theorem rsU_no {bs : List BT} : ∀ (t : T) (f : Nat) (m : Int) (N : Nat), noneB bs (mts t) → 40001 ≤ f + N → N + nd t ≤ 40000 → rsU bs f t m N = .ok (t, N + nd t) := by
  intro t
  induction t using T.ind with
  | step k h xs ih =>
    intro f m N hn hf hN
    rw [nd] at hN
    obtain ⟨g, rfl⟩ : ∃ g, f = g + 1 := ⟨f - 1, by omega⟩
    rw [rsU, rdU_no hn hf (by omega)]
    simp only
    rw [rsL_no xs 0 (N + 1) (fun x hx m N' h1 h2 => ih x hx g m N' (hn.sub fun y hy => mts_arg y (mem_mtsL hx hy)) (by omega) h2) (by omega)]
    simp only [nd, Nat.add_assoc]
theorem samB_refl : ∀ t : T, samB t t = true := by
  intro t
  induction t using T.ind with
  | step k h xs ih =>
    rw [samB]
    have : ∀ l : List T, (∀ x ∈ l, samB x x = true) → samL l l = true := by
      intro l
      induction l with
      | nil => intro _; rw [samL]; simp
      | cons x l il => intro hl; rw [samL, hl x (List.mem_cons_self ..), il fun y hy => hl y (List.mem_cons_of_mem _ hy)]; rfl
    simp [this xs ih]
/-- a term and itself -/
theorem uND_self {sz : List Int} {bs : List BT} : ∀ (t : T) (f : Nat) (m : Int) (N : Nat), noneB bs (mts t) → 40001 ≤ f + N → N + 4 * nd t ≤ 40000 → ∃ N', uND sz f t t m bs N = .ok (false, bs, N') ∧ N ≤ N' ∧ N' ≤ N + 4 * nd t := by
  intro t
  induction t using T.ind with
  | step k h xs ih =>
    intro f m N hn hf hN
    have hnd : nd (.node k h xs) = 1 + ndL xs := by rw [nd]
    obtain ⟨g, rfl⟩ : ∃ g, f = g + 1 := ⟨f - 1, by omega⟩
    rw [uND, rdU_no hn hf (by omega)]
    simp only
    rw [rdU_no hn (by omega) (by omega)]
    simp only
    by_cases hk : k = 6
    · rw [if_pos (.inl hk), meU, if_neg (by omega), if_pos (by simp [hk]), cmU, rsL_no [.node k h xs, .node k h xs] 0 (N + 1 + 1) (fun x hx m N' h1 h2 => by
        simp at hx
        subst hx
        exact rsU_no _ _ _ _ hn (by omega) h2) (by simp only [ndL]; omega)]
      refine ⟨N + 1 + 1 + ndL [.node k h xs, .node k h xs], ?_, by omega, by simp only [ndL]; omega⟩
      simp [samB_refl]
    · rw [if_neg (by omega), if_pos (by simp)]
      have key : ∀ (l : List T) (i N : Nat), (∀ x ∈ l, x ∈ xs) → 40001 ≤ g + N → N + 4 * ndL l ≤ 40000 → ∃ N', ndsU (uND sz g) k xs.length m l l i false bs N = .ok (false, bs, N') ∧ N ≤ N' ∧ N' ≤ N + 4 * ndL l := by
        intro l
        induction l with
        | nil => intro i N _ _ _; exact ⟨N, by rw [ndsU]; simp, Nat.le_refl _, by omega⟩
        | cons x l il =>
          intro i N hs hf hN
          rw [ndL] at hN
          obtain ⟨N1, h1, h3, h2⟩ := ih x (hs x (List.mem_cons_self ..)) g (m + bd k xs.length i) N (hn.sub fun y hy => mts_arg y (mem_mtsL (hs x (List.mem_cons_self ..)) hy)) hf (by omega)
          obtain ⟨N2, h4, h6, h5⟩ := il (i + 1) N1 (fun y hy => hs y (List.mem_cons_of_mem _ hy)) (by omega) (by omega)
          refine ⟨N2, ?_, by omega, by rw [ndL]; omega⟩
          rw [ndsU, h1]
          exact h4
      obtain ⟨N', h1, h3, h2⟩ := key xs 0 (N + 1 + 1) (fun x hx => hx) (by omega) (by omega)
      exact ⟨N', h1, by omega, by omega⟩
/-- two without metas -/
theorem uND_bare {sz : List Int} {bs : List BT} : ∀ (t u : T) (f : Nat) (m : Int) (N : Nat), mts t = [] → mts u = [] → 40001 ≤ f + N → N + 2 * nd t ≤ 40000 →
    (samB t u = true → ∃ N', uND sz f t u m bs N = .ok (false, bs, N') ∧ N ≤ N' ∧ N' ≤ N + 2 * nd t) ∧ (samB t u = false → uND sz f t u m bs N = .error 6) := by
  intro t
  induction t using T.ind with
  | step k h xs ih =>
    rintro ⟨k', h', ys⟩ f m N hn hn' hf hN
    have hnd : nd (.node k h xs) = 1 + ndL xs := by rw [nd]
    have hb : ∀ v : T, mts v = [] → noneB bs (mts v) := fun v e => by rw [e]; intro x hx; cases hx
    obtain ⟨g, rfl⟩ : ∃ g, f = g + 1 := ⟨f - 1, by omega⟩
    rw [uND, rdU_no (hb _ hn) hf (by omega)]
    simp only
    rw [rdU_no (hb _ hn') (by omega) (by omega)]
    simp only
    have hk : k ≠ 6 := fun e => by subst e; rw [mts] at hn; simp at hn
    have hk' : k' ≠ 6 := fun e => by subst e; rw [mts] at hn'; simp at hn'
    rw [if_neg (by omega)]
    have hx : mtsL xs = [] := by rw [mts, if_neg hk] at hn; simpa using hn
    have hy : mtsL ys = [] := by rw [mts, if_neg hk'] at hn'; simpa using hn'
    by_cases hc : k = k' ∧ h = h' ∧ xs.length = ys.length
    · rw [if_pos hc]
      obtain ⟨rfl, rfl, hl⟩ := hc
      have key : ∀ (l l' : List T) (i N : Nat), (∀ x ∈ l, x ∈ xs) → mtsL l = [] → mtsL l' = [] → l.length = l'.length → 40001 ≤ g + N → N + 2 * ndL l ≤ 40000 →
          (samL l l' = true → ∃ N', ndsU (uND sz g) k xs.length m l l' i false bs N = .ok (false, bs, N') ∧ N ≤ N' ∧ N' ≤ N + 2 * ndL l) ∧ (samL l l' = false → ndsU (uND sz g) k xs.length m l l' i false bs N = .error 6) := by
        intro l
        induction l with
        | nil =>
          intro l' i N _ _ _ hl _ _
          have : l' = [] := List.length_eq_zero_iff.1 (by rw [← hl]; rfl)
          subst this
          exact ⟨fun _ => ⟨N, by rw [ndsU]; simp, Nat.le_refl _, by omega⟩, fun h => by simp [samL] at h⟩
        | cons x l il =>
          intro l' i N hs h1 h2 hl hf hN
          cases l' with
          | nil => simp at hl
          | cons y l' =>
            rw [mtsL, List.append_eq_nil_iff] at h1 h2
            rw [ndL] at hN
            obtain ⟨a1, a2⟩ := ih x (hs x (List.mem_cons_self ..)) y g (m + bd k xs.length i) N h1.1 h2.1 hf (by omega)
            rw [samL, ndsU, ndL]
            cases hxy : samB x y with
            | false => exact ⟨fun h => by simp at h, fun _ => by rw [a2 hxy]⟩
            | true =>
              obtain ⟨N1, e1, e2, e3⟩ := a1 hxy
              obtain ⟨b1, b2⟩ := il l' (i + 1) N1 (fun z hz => hs z (List.mem_cons_of_mem _ hz)) h1.2 h2.2 (by simpa using hl) (by omega) (by omega)
              rw [e1]
              refine ⟨fun h => ?_, fun h => b2 (by simpa using h)⟩
              obtain ⟨N2, c1, c2, c3⟩ := b1 (by simpa using h)
              exact ⟨N2, c1, by omega, by omega⟩
      obtain ⟨b1, b2⟩ := key xs ys 0 (N + 1 + 1) (fun x hx => hx) hx hy hl (by omega) (by omega)
      have e : samB (.node k h xs) (.node k h ys) = samL xs ys := by rw [samB]; simp [hl]
      rw [e]
      refine ⟨fun h => ?_, b2⟩
      obtain ⟨N2, c1, c2, c3⟩ := b1 h
      exact ⟨N2, c1, by omega, by omega⟩
    · rw [if_neg hc]
      have e : samB (.node k h xs) (.node k' h' ys) = false := by
        rw [samB, Bool.eq_false_iff]
        intro e
        simp only [Bool.and_eq_true, beq_iff_eq] at e
        exact hc ⟨e.1.1.1, e.1.1.2, e.1.2⟩
      exact ⟨fun h => absurd h (by rw [e]; exact Bool.false_ne_true), fun _ => rfl⟩
/-- where nothing is something nothing is resolved -/
theorem rvL_no {sz : List Int} {bs : List BT} {N : Nat} (h : ∀ i, (bs.getD i noB).1 = false) : ∀ (r i : Nat), rvL sz r i bs N = .ok (bs, N)
  | 0, i => by rw [rvL]
  | r + 1, i => by rw [rvL, if_neg (by rw [h i]; exact Bool.false_ne_true), rvL_no h r (i + 1)]
theorem rep_no (n i : Nat) : ((List.replicate n noB).getD i noB).1 = false := by
  rw [List.getD_eq_getElem?_getD]
  by_cases h : i < n
  · rw [List.getElem?_replicate, if_pos h]; rfl
  · rw [List.getElem?_replicate, if_neg h]; rfl
theorem rep_none (n : Nat) (l : List Int) : noneB (List.replicate n noB) l := fun h _ => by
  rw [thI, rep_no, Bool.and_false]
theorem un_self {a : T} {n : Int} {sz : List Int} (hA : unA a a n sz = true) (hn : nd a ≤ 10000) : unR a a n sz = .ok (List.replicate sz.length noB) := by
  rw [unR, if_pos hA]
  obtain ⟨N', h1, _⟩ := uND_self (sz := sz) (bs := List.replicate sz.length noB) a fu n 0 (rep_none _ _) (by rw [fu_eq]; omega) (by omega)
  rw [h1]
  simp only [Bool.false_eq_true, if_false]
  rw [rvL_no (rep_no _)]
theorem un_bare {a c : T} {n : Int} {sz : List Int} (hA : unA a c n sz = true) (hn : nd a ≤ 20000) (ha : mts a = []) (hc : mts c = []) : unR a c n sz = if samB a c = true then .ok (List.replicate sz.length noB) else .error 6 := by
  rw [unR, if_pos hA]
  obtain ⟨h1, h2⟩ := uND_bare (sz := sz) (bs := List.replicate sz.length noB) a c fu n 0 ha hc (by rw [fu_eq]; omega) (by omega)
  cases hs : samB a c with
  | false => rw [h2 hs]; rfl
  | true =>
    obtain ⟨N', e, _⟩ := h1 hs
    rw [e]
    simp only [Bool.false_eq_true, if_false, if_true]
    rw [rvL_no (rep_no _)]
/-- arguments that may be -/
theorem unA_of {a c : T} {n : Int} {sz : List Int} (h0 : 0 ≤ n) (h1 : n ≤ 100) (h2 : sz.length ≤ 60) (h3 : ∀ (i : Nat) (x : Int), sz[i]? = some x → 0 ≤ x ∧ x ≤ 100) (ha : myB a = true) (hc : myB c = true) : unA a c n sz = true := by
  have hs : (sz.all fun s => decide (0 ≤ s) && decide (s ≤ 1000)) = true := by
    rw [List.all_eq_true]
    intro x hx
    obtain ⟨i, hi⟩ := List.mem_iff_getElem?.1 hx
    have := h3 i x hi
    simp
    omega
  rw [unA, ha, hc, hs, decide_eq_true h0, decide_eq_true (show n ≤ 1000 by omega), decide_eq_true (show sz.length ≤ 200 by omega)]
  rfl
theorem mtO_nilU {t : T} : mtO t = [] ↔ mts t = [] := by
  constructor
  · intro h
    rw [List.eq_nil_iff_forall_not_mem] at h ⊢
    intro m hm
    exact h m (mem_rs.2 hm)
  · intro h
    rw [mtO, h]
    rfl
end Go.Proofs.YtelicajhamgibaaGreat
