/-
  What a meta must be, as a plain function, and what holds of it. No statement is proved here.
-/
import Derived.Test.YtdllbljjlaipoaaSm
namespace Go.Proofs.Ytdllbljjlaipoaa
open Go.RowKit
set_option linter.unusedVariables false

/-- how many stand behind a number in a list -/
def pls (x : Int) : List Int → Option Int
  | [] => none
  | y :: ys => if y = x then some (ys.length : Int) else pls x ys
theorem pls_lt {x : Int} : ∀ {l : List Int} {p : Int}, pls x l = some p → 0 ≤ p ∧ p < l.length
  | y :: ys, p, h => by
    rw [pls] at h
    rw [List.length_cons]
    split at h
    · cases h; omega
    · have := pls_lt h
      omega
theorem pls_none {x : Int} : ∀ {l : List Int}, pls x l = none ↔ x ∉ l
  | [] => by simp [pls]
  | y :: ys => by
    rw [pls]
    split
    · rename_i h; simp [h]
    · rename_i h
      rw [pls_none, List.mem_cons, not_or]
      exact ⟨fun e => ⟨fun e2 => h e2.symm, e⟩, fun e => e.2⟩
theorem pls_snoc {x v : Int} : ∀ {l : List Int}, v ∉ l → pls x (l ++ [v]) = if v = x then some 0 else (pls x l).map (· + 1)
  | [], h => by rw [List.nil_append, pls, pls]; split <;> rfl
  | y :: ys, h => by
    rw [List.mem_cons, not_or] at h
    rw [List.cons_append, pls, pls, pls_snoc h.2]
    by_cases h1 : y = x
    · rw [if_pos h1, if_pos h1, if_neg (fun e => h.1 (e.trans h1.symm))]
      simp
    · rw [if_neg h1, if_neg h1]
theorem pls_at {x : Int} : ∀ {l : List Int} {p : Int}, pls x l = some p → l[l.length - 1 - p.toNat]? = some x
  | y :: ys, p, h => by
    have hlt := pls_lt h
    rw [pls] at h
    split at h
    · rename_i e
      cases h
      rw [show (y :: ys).length - 1 - ((ys.length : Int)).toNat = 0 by simp]
      simp [e]
    · have h1 := pls_lt h
      have := pls_at h
      rw [List.length_cons, show ys.length + 1 - 1 - p.toNat = (ys.length - 1 - p.toNat) + 1 by omega, List.getElem?_cons_succ]
      exact this
theorem at_pls {x : Int} : ∀ {l : List Int} (j : Nat), l.Nodup → l[j]? = some x → pls x l = some ((l.length : Int) - 1 - j)
  | y :: ys, 0, hn, h => by
    simp only [List.getElem?_cons_zero, Option.some.injEq] at h
    rw [pls, if_pos h, List.length_cons]
    congr 1; omega
  | y :: ys, j + 1, hn, h => by
    rw [List.getElem?_cons_succ] at h
    rw [List.nodup_cons] at hn
    rw [pls, if_neg (fun e => hn.1 (by rw [e]; exact List.mem_of_getElem? h)), at_pls j hn.2 h, List.length_cons]
    congr 1; omega

/-- are these all from 0 to below n, each another one? -/
def vB (n : Int) : List Int → List Int → Bool
  | _, [] => true
  | seen, v :: vs => (decide (0 ≤ v) && decide (v < n) && !seen.contains v) && vB n (seen ++ [v]) vs
theorem vB_iff (n : Int) : ∀ (vs seen : List Int), seen.Nodup → (vB n seen vs = true ↔ (∀ v ∈ vs, 0 ≤ v ∧ v < n) ∧ (seen ++ vs).Nodup)
  | [], seen, h => by simp [vB, h]
  | v :: vs, seen, h => by
    rw [vB, Bool.and_eq_true, Bool.and_eq_true, Bool.and_eq_true, decide_eq_true_eq, decide_eq_true_eq]
    by_cases hm : v ∈ seen
    · constructor
      · rintro ⟨⟨_, h2⟩, _⟩; simp [hm] at h2
      · rintro ⟨_, h2⟩
        exact absurd rfl ((List.nodup_append.1 h2).2.2 v hm v (List.mem_cons_self ..))
    · have hs : (seen ++ [v]).Nodup := by
        rw [List.nodup_append]
        exact ⟨h, by simp, fun a ha b hb e => hm (by rw [List.mem_singleton.1 hb] at e; exact e ▸ ha)⟩
      rw [vB_iff n vs (seen ++ [v]) hs, List.append_assoc, List.singleton_append]
      constructor
      · rintro ⟨⟨⟨h0, h1⟩, _⟩, h2, h3⟩
        refine ⟨fun x hx => ?_, h3⟩
        rcases List.mem_cons.1 hx with rfl | hx
        · exact ⟨h0, h1⟩
        · exact h2 x hx
      · rintro ⟨h1, h2⟩
        have := h1 v (List.mem_cons_self ..)
        exact ⟨⟨this, by simp [hm]⟩, fun x hx => h1 x (List.mem_cons_of_mem _ hx), h2⟩
theorem vB_top {n : Int} {vs : List Int} : vB n [] vs = true ↔ (∀ v ∈ vs, 0 ≤ v ∧ v < n) ∧ vs.Nodup := by
  rw [vB_iff n vs [] List.nodup_nil, List.nil_append]

/-- what a free variable becomes -/
def igo (vs : List Int) (n x : Int) : Option Int := if n ≤ x then some (x - n + vs.length) else pls x vs
/-- it, with wrap-round -/
def igW (vs : List Int) (n x : Int) : Option Int := if n ≤ x then some (wrap64 (wrap64 (x - n) + vs.length)) else pls x vs
theorem igo_bd {vs : List Int} {n x y M : Int} (hM : 0 ≤ M) (hx : x ≤ M) (hn : 0 ≤ n) (h : igo vs n x = some y) : 0 ≤ y ∧ y ≤ M + vs.length := by
  unfold igo at h
  split at h
  · cases h; omega
  · have := pls_lt h; omega
theorem igW_eq {vs : List Int} {n x : Int} (h0 : 0 ≤ x) (hx : x ≤ 1125899906842624) (hn : 0 ≤ n ∧ n ≤ 1000) (hl : (vs.length : Int) ≤ 1099511627776) : igW vs n x = igo vs n x := by
  unfold igW igo
  split
  · rw [wrap_small (x := x - n) (by omega) (by omega), wrap_small (by omega) (by omega)]
  · rfl

mutual
/-- a term whose free variables have become others -/
def ivT (g : Int → Option Int) : T → Int → Option T
  | .node k h xs, s => (if k = 4 ∧ s ≤ h then (g (h - s)).map (fun y => y + s) else some h).bind fun h' => (ivL g k xs.length xs 0 s).map (.node k h')
def ivL (g : Int → Option Int) (k : Int) (n : Nat) : List T → Nat → Int → Option (List T)
  | [], _, _ => some []
  | t :: ts, i, s => (ivT g t (s + bd k n i)).bind fun u => (ivL g k n ts (i + 1) s).map (u :: ·)
end
mutual
theorem rn_iv {tf g : Int → Option Int} {M : Int} (hM : M ≤ 1125899906842624) (hg : ∀ x, 0 ≤ x → x ≤ M → tf x = g x ∧ ∀ y, g x = some y → 0 ≤ y ∧ y ≤ 2251799813685248) : ∀ (t : T) (s : Int), okT M t → 0 ≤ s → s + nd t ≤ 1099511627776 → rn tf t s = ivT g t s
  | .node k h xs, s, ho, hs, hn => by
    rw [okT] at ho
    rw [nd] at hn
    have hh : rnH tf k h s = (if k = 4 ∧ s ≤ h then (g (h - s)).map (fun y => y + s) else some h) := by
      rw [rnH]
      by_cases hc : k = 4 ∧ s ≤ h
      · have h1 := ho.1 hc.1
        obtain ⟨e1, e2⟩ := hg (h - s) (by omega) (by omega)
        rw [if_pos hc, if_pos hc, wrap_small (by omega) (by omega), e1]
        cases hy : g (h - s) with
        | none => rfl
        | some y =>
          have := e2 y hy
          rw [Option.map_some, Option.map_some, wrap_small (by omega) (by omega)]
      · rw [if_neg hc, if_neg hc]
    rw [rn, hh, rnL_iv hM hg k _ xs 0 s ho.2 hs (by omega), ivT]
theorem rnL_iv {tf g : Int → Option Int} {M : Int} (hM : M ≤ 1125899906842624) (hg : ∀ x, 0 ≤ x → x ≤ M → tf x = g x ∧ ∀ y, g x = some y → 0 ≤ y ∧ y ≤ 2251799813685248) (k : Int) (n : Nat) : ∀ (xs : List T) (i : Nat) (s : Int), okL M xs → 0 ≤ s → s + 1 + ndL xs ≤ 1099511627776 → rnL tf k n xs i s = ivL g k n xs i s
  | [], i, s, _, _, _ => by rw [rnL, ivL]
  | t :: ts, i, s, ho, hs, hn => by
    rw [okL] at ho
    rw [ndL] at hn
    have hbd := bd_cases k n i
    rw [rnL, wrap_small (by omega) (by omega), rn_iv hM hg t _ ho.1 (by omega) (by omega), rnL_iv hM hg k n ts (i + 1) s ho.2 hs (by omega), ivL]
end
theorem ivL_len (g : Int → Option Int) (k : Int) (n : Nat) : ∀ (xs : List T) (i : Nat) (s : Int) (ys : List T), ivL g k n xs i s = some ys → ys.length = xs.length
  | [], _, _, ys, h => by rw [ivL] at h; cases h; rfl
  | t :: ts, i, s, ys, h => by
    rw [ivL, Option.bind_eq_some_iff] at h
    obtain ⟨u, _, h⟩ := h
    rw [Option.map_eq_some_iff] at h
    obtain ⟨zs, hz, rfl⟩ := h
    rw [List.length_cons, List.length_cons, ivL_len g k n ts (i + 1) s zs hz]
/-- a node, taken apart -/
theorem iv_node {g : Int → Option Int} {k h s : Int} {xs : List T} {u : T} (e : ivT g (.node k h xs) s = some u) : ∃ h' ys, u = .node k h' ys ∧ ivL g k xs.length xs 0 s = some ys ∧ ys.length = xs.length ∧ ((k = 4 ∧ s ≤ h ∧ ∃ y, g (h - s) = some y ∧ h' = y + s) ∨ (¬ (k = 4 ∧ s ≤ h) ∧ h' = h)) := by
  rw [ivT, Option.bind_eq_some_iff] at e
  obtain ⟨h', e1, e2⟩ := e
  rw [Option.map_eq_some_iff] at e2
  obtain ⟨ys, e2, rfl⟩ := e2
  refine ⟨h', ys, rfl, e2, ivL_len _ _ _ _ _ _ _ e2, ?_⟩
  by_cases hc : k = 4 ∧ s ≤ h
  · rw [if_pos hc, Option.map_eq_some_iff] at e1
    obtain ⟨y, e3, rfl⟩ := e1
    exact .inl ⟨hc.1, hc.2, y, e3, rfl⟩
  · rw [if_neg hc] at e1
    cases e1
    exact .inr ⟨hc, rfl⟩
theorem iv_cons {g : Int → Option Int} {k s : Int} {n i : Nat} {t : T} {ts us : List T} (e : ivL g k n (t :: ts) i s = some us) : ∃ u vs, us = u :: vs ∧ ivT g t (s + bd k n i) = some u ∧ ivL g k n ts (i + 1) s = some vs := by
  rw [ivL, Option.bind_eq_some_iff] at e
  obtain ⟨u, e1, e2⟩ := e
  rw [Option.map_eq_some_iff] at e2
  obtain ⟨vs, e2, rfl⟩ := e2
  exact ⟨u, vs, rfl, e1, e2⟩
mutual
theorem nd_iv {g : Int → Option Int} : ∀ (t : T) (s : Int) (u : T), ivT g t s = some u → nd u = nd t ∧ dp u = dp t
  | .node k h xs, s, u, e => by
    obtain ⟨h', ys, rfl, e2, _, _⟩ := iv_node e
    have := ndL_iv k xs.length xs 0 s ys e2
    rw [nd, nd, dp, dp, this.1, this.2]
    exact ⟨rfl, rfl⟩
theorem ndL_iv {g : Int → Option Int} (k : Int) (n : Nat) : ∀ (xs : List T) (i : Nat) (s : Int) (ys : List T), ivL g k n xs i s = some ys → ndL ys = ndL xs ∧ dpL ys = dpL xs
  | [], _, _, ys, e => by rw [ivL] at e; cases e; exact ⟨rfl, rfl⟩
  | t :: ts, i, s, ys, e => by
    obtain ⟨u, vs, rfl, e1, e2⟩ := iv_cons e
    have h1 := nd_iv t _ u e1
    have h2 := ndL_iv k n ts (i + 1) s vs e2
    rw [ndL, ndL, dpL, dpL, h1.1, h1.2, h2.1, h2.2]
    exact ⟨rfl, rfl⟩
end
mutual
theorem ok_iv {g : Int → Option Int} {M B : Int} (hg : ∀ x, 0 ≤ x → x ≤ M → ∀ y, g x = some y → 0 ≤ y ∧ y ≤ x + B) (hB : 0 ≤ B) : ∀ (t : T) (s : Int) (u : T), 0 ≤ s → okT M t → ivT g t s = some u → okT (M + B) u
  | .node k h xs, s, u, hs, ho, e => by
    rw [okT] at ho
    obtain ⟨h', ys, rfl, e2, _, e3⟩ := iv_node e
    rw [okT]
    refine ⟨fun hk => ?_, okL_iv hg hB k xs.length xs 0 s ys hs ho.2 e2⟩
    have h1 := ho.1 hk
    rcases e3 with ⟨_, hle, y, hy, rfl⟩ | ⟨_, rfl⟩
    · have := hg (h - s) (by omega) (by omega) y hy
      omega
    · omega
theorem okL_iv {g : Int → Option Int} {M B : Int} (hg : ∀ x, 0 ≤ x → x ≤ M → ∀ y, g x = some y → 0 ≤ y ∧ y ≤ x + B) (hB : 0 ≤ B) (k : Int) (n : Nat) : ∀ (xs : List T) (i : Nat) (s : Int) (ys : List T), 0 ≤ s → okL M xs → ivL g k n xs i s = some ys → okL (M + B) ys
  | [], _, _, ys, _, _, e => by rw [ivL] at e; cases e; rw [okL]; trivial
  | t :: ts, i, s, ys, hs, ho, e => by
    rw [okL] at ho
    obtain ⟨u, vs, rfl, e1, e2⟩ := iv_cons e
    have hbd := bd_cases k n i
    rw [okL]
    exact ⟨ok_iv hg hB t _ u (by omega) ho.1 e1, okL_iv hg hB k n ts (i + 1) s vs hs ho.2 e2⟩
end
mutual
theorem nodB_iv {g : Int → Option Int} {M : Int} (hg : ∀ x, 0 ≤ x → x ≤ M → ∀ y, g x = some y → 0 ≤ y) : ∀ (t : T) (s : Int) (u : T), 0 ≤ s → okT M t → nodB t = true → ivT g t s = some u → nodB u = true
  | .node k h xs, s, u, hs, ho, hn, e => by
    rw [okT] at ho
    rw [nodB, Bool.and_eq_true] at hn
    obtain ⟨h', ys, rfl, e2, hl, e3⟩ := iv_node e
    rw [nodB, Bool.and_eq_true, hl]
    refine ⟨?_, nodL_iv hg k xs.length xs 0 s ys hs ho.2 hn.2 e2⟩
    rcases e3 with ⟨rfl, hle, y, hy, rfl⟩ | ⟨_, rfl⟩
    · have h1 := ho.1 rfl
      have h2 := hg (h - s) (by omega) (by omega) y hy
      simp [okN]; omega
    · exact hn.1
theorem nodL_iv {g : Int → Option Int} {M : Int} (hg : ∀ x, 0 ≤ x → x ≤ M → ∀ y, g x = some y → 0 ≤ y) (k : Int) (n : Nat) : ∀ (xs : List T) (i : Nat) (s : Int) (ys : List T), 0 ≤ s → okL M xs → nodL xs = true → ivL g k n xs i s = some ys → nodL ys = true
  | [], _, _, ys, _, _, _, e => by rw [ivL] at e; cases e; rw [nodL]
  | t :: ts, i, s, ys, hs, ho, hn, e => by
    rw [okL] at ho
    rw [nodL, Bool.and_eq_true] at hn
    obtain ⟨u, vs, rfl, e1, e2⟩ := iv_cons e
    have hbd := bd_cases k n i
    rw [nodL, nodB_iv hg t _ u (by omega) ho.1 hn.1 e1, nodL_iv hg k n ts (i + 1) s vs hs ho.2 hn.2 e2]
    rfl
end
mutual
/-- back again -/
theorem iv_iv {f g : Int → Option Int} {M : Int} (hg : ∀ x, 0 ≤ x → x ≤ M → ∀ y, g x = some y → 0 ≤ y ∧ f y = some x) : ∀ (t : T) (s : Int) (u : T), 0 ≤ s → okT M t → ivT g t s = some u → ivT f u s = some t
  | .node k h xs, s, u, hs, ho, e => by
    rw [okT] at ho
    obtain ⟨h', ys, rfl, e2, hl, e3⟩ := iv_node e
    rw [ivT, hl, ivL_iv hg k xs.length xs 0 s ys hs ho.2 e2]
    rcases e3 with ⟨rfl, hle, y, hy, rfl⟩ | ⟨hc, rfl⟩
    · have h1 := ho.1 rfl
      obtain ⟨h2, h3⟩ := hg (h - s) (by omega) (by omega) y hy
      rw [if_pos ⟨rfl, by omega⟩, show y + s - s = y by omega, h3, Option.map_some, Option.bind_some, Option.map_some, show h - s + s = h by omega]
    · rw [if_neg hc, Option.bind_some, Option.map_some]
theorem ivL_iv {f g : Int → Option Int} {M : Int} (hg : ∀ x, 0 ≤ x → x ≤ M → ∀ y, g x = some y → 0 ≤ y ∧ f y = some x) (k : Int) (n : Nat) : ∀ (xs : List T) (i : Nat) (s : Int) (ys : List T), 0 ≤ s → okL M xs → ivL g k n xs i s = some ys → ivL f k n ys i s = some xs
  | [], _, _, ys, _, _, e => by rw [ivL] at e; cases e; rw [ivL]
  | t :: ts, i, s, ys, hs, ho, e => by
    rw [okL] at ho
    obtain ⟨u, vs, rfl, e1, e2⟩ := iv_cons e
    have hbd := bd_cases k n i
    rw [ivL, iv_iv hg t _ u (by omega) ho.1 e1, ivL_iv hg k n ts (i + 1) s vs hs ho.2 e2]
    rfl
end
mutual
/-- what changes nothing -/
theorem iv_id {g : Int → Option Int} {M : Int} (hg : ∀ x, 0 ≤ x → x ≤ M → g x = some x) : ∀ (t : T) (s : Int), 0 ≤ s → okT M t → ivT g t s = some t
  | .node k h xs, s, hs, ho => by
    rw [okT] at ho
    rw [ivT, ivL_id hg k xs.length xs 0 s hs ho.2]
    by_cases hc : k = 4 ∧ s ≤ h
    · have h1 := ho.1 hc.1
      rw [if_pos hc, hg (h - s) (by omega) (by omega), Option.map_some, Option.bind_some, Option.map_some, show h - s + s = h by omega]
    · rw [if_neg hc, Option.bind_some, Option.map_some]
theorem ivL_id {g : Int → Option Int} {M : Int} (hg : ∀ x, 0 ≤ x → x ≤ M → g x = some x) (k : Int) (n : Nat) : ∀ (xs : List T) (i : Nat) (s : Int), 0 ≤ s → okL M xs → ivL g k n xs i s = some xs
  | [], _, _, _, _ => by rw [ivL]
  | t :: ts, i, s, hs, ho => by
    rw [okL] at ho
    have hbd := bd_cases k n i
    rw [ivL, iv_id hg t _ (by omega) ho.1, ivL_id hg k n ts (i + 1) s hs ho.2]
    rfl
end
mutual
/-- under no variables -/
theorem iv_dn (n : Int) : ∀ (t : T) (s : Int), ivT (igo [] n) t s = dnT n t s
  | .node k h xs, s => by
    rw [ivT, dnT, ivL_dn n k xs.length xs 0 s]
    by_cases hc : k = 4 ∧ s ≤ h
    · rw [if_pos hc, igo]
      by_cases hd : n ≤ h - s
      · rw [if_pos hd, if_neg (by omega), if_pos hc, Option.map_some, Option.bind_some, List.length_nil, show h - s - n + ((0 : Nat) : Int) + s = h - n by omega]
      · rw [if_neg hd, if_pos ⟨hc.1, hc.2, by omega⟩, pls]
        rfl
    · rw [if_neg hc, if_neg (fun e => hc ⟨e.1, e.2.1⟩), if_neg hc, Option.bind_some]
theorem ivL_dn (n k : Int) (m : Nat) : ∀ (xs : List T) (i : Nat) (s : Int), ivL (igo [] n) k m xs i s = dnL n k m xs i s
  | [], _, _ => by rw [ivL, dnL]
  | t :: ts, i, s => by rw [ivL, dnL, iv_dn n t, ivL_dn n k m ts]
end

/-- what is told of a term that is nothing -/
def ivO : Option T → Except Int T
  | some u => .ok u
  | none => .error 7
/-- what Invert tells: a term, or an error -/
def ivR (t : T) (vs : List Int) (n : Int) : Except Int T :=
  if (decide (0 ≤ n) && decide (n ≤ 1000) && mayB t && vB n [] vs) = true then ivO (rn (igW vs n) t 0) else .error 1
def ivA : Except Int T → T
  | .ok u => u
  | .error _ => .node 0 0 []
def ivE : Except Int T → Int
  | .ok _ => 0
  | .error e => e
end Go.Proofs.Ytdllbljjlaipoaa
