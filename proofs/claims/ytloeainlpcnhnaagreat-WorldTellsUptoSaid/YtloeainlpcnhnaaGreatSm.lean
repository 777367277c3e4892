/-
  Terms up and down, as plain functions without wrap-round: what package shift tells of terms that may be.
-/
import Derived.Test.YtloeainlpcnhnaaGreatSu
namespace Go.Proofs.YtloeainlpcnhnaaGreat
open Go.RowKit
set_option linter.unusedVariables false

mutual
def upT (b : Int) : T → Int → T
  | .node k h xs, f => .node k (if k = 4 ∧ f ≤ h then h + b else h) (upL b k xs.length xs 0 f)
def upL (b k : Int) (n : Nat) : List T → Nat → Int → List T
  | [], _, _ => []
  | t :: ts, i, f => upT b t (f + bd k n i) :: upL b k n ts (i + 1) f
end
mutual
def dnT (b : Int) : T → Int → Option T
  | .node k h xs, f => if k = 4 ∧ f ≤ h ∧ h < f + b then none else (dnL b k xs.length xs 0 f).map (.node k (if k = 4 ∧ f ≤ h then h - b else h))
def dnL (b k : Int) (n : Nat) : List T → Nat → Int → Option (List T)
  | [], _, _ => some []
  | t :: ts, i, f => (dnT b t (f + bd k n i)).bind fun u => (dnL b k n ts (i + 1) f).map (u :: ·)
end
mutual
/-- the Heads of variables are from 0 to M -/
def okT (M : Int) : T → Prop
  | .node k h xs => (k = 4 → 0 ≤ h ∧ h ≤ M) ∧ okL M xs
def okL (M : Int) : List T → Prop
  | [] => True
  | t :: ts => okT M t ∧ okL M ts
end

theorem bd_cases (k : Int) (n i : Nat) : bd k n i = 0 ∨ bd k n i = 1 := by
  rw [bd]; split
  · exact .inr rfl
  · exact .inl rfl

theorem upL_len (b k : Int) (n : Nat) : ∀ (xs : List T) (i : Nat) (f : Int), (upL b k n xs i f).length = xs.length
  | [], _, _ => by rw [upL]
  | t :: ts, i, f => by rw [upL, List.length_cons, List.length_cons, upL_len b k n ts]

/-! ### What the program tells -/
mutual
theorem rn_up {M b f : Int} (hM : M ≤ 1125899906842624) (hb : 0 ≤ b ∧ b ≤ 1048576) (hf : 0 ≤ f ∧ f ≤ 1048576) : ∀ (t : T) (s : Int), okT M t → 0 ≤ s → s + nd t ≤ 1099511627776 → rn (upTo b f) t s = some (upT b t (f + s))
  | .node k h xs, s, ho, hs, hn => by
    rw [okT] at ho
    rw [nd] at hn
    have hh : rnH (upTo b f) k h s = some (if k = 4 ∧ f + s ≤ h then h + b else h) := by
      rw [rnH]
      by_cases hk : k = 4
      · have h1 := ho.1 hk
        by_cases h2 : s ≤ h
        · rw [if_pos ⟨hk, h2⟩, wrap_small (by omega) (by omega), upTo]
          by_cases h3 : h - s < f
          · rw [if_pos h3, if_neg (by omega), Option.map_some, wrap_small (by omega) (by omega)]
            congr 1; omega
          · rw [if_neg h3, if_pos ⟨hk, by omega⟩, Option.map_some, wrap_add, wrap_small (by omega) (by omega)]
            congr 1; omega
        · rw [if_neg (by omega), if_neg (by omega)]
      · rw [if_neg (by omega), if_neg (by omega)]
    rw [rn, hh, rnL_up hM hb hf k _ xs 0 s ho.2 hs (by omega), upT]
    rfl
theorem rnL_up {M b f : Int} (hM : M ≤ 1125899906842624) (hb : 0 ≤ b ∧ b ≤ 1048576) (hf : 0 ≤ f ∧ f ≤ 1048576) (k : Int) (n : Nat) : ∀ (xs : List T) (i : Nat) (s : Int), okL M xs → 0 ≤ s → s + 1 + ndL xs ≤ 1099511627776 → rnL (upTo b f) k n xs i s = some (upL b k n xs i (f + s))
  | [], i, s, _, _, _ => by rw [rnL, upL]
  | t :: ts, i, s, ho, hs, hn => by
    rw [okL] at ho
    rw [ndL] at hn
    have hbd := bd_cases k n i
    rw [rnL, wrap_small (by omega) (by omega), rn_up hM hb hf t _ ho.1 (by omega) (by omega), rnL_up hM hb hf k n ts (i + 1) s ho.2 hs (by omega), upL]
    rw [show f + (s + bd k n i) = f + s + bd k n i by omega]
    rfl
end
mutual
theorem rn_dn {M b f : Int} (hM : M ≤ 1125899906842624) (hb : 0 ≤ b ∧ b ≤ 1048576) (hf : 0 ≤ f ∧ f ≤ 1048576) : ∀ (t : T) (s : Int), okT M t → 0 ≤ s → s + nd t ≤ 1099511627776 → rn (dnTo b f) t s = dnT b t (f + s)
  | .node k h xs, s, ho, hs, hn => by
    rw [okT] at ho
    rw [nd] at hn
    have hh : rnH (dnTo b f) k h s = if k = 4 ∧ f + s ≤ h ∧ h < f + s + b then none else some (if k = 4 ∧ f + s ≤ h then h - b else h) := by
      rw [rnH]
      by_cases hk : k = 4
      · have h1 := ho.1 hk
        by_cases h2 : s ≤ h
        · rw [if_pos ⟨hk, h2⟩, wrap_small (by omega) (by omega), dnTo, wrap_small (x := f + b) (by omega) (by omega)]
          by_cases h3 : h - s < f
          · rw [if_pos h3, if_neg (by omega), if_neg (by omega), Option.map_some, wrap_small (by omega) (by omega)]
            congr 1; omega
          · by_cases h4 : h - s < f + b
            · rw [if_neg h3, if_pos h4, if_pos ⟨hk, by omega, by omega⟩]; rfl
            · rw [if_neg h3, if_neg h4, if_neg (by omega), if_pos ⟨hk, by omega⟩, Option.map_some, wrap_add, wrap_small (by omega) (by omega)]
              congr 1; omega
        · rw [if_neg (by omega), if_neg (by omega), if_neg (by omega)]
      · rw [if_neg (by omega), if_neg (by omega), if_neg (by omega)]
    rw [rn, hh, rnL_dn hM hb hf k _ xs 0 s ho.2 hs (by omega), dnT]
    by_cases hc : k = 4 ∧ f + s ≤ h ∧ h < f + s + b
    · rw [if_pos hc, if_pos hc]; rfl
    · rw [if_neg hc, if_neg hc]; rfl
theorem rnL_dn {M b f : Int} (hM : M ≤ 1125899906842624) (hb : 0 ≤ b ∧ b ≤ 1048576) (hf : 0 ≤ f ∧ f ≤ 1048576) (k : Int) (n : Nat) : ∀ (xs : List T) (i : Nat) (s : Int), okL M xs → 0 ≤ s → s + 1 + ndL xs ≤ 1099511627776 → rnL (dnTo b f) k n xs i s = dnL b k n xs i (f + s)
  | [], i, s, _, _, _ => by rw [rnL, dnL]
  | t :: ts, i, s, ho, hs, hn => by
    rw [okL] at ho
    rw [ndL] at hn
    have hbd := bd_cases k n i
    rw [rnL, wrap_small (by omega) (by omega), rn_dn hM hb hf t _ ho.1 (by omega) (by omega), rnL_dn hM hb hf k n ts (i + 1) s ho.2 hs (by omega), dnL]
    rw [show f + (s + bd k n i) = f + s + bd k n i by omega]
end

theorem mvB_iff (b f : Int) : mvB b f = true ↔ (0 ≤ b ∧ b ≤ 1048576) ∧ 0 ≤ f ∧ f ≤ 1048576 := by
  simp only [mvB, Bool.and_eq_true, decide_eq_true_eq]; omega
theorem upX_eq {M : Int} {t : T} {b f : Int} (hM : M ≤ 1125899906842624) (ho : okT M t) (hn : nd t ≤ 1048576) (hm : mayB t = true) (hb : 0 ≤ b ∧ b ≤ 1048576) (hf : 0 ≤ f ∧ f ≤ 1048576) : upX t b f = upT b t f := by
  rw [upX, if_pos (by rw [(mvB_iff b f).2 ⟨hb, hf⟩, hm]; rfl), rn_up hM hb hf t 0 ho (by omega) (by omega), Int.add_zero]
  rfl
theorem dnX_eq {M : Int} {t : T} {b f : Int} (hM : M ≤ 1125899906842624) (ho : okT M t) (hn : nd t ≤ 1048576) (hm : mayB t = true) (hb : 0 ≤ b ∧ b ≤ 1048576) (hf : 0 ≤ f ∧ f ≤ 1048576) : dnX t b f = dnT b t f := by
  rw [dnX, if_pos (by rw [(mvB_iff b f).2 ⟨hb, hf⟩, hm]; rfl), rn_dn hM hb hf t 0 ho (by omega) (by omega), Int.add_zero]

/-! ### What is low and may be has good heads -/
theorem okN_head {k h : Int} {n : Nat} (e : okN k h n = true) (hk : k = 4) : 0 ≤ h := by
  rcases okN_cases e with h | h | h | h | h | h | h <;> omega
mutual
theorem okT_of : ∀ t : T, nodB t = true → lowB t = true → okT 1099511627776 t
  | .node k h xs, h1, h2 => by
    rw [nodB, Bool.and_eq_true] at h1
    rw [lowB, Bool.and_eq_true, decide_eq_true_eq] at h2
    rw [okT]
    exact ⟨fun hk => ⟨okN_head h1.1 hk, h2.1⟩, okL_of xs h1.2 h2.2⟩
theorem okL_of : ∀ xs : List T, nodL xs = true → lowL xs = true → okL 1099511627776 xs
  | [], _, _ => by rw [okL]; trivial
  | t :: ts, h1, h2 => by
    rw [nodL, Bool.and_eq_true] at h1
    rw [lowL, Bool.and_eq_true] at h2
    rw [okL]
    exact ⟨okT_of t h1.1 h2.1, okL_of ts h1.2 h2.2⟩
end
mutual
theorem okT_up {M b : Int} (hb : 0 ≤ b) : ∀ (t : T) (f : Int), okT M t → okT (M + b) (upT b t f)
  | .node k h xs, f, ho => by
    rw [okT] at ho
    rw [upT, okT]
    refine ⟨fun hk => ?_, okL_up hb k _ xs 0 f ho.2⟩
    have := ho.1 hk
    split <;> omega
theorem okL_up {M b : Int} (hb : 0 ≤ b) (k : Int) (n : Nat) : ∀ (xs : List T) (i : Nat) (f : Int), okL M xs → okL (M + b) (upL b k n xs i f)
  | [], _, _, _ => by rw [upL, okL]; trivial
  | t :: ts, i, f, ho => by
    rw [okL] at ho
    rw [upL, okL]
    exact ⟨okT_up hb t _ ho.1, okL_up hb k n ts (i + 1) f ho.2⟩
end

/-! ### Sizes, depths, what may be -/
mutual
theorem nd_up (b : Int) : ∀ (t : T) (f : Int), nd (upT b t f) = nd t
  | .node k h xs, f => by rw [upT, nd, nd, ndL_up b k _ xs 0 f]
theorem ndL_up (b k : Int) (n : Nat) : ∀ (xs : List T) (i : Nat) (f : Int), ndL (upL b k n xs i f) = ndL xs
  | [], _, _ => by rw [upL]
  | t :: ts, i, f => by rw [upL, ndL, ndL, nd_up b t, ndL_up b k n ts]
end
mutual
theorem dp_up (b : Int) : ∀ (t : T) (f : Int), dp (upT b t f) = dp t
  | .node k h xs, f => by rw [upT, dp, dp, dpL_up b k _ xs 0 f]
theorem dpL_up (b k : Int) (n : Nat) : ∀ (xs : List T) (i : Nat) (f : Int), dpL (upL b k n xs i f) = dpL xs
  | [], _, _ => by rw [upL]
  | t :: ts, i, f => by rw [upL, dpL, dpL, dp_up b t, dpL_up b k n ts]
end
theorem okN_up {k h h' : Int} {n : Nat} (e : okN k h n = true) (hh : h' = h ∨ (k = 4 ∧ h ≤ h')) : okN k h' n = true := by
  rcases hh with rfl | ⟨rfl, hl⟩
  · exact e
  · have := okN_head e rfl
    simp [okN]; omega
mutual
theorem nodB_up {b : Int} (hb : 0 ≤ b) : ∀ (t : T) (f : Int), nodB t = true → nodB (upT b t f) = true
  | .node k h xs, f, e => by
    rw [nodB, Bool.and_eq_true] at e
    rw [upT, nodB, Bool.and_eq_true, upL_len]
    refine ⟨okN_up e.1 ?_, nodL_up hb k _ xs 0 f e.2⟩
    split
    · rename_i hc; exact .inr ⟨hc.1, by omega⟩
    · exact .inl rfl
theorem nodL_up {b : Int} (hb : 0 ≤ b) (k : Int) (n : Nat) : ∀ (xs : List T) (i : Nat) (f : Int), nodL xs = true → nodL (upL b k n xs i f) = true
  | [], _, _, _ => by rw [upL, nodL]
  | t :: ts, i, f, e => by
    rw [nodL, Bool.and_eq_true] at e
    rw [upL, nodL, Bool.and_eq_true]
    exact ⟨nodB_up hb t _ e.1, nodL_up hb k n ts (i + 1) f e.2⟩
end
theorem mayB_iff {t : T} (h : nd t ≤ 1048576) : mayB t = true ↔ nodB t = true ∧ nd t ≤ 4000 ∧ dp t ≤ 60 := by
  rw [mayB, szW_small h, dpW_eq t h]
  simp only [Bool.and_eq_true, decide_eq_true_eq]
  exact ⟨fun ⟨⟨h1, h2⟩, h3⟩ => ⟨h1, by omega, by omega⟩, fun ⟨h1, h2, h3⟩ => ⟨⟨h1, by omega⟩, by omega⟩⟩
theorem mayB_up {b f : Int} (hb : 0 ≤ b) {t : T} (h : nd t ≤ 1048576) (hm : mayB t = true) : mayB (upT b t f) = true := by
  obtain ⟨h1, h2, h3⟩ := (mayB_iff h).1 hm
  exact (mayB_iff (by rw [nd_up]; exact h)).2 ⟨nodB_up hb t f h1, by rw [nd_up]; exact h2, by rw [dp_up]; exact h3⟩
theorem szW_up (b f : Int) (t : T) : szW (upT b t f) = szW t := by rw [szW_eq, szW_eq, nd_up]
/-- what package term's May lets in has few nodes -/
theorem nd_of_may {t : T} (h : mayK (flat t 1 0) = true) : nd t ≤ 4000 := by
  rw [mayK, Bool.and_eq_true, decide_eq_true_eq, flat_len] at h
  exact h.1

/-! ### Up and down again -/
mutual
theorem dn_up {b : Int} (hb : 0 ≤ b) : ∀ (t : T) (f : Int), dnT b (upT b t f) f = some t
  | .node k h xs, f => by
    rw [upT, dnT, upL_len, dnL_up hb k _ xs 0 f]
    by_cases hc : k = 4 ∧ f ≤ h
    · rw [if_pos hc, if_neg (by omega), if_pos ⟨hc.1, by omega⟩, Option.map_some, show h + b - b = h by omega]
    · rw [if_neg hc, if_neg (by omega), if_neg hc, Option.map_some]
theorem dnL_up {b : Int} (hb : 0 ≤ b) (k : Int) (n : Nat) : ∀ (xs : List T) (i : Nat) (f : Int), dnL b k n (upL b k n xs i f) i f = some xs
  | [], _, _ => by rw [upL, dnL]
  | t :: ts, i, f => by rw [upL, dnL, dn_up hb t, dnL_up hb k n ts (i + 1) f]; rfl
end
mutual
theorem up_up {a b : Int} (ha : 0 ≤ a) : ∀ (t : T) (f : Int), upT b (upT a t f) f = upT (a + b) t f
  | .node k h xs, f => by
    rw [upT, upT, upT, upL_len, upL_upL ha k _ xs 0 f]
    congr 1
    by_cases hc : k = 4 ∧ f ≤ h
    · rw [if_pos hc, if_pos ⟨hc.1, by omega⟩]; omega
    · rw [if_neg hc, if_neg hc, if_neg hc]
theorem upL_upL {a b : Int} (ha : 0 ≤ a) (k : Int) (n : Nat) : ∀ (xs : List T) (i : Nat) (f : Int), upL b k n (upL a k n xs i f) i f = upL (a + b) k n xs i f
  | [], _, _ => by rw [upL, upL, upL]
  | t :: ts, i, f => by rw [upL, upL, upL, up_up ha t, upL_upL ha k n ts]
end
mutual
theorem up_zero : ∀ (t : T) (f : Int), upT 0 t f = t
  | .node k h xs, f => by
    rw [upT, upL_zero k _ xs 0 f, Int.add_zero]
    split <;> rfl
theorem upL_zero (k : Int) (n : Nat) : ∀ (xs : List T) (i : Nat) (f : Int), upL 0 k n xs i f = xs
  | [], _, _ => by rw [upL]
  | t :: ts, i, f => by rw [upL, up_zero t, upL_zero k n ts]
end

/-! ### Scopes -/
mutual
def scC : T → Int → Int → Prop
  | .node k h xs, vars, metas => (k = 4 → h < vars) ∧ (k = 6 → h < metas) ∧ scCL k xs.length xs 0 vars metas
def scCL (k : Int) (n : Nat) : List T → Nat → Int → Int → Prop
  | [], _, _, _ => True
  | t :: ts, i, vars, metas => scC t (vars + bd k n i) metas ∧ scCL k n ts (i + 1) vars metas
end
mutual
theorem scB_iff (metas : Int) : ∀ (t : T) (vars : Int), -1099511627776 ≤ vars → vars + nd t ≤ 1099511627776 → (scB t vars metas = true ↔ scC t vars metas)
  | .node k h xs, vars, h1, h2 => by
    rw [nd] at h2
    rw [scB, scC, Bool.and_eq_true, scL_iff metas k _ xs 0 vars h1 (by omega), ← and_assoc]
    refine and_congr_left fun _ => ?_
    simp only [Bool.not_eq_true', Bool.or_eq_false_iff, Bool.and_eq_false_iff, beq_eq_false_iff_ne, decide_eq_false_iff_not, Int.not_le]
    constructor
    · rintro ⟨a, b⟩; exact ⟨fun e => a.resolve_left fun n => n e, fun e => b.resolve_left fun n => n e⟩
    · rintro ⟨a, b⟩; exact ⟨Classical.or_iff_not_imp_left.2 fun n => a (Classical.not_not.1 n), Classical.or_iff_not_imp_left.2 fun n => b (Classical.not_not.1 n)⟩
theorem scL_iff (metas k : Int) (n : Nat) : ∀ (xs : List T) (i : Nat) (vars : Int), -1099511627776 ≤ vars → vars + 1 + ndL xs ≤ 1099511627776 → (scL k n xs i vars metas = true ↔ scCL k n xs i vars metas)
  | [], _, _, _, _ => by rw [scL, scCL]; simp
  | t :: ts, i, vars, h1, h2 => by
    rw [ndL] at h2
    have hbd := bd_cases k n i
    rw [scL, scCL, Bool.and_eq_true, wrap_small (by omega) (by omega), scB_iff metas t _ (by omega) (by omega), scL_iff metas k n ts (i + 1) vars h1 (by omega)]
end
mutual
theorem sc_up {b metas : Int} (hb : 0 ≤ b) : ∀ (t : T) (f vars : Int), f ≤ vars → scC t vars metas → scC (upT b t f) (vars + b) metas
  | .node k h xs, f, vars, hf, hs => by
    rw [scC] at hs
    rw [upT, scC, upL_len]
    refine ⟨fun hk => ?_, fun hk => ?_, scL_up hb k _ xs 0 f vars hf hs.2.2⟩
    · have := hs.1 hk
      split <;> omega
    · have := hs.2.1 hk
      rw [if_neg (by omega)]; exact this
theorem scL_up {b metas : Int} (hb : 0 ≤ b) (k : Int) (n : Nat) : ∀ (xs : List T) (i : Nat) (f vars : Int), f ≤ vars → scCL k n xs i vars metas → scCL k n (upL b k n xs i f) i (vars + b) metas
  | [], _, _, _, _, _ => by rw [upL, scCL]; trivial
  | t :: ts, i, f, vars, hf, hs => by
    rw [scCL] at hs
    rw [upL, scCL, show vars + b + bd k n i = vars + bd k n i + b by omega]
    exact ⟨sc_up hb t _ _ (by omega) hs.1, scL_up hb k n ts (i + 1) f vars hf hs.2⟩
end
theorem dnL_len (b k : Int) (n : Nat) : ∀ (xs : List T) (i : Nat) (f : Int) (ys : List T), dnL b k n xs i f = some ys → ys.length = xs.length
  | [], _, _, ys, h => by rw [dnL] at h; cases h; rfl
  | t :: ts, i, f, ys, h => by
    rw [dnL, Option.bind_eq_some_iff] at h
    obtain ⟨u, _, h⟩ := h
    rw [Option.map_eq_some_iff] at h
    obtain ⟨zs, hz, rfl⟩ := h
    rw [List.length_cons, List.length_cons, dnL_len b k n ts (i + 1) f zs hz]
mutual
theorem sc_dn {b metas : Int} (hb : 0 ≤ b) : ∀ (t : T) (f vars less : Int) (u : T), f ≤ less → vars - b ≤ less → dnT b t f = some u → scC t vars metas → scC u less metas
  | .node k h xs, f, vars, less, u, hf, hl, hd, hs => by
    rw [scC] at hs
    rw [dnT] at hd
    by_cases hc : k = 4 ∧ f ≤ h ∧ h < f + b
    · rw [if_pos hc] at hd; cases hd
    · rw [if_neg hc, Option.map_eq_some_iff] at hd
      obtain ⟨ys, hy, rfl⟩ := hd
      rw [scC, dnL_len b k _ xs 0 f ys hy]
      refine ⟨fun hk => ?_, fun hk => ?_, scL_dn hb k _ xs 0 f vars less ys hf hl hy hs.2.2⟩
      · have := hs.1 hk
        split <;> omega
      · have := hs.2.1 hk
        rw [if_neg (by omega)]; exact this
theorem scL_dn {b metas : Int} (hb : 0 ≤ b) (k : Int) (n : Nat) : ∀ (xs : List T) (i : Nat) (f vars less : Int) (ys : List T), f ≤ less → vars - b ≤ less → dnL b k n xs i f = some ys → scCL k n xs i vars metas → scCL k n ys i less metas
  | [], _, _, _, _, ys, _, _, hd, _ => by rw [dnL] at hd; cases hd; rw [scCL]; trivial
  | t :: ts, i, f, vars, less, ys, hf, hl, hd, hs => by
    rw [scCL] at hs
    rw [dnL, Option.bind_eq_some_iff] at hd
    obtain ⟨u, hu, hd⟩ := hd
    rw [Option.map_eq_some_iff] at hd
    obtain ⟨zs, hz, rfl⟩ := hd
    rw [scCL]
    exact ⟨sc_dn hb t _ _ _ u (by omega) (by omega) hu hs.1, scL_dn hb k n ts (i + 1) f vars less zs hf hl hz hs.2⟩
end

/-! ### From where nothing is free -/
mutual
theorem up_far {b metas : Int} : ∀ (t : T) (vars : Int), scC t vars metas → upT b t vars = t
  | .node k h xs, vars, hs => by
    rw [scC] at hs
    rw [upT, upL_far k _ xs 0 vars hs.2.2, if_neg (fun hc => by have := hs.1 hc.1; omega)]
theorem upL_far {b metas : Int} (k : Int) (n : Nat) : ∀ (xs : List T) (i : Nat) (vars : Int), scCL k n xs i vars metas → upL b k n xs i vars = xs
  | [], _, _, _ => by rw [upL]
  | t :: ts, i, vars, hs => by
    rw [scCL] at hs
    rw [upL, up_far t _ hs.1, upL_far k n ts (i + 1) vars hs.2]
end
mutual
theorem dn_far {b metas : Int} : ∀ (t : T) (vars : Int), scC t vars metas → dnT b t vars = some t
  | .node k h xs, vars, hs => by
    rw [scC] at hs
    rw [dnT, dnL_far k _ xs 0 vars hs.2.2, if_neg (fun hc => by have := hs.1 hc.1; omega), if_neg (fun hc => by have := hs.1 hc.1; omega)]
    rfl
theorem dnL_far {b metas : Int} (k : Int) (n : Nat) : ∀ (xs : List T) (i : Nat) (vars : Int), scCL k n xs i vars metas → dnL b k n xs i vars = some xs
  | [], _, _, _ => by rw [dnL]
  | t :: ts, i, vars, hs => by
    rw [scCL] at hs
    rw [dnL, dn_far t _ hs.1, dnL_far k n ts (i + 1) vars hs.2]
    rfl
end
end Go.Proofs.YtloeainlpcnhnaaGreat
