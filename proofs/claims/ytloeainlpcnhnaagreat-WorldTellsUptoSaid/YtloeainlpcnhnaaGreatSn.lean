/-
  What the laws of layer 2 need of terms up and down, as plain facts.
-/
import Derived.Test.YtloeainlpcnhnaaGreatSm
namespace Go.Proofs.YtloeainlpcnhnaaGreat
open Go.RowKit
set_option linter.unusedVariables false

theorem low_of {t : T} {s d : Int} (e : ltB t s d = true) : lowB t = true := by
  rw [ltB, Bool.and_eq_true, Bool.and_eq_true] at e
  exact e.1.1
/-- what is known of a term that package term's May lets in -/
theorem may_small {t : T} (h : mayK (flat t 1 0) = true) : nd t ≤ 1048576 ∧ mayB t = true := by
  have := nd_of_may h
  have hn : nd t ≤ 1048576 := by omega
  exact ⟨hn, by rw [← may_eq hn]; exact h⟩
theorem okT_small {t : T} {s d : Int} (e : ltB t s d = true) (h : mayK (flat t 1 0) = true) : okT 1099511627776 t := by
  obtain ⟨hn, hm⟩ := may_small h
  exact okT_of t ((mayB_iff hn).1 hm).1 (low_of e)

/-- what Up tells of a term that is scoped from there -/
theorem upX_far {t : T} {b f m : Int} (ho : okT 1099511627776 t) (hn : nd t ≤ 1048576) (hm : mayB t = true) (hb : 0 ≤ b ∧ b ≤ 1000) (hf : 0 ≤ f ∧ f ≤ 1000) (hs : scB t f m = true) : upX t b f = t := by
  rw [upX_eq (by omega) ho hn hm (by omega) (by omega)]
  exact up_far t f ((scB_iff m t f (by omega) (by omega)).1 hs)
theorem dnX_far {t : T} {b f m : Int} (ho : okT 1099511627776 t) (hn : nd t ≤ 1048576) (hm : mayB t = true) (hb : 0 ≤ b ∧ b ≤ 1000) (hf : 0 ≤ f ∧ f ≤ 1000) (hs : scB t f m = true) : dnX t b f = some t := by
  rw [dnX_eq (by omega) ho hn hm (by omega) (by omega)]
  exact dn_far t f ((scB_iff m t f (by omega) (by omega)).1 hs)

mutual
theorem nd_dn (b : Int) : ∀ (t : T) (f : Int) (u : T), dnT b t f = some u → nd u = nd t
  | .node k h xs, f, u, hd => by
    rw [dnT] at hd
    by_cases hc : k = 4 ∧ f ≤ h ∧ h < f + b
    · rw [if_pos hc] at hd; cases hd
    · rw [if_neg hc, Option.map_eq_some_iff] at hd
      obtain ⟨ys, hy, rfl⟩ := hd
      rw [nd, nd, ndL_dn b k _ xs 0 f ys hy]
theorem ndL_dn (b k : Int) (n : Nat) : ∀ (xs : List T) (i : Nat) (f : Int) (ys : List T), dnL b k n xs i f = some ys → ndL ys = ndL xs
  | [], _, _, ys, hd => by rw [dnL] at hd; cases hd; rfl
  | t :: ts, i, f, ys, hd => by
    rw [dnL, Option.bind_eq_some_iff] at hd
    obtain ⟨u, hu, hd⟩ := hd
    rw [Option.map_eq_some_iff] at hd
    obtain ⟨zs, hz, rfl⟩ := hd
    rw [ndL, ndL, nd_dn b t _ u hu, ndL_dn b k n ts (i + 1) f zs hz]
end

/-- up, and down again, of what may be -/
theorem back_facts {t : T} {b f : Int} (ho : okT 1099511627776 t) (hn : nd t ≤ 1048576) (hm : mayB t = true) (hb : 0 ≤ b ∧ b ≤ 1000) (hf : 0 ≤ f ∧ f ≤ 1000) :
    upX t b f = upT b t f ∧ dnX (upT b t f) b f = some t ∧ nd (upT b t f) ≤ 1048576 ∧ szW (upT b t f) = szW t := by
  refine ⟨upX_eq (by omega) ho hn hm (by omega) (by omega), ?_, by rw [nd_up]; exact hn, szW_up b f t⟩
  rw [dnX_eq (M := 1099511627776 + b) (by omega) (okT_up hb.1 t f ho) (by rw [nd_up]; exact hn) (mayB_up hb.1 hn hm) (by omega) (by omega), dn_up hb.1]
theorem twice_facts {t : T} {b c f : Int} (ho : okT 1099511627776 t) (hn : nd t ≤ 1048576) (hm : mayB t = true) (hb : 0 ≤ b ∧ b ≤ 1000) (hc : 0 ≤ c ∧ c ≤ 1000) (hf : 0 ≤ f ∧ f ≤ 1000) :
    upX (upT b t f) c f = upT (b + c) t f ∧ upX t (b + c) f = upT (b + c) t f ∧ upX t 0 f = t := by
  refine ⟨?_, upX_eq (by omega) ho hn hm (by omega) (by omega), ?_⟩
  · rw [upX_eq (M := 1099511627776 + b) (by omega) (okT_up hb.1 t f ho) (by rw [nd_up]; exact hn) (mayB_up hb.1 hn hm) (by omega) (by omega), up_up hb.1]
  · rw [upX_eq (by omega) ho hn hm (by omega) (by omega), up_zero]
theorem scopes_facts {t : T} {b f vr m : Int} (ho : okT 1099511627776 t) (hn : nd t ≤ 1048576) (hm : mayB t = true) (hb : 0 ≤ b ∧ b ≤ 1000) (hf : 0 ≤ f ∧ f ≤ vr) (hv : vr ≤ 1000) (hs : scB t vr m = true) :
    scB (upT b t f) (vr + b) m = true ∧ ∀ u less, f ≤ less → vr - b ≤ less → less ≤ 1000 → dnX t b f = some u → scB u less m = true := by
  have hs' := (scB_iff m t vr (by omega) (by omega)).1 hs
  refine ⟨(scB_iff m _ _ (by omega) (by rw [nd_up]; omega)).2 (sc_up hb.1 t f vr hf.2 hs'), fun u less h1 h2 h3 hd => ?_⟩
  rw [dnX_eq (by omega) ho hn hm (by omega) (by omega)] at hd
  exact (scB_iff m u less (by omega) (by rw [nd_dn b t f u hd]; omega)).2 (sc_dn hb.1 t f vr less u h1 h2 hd hs')

/-- Lam of a term -/
theorem lam_facts {t : T} {b f : Int} (hl : ltB t 3000 50 = true) (h : mayK (flat t 1 0) = true) (hb : 0 ≤ b ∧ b ≤ 1000) (hf : 0 ≤ f ∧ f ≤ 1000) :
    nd (.node 3 0 [t]) ≤ 1048576 ∧ upX (.node 3 0 [t]) b f = .node 3 0 [upT b t (f + 1)] ∧ upX t b (f + 1) = upT b t (f + 1) ∧ szW t ≤ 3998 := by
  have ho := okT_small hl h
  obtain ⟨hn, hm⟩ := may_small h
  have h4 := nd_of_may h
  obtain ⟨m1, m2, m3⟩ := (mayB_iff hn).1 hm
  rw [ltB, Bool.and_eq_true, Bool.and_eq_true, decide_eq_true_eq, decide_eq_true_eq, szW_small hn, dpW_eq t hn] at hl
  have e1 : nd (.node 3 0 [t]) = 1 + nd t := by rw [nd, ndL, ndL]; omega
  have e2 : dp (.node 3 0 [t]) = 1 + dp t := by rw [dp, dpL, dpL]; omega
  have hn' : nd (.node 3 0 [t]) ≤ 1048576 := by omega
  have hm' : mayB (.node 3 0 [t]) = true := (mayB_iff hn').2 ⟨by rw [nodB, nodL, nodL, m1]; rfl, by omega, by omega⟩
  have ho' : okT 1099511627776 (.node 3 0 [t]) := by
    rw [okT, okL, okL]; exact ⟨fun h => by omega, ho, trivial⟩
  refine ⟨hn', ?_, upX_eq (by omega) ho hn hm (by omega) (by omega), by rw [szW_small hn]; omega⟩
  rw [upX_eq (by omega) ho' hn' hm' (by omega) (by omega), upT, upL, upL, if_neg (by omega)]
  rfl
end Go.Proofs.YtloeainlpcnhnaaGreat
