/-
  A meta with all of its context, in order, made the same as a term: what is told. No statement is proved here.
-/
import Derived.Test.YtelicajhamgibaaPkJe
import Derived.Test.YtelicajhamgibaaPkB
import Derived.Test.YtelicajhamgibaaPc
namespace Go.Proofs.Ytelicajhamgibaa
open Go.ChangeShapes Go.WideShapes Go.ChangeAt Go.RowKit
set_option linter.unusedVariables false

/-- the numbers from m - 1 down to 0 -/
def dwnU (m : Nat) : List Int := (List.range m).map fun (i : Nat) => (m : Int) - 1 - (i : Int)
theorem dwnU_len (m : Nat) : (dwnU m).length = m := by simp [dwnU]
theorem dwnU_at {m i : Nat} {x : Int} (h : (dwnU m)[i]? = some x) : i < m ∧ x = (m : Int) - 1 - i := by
  have hi : i < m := by have := (List.getElem?_eq_some_iff.1 h).1; rwa [dwnU_len] at this
  refine ⟨hi, ?_⟩
  simp only [dwnU, List.getElem?_map, List.getElem?_range hi, Option.map_some, Option.some.injEq] at h
  exact h.symm
theorem dwnU_good (m : Nat) : vB m [] (dwnU m) = true := by
  rw [vB_top]
  refine ⟨fun v hv => ?_, ?_⟩
  · obtain ⟨i, hi⟩ := List.getElem?_of_mem hv
    obtain ⟨h1, rfl⟩ := dwnU_at hi
    omega
  · rw [List.nodup_iff_pairwise_ne, List.pairwise_iff_getElem]
    intro i j hi hj hij
    rw [(dwnU_at (List.getElem?_eq_getElem hi)).2, (dwnU_at (List.getElem?_eq_getElem hj)).2]
    omega
theorem dwnU_igo (m : Nat) (x : Int) (hx : 0 ≤ x) : igo (dwnU m) m x = some x := by
  unfold igo
  by_cases h : (m : Int) ≤ x
  · rw [if_pos h, dwnU_len]
    congr 1; omega
  · rw [if_neg h]
    have hl : m - 1 - x.toNat < (dwnU m).length := by rw [dwnU_len]; omega
    have e := (dwnU_at (List.getElem?_eq_getElem hl)).2
    have := at_pls (x := x) (m - 1 - x.toNat) (vB_top.1 (dwnU_good m)).2 (by rw [List.getElem?_eq_getElem hl, e]; congr 1; omega)
    rw [this, dwnU_len]
    congr 1; omega
theorem vsL_vrs (m : Nat) : vsL m = vrs (dwnU m) := by
  unfold vsL vrs dwnU
  rw [List.map_map]
  rfl
theorem ptn_vrsU (n : Int) : ∀ (vs seen : List Int), vB n seen vs = true → ptn n seen (vrs vs) = some (seen ++ vs)
  | [], seen, _ => by rw [List.append_nil]; rfl
  | v :: vs, seen, h => by
    have e : vrs (v :: vs) = .node 4 v [] :: vrs vs := rfl
    have hp : pt1 seen n (.node 4 v []) = (decide (0 ≤ v) && decide (v < n) && !seen.contains v) := rfl
    rw [vB, Bool.and_eq_true] at h
    have ih := ptn_vrsU n vs (seen ++ [v]) h.2
    rw [e, ptn, if_pos (by rw [hp]; exact h.1)]
    rw [List.append_assoc] at ih
    exact ih
theorem mts_vrs : ∀ vs : List Int, mtsL (vrs vs) = []
  | [] => rfl
  | v :: vs => by
    have e : vrs (v :: vs) = .node 4 v [] :: vrs vs := rfl
    rw [e, mtsL, mts_vrs vs]
    rfl
theorem nd_vrs : ∀ vs : List Int, ndL (vrs vs) = vs.length
  | [] => rfl
  | v :: vs => by
    have e : vrs (v :: vs) = .node 4 v [] :: vrs vs := rfl
    rw [e, ndL, nd_vrs vs, nd, ndL, List.length_cons]
    omega
theorem dp_vrs : ∀ vs : List Int, dpL (vrs vs) ≤ 1
  | [] => by rw [show vrs [] = [] from rfl, dpL]; omega
  | v :: vs => by
    have e : vrs (v :: vs) = .node 4 v [] :: vrs vs := rfl
    have := dp_vrs vs
    rw [e, dpL, dp, dpL]
    omega
theorem nod_vrs : ∀ vs : List Int, (∀ v ∈ vs, 0 ≤ v) → nodL (vrs vs) = true
  | [], _ => by rw [show vrs [] = [] from rfl, nodL]
  | v :: vs, h => by
    have e : vrs (v :: vs) = .node 4 v [] :: vrs vs := rfl
    have h0 := h v (List.mem_cons_self ..)
    rw [e, nodL, nod_vrs vs fun x hx => h x (List.mem_cons_of_mem _ hx), nodB, nodL]
    simp [okN, h0]
/-- the meta -/
def mU (m : Nat) : T := .node 6 0 (vsL m)
theorem mU_nd (m : Nat) : nd (mU m) = 1 + m := by rw [mU, vsL_vrs, nd, nd_vrs, dwnU_len]
theorem mU_my {m : Nat} (hm : m ≤ 100) : myB (mU m) = true := by
  rw [myB_iff]
  refine ⟨?_, by rw [mU_nd]; omega, ?_⟩
  · rw [mU, vsL_vrs, nodB, nod_vrs]
    · simp [okN]
    · intro v hv
      obtain ⟨i, hi⟩ := List.getElem?_of_mem hv
      have := dwnU_at hi
      omega
  · rw [mU, vsL_vrs, dp]
    have := dp_vrs (dwnU m)
    omega
theorem mU_ok {m : Nat} (hm : m ≤ 100) : okT 1099511627776 (mU m) := by
  rw [mU, okT]
  refine ⟨fun h => by omega, ?_⟩
  have : ∀ l : List T, (∀ x ∈ l, okT 1099511627776 x) → okL 1099511627776 l := by
    intro l
    induction l with
    | nil => intro _; rw [okL]; trivial
    | cons x l ih => intro h; rw [okL]; exact ⟨h x (List.mem_cons_self ..), ih fun y hy => h y (List.mem_cons_of_mem _ hy)⟩
  refine this _ fun x hx => ?_
  obtain ⟨i, hi⟩ := List.getElem?_of_mem hx
  obtain ⟨h1, rfl⟩ := vsL_at m i x hi
  rw [okT, okL]
  exact ⟨fun _ => by omega, trivial⟩
/-- what may be is itself -/
theorem ivR_selfU {s d : Nat} {t : T} (k : Kn s d t) {m : Nat} (hm : m ≤ 1000) : ivR t (dwnU m) m = .ok t := by
  have hs : nd t ≤ 1048576 := by have := ((myB_iff t).1 k.my).2.1; omega
  have ho := okT_of t k.nod k.lo
  have hl := dwnU_len m
  unfold ivR
  rw [if_pos (by rw [mayB_my hs, k.my, dwnU_good, decide_eq_true (show (0 : Int) ≤ m by omega), decide_eq_true (show (m : Int) ≤ 1000 by omega)]; rfl), rn_iv (M := 1099511627776) (g := igo (dwnU m) m) (by omega) (fun x h0 hx => ⟨igW_eq h0 (by omega) ⟨by omega, by omega⟩ (by omega), fun y hy => by have := dwnU_igo m x h0; rw [this] at hy; cases hy; omega⟩) t 0 ho (by omega) (by omega),
    iv_id (M := 1099511627776) (fun x h0 _ => dwnU_igo m x h0) t 0 (by omega) ho]
  rfl
/-- the meta is solved -/
theorem sv_one {s d : Nat} {t : T} (k : Kn s d t) {m N : Nat} (hm : m ≤ 100) (hs : s ≤ 1000) (hN : N ≤ 1000) : ∃ N', N' ≤ 3000 ∧ svU [(m : Int)] [noB] fu 0 (vsL m) t m N = if (0 : Int) ∈ mtO t then .ok (true, [noB], N') else .ok (false, [(true, t)], N') := by
  have hnd := k.nd
  have h0 : ∀ l, noneB [noB] l := fun l => by simpa using rep_none 1 l
  refine ⟨N + nd t + m, by omega, ?_⟩
  rw [svU, if_neg (by simp [vsL_len]), rsU_no t fu m N (h0 _) (by rw [fu_eq]; omega) (by omega)]
  simp only
  rw [rsL_no (vsL m) 0 (N + nd t) (fun x hx m' N' h1 h2 => rsU_no x fu m' N' (h0 _) (by rw [fu_eq]; omega) h2) (by rw [vsL_vrs, nd_vrs, dwnU_len]; omega)]
  simp only
  rw [vsL_vrs, ptn_vrsU _ _ _ (dwnU_good m), nd_vrs, dwnU_len]
  simp only [List.nil_append]
  by_cases hi : (0 : Int) ∈ mtO t
  · rw [if_pos hi, if_pos hi]
  · rw [if_neg hi, if_neg hi, ivR_selfU k (by omega)]
    rfl
theorem noneB_one {t : T} (hn : nodB t = true) (hi : (0 : Int) ∉ mtO t) : noneB [(true, t)] (mts t) := fun h hh => by
  have h0 := mts_pos t hn h hh
  have : h ≠ 0 := fun e => hi (mem_rs.2 (e ▸ hh))
  rw [thI, decide_eq_false (by simp; omega)]
  rfl
theorem rv_one {s d : Nat} {t : T} (k : Kn s d t) {m N : Nat} (hs : s ≤ 1000) (hN : N ≤ 5000) (hi : (0 : Int) ∉ mtO t) : ∃ N', rvL [(m : Int)] 1 0 [(true, t)] N = .ok ([(true, t)], N') := by
  have hnd := k.nd
  refine ⟨N + nd t, ?_⟩
  rw [rvL_ok rfl (rsU_no t fu _ N (noneB_one k.nod hi) (by rw [fu_eq]; omega) (by omega)), rvL_end]
  rfl
theorem un_one {s d : Nat} {t : T} (k : Kn s d t) {m : Nat} (hm : m ≤ 100) (hs : s ≤ 1000) :
    (mts t = [] → unR (mU m) t m [(m : Int)] = .ok [(true, t)]) ∧ ((∃ bs, unR (mU m) t m [(m : Int)] = .ok bs) ∨ unR (mU m) t m [(m : Int)] = .error 5 ∨ unR (mU m) t m [(m : Int)] = .error 2) := by
  have hnd := k.nd
  have hA : unA (mU m) t m [(m : Int)] = true := unA_of (by omega) (by omega) (by simp) (fun i x hx => by
    have := List.mem_of_getElem? hx
    simp at this
    omega) (mU_my hm) k.my
  have h0 : ∀ l, noneB [noB] l := fun l => by simpa using rep_none 1 l
  have r1 : rdU [noB] m fu (mU m) 0 = .ok (mU m, 1) := rdU_no (h0 _) (by rw [fu_eq]; omega) (by omega)
  have r2 : rdU [noB] m fu t 1 = .ok (t, 2) := rdU_no (h0 _) (by rw [fu_eq]; omega) (by omega)
  obtain ⟨k', h', ys⟩ := t
  have key : uND [(m : Int)] fu (mU m) (.node k' h' ys) m [noB] 0 = meU [(m : Int)] [noB] fu (mU m) (.node k' h' ys) m 2 := by
    have := uND_ok (sz := [(m : Int)]) (f := 40000) (k := 6) (h := 0) (xs := vsL m) r1 r2
    rw [if_pos (.inl rfl)] at this
    exact this
  obtain ⟨N', hN', hsv⟩ := sv_one k (N := 2) hm hs (by omega)
  have okc : ∀ N, N ≤ 5000 → (0 : Int) ∉ mtO (.node k' h' ys) → uND [(m : Int)] fu (mU m) (.node k' h' ys) m [noB] 0 = .ok (false, [(true, .node k' h' ys)], N) → unR (mU m) (.node k' h' ys) m [(m : Int)] = .ok [(true, .node k' h' ys)] := fun N hN hi hu => by
    obtain ⟨N2, h2⟩ := rv_one k (m := m) hs hN hi
    rw [un_ok hA hu]
    have h2' : rvL [(m : Int)] [(m : Int)].length 0 [(true, .node k' h' ys)] N = .ok ([(true, .node k' h' ys)], N2) := h2
    rw [h2']
    rfl
  by_cases hc : k' = 6 ∧ h' = 0
  · obtain ⟨rfl, rfl⟩ := hc
    refine ⟨fun h => by rw [mts] at h; simp at h, ?_⟩
    have hme : meU [(m : Int)] [noB] fu (mU m) (.node 6 0 ys) m 2 = cmU [noB] fu (mU m) (.node 6 0 ys) m 2 := meU_2
    rw [cmU, rsL_no [mU m, .node 6 0 ys] 0 2 (fun x hx m' N' h1 h2 => rsU_no x fu m' N' (h0 _) (by rw [fu_eq]; omega) h2) (by simp only [ndL]; rw [mU_nd]; omega)] at hme
    rw [hme] at key
    obtain ⟨b, hb⟩ : ∃ b, (!samB ([mU m, .node 6 0 ys].getD 0 (.node 0 0 [])) ([mU m, .node 6 0 ys].getD 1 (.node 0 0 []))) = b := ⟨_, rfl⟩
    simp only [hb] at key
    cases b with
    | true => exact .inr (.inl (un_out hA key))
    | false =>
      refine .inl ⟨[noB], ?_⟩
      rw [un_ok hA key, rvL_no (fun i => by have := rep_no 1 i; simpa using this)]
      rfl
  · have hme : meU [(m : Int)] [noB] fu (mU m) (.node k' h' ys) m 2 = mtT [(m : Int)] fu 0 (vsL m) k' h' ys m (svU [(m : Int)] [noB] fu 0 (vsL m) (.node k' h' ys) m 2) := meU_3 hc
    by_cases hi : (0 : Int) ∈ mtO (.node k' h' ys)
    · refine ⟨fun h => absurd (mem_rs.1 hi) (by rw [h]; exact List.not_mem_nil), ?_⟩
      rw [if_pos hi] at hsv
      rw [hsv] at hme
      by_cases hk : k' = 6
      · have h1 : 0 ≤ h' := mts_pos _ k.nod h' (by rw [mts, if_pos hk]; simp)
        rw [mtT_yes hk, svU_scope (.inl (by simp; omega))] at hme
        exact .inr (.inr (un_err hA (key.trans hme)))
      · rw [mtT_no fun e => hk e.2] at hme
        exact .inr (.inl (un_out hA (key.trans hme)))
    · rw [if_neg hi] at hsv
      rw [hsv, mtT_no fun e => Bool.false_ne_true e.1] at hme
      have := okc N' (by omega) hi (key.trans hme)
      exact ⟨fun _ => this, .inl ⟨_, this⟩⟩
end Go.Proofs.Ytelicajhamgibaa
