/-
  Substitutions that leave nothing to reduce, bs a plain function with fuel, and what holds of what it tells: shapes, Heads, how many nodes. No statement is proved here.
-/
import Derived.Test.YtloeainlpcnhnaaGreatSn
namespace Go.Proofs.YtloeainlpcnhnaaGreat
open Go.RowKit
set_option linter.unusedVariables false

/-- may it be? without wrap-round -/
def myB (t : T) : Bool := nodB t && decide (nd t ≤ 4000) && decide (dp t ≤ 60)
theorem myB_iff (t : T) : myB t = true ↔ nodB t = true ∧ nd t ≤ 4000 ∧ dp t ≤ 60 := by
  simp only [myB, Bool.and_eq_true, decide_eq_true_eq, and_assoc]
theorem mayK_my (t : T) : mayK (flat t 1 0) = myB t := by
  by_cases h : nd t ≤ 1048576
  · rw [may_eq h, Bool.eq_iff_iff, mayB_iff h, myB_iff]
  · have h1 : mayK (flat t 1 0) = false := by
      rw [Bool.eq_false_iff]
      intro e
      have := nd_of_may e
      omega
    have h2 : myB t = false := by
      rw [Bool.eq_false_iff]
      intro e
      have := ((myB_iff t).1 e).2.1
      omega
    rw [h1, h2]
theorem mayB_my {t : T} (h : nd t ≤ 1048576) : mayB t = myB t := by rw [Bool.eq_iff_iff, mayB_iff h, myB_iff]

/-- how many a node binds -/
def bdn (k : Int) (m i : Nat) : Nat := if (k = 1 ∨ k = 3) ∧ i + 1 = m then 1 else 0
theorem bd_bdn (k : Int) (m i : Nat) : bd k m i = (bdn k m i : Int) := by
  unfold bd bdn
  split <;> rfl
theorem bdn_le (k : Int) (m i : Nat) : bdn k m i ≤ 1 := by
  unfold bdn
  split <;> omega

/-- what a substitution maps a free variable to, below so many nodes that bind -/
def mpT (L : List T) (sh : Int) (fr : Int) (u : Nat) : T :=
  if (L.length : Int) ≤ fr then .node 4 (fr - L.length + sh + u) [] else upT u (L.getD (L.length - 1 - fr.toNat) (.node 0 0 [])) 0

abbrev Res := Except Int (T × Nat)
/-- each Arg in order -/
def apL (A : Nat → T → Nat → Res) (k : Int) (m u : Nat) : List T → Nat → Nat → Except Int (List T × Nat)
  | [], _, n => .ok ([], n)
  | x :: xs, i, n =>
    match A (u + bdn k m i) x n with
    | .error e => .error e
    | .ok (y, n') =>
      match apL A k m u xs (i + 1) n' with
      | .error e => .error e
      | .ok (ys, n'') => .ok (y :: ys, n'')
/-- a term applied to others -/
def spL (A : T → T → Nat → Res) : T → List T → Nat → Res
  | t, [], n => .ok (t, n)
  | .node k h xs, a :: bs, n =>
    if k = 3 then
      if myB a = true then
        match A a (xs.headD (.node 0 0 [])) n with
        | .error e => .error e
        | .ok (t', n') => spL A t' bs n'
      else .error 4
    else if k = 4 ∨ k = 5 ∨ k = 2 then .ok (.node k h (xs ++ a :: bs), n) else .error 3
/-- a term under a substitution, below so many nodes that bind -/
def ap : Nat → List T → Int → Nat → T → Nat → Res
  | 0, _, _, _, _, _ => .error 4
  | f + 1, L, sh, u, .node k h xs, n =>
    if 40000 < n + 1 then .error 4 else
    match apL (fun u' x m => ap f L sh u' x m) k xs.length u xs 0 (n + 1) with
    | .error e => .error e
    | .ok (args, n1) => if k = 4 ∧ (u : Int) ≤ h then spL (fun a x m => ap f [a] 0 0 x m) (mpT L sh (h - u) u) args n1 else .ok (.node k h args, n1)
abbrev sp (f : Nat) : T → List T → Nat → Res := spL (fun a x m => ap f [a] 0 0 x m)

/-- how great Heads may have become when so many nodes have been gone to -/
def btB (B : Int) (n : Nat) : Int := B + n * 1048576
theorem btB_mono {B : Int} {a b : Nat} (h : a ≤ b) : btB B a ≤ btB B b := by unfold btB; omega
abbrev bt (n : Nat) : Int := btB 562949953421312 n
theorem bt_mono {a b : Nat} (h : a ≤ b) : bt a ≤ bt b := btB_mono h

mutual
theorem okT_mono {M N : Int} (h : M ≤ N) : ∀ t : T, okT M t → okT N t
  | .node k g xs, ho => by
    rw [okT] at ho ⊢
    exact ⟨fun hk => ⟨(ho.1 hk).1, Int.le_trans (ho.1 hk).2 h⟩, okL_mono h xs ho.2⟩
theorem okL_mono {M N : Int} (h : M ≤ N) : ∀ xs : List T, okL M xs → okL N xs
  | [], _ => by rw [okL]; trivial
  | t :: ts, ho => by
    rw [okL] at ho ⊢
    exact ⟨okT_mono h t ho.1, okL_mono h ts ho.2⟩
end
theorem okL_mem {M : Int} : ∀ {xs : List T} {t : T}, okL M xs → t ∈ xs → okT M t
  | x :: xs, t, ho, h => by
    rw [okL] at ho
    rcases List.mem_cons.1 h with rfl | h
    · exact ho.1
    · exact okL_mem ho.2 h
theorem okL_app {M : Int} : ∀ {xs ys : List T}, okL M xs → okL M ys → okL M (xs ++ ys)
  | [], ys, _, h => h
  | x :: xs, ys, ho, h => by
    rw [okL] at ho
    rw [List.cons_append, okL]
    exact ⟨ho.1, okL_app ho.2 h⟩
theorem nodL_mem : ∀ {xs : List T} {t : T}, nodL xs = true → t ∈ xs → nodB t = true
  | x :: xs, t, ho, h => by
    rw [nodL, Bool.and_eq_true] at ho
    rcases List.mem_cons.1 h with rfl | h
    · exact ho.1
    · exact nodL_mem ho.2 h
theorem nodL_app : ∀ {xs ys : List T}, nodL xs = true → nodL ys = true → nodL (xs ++ ys) = true
  | [], ys, _, h => h
  | x :: xs, ys, ho, h => by
    rw [nodL, Bool.and_eq_true] at ho
    rw [List.cons_append, nodL, ho.1, nodL_app ho.2 h]
    rfl
theorem ndL_app : ∀ (xs ys : List T), ndL (xs ++ ys) = ndL xs + ndL ys
  | [], ys => by simp [ndL]
  | x :: xs, ys => by rw [List.cons_append, ndL, ndL, ndL_app xs ys]; omega

/-- a term on the way -/
structure Way (M : Int) (t : T) : Prop where
  nod : nodB t = true
  ok : okT M t
theorem Way.mono {M N : Int} (h : M ≤ N) {t : T} (w : Way M t) : Way N t := ⟨w.nod, okT_mono h t w.ok⟩
theorem Way.args {M : Int} {k h : Int} {xs : List T} (w : Way M (.node k h xs)) {x : T} (hx : x ∈ xs) : Way M x := by
  have h1 := w.nod
  have h2 := w.ok
  rw [nodB, Bool.and_eq_true] at h1
  rw [okT] at h2
  exact ⟨nodL_mem h1.2 hx, okL_mem h2.2 hx⟩
def WayL (M : Int) (xs : List T) : Prop := ∀ t ∈ xs, Way M t
theorem WayL.mono {M N : Int} (h : M ≤ N) {xs : List T} (w : WayL M xs) : WayL N xs := fun t ht => (w t ht).mono h
theorem WayL.nod {M : Int} : ∀ {xs : List T}, WayL M xs → nodL xs = true
  | [], _ => by rw [nodL]
  | x :: xs, w => by
    rw [nodL, (w x (List.mem_cons_self ..)).nod, WayL.nod (xs := xs) fun t ht => w t (List.mem_cons_of_mem _ ht)]
    rfl
theorem WayL.ok {M : Int} : ∀ {xs : List T}, WayL M xs → okL M xs
  | [], _ => by rw [okL]; trivial
  | x :: xs, w => by
    rw [okL]
    exact ⟨(w x (List.mem_cons_self ..)).ok, WayL.ok (xs := xs) fun t ht => w t (List.mem_cons_of_mem _ ht)⟩
/-- a substitution on the way: all its terms may be -/
structure Sub (M : Int) (L : List T) (sh : Int) : Prop where
  may : ∀ t ∈ L, myB t = true
  ok : ∀ t ∈ L, okT M t
  lo : 0 ≤ sh
  hi : sh ≤ 1048576
theorem Sub.mono {M N : Int} (h : M ≤ N) {L : List T} {sh : Int} (s : Sub M L sh) : Sub N L sh := ⟨s.may, fun t ht => okT_mono h t (s.ok t ht), s.lo, s.hi⟩

theorem way_node {M : Int} {k h h' : Int} {xs ys : List T} (w : Way M (.node k h xs)) (hl : ys.length = xs.length) (wy : WayL M ys) : Way M (.node k h ys) := by
  have h1 := w.nod
  have h2 := w.ok
  rw [nodB, Bool.and_eq_true] at h1
  rw [okT] at h2
  refine ⟨by rw [nodB, hl, h1.1, wy.nod]; rfl, ?_⟩
  rw [okT]
  exact ⟨h2.1, wy.ok⟩

theorem getD_mem {L : List T} {i : Nat} (d : T) (h : i < L.length) : L.getD i d ∈ L := by
  rw [List.getD_eq_getElem?_getD, List.getElem?_eq_getElem h, Option.getD_some]
  exact List.getElem_mem h

theorem way_mp {M sh fr : Int} {L : List T} {u : Nat} (s : Sub M L sh) (h0 : 0 ≤ fr) (hfr : fr + u + sh ≤ M) : Way (M + u) (mpT L sh fr u) ∧ nd (mpT L sh fr u) ≤ 4000 := by
  unfold mpT
  split
  · rename_i hle
    refine ⟨⟨?_, ?_⟩, ?_⟩
    · have hk : 0 ≤ fr - (L.length : Int) + sh + u := by have := s.lo; omega
      simp [nodB, nodL, okN, hk]
    · rw [okT, okL]
      have := s.lo
      exact ⟨fun _ => ⟨by omega, by omega⟩, trivial⟩
    · simp [nd, ndL]
  · rename_i hle
    have hm := getD_mem (.node 0 0 []) (show L.length - 1 - fr.toNat < L.length by omega)
    obtain ⟨h1, h2, h3⟩ := (myB_iff _).1 (s.may _ hm)
    exact ⟨⟨nodB_up (by omega) _ _ h1, okT_up (by omega) _ _ (s.ok _ hm)⟩, by rw [nd_up]; exact h2⟩

/-- what a run tells -/
def Good (B : Int) (n : Nat) (r : Res) : Prop := ∀ t' n', r = .ok (t', n') → n ≤ n' ∧ n' ≤ 40000 ∧ Way (btB B n') t' ∧ nd t' ≤ 4001 * (n' - n)

theorem apL_good {B : Int} {A : Nat → T → Nat → Res} {k sh : Int} {m u n0 : Nat} (hA : ∀ v x n, n0 ≤ n → v ≤ n → n ≤ 40000 → Way (btB B n - sh) x → Good B n (A v x n)) :
    ∀ (xs : List T) (i n : Nat), n0 ≤ n → u + 1 ≤ n → n ≤ 40000 → WayL (btB B n - sh) xs → ∀ ys n', apL A k m u xs i n = .ok (ys, n') → n ≤ n' ∧ n' ≤ 40000 ∧ ys.length = xs.length ∧ WayL (btB B n') ys ∧ ndL ys ≤ 4001 * (n' - n) := by
  intro xs
  induction xs with
  | nil =>
    intro i n _ _ hn _ ys n' h
    rw [apL] at h
    cases h
    exact ⟨Nat.le_refl _, hn, rfl, (fun t ht => by cases ht), by simp [ndL]⟩
  | cons x xs ih =>
    intro i n h0 hu hn hw ys n' h
    rw [apL] at h
    have hb := bdn_le k m i
    have g := hA (u + bdn k m i) x n h0 (by omega) hn (hw x (List.mem_cons_self ..))
    split at h
    · cases h
    · rename_i y n1 h1
      obtain ⟨g1, g2, g3, g4⟩ := g y n1 h1
      split at h
      · cases h
      · rename_i zs n2 h2
        cases h
        obtain ⟨e1, e2, e3, e4, e5⟩ := ih (i + 1) n1 (by omega) (by omega) g2 (fun t ht => (hw t (List.mem_cons_of_mem _ ht)).mono (by have := btB_mono (B := B) g1; omega)) zs n' h2
        refine ⟨by omega, e2, by rw [List.length_cons, List.length_cons, e3], fun t ht => ?_, ?_⟩
        · rcases List.mem_cons.1 ht with rfl | ht
          · exact g3.mono (btB_mono e1)
          · exact e4 t ht
        · rw [ndL]; omega

/-- what is in a Lam -/
theorem lam_one {M k h : Int} {xs : List T} (hk : k = 3) (w : Way M (.node k h xs)) : ∃ x, xs = [x] := by
  have h1 := w.nod
  rw [nodB, Bool.and_eq_true] at h1
  have hl : xs.length = 1 := by
    rcases okN_cases h1.1 with ⟨e, _⟩ | ⟨e, _⟩ | ⟨e, _, he⟩ | ⟨e, he⟩ | ⟨e, he⟩ | ⟨e, he⟩ | ⟨e, he⟩ <;> first | exact he | omega
  exact List.length_eq_one_iff.1 hl
theorem lam_in {M k h : Int} {xs : List T} (hk : k = 3) (w : Way M (.node k h xs)) : Way M (xs.headD (.node 0 0 [])) := by
  obtain ⟨x, rfl⟩ := lam_one hk w
  exact w.args (List.mem_cons_self ..)
theorem spL_good {B : Int} {A : T → T → Nat → Res} (hA : ∀ a x n, n ≤ 40000 → myB a = true → okT (btB B n) a → Way (btB B n) x → Good B n (A a x n)) :
    ∀ (bs : List T) (t : T) (n : Nat), n ≤ 40000 → Way (btB B n) t → WayL (btB B n) bs → ∀ t' n', spL A t bs n = .ok (t', n') → n ≤ n' ∧ n' ≤ 40000 ∧ Way (btB B n') t' ∧ nd t' ≤ nd t + ndL bs + 4001 * (n' - n) := by
  intro bs
  induction bs with
  | nil =>
    intro t n hn ht _ t' n' h
    rw [spL] at h
    cases h
    exact ⟨Nat.le_refl _, hn, ht, by omega⟩
  | cons a bs ih =>
    rintro ⟨k, h, xs⟩ n hn ht hw t' n' hr
    rw [spL] at hr
    by_cases hk : k = 3
    · rw [if_pos hk] at hr
      by_cases hm : myB a = true
      · rw [if_pos hm] at hr
        have g := hA a (xs.headD (.node 0 0 [])) n hn hm (hw a (List.mem_cons_self ..)).ok (lam_in hk ht)
        split at hr
        · cases hr
        · rename_i t1 n1 h1
          obtain ⟨g1, g2, g3, g4⟩ := g t1 n1 h1
          obtain ⟨e1, e2, e3, e4⟩ := ih t1 n1 g2 g3 (fun b hb => (hw b (List.mem_cons_of_mem _ hb)).mono (btB_mono g1)) t' n' hr
          refine ⟨by omega, e2, e3, ?_⟩
          rw [ndL]
          omega
      · rw [if_neg hm] at hr
        cases hr
    · rw [if_neg hk] at hr
      split at hr
      · rename_i hk2
        cases hr
        refine ⟨Nat.le_refl _, hn, ⟨?_, ?_⟩, ?_⟩
        · have h1 := ht.nod
          rw [nodB, Bool.and_eq_true] at h1
          rw [nodB, Bool.and_eq_true]
          refine ⟨?_, nodL_app h1.2 hw.nod⟩
          rcases okN_cases h1.1 with ⟨e, _⟩ | ⟨e, _⟩ | ⟨e, _⟩ | ⟨e, he⟩ | ⟨e, he⟩ | ⟨e, he⟩ | ⟨e, he⟩ <;> first | omega | (subst e; simp [okN, he])
        · have h2 := ht.ok
          rw [okT] at h2 ⊢
          exact ⟨h2.1, okL_app h2.2 hw.ok⟩
        · rw [nd, nd, ndL_app]; omega
      · cases hr

theorem ap_good {B : Int} : ∀ (f : Nat) (L : List T) (sh : Int) (u : Nat) (t : T) (n : Nat), u ≤ n → n ≤ 40000 → Sub (btB B n) L sh → Way (btB B n - sh) t → Good B n (ap f L sh u t n) := by
  intro f
  induction f with
  | zero => exact fun L sh u t n _ _ _ _ t' n' h => by rw [ap] at h; cases h
  | succ f ih =>
    rintro L sh u ⟨k, h, xs⟩ n hu hn hs ht t' n' hr
    rw [ap] at hr
    by_cases hw : 40000 < n + 1
    · rw [if_pos hw] at hr; cases hr
    · rw [if_neg hw] at hr
      have hbt : btB B n ≤ btB B (n + 1) := btB_mono (by omega)
      split at hr
      · cases hr
      · rename_i args n1 h1
        have hL : n + 1 ≤ n1 ∧ n1 ≤ 40000 ∧ args.length = xs.length ∧ WayL (btB B n1) args ∧ ndL args ≤ 4001 * (n1 - (n + 1)) := by
          exact apL_good (n0 := n) (sh := sh) (fun v x m hv hm1 hm2 hx => ih L sh v x m hm1 hm2 (hs.mono (btB_mono hv)) hx) xs 0 (n + 1) (by omega) (by omega) (by omega) (fun x hx => (ht.args hx).mono (by omega)) args n1 h1
        obtain ⟨e1, e2, e3, e4, e5⟩ := hL
        have hbt1 : btB B (n + 1) ≤ btB B n1 := btB_mono e1
        by_cases hc : k = 4 ∧ (u : Int) ≤ h
        · rw [if_pos hc] at hr
          have hh := ht.ok
          rw [okT] at hh
          have hh := hh.1 hc.1
          obtain ⟨m1, m2⟩ := way_mp (fr := h - u) (u := u) hs (by omega) (by omega)
          have hmid : btB B n + u ≤ btB B n1 := by unfold btB; omega
          obtain ⟨g1, g2, g3, g4⟩ := spL_good (A := fun a x m => ap f [a] 0 0 x m) (fun a x m hm ha hoa hx => ih [a] 0 0 x m (Nat.zero_le _) hm
            ⟨fun t ht => by rw [List.mem_singleton.1 ht]; exact ha, fun t ht => by rw [List.mem_singleton.1 ht]; exact hoa, by omega, by omega⟩ (by rw [Int.sub_zero]; exact hx)) args _ n1 e2 (m1.mono hmid) e4 t' n' hr
          refine ⟨by omega, g2, g3, by omega⟩
        · rw [if_neg hc] at hr
          cases hr
          refine ⟨by omega, e2, way_node (h' := h) (ht.mono (by have := hs.lo; omega)) e3 e4, ?_⟩
          rw [nd]
          omega
end Go.Proofs.YtloeainlpcnhnaaGreat
