/- Texts of one proof, put together. No statement is proved here. -/
import Derived.Test.YtbbjjdnnlnabaaaGreatPkS
import Derived.Maps.OwnOps
import Derived.DeepKeys4
namespace Go.Proofs.YtbbjjdnnlnabaaaGreat
open Go.RowKit
set_option linter.unusedVariables false
set_option linter.unusedSimpArgs false
def myB (t : T) : Bool := nodB t && decide (nd t ≤ 4000) && decide (dp t ≤ 60)
theorem myB_iff (t : T) : myB t = true ↔ nodB t = true ∧ nd t ≤ 4000 ∧ dp t ≤ 60 := by
  simp only [myB, Bool.and_eq_true, decide_eq_true_eq, and_assoc]
theorem mayK_my (t : T) : mayK (flat t 1 0) = myB t := by
  by_cases h : nd t ≤ 1048576
  · rw [may_eq h, Bool.eq_iff_iff, mayB_iff h, myB_iff]
  · have h1 : mayK (flat t 1 0) = false := by
      rw [Bool.eq_false_iff]
      intro e
      have := nd_of_may e
      omega
    have h2 : myB t = false := by
      rw [Bool.eq_false_iff]
      intro e
      have := ((myB_iff t).1 e).2.1
      omega
    rw [h1, h2]
theorem mayB_my {t : T} (h : nd t ≤ 1048576) : mayB t = myB t := by rw [Bool.eq_iff_iff, mayB_iff h, myB_iff]
def bdn (k : Int) (m i : Nat) : Nat := if (k = 1 ∨ k = 3) ∧ i + 1 = m then 1 else 0
theorem bd_bdn (k : Int) (m i : Nat) : bd k m i = (bdn k m i : Int) := by
  unfold bd bdn
  split <;> rfl
theorem bdn_le (k : Int) (m i : Nat) : bdn k m i ≤ 1 := by
  unfold bdn
  split <;> omega
def mpT (L : List T) (sh : Int) (fr : Int) (u : Nat) : T :=
  if (L.length : Int) ≤ fr then .node 4 (fr - L.length + sh + u) [] else upT u (L.getD (L.length - 1 - fr.toNat) (.node 0 0 [])) 0
abbrev Res := Except Int (T × Nat)
def apL (A : Nat → T → Nat → Res) (k : Int) (m u : Nat) : List T → Nat → Nat → Except Int (List T × Nat)
  | [], _, n => .ok ([], n)
  | x :: xs, i, n =>
    match A (u + bdn k m i) x n with
    | .error e => .error e
    | .ok (y, n') =>
      match apL A k m u xs (i + 1) n' with
      | .error e => .error e
      | .ok (ys, n'') => .ok (y :: ys, n'')
def spL (A : T → T → Nat → Res) : T → List T → Nat → Res
  | t, [], n => .ok (t, n)
  | .node k h xs, a :: bs, n =>
    if k = 3 then
      if myB a = true then
        match A a (xs.headD (.node 0 0 [])) n with
        | .error e => .error e
        | .ok (t', n') => spL A t' bs n'
      else .error 4
    else if k = 4 ∨ k = 5 ∨ k = 2 then .ok (.node k h (xs ++ a :: bs), n) else .error 3
def ap : Nat → List T → Int → Nat → T → Nat → Res
  | 0, _, _, _, _, _ => .error 4
  | f + 1, L, sh, u, .node k h xs, n =>
    if 40000 < n + 1 then .error 4 else
    match apL (fun u' x m => ap f L sh u' x m) k xs.length u xs 0 (n + 1) with
    | .error e => .error e
    | .ok (args, n1) => if k = 4 ∧ (u : Int) ≤ h then spL (fun a x m => ap f [a] 0 0 x m) (mpT L sh (h - u) u) args n1 else .ok (.node k h args, n1)
abbrev sp (f : Nat) : T → List T → Nat → Res := spL (fun a x m => ap f [a] 0 0 x m)
def btB (B : Int) (n : Nat) : Int := B + n * 1048576
theorem btB_mono {B : Int} {a b : Nat} (h : a ≤ b) : btB B a ≤ btB B b := by unfold btB; omega
abbrev bt (n : Nat) : Int := btB 562949953421312 n
theorem bt_mono {a b : Nat} (h : a ≤ b) : bt a ≤ bt b := btB_mono h
mutual
theorem okT_mono {M N : Int} (h : M ≤ N) : ∀ t : T, okT M t → okT N t
  | .node k g xs, ho => by
    rw [okT] at ho ⊢
    exact ⟨fun hk => ⟨(ho.1 hk).1, Int.le_trans (ho.1 hk).2 h⟩, okL_mono h xs ho.2⟩
theorem okL_mono {M N : Int} (h : M ≤ N) : ∀ xs : List T, okL M xs → okL N xs
  | [], _ => by rw [okL]; trivial
  | t :: ts, ho => by
    rw [okL] at ho ⊢
    exact ⟨okT_mono h t ho.1, okL_mono h ts ho.2⟩
end
theorem okL_mem {M : Int} : ∀ {xs : List T} {t : T}, okL M xs → t ∈ xs → okT M t
  | x :: xs, t, ho, h => by
    rw [okL] at ho
    rcases List.mem_cons.1 h with rfl | h
    · exact ho.1
    · exact okL_mem ho.2 h
theorem okL_app {M : Int} : ∀ {xs ys : List T}, okL M xs → okL M ys → okL M (xs ++ ys)
  | [], ys, _, h => h
  | x :: xs, ys, ho, h => by
    rw [okL] at ho
    rw [List.cons_append, okL]
    exact ⟨ho.1, okL_app ho.2 h⟩
theorem nodL_mem : ∀ {xs : List T} {t : T}, nodL xs = true → t ∈ xs → nodB t = true
  | x :: xs, t, ho, h => by
    rw [nodL, Bool.and_eq_true] at ho
    rcases List.mem_cons.1 h with rfl | h
    · exact ho.1
    · exact nodL_mem ho.2 h
theorem nodL_app : ∀ {xs ys : List T}, nodL xs = true → nodL ys = true → nodL (xs ++ ys) = true
  | [], ys, _, h => h
  | x :: xs, ys, ho, h => by
    rw [nodL, Bool.and_eq_true] at ho
    rw [List.cons_append, nodL, ho.1, nodL_app ho.2 h]
    rfl
theorem ndL_app : ∀ (xs ys : List T), ndL (xs ++ ys) = ndL xs + ndL ys
  | [], ys => by simp [ndL]
  | x :: xs, ys => by rw [List.cons_append, ndL, ndL, ndL_app xs ys]; omega
structure Way (M : Int) (t : T) : Prop where
  nod : nodB t = true
  ok : okT M t
theorem Way.mono {M N : Int} (h : M ≤ N) {t : T} (w : Way M t) : Way N t := ⟨w.nod, okT_mono h t w.ok⟩
theorem Way.args {M : Int} {k h : Int} {xs : List T} (w : Way M (.node k h xs)) {x : T} (hx : x ∈ xs) : Way M x := by
  have h1 := w.nod
  have h2 := w.ok
  rw [nodB, Bool.and_eq_true] at h1
  rw [okT] at h2
  exact ⟨nodL_mem h1.2 hx, okL_mem h2.2 hx⟩
def WayL (M : Int) (xs : List T) : Prop := ∀ t ∈ xs, Way M t
theorem WayL.nod {M : Int} : ∀ {xs : List T}, WayL M xs → nodL xs = true
  | [], _ => by rw [nodL]
  | x :: xs, w => by
    rw [nodL, (w x (List.mem_cons_self ..)).nod, WayL.nod (xs := xs) fun t ht => w t (List.mem_cons_of_mem _ ht)]
    rfl
theorem WayL.ok {M : Int} : ∀ {xs : List T}, WayL M xs → okL M xs
  | [], _ => by rw [okL]; trivial
  | x :: xs, w => by
    rw [okL]
    exact ⟨(w x (List.mem_cons_self ..)).ok, WayL.ok (xs := xs) fun t ht => w t (List.mem_cons_of_mem _ ht)⟩
structure Sub (M : Int) (L : List T) (sh : Int) : Prop where
  may : ∀ t ∈ L, myB t = true
  ok : ∀ t ∈ L, okT M t
  lo : 0 ≤ sh
  hi : sh ≤ 1048576
theorem Sub.mono {M N : Int} (h : M ≤ N) {L : List T} {sh : Int} (s : Sub M L sh) : Sub N L sh := ⟨s.may, fun t ht => okT_mono h t (s.ok t ht), s.lo, s.hi⟩
theorem way_node {M : Int} {k h h' : Int} {xs ys : List T} (w : Way M (.node k h xs)) (hl : ys.length = xs.length) (wy : WayL M ys) : Way M (.node k h ys) := by
  have h1 := w.nod
  have h2 := w.ok
  rw [nodB, Bool.and_eq_true] at h1
  rw [okT] at h2
  refine ⟨by rw [nodB, hl, h1.1, wy.nod]; rfl, ?_⟩
  rw [okT]
  exact ⟨h2.1, wy.ok⟩
theorem getD_mem {L : List T} {i : Nat} (d : T) (h : i < L.length) : L.getD i d ∈ L := by
  rw [List.getD_eq_getElem?_getD, List.getElem?_eq_getElem h, Option.getD_some]
  exact List.getElem_mem h
theorem way_mp {M sh fr : Int} {L : List T} {u : Nat} (s : Sub M L sh) (h0 : 0 ≤ fr) (hfr : fr + u + sh ≤ M) : Way (M + u) (mpT L sh fr u) ∧ nd (mpT L sh fr u) ≤ 4000 := by
  unfold mpT
  split
  · rename_i hle
    refine ⟨⟨?_, ?_⟩, ?_⟩
    · have hk : 0 ≤ fr - (L.length : Int) + sh + u := by have := s.lo; omega
      simp [nodB, nodL, okN, hk]
    · rw [okT, okL]
      have := s.lo
      exact ⟨fun _ => ⟨by omega, by omega⟩, trivial⟩
    · simp [nd, ndL]
  · rename_i hle
    have hm := getD_mem (.node 0 0 []) (show L.length - 1 - fr.toNat < L.length by omega)
    obtain ⟨h1, h2, h3⟩ := (myB_iff _).1 (s.may _ hm)
    exact ⟨⟨nodB_up (by omega) _ _ h1, okT_up (by omega) _ _ (s.ok _ hm)⟩, by rw [nd_up]; exact h2⟩
def Good (B : Int) (n : Nat) (r : Res) : Prop := ∀ t' n', r = .ok (t', n') → n ≤ n' ∧ n' ≤ 40000 ∧ Way (btB B n') t' ∧ nd t' ≤ 4001 * (n' - n)
theorem apL_good {B : Int} {A : Nat → T → Nat → Res} {k sh : Int} {m u n0 : Nat} (hA : ∀ v x n, n0 ≤ n → v ≤ n → n ≤ 40000 → Way (btB B n - sh) x → Good B n (A v x n)) :
    ∀ (xs : List T) (i n : Nat), n0 ≤ n → u + 1 ≤ n → n ≤ 40000 → WayL (btB B n - sh) xs → ∀ ys n', apL A k m u xs i n = .ok (ys, n') → n ≤ n' ∧ n' ≤ 40000 ∧ ys.length = xs.length ∧ WayL (btB B n') ys ∧ ndL ys ≤ 4001 * (n' - n) := by
  intro xs
  induction xs with
  | nil =>
    intro i n _ _ hn _ ys n' h
    rw [apL] at h
    cases h
    exact ⟨Nat.le_refl _, hn, rfl, (fun t ht => by cases ht), by simp [ndL]⟩
  | cons x xs ih =>
    intro i n h0 hu hn hw ys n' h
    rw [apL] at h
    have hb := bdn_le k m i
    have g := hA (u + bdn k m i) x n h0 (by omega) hn (hw x (List.mem_cons_self ..))
    split at h
    · cases h
    · rename_i y n1 h1
      obtain ⟨g1, g2, g3, g4⟩ := g y n1 h1
      split at h
      · cases h
      · rename_i zs n2 h2
        cases h
        obtain ⟨e1, e2, e3, e4, e5⟩ := ih (i + 1) n1 (by omega) (by omega) g2 (fun t ht => (hw t (List.mem_cons_of_mem _ ht)).mono (by have := btB_mono (B := B) g1; omega)) zs n' h2
        refine ⟨by omega, e2, by rw [List.length_cons, List.length_cons, e3], fun t ht => ?_, ?_⟩
        · rcases List.mem_cons.1 ht with rfl | ht
          · exact g3.mono (btB_mono e1)
          · exact e4 t ht
        · rw [ndL]; omega
theorem lam_one {M k h : Int} {xs : List T} (hk : k = 3) (w : Way M (.node k h xs)) : ∃ x, xs = [x] := by
  have h1 := w.nod
  rw [nodB, Bool.and_eq_true] at h1
  have hl : xs.length = 1 := by
    rcases okN_cases h1.1 with ⟨e, _⟩ | ⟨e, _⟩ | ⟨e, _, he⟩ | ⟨e, he⟩ | ⟨e, he⟩ | ⟨e, he⟩ | ⟨e, he⟩ <;> first | exact he | omega
  exact List.length_eq_one_iff.1 hl
theorem lam_in {M k h : Int} {xs : List T} (hk : k = 3) (w : Way M (.node k h xs)) : Way M (xs.headD (.node 0 0 [])) := by
  obtain ⟨x, rfl⟩ := lam_one hk w
  exact w.args (List.mem_cons_self ..)
theorem spL_good {B : Int} {A : T → T → Nat → Res} (hA : ∀ a x n, n ≤ 40000 → myB a = true → okT (btB B n) a → Way (btB B n) x → Good B n (A a x n)) :
    ∀ (bs : List T) (t : T) (n : Nat), n ≤ 40000 → Way (btB B n) t → WayL (btB B n) bs → ∀ t' n', spL A t bs n = .ok (t', n') → n ≤ n' ∧ n' ≤ 40000 ∧ Way (btB B n') t' ∧ nd t' ≤ nd t + ndL bs + 4001 * (n' - n) := by
  intro bs
  induction bs with
  | nil =>
    intro t n hn ht _ t' n' h
    rw [spL] at h
    cases h
    exact ⟨Nat.le_refl _, hn, ht, by omega⟩
  | cons a bs ih =>
    rintro ⟨k, h, xs⟩ n hn ht hw t' n' hr
    rw [spL] at hr
    by_cases hk : k = 3
    · rw [if_pos hk] at hr
      by_cases hm : myB a = true
      · rw [if_pos hm] at hr
        have g := hA a (xs.headD (.node 0 0 [])) n hn hm (hw a (List.mem_cons_self ..)).ok (lam_in hk ht)
        split at hr
        · cases hr
        · rename_i t1 n1 h1
          obtain ⟨g1, g2, g3, g4⟩ := g t1 n1 h1
          obtain ⟨e1, e2, e3, e4⟩ := ih t1 n1 g2 g3 (fun b hb => (hw b (List.mem_cons_of_mem _ hb)).mono (btB_mono g1)) t' n' hr
          refine ⟨by omega, e2, e3, ?_⟩
          rw [ndL]
          omega
      · rw [if_neg hm] at hr
        cases hr
    · rw [if_neg hk] at hr
      split at hr
      · rename_i hk2
        cases hr
        refine ⟨Nat.le_refl _, hn, ⟨?_, ?_⟩, ?_⟩
        · have h1 := ht.nod
          rw [nodB, Bool.and_eq_true] at h1
          rw [nodB, Bool.and_eq_true]
          refine ⟨?_, nodL_app h1.2 hw.nod⟩
          rcases okN_cases h1.1 with ⟨e, _⟩ | ⟨e, _⟩ | ⟨e, _⟩ | ⟨e, he⟩ | ⟨e, he⟩ | ⟨e, he⟩ | ⟨e, he⟩ <;> first | omega | (subst e; simp [okN, he])
        · have h2 := ht.ok
          rw [okT] at h2 ⊢
          exact ⟨h2.1, okL_app h2.2 hw.ok⟩
        · rw [nd, nd, ndL_app]; omega
      · cases hr
theorem ap_good {B : Int} : ∀ (f : Nat) (L : List T) (sh : Int) (u : Nat) (t : T) (n : Nat), u ≤ n → n ≤ 40000 → Sub (btB B n) L sh → Way (btB B n - sh) t → Good B n (ap f L sh u t n) := by
  intro f
  induction f with
  | zero => exact fun L sh u t n _ _ _ _ t' n' h => by rw [ap] at h; cases h
  | succ f ih =>
    rintro L sh u ⟨k, h, xs⟩ n hu hn hs ht t' n' hr
    rw [ap] at hr
    by_cases hw : 40000 < n + 1
    · rw [if_pos hw] at hr; cases hr
    · rw [if_neg hw] at hr
      have hbt : btB B n ≤ btB B (n + 1) := btB_mono (by omega)
      split at hr
      · cases hr
      · rename_i args n1 h1
        have hL : n + 1 ≤ n1 ∧ n1 ≤ 40000 ∧ args.length = xs.length ∧ WayL (btB B n1) args ∧ ndL args ≤ 4001 * (n1 - (n + 1)) := by
          exact apL_good (n0 := n) (sh := sh) (fun v x m hv hm1 hm2 hx => ih L sh v x m hm1 hm2 (hs.mono (btB_mono hv)) hx) xs 0 (n + 1) (by omega) (by omega) (by omega) (fun x hx => (ht.args hx).mono (by omega)) args n1 h1
        obtain ⟨e1, e2, e3, e4, e5⟩ := hL
        have hbt1 : btB B (n + 1) ≤ btB B n1 := btB_mono e1
        by_cases hc : k = 4 ∧ (u : Int) ≤ h
        · rw [if_pos hc] at hr
          have hh := ht.ok
          rw [okT] at hh
          have hh := hh.1 hc.1
          obtain ⟨m1, m2⟩ := way_mp (fr := h - u) (u := u) hs (by omega) (by omega)
          have hmid : btB B n + u ≤ btB B n1 := by unfold btB; omega
          obtain ⟨g1, g2, g3, g4⟩ := spL_good (A := fun a x m => ap f [a] 0 0 x m) (fun a x m hm ha hoa hx => ih [a] 0 0 x m (Nat.zero_le _) hm
            ⟨fun t ht => by rw [List.mem_singleton.1 ht]; exact ha, fun t ht => by rw [List.mem_singleton.1 ht]; exact hoa, by omega, by omega⟩ (by rw [Int.sub_zero]; exact hx)) args _ n1 e2 (m1.mono hmid) e4 t' n' hr
          refine ⟨by omega, g2, g3, by omega⟩
        · rw [if_neg hc] at hr
          cases hr
          refine ⟨by omega, e2, way_node (h' := h) (ht.mono (by have := hs.lo; omega)) e3 e4, ?_⟩
          rw [nd]
          omega
end Go.Proofs.YtbbjjdnnlnabaaaGreat
namespace Go.Proofs.YtbbjjdnnlnabaaaGreat
open Go.ChangeShapes Go.WideShapes Go.ChangeAt Go.RowKit
set_option linter.unusedVariables false
set_option linter.unusedSimpArgs false
set_option maxRecDepth 100000
structure Fr (X : Nat → Prop) (w w' : World) : Prop where
  os : w'.os = w.os
  tape : w'.tape = w.tape
  output : w'.output = w.output
  size : w.heap.size ≤ w'.heap.size
  block : ∀ k, k < w.heap.size → ¬ X k → w'.heap[k]? = w.heap[k]?
theorem Fr.refl (X : Nat → Prop) (w : World) : Fr X w w := ⟨rfl, rfl, rfl, Nat.le_refl _, fun _ _ _ => rfl⟩
theorem Fr.of {X : Nat → Prop} {B : Nat} {w w' : World} (h : Below B w w') (hB : ∀ k, k < w.heap.size → ¬ X k → k < B) : Fr X w w' := ⟨h.os, h.tape, h.output, h.size, fun k hk hx => h.block k (hB k hk hx)⟩
theorem Fr.below {X : Nat → Prop} {w w' : World} (h : Below w.heap.size w w') : Fr X w w' := Fr.of h fun _ hk _ => hk
theorem Fr.trans {X Y : Nat → Prop} {a b c : World} (h : Fr X a b) (k : Fr Y b c) (hy : ∀ i, i < a.heap.size → Y i → X i) : Fr X a c :=
  ⟨k.os.trans h.os, k.tape.trans h.tape, k.output.trans h.output, Nat.le_trans h.size k.size, fun i hi hx => (k.block i (Nat.lt_of_lt_of_le hi h.size) fun e => hx (hy i hi e)).trans (h.block i hi hx)⟩
theorem Fr.then {X : Nat → Prop} {a b c : World} (h : Fr X a b) (k : Below b.heap.size b c) : Fr X a c := h.trans (Fr.below (X := X) k) fun _ _ e => e
theorem Fr.mono {X Y : Nat → Prop} {w w' : World} (h : Fr X w w') (hy : ∀ i, i < w.heap.size → X i → Y i) : Fr Y w w' :=
  ⟨h.os, h.tape, h.output, h.size, fun i hi hx => h.block i hi fun e => hx (hy i hi e)⟩
theorem Fr.to_below {X : Nat → Prop} {w w' : World} {B : Nat} (h : Fr X w w') (hx : ∀ i, X i → B ≤ i) (hB : B ≤ w.heap.size) : Below B w w' :=
  ⟨h.os, h.tape, h.output, h.size, fun i hi => h.block i (by omega) fun e => by have := hx i e; omega⟩
theorem RdF.moveX {ok ok' : Nat → Prop} {w w' : World} (hk : ∀ b, ok b → b < w.heap.size → ok' b ∧ w'.heap[b]? = w.heap[b]?) : ∀ (t : T) (v : Value), RdF ok w t v → RdF ok' w' t v := by
  refine T.ind fun k h xs ih v hv => ?_
  obtain ⟨A, n, c, rfl, h1, h2, h3, h4, h5, h6⟩ := RdF_node.1 hv
  refine RdF_node.2 ⟨A, n, c, rfl, h1, h2, h3, h4, h5, fun i t ht => ?_⟩
  obtain ⟨b, o, v0, v1, v2, rfl, hb, c0, c1, c2, hr⟩ := h6 i t ht
  have e : ∀ j, w'.cell? ⟨b, j, none⟩ = w.cell? ⟨b, j, none⟩ := fun j => World.cell?_of_block (w := w) (hk b hb (cell_lt c0)).2
  exact ⟨b, o, v0, v1, v2, rfl, (hk b hb (cell_lt c0)).1, (e _).trans c0, (e _).trans c1, (e _).trans c2, ih t (List.mem_of_getElem? ht) _ hr⟩
theorem RdFAt.moveX {ok ok' : Nat → Prop} {w w' : World} (hk : ∀ b, ok b → b < w.heap.size → ok' b ∧ w'.heap[b]? = w.heap[b]?) {A : Option Addr} {j : Nat} {t : T} (h : RdFAt ok w A j t) : RdFAt ok' w' A j t := by
  obtain ⟨b, o, v0, v1, v2, rfl, hb, c0, c1, c2, hr⟩ := h
  have e : ∀ j, w'.cell? ⟨b, j, none⟩ = w.cell? ⟨b, j, none⟩ := fun j => World.cell?_of_block (w := w) (hk b hb (cell_lt c0)).2
  exact ⟨b, o, v0, v1, v2, rfl, (hk b hb (cell_lt c0)).1, (e _).trans c0, (e _).trans c1, (e _).trans c2, RdF.moveX hk t _ hr⟩
theorem RdFAt.full {ok : Nat → Prop} {w : World} {A : Option Addr} {j : Nat} {t : T} (h : RdFAt ok w A j t) :
    ∃ b o k h A' n c, A = some ⟨b, o, none⟩ ∧ w.cell? ⟨b, o + j * 3, none⟩ = some (.int .i64 k) ∧ w.cell? ⟨b, o + j * 3 + 1, none⟩ = some (.int .i64 h) ∧
      w.cell? ⟨b, o + j * 3 + 2, none⟩ = some (.slice A' n c) ∧ RdF ok w t (.agg #[.int .i64 k, .int .i64 h, .slice A' n c]) := by
  obtain ⟨b, o, v0, v1, v2, rfl, _, c0, c1, c2, hr⟩ := h
  obtain ⟨k, h, xs⟩ := t
  have hr' := hr
  obtain ⟨A', n, c, e, _⟩ := RdF_node.1 hr
  have e' : v0 = .int .i64 k ∧ v1 = .int .i64 h ∧ v2 = .slice A' n c := by simpa using e
  obtain ⟨rfl, rfl, rfl⟩ := e'
  exact ⟨b, o, k, h, A', n, c, rfl, c0, c1, c2, hr'⟩
theorem rdFAt_rd {ok : Nat → Prop} {w : World} {A : Option Addr} {j : Nat} {t : T} (h : RdFAt ok w A j t) : RdAt w A j t := by
  obtain ⟨b, o, v0, v1, v2, rfl, _, c0, c1, c2, hr⟩ := h
  exact ⟨b, o, v0, v1, v2, rfl, c0, c1, c2, RdF.rd _ _ hr⟩
/-! ### The map -/
abbrev plK (a b : Int) : Value := .agg #[.int .i64 a, .int .i64 b]
theorem placeLaid : laidOutB Tryz.prog = true := by kernel_rfl
theorem placeRow : (159 : TypeId) < Tryz.prog.types.size := of_decide_eq_true (by kernel_rfl)
theorem placeWide : (match Tryz.prog.underlying 159 with | some (.array _ _) | some (.struct _) => true | _ => false) = true := by kernel_rfl
theorem placeLaw : WideMaps.KeyLaw Tryz.prog 159 := deep_law_laid placeLaid (m := 2) (by omega) placeRow (by kernel_rfl) placeWide
theorem placeKey {a b : Int} (ha : (Lit.int .i64 a).wf = true) (hb : (Lit.int .i64 b).wf = true) : ∃ l, keyOf Tryz.prog 159 (plK a b) = some l := by
  obtain ⟨m, hm⟩ : ∃ m, Tryz.prog.types.size = m + 1 := ⟨Tryz.prog.types.size - 1, by have : 0 < Tryz.prog.types.size := Nat.lt_of_le_of_lt (Nat.zero_le _) placeRow; omega⟩
  have h1 : Tryz.prog.keyType 159 = true := by kernel_rfl
  have h2 : Tryz.prog.cellsOf 159 = 2 := by kernel_rfl
  have h3 : Tryz.prog.cellsOf 3 = 1 := by kernel_rfl
  have h4 : (plK a b).formed Tryz.prog 159 = true := by simp [Value.formed, Tryz.underlying159, h2]
  unfold keyOf
  rw [Tryz.underlying159, hm]
  simp only [h1, h4, Bool.and_self, if_true]
  simp [Program.keyLits, Tryz.underlying159, Tryz.underlying3, h2, h3, ha, hb, Value.cells]
def PlKeys (es : Array MapEntry) : Prop := ∀ x ∈ es.toList, ∃ a b : Int, x.key = plK a b ∧ (Lit.int .i64 a).wf = true ∧ (Lit.int .i64 b).wf = true
theorem PlKeys.keyed {es : Array MapEntry} (h : PlKeys es) : ∀ e ∈ es.toList, ∃ l, keyOf Tryz.prog 159 e.key = some l := fun e he => by
  obtain ⟨a, b, hk, ha, hb⟩ := h e he
  rw [hk]
  exact placeKey ha hb
abbrev zT : Value := .agg #[.int .i64 0, .int .i64 0, .slice none 0 0]
theorem look_nil (a b : Int) (ha : (Lit.int .i64 a).wf = true) (hb : (Lit.int .i64 b).wf = true) (w : World) :
    (Instr.lookup 140 (.map none) (plK a b) true).run Tryz.prog w = .ok (.tuple #[zT, .bool false]) w := by
  obtain ⟨l, hl⟩ := placeKey ha hb
  have h1 : (Instr.findKey 159 (plK a b) []).run Tryz.prog w = .ok none w := by
    rcases placeLaw.find w hl [] (fun e he => by cases he) with ⟨h1, _⟩ | ⟨j, e, _, h2, _⟩
    · exact h1
    · simp at h2
  simp [Instr.lookup, run_underlying Tryz.underlying140, placeLaw.check w _ hl, h1, Result.andThen]
theorem look_map {es : Array MapEntry} {cl pm : Nat} {a b : Int} (ha : (Lit.int .i64 a).wf = true) (hb : (Lit.int .i64 b).wf = true) {w : World} (hm : w.heap[pm]? = some (.map es cl)) (hk : PlKeys es) :
    ((Instr.lookup 140 (.map (some pm)) (plK a b) true).run Tryz.prog w = .ok (.tuple #[zT, .bool false]) w ∧ ∀ x ∈ es.toList, x.key ≠ plK a b) ∨
    ∃ e ∈ es.toList, e.key = plK a b ∧ (Instr.lookup 140 (.map (some pm)) (plK a b) true).run Tryz.prog w = .ok (.tuple #[e.val, .bool true]) w := by
  obtain ⟨l, hl⟩ := placeKey ha hb
  rcases placeLaw.find w hl es.toList hk.keyed with ⟨h1, h2⟩ | ⟨j, e, h1, h2, h3⟩
  · exact .inl ⟨by simp [Instr.lookup, run_underlying Tryz.underlying140, MapKept.run_getObj_map hm, placeLaw.check w _ hl, h1, Result.andThen], h2⟩
  · exact .inr ⟨e, List.mem_of_getElem? h2, h3, by simp [Instr.lookup, run_underlying Tryz.underlying140, MapKept.run_getObj_map hm, placeLaw.check w _ hl, h1, Result.andThen]⟩
theorem put_map {es : Array MapEntry} {cl pm : Nat} {a b : Int} (ha : (Lit.int .i64 a).wf = true) (hb : (Lit.int .i64 b).wf = true) {w : World} (hm : w.heap[pm]? = some (.map es cl)) (hk : PlKeys es) (hno : ∀ x ∈ es.toList, x.key ≠ plK a b) (v : Value) :
    (Instr.mapUpdate 140 (.map (some pm)) (plK a b) v).run Tryz.prog w = .ok () { w with heap := w.heap.setIfInBounds pm (.map (es.push ⟨plK a b, v, cl⟩) (cl + 1)) } := by
  obtain ⟨l, hl⟩ := placeKey ha hb
  rcases placeLaw.find w hl es.toList hk.keyed with ⟨h1, h2⟩ | ⟨j, e, h1, h2, h3⟩
  · simp [Instr.mapUpdate, run_underlying Tryz.underlying140, MapKept.run_getObj_map hm, placeLaw.check w false hl, h1, MapKept.run_setObj_map _ hm, Result.andThen]
  · exact absurd h3 (hno e (List.mem_of_getElem? h2))
abbrev RX (X : Nat → Prop) (w : World) (t : T) (v : Value) : Prop := RdF (fun b => ¬ X b) w t v
structure RXL (X : Nat → Prop) (w : World) (xs : List T) (A : Option Addr) (n c : Nat) : Prop where
  len : xs.length = n
  le : n ≤ c
  cap : c ≤ maxLen
  at_ : ∀ i t, xs[i]? = some t → RdFAt (fun b => ¬ X b) w A i t
structure MapOk (X : Nat → Prop) (w : World) (L : List T) (es : Array MapEntry) : Prop where
  keys : PlKeys es
  one : ∀ x ∈ es.toList, ∀ y ∈ es.toList, x.key = y.key → x.val = y.val
  ok : ∀ x ∈ es.toList, ∀ (fr : Int) (u : Nat), x.key = plK fr u → 0 ≤ fr → fr < L.length → RX X w (upT u (L.getD (L.length - 1 - fr.toNat) (.node 0 0 [])) 0) x.val
def Found (X : Nat → Prop) (w : World) (L : List T) (mv : Value) : Prop :=
  mv = .map none ∨ ∃ pm es cl, mv = .map (some pm) ∧ X pm ∧ w.heap[pm]? = some (.map es cl) ∧ MapOk X w L es
structure Sc (X : Nat → Prop) (w : World) (ps : Nat) (L : List T) (sh : Int) (A : Option Addr) (n c : Nat) (mv : Value) : Prop where
  box : Box w ps 142 #[.slice A n c, .int .i64 sh, mv]
  own : X ps
  bnd : ∀ b, X b → b < w.heap.size
  list : RXL X w L A n c
  found : Found X w L mv
structure Adv (X : Nat → Prop) (w : World) (X' : Nat → Prop) (w' : World) : Prop where
  size : w.heap.size ≤ w'.heap.size
  more : ∀ b, X b → X' b
  new : ∀ b, b < w.heap.size → X' b → X b
  block : ∀ b, b < w.heap.size → ¬ X b → w'.heap[b]? = w.heap[b]?
theorem Adv.trans {X Y Z : Nat → Prop} {a b c : World} (h : Adv X a Y b) (k : Adv Y b Z c) : Adv X a Z c :=
  ⟨Nat.le_trans h.size k.size, fun i e => k.more i (h.more i e), fun i hi e => h.new i hi (k.new i (Nat.lt_of_lt_of_le hi h.size) e),
    fun i hi e => (k.block i (Nat.lt_of_lt_of_le hi h.size) fun e' => e (h.new i hi e')).trans (h.block i hi e)⟩
theorem Adv.below {X : Nat → Prop} {w w' : World} (h : Below w.heap.size w w') : Adv X w X w' := ⟨h.size, fun _ h => h, fun _ _ h => h, fun b hb _ => h.block b hb⟩
theorem Adv.fr {X Y : Nat → Prop} {w w' : World} (h : Fr Y w w') (hy : ∀ i, i < w.heap.size → Y i → X i) : Adv X w X w' :=
  ⟨h.size, fun _ h => h, fun _ _ h => h, fun b hb e => h.block b hb fun e' => e (hy b hb e')⟩
theorem RX.adv {X X' : Nat → Prop} {w w' : World} {t : T} {v : Value} (h : RX X w t v) (a : Adv X w X' w') : RX X' w' t v :=
  RdF.moveX (fun b hb hl => ⟨fun e => hb (a.new b hl e), a.block b hl hb⟩) _ _ h
theorem RX.mono {X Y : Nat → Prop} {w : World} {t : T} {v : Value} (h : RX X w t v) (hy : ∀ i, i < w.heap.size → Y i → X i) : RX Y w t v :=
  RdF.moveX (fun b hb hl => ⟨fun e => hb (hy b hl e), rfl⟩) _ _ h
theorem RX.rd {X : Nat → Prop} {w : World} {t : T} {v : Value} (h : RX X w t v) : Rd w t v := RdF.rd _ _ h
theorem RXL.adv {X X' : Nat → Prop} {w w' : World} {xs : List T} {A : Option Addr} {n c : Nat} (h : RXL X w xs A n c) (a : Adv X w X' w') : RXL X' w' xs A n c :=
  ⟨h.len, h.le, h.cap, fun i t ht => RdFAt.moveX (fun b hb hl => ⟨fun e => hb (a.new b hl e), a.block b hl hb⟩) (h.at_ i t ht)⟩
theorem RXL.mono {X Y : Nat → Prop} {w : World} {xs : List T} {A : Option Addr} {n c : Nat} (h : RXL X w xs A n c) (hy : ∀ i, i < w.heap.size → Y i → X i) : RXL Y w xs A n c :=
  ⟨h.len, h.le, h.cap, fun i t ht => RdFAt.moveX (fun b hb hl => ⟨fun e => hb (hy b hl e), rfl⟩) (h.at_ i t ht)⟩
theorem MapOk.adv {X X' : Nat → Prop} {w w' : World} {L : List T} {es : Array MapEntry} (h : MapOk X w L es) (a : Adv X w X' w') : MapOk X' w' L es :=
  ⟨h.keys, h.one, fun x hx fr u hk h0 h1 => (h.ok x hx fr u hk h0 h1).adv a⟩
theorem Sc.adv {X X' : Nat → Prop} {w w' : World} {ps : Nat} {L : List T} {sh : Int} {A : Option Addr} {n c : Nat} {mv : Value} (h : Sc X w ps L sh A n c mv) (a : Adv X w X' w')
    (h1 : w'.heap[ps]? = w.heap[ps]?) (h2 : ∀ pm, mv = .map (some pm) → w'.heap[pm]? = w.heap[pm]?) (hX : ∀ b, X' b → b < w'.heap.size) : Sc X' w' ps L sh A n c mv := by
  refine ⟨h1.trans h.box, a.more _ h.own, hX, h.list.adv a, ?_⟩
  rcases h.found with rfl | ⟨pm, es, cl, rfl, hx, hm, hok⟩
  · exact .inl rfl
  · exact .inr ⟨pm, es, cl, rfl, a.more _ hx, (h2 pm rfl).trans hm, hok.adv a⟩
theorem Sc.mapLt {X : Nat → Prop} {w : World} {ps : Nat} {L : List T} {sh : Int} {A : Option Addr} {n c : Nat} {mv : Value} (h : Sc X w ps L sh A n c mv) {pm : Nat} (e : mv = .map (some pm)) : pm < w.heap.size := by
  rcases h.found with e1 | ⟨pm', es, cl, e1, _, hm, _⟩
  · rw [e] at e1; cases e1
  · rw [e] at e1; cases e1
    exact (Array.getElem?_eq_some_iff.1 hm).1
theorem Box.fr {X : Nat → Prop} {w w' : World} {b : Nat} {ty : TypeId} {cs : Array Value} (h : Box w b ty cs) (hf : Fr X w w') (hx : ¬ X b) : Box w' b ty cs := (hf.block b h.lt hx).trans h
theorem Box.put3 {w : World} {p : Nat} {ty : TypeId} {x0 x1 x2 : Value} (h : Box w p ty #[x0, x1, x2]) (u0 u1 u2 : Value) : Box (((w.setCell ⟨p, 0, none⟩ u0).setCell ⟨p, 1, none⟩ u1).setCell ⟨p, 2, none⟩ u2) p ty #[u0, u1, u2] := by
  have := ((h.setAt 0 u0).setAt 1 u1).setAt 2 u2
  simpa using this
theorem Fr.set3 {X : Nat → Prop} {w w' : World} (h : Fr X w w') {a : Nat} (ha : a < w.heap.size → X a) (u0 u1 u2 : Value) : Fr X w (((w'.setCell ⟨a, 0, none⟩ u0).setCell ⟨a, 1, none⟩ u1).setCell ⟨a, 2, none⟩ u2) :=
  ⟨h.os, h.tape, h.output, by simpa [World.setCell] using h.size, fun k hk hx => (heap_other3 _ _ _ _ _ _ (fun e => hx (by subst e; exact ha hk))).trans (h.block k hk hx)⟩
theorem Adv.set3 {X : Nat → Prop} {w : World} {a : Nat} (ha : X a) (u0 u1 u2 : Value) : Adv X w X (((w.setCell ⟨a, 0, none⟩ u0).setCell ⟨a, 1, none⟩ u1).setCell ⟨a, 2, none⟩ u2) :=
  ⟨by simp [World.setCell], fun _ h => h, fun _ _ h => h, fun k hk hx => heap_other3 _ _ _ _ _ _ (fun e => hx (by subst e; exact ha))⟩
theorem size_set3 (w : World) (a : Nat) (u0 u1 u2 : Value) : (((w.setCell ⟨a, 0, none⟩ u0).setCell ⟨a, 1, none⟩ u1).setCell ⟨a, 2, none⟩ u2).heap.size = w.heap.size := by simp [World.setCell]
end Go.Proofs.YtbbjjdnnlnabaaaGreat
namespace Go.Proofs.YtbbjjdnnlnabaaaGreat
open Go.ChangeShapes Go.WideShapes Go.ChangeAt Go.RowKit
set_option linter.unusedVariables false
set_option linter.unusedSimpArgs false
set_option maxHeartbeats 800000
theorem myC (t : T) (v : Value) (w : World) (hv : Rd w t v) : Calls Tryz.prog 59 #[v] w fun e w' => e = .returned (.bool (myB t)) ∧ Below w.heap.size w w' := by
  rw [← mayK_my]; exact termMay t v w hv
theorem varC (h : Int) (w : World) : Calls Tryz.prog 129 #[.int .i64 h] w fun e w' => e = .returned (.agg #[.int .i64 4, .int .i64 h, .slice none 0 0]) ∧ Below w.heap.size w w' := by
  go_enter Tryz.func129, Tryz.ntmps129
  go_wp2_with fail
  refine bodyPost_ret (v := .agg #[.int .i64 4, .int .i64 h, .slice none 0 0]) (by simp [results, Tryz.results129, go_sem]) rfl ?_
  exact ⟨rfl, (Below.refl _ _).alloc (Nat.le_refl _) _⟩
theorem allMayC (xs : List T) (A : Option Addr) (n c : Nat) (w : World) (hn : xs.length = n) (hc : n ≤ c) (hm : c ≤ maxLen) (hx : ∀ i t, xs[i]? = some t → RdAt w A i t) :
    Calls Tryz.prog 123 #[.slice A n c] w fun e w' => e = .returned (.bool (xs.all myB)) ∧ Below w.heap.size w w' := by
  unfold maxLen at hm
  have HN := Lib.hid hn; clear hn
  have HX := Lib.hid hx; clear hx
  go_enter Tryz.func123, Tryz.ntmps123
  go_wp2_with fail
  go_loopw [7] (fun i wr => ∃ (j : Nat), j ≤ n ∧ i = .int .i64 j ∧ Hid ((xs.drop j).all myB = xs.all myB) ∧ Below w.heap.size w wr) (fun i _ => n - (intOf i).toNat)
  case atStart => exact ⟨0, Nat.zero_le _, rfl, Lib.hid (by simp), Below.refl _ _⟩
  case round =>
    obtain ⟨j, hj, rfl, HS, hb⟩ := hrel
    by_cases hlt : j < n
    · obtain ⟨t, ht⟩ := at_of HN.out hlt
      obtain ⟨b, o, k2, h2, A2, n2, c2', rfl, c0, c1, c2, hr⟩ := (RdAt.keep hb (HX.out j t ht)).full
      have HT := Lib.hid ht; clear ht
      have hi0 : (0 : Int) ≤ j := by omega
      have hi1 : (j : Int) < n := by omega
      go_wp2_with fail
      have hbA : Below wr.heap.size wr (wr.alloc (.cells #[.int .i64 k2, .int .i64 h2, .slice A2 n2 c2'] 39)) := (Below.refl _ wr).alloc (Nat.le_refl _) _
      generalize wr.alloc (.cells #[.int .i64 k2, .int .i64 h2, .slice A2 n2 c2'] 39) = Wa at *
      clear c0 c1 c2
      refine (myC t _ _ (Rd.keep hbA _ _ hr)).mono ?_
      have HS' := HS.out
      rw [drop_at HT.out, List.all_cons] at HS'
      have HS := Lib.hid HS'; clear HS'
      generalize myB t = r at *
      rintro e w1 ⟨rfl, hb1⟩
      have hbw : Below w.heap.size w w1 := hb.trans ((hbA.trans (hb1.mono hbA.size)).mono hb.size)
      clear hb1 hbA
      cases r
      · go_wp2_with fail
        go_ret
        exact ⟨ret_bool (by simpa using HS.out), hbw⟩
      · go_wp2_with fail
        go_roundw
        case rel => exact ⟨j + 1, by omega, by go_num, Lib.hid (by simpa using HS.out), hbw⟩
        case measure => simp [intOf]; omega
    · go_wp2_with fail
      go_ret
      exact ⟨ret_bool (by have := HS.out; rw [drop_all HN.out (by omega)] at this; exact this), hb⟩
def sbB (L : List T) (sh : Int) : Bool := decide (L.length ≤ 200) && decide (0 ≤ sh) && decide (sh ≤ 1048576) && L.all myB
theorem sbMayC (L : List T) (A : Option Addr) (n c : Nat) (sh : Int) (w : World) (hn : L.length = n) (hc : n ≤ c) (hm : c ≤ maxLen) (hx : ∀ i t, L[i]? = some t → RdAt w A i t) :
    Calls Tryz.prog 115 #[.agg #[.slice A n c, .int .i64 sh]] w fun e w' => e = .returned (.bool (sbB L sh)) ∧ Below w.heap.size w w' := by
  have hb : Below w.heap.size w (w.alloc (.cells #[.slice A n c, .int .i64 sh] 105)) := (Below.refl _ _).alloc (Nat.le_refl _) _
  have E : sbB L sh = (decide (n ≤ 200) && decide (0 ≤ sh) && decide (sh ≤ 1048576) && L.all myB) := by rw [sbB, hn]
  have HA : Hid (∀ W, Below w.heap.size w W → Calls Tryz.prog 123 #[.slice A n c] W fun e w' => e = .returned (.bool (L.all myB)) ∧ Below W.heap.size W w') := Lib.hid fun W h => allMayC L A n c W hn hc hm fun i t ht => RdAt.keep h (hx i t ht)
  unfold maxLen at hm
  rw [E]
  have HE := Lib.hid E; clear E hx hn
  cases h1 : decide (n ≤ 200)
  · have h1' : decide ((n : Int) ≤ 200) = false := by simp at h1; simp; omega
    go_enter Tryz.func115, Tryz.ntmps115
    go_wp2_with fail
    go_ret
    exact ⟨rfl, hb⟩
  have h1' : decide ((n : Int) ≤ 200) = true := by simp at h1; simp; omega
  cases h2 : decide (0 ≤ sh)
  · go_enter Tryz.func115, Tryz.ntmps115
    go_wp2_with fail
    go_ret
    exact ⟨rfl, hb⟩
  cases h3 : decide (sh ≤ 1048576)
  · go_enter Tryz.func115, Tryz.ntmps115
    go_wp2_with fail
    go_ret
    exact ⟨rfl, hb⟩
  go_enter Tryz.func115, Tryz.ntmps115
  go_wp2_with fail
  refine (HA.out _ hb).mono ?_
  rintro e w1 ⟨rfl, hb1⟩
  go_wp2_with fail
  go_ret
  exact ⟨by simp, hb.trans (hb1.mono hb.size)⟩
set_option maxRecDepth 100000
set_option maxHeartbeats 1000000
theorem keepMap (k h fr : Int) (u : Nat) (AT : Option Addr) (nT cT : Nat) (hf : (Lit.int .i64 fr).wf = true) (hu : (Lit.int .i64 (u : Int)).wf = true) (w : World) (ps pm : Nat) (x0 x1 : Value) (es : Array MapEntry) (cl : Nat)
    (bx : Box w ps 142 #[x0, x1, .map (some pm)]) (hm : w.heap[pm]? = some (.map es cl)) (hk : PlKeys es) (hno : ∀ x ∈ es.toList, x.key ≠ plK fr u) :
    Calls Tryz.prog 130 #[.pointer (some ⟨ps, 0, none⟩), plK fr u, .agg #[.int .i64 k, .int .i64 h, .slice AT nT cT]] w fun e w' => e = .returned (.tuple #[]) ∧
      ∃ w1, Below w.heap.size w w1 ∧ w'.heap = w1.heap.setIfInBounds pm (.map (es.push ⟨plK fr u, .agg #[.int .i64 k, .int .i64 h, .slice AT nT cT], cl⟩) (cl + 1)) ∧ w'.os = w1.os ∧ w'.tape = w1.tape ∧ w'.output = w1.output := by
  have lp := bx.lt
  have HF := Lib.hid hf; clear hf
  have HU := Lib.hid hu; clear hu
  have HK := Lib.hid hk; clear hk
  have HNO := Lib.hid hno; clear hno
  have HM := Lib.hid hm; clear hm
  have c2 : w.cell? ⟨ps, 2, none⟩ = some (.map (some pm)) := bx.three.2.2
  have hq : ∀ W, Sem.run Tryz.prog (binOp BinOp.eql 140 (.map (some pm)) (.map none)) W = .ok (.bool false) W := fun W => by kernel_rfl
  go_enter Tryz.func130, Tryz.ntmps130
  go_wp2_with fail
  obtain ⟨W, hW⟩ : ∃ W, ((w.alloc (Obj.cells #[Value.int IntKind.i64 fr, Value.int IntKind.i64 ↑u] 159)).alloc (Obj.cells #[Value.int IntKind.i64 k, Value.int IntKind.i64 h, Value.slice AT nT cT] 39)) = W := ⟨_, rfl⟩
  have hb : Below w.heap.size w W := by rw [← hW]; exact ((Below.refl _ _).alloc (Nat.le_refl _) _).alloc (by simp) _
  have b1 : Box W w.heap.size 159 #[.int .i64 fr, .int .i64 u] := by rw [← hW]; exact (Box.new _ _ _).alloc _
  have b2 : Box W (w.heap.size + 1) 39 #[.int .i64 k, .int .i64 h, .slice AT nT cT] := by rw [← hW]; exact (Box.new (w.alloc _) _ _).at (by simp)
  have bp := bx.keep hb lp
  rw [hW]
  clear hW c2 bx
  have lm : pm < w.heap.size := (Array.getElem?_eq_some_iff.1 HM.out).1
  have hmu := put_map HF.out HU.out (w := W.drew) (show W.drew.heap[pm]? = some (.map es cl) from (hb.block pm lm).trans HM.out) HK.out HNO.out (.agg #[.int .i64 k, .int .i64 h, .slice AT nT cT])
  obtain ⟨w2, hw2, hmu'⟩ : ∃ w2, Hid (w2 = { W.drew with heap := W.drew.heap.setIfInBounds pm (.map (es.push ⟨plK fr u, .agg #[.int .i64 k, .int .i64 h, .slice AT nT cT], cl⟩) (cl + 1)) }) ∧ (Instr.mapUpdate 140 (.map (some pm)) (.agg #[.int .i64 fr, .int .i64 u]) (.agg #[.int .i64 k, .int .i64 h, .slice AT nT cT])).run Tryz.prog W.drew = .ok () w2 := ⟨_, Lib.hid rfl, hmu⟩
  clear hmu
  have c2 : W.cell? ⟨ps, 2, none⟩ = some (.map (some pm)) := bp.three.2.2
  obtain ⟨p0, p1⟩ := b1.two
  obtain ⟨t0, t1, t2⟩ := b2.three
  have HB := Lib.hid hb; clear hb
  go_region
  all_goals
    go_wp2_with fail
    go_end0
    refine ⟨rfl, W.drew, HB.out.drew, ?_⟩
    rw [hw2.out]
    exact ⟨rfl, rfl, rfl, rfl⟩
def KNil (ps : Nat) (fr : Int) (u : Nat) (v : Value) (w w' : World) : Prop :=
  ∃ w1 pm, Below w.heap.size w w1 ∧ pm < w1.heap.size ∧ w.heap.size ≤ pm ∧ w'.heap = (w1.setCell ⟨ps, 2, none⟩ (.map (some pm))).heap.setIfInBounds pm (.map (#[].push ⟨plK fr u, v, 0⟩) (0 + 1)) ∧ w'.os = w1.os ∧ w'.tape = w1.tape ∧ w'.output = w1.output
theorem keepNil (k h fr : Int) (u : Nat) (AT : Option Addr) (nT cT : Nat) (hf : (Lit.int .i64 fr).wf = true) (hu : (Lit.int .i64 (u : Int)).wf = true) (w : World) (ps : Nat) (x0 x1 : Value)
    (bx : Box w ps 142 #[x0, x1, .map none]) :
    Calls Tryz.prog 130 #[.pointer (some ⟨ps, 0, none⟩), plK fr u, .agg #[.int .i64 k, .int .i64 h, .slice AT nT cT]] w fun e w' => e = .returned (.tuple #[]) ∧ KNil ps fr u (.agg #[.int .i64 k, .int .i64 h, .slice AT nT cT]) w w' := by
  have lp := bx.lt
  have HF := Lib.hid hf; clear hf
  have HU := Lib.hid hu; clear hu
  have c2 : w.cell? ⟨ps, 2, none⟩ = some (.map none) := bx.three.2.2
  have f2 := bx.frozen 2
  have hq : ∀ W, Sem.run Tryz.prog (binOp BinOp.eql 140 (.map none) (.map none)) W = .ok (.bool true) W := fun W => by kernel_rfl
  have hmm := @run_makeMap Tryz.prog
  have bx3 : Box (((w.alloc (Obj.cells #[Value.int IntKind.i64 fr, Value.int IntKind.i64 ↑u] 159)).alloc (Obj.cells #[Value.int IntKind.i64 k, Value.int IntKind.i64 h, Value.slice AT nT cT] 39)).alloc (Obj.map #[] 0)) ps 142 #[x0, x1, .map none] := ((bx.alloc _).alloc _).alloc _
  have c3 := bx3.three.2.2
  have f3 := bx3.frozen 2
  go_enter Tryz.func130, Tryz.ntmps130
  go_wp2_with fail
  clear hmm hq c3 f3 c2 f2
  obtain ⟨W1, hW1⟩ : ∃ W1, (((w.alloc (Obj.cells #[Value.int IntKind.i64 fr, Value.int IntKind.i64 ↑u] 159)).alloc (Obj.cells #[Value.int IntKind.i64 k, Value.int IntKind.i64 h, Value.slice AT nT cT] 39)).alloc (Obj.map #[] 0)) = W1 := ⟨_, rfl⟩
  have hb : Below w.heap.size w W1 := by rw [← hW1]; exact (((Below.refl _ _).alloc (Nat.le_refl _) _).alloc (by simp) _).alloc (by simp; omega) _
  have b1 : Box W1 w.heap.size 159 #[.int .i64 fr, .int .i64 u] := by rw [← hW1]; exact ((Box.new _ _ _).alloc _).alloc _
  have b2 : Box W1 (w.heap.size + 1) 39 #[.int .i64 k, .int .i64 h, .slice AT nT cT] := by rw [← hW1]; exact ((Box.new (w.alloc _) _ _).at (by simp)).alloc _
  have hm : W1.heap[w.heap.size + 1 + 1]? = some (.map #[] 0) := by
    rw [← hW1]
    have := heap_alloc_new ((w.alloc (Obj.cells #[Value.int IntKind.i64 fr, Value.int IntKind.i64 ↑u] 159)).alloc (Obj.cells #[Value.int IntKind.i64 k, Value.int IntKind.i64 h, Value.slice AT nT cT] 39)) (Obj.map #[] 0)
    simpa using this
  rw [hW1] at bx3 ⊢
  clear hW1 bx
  have lm := (Array.getElem?_eq_some_iff.1 hm).1
  obtain ⟨W, hW⟩ : ∃ W, W1.setCell ⟨ps, 2, none⟩ (Value.map (some (w.heap.size + 1 + 1))) = W := ⟨_, rfl⟩
  have bp : Box W ps 142 #[x0, x1, .map (some (w.heap.size + 1 + 1))] := by
    rw [← hW]
    have := bx3.setAt 2 (Value.map (some (w.heap.size + 1 + 1)))
    simpa using this
  have d1 : Box W w.heap.size 159 #[.int .i64 fr, .int .i64 u] := by rw [← hW]; exact b1.other (by dsimp only; omega) _
  have d2 : Box W (w.heap.size + 1) 39 #[.int .i64 k, .int .i64 h, .slice AT nT cT] := by rw [← hW]; exact b2.other (by dsimp only; omega) _
  have hmW : W.heap[w.heap.size + 1 + 1]? = some (.map #[] 0) := by rw [← hW, Below.heap_setCell _ _ _ _ (by dsimp only; omega)]; exact hm
  rw [hW]
  have HW := Lib.hid hW; clear hW
  have hmu := put_map HF.out HU.out (w := W.drew) (show W.drew.heap[w.heap.size + 1 + 1]? = some (.map #[] 0) from hmW) (fun x hx => by simp at hx) (fun x hx => by simp at hx) (.agg #[.int .i64 k, .int .i64 h, .slice AT nT cT])
  obtain ⟨w2, hw2, hmu'⟩ : ∃ w2, Hid (w2 = { W.drew with heap := W.drew.heap.setIfInBounds (w.heap.size + 1 + 1) (.map (#[].push ⟨plK fr u, .agg #[.int .i64 k, .int .i64 h, .slice AT nT cT], 0⟩) (0 + 1)) }) ∧ (Instr.mapUpdate 140 (.map (some (w.heap.size + 1 + 1))) (.agg #[.int .i64 fr, .int .i64 u]) (.agg #[.int .i64 k, .int .i64 h, .slice AT nT cT])).run Tryz.prog W.drew = .ok () w2 := ⟨_, Lib.hid rfl, hmu⟩
  clear hmu
  have c2 : W.cell? ⟨ps, 2, none⟩ = some (.map (some (w.heap.size + 1 + 1))) := bp.three.2.2
  obtain ⟨p0, p1⟩ := d1.two
  obtain ⟨t0, t1, t2⟩ := d2.three
  have HB := Lib.hid hb; clear hb
  have HMW := Lib.hid hmW; clear hmW
  have HM1 := Lib.hid hm; clear hm
  go_region
  all_goals
    go_wp2_with fail
    go_end0
    refine ⟨rfl, W1, w.heap.size + 1 + 1, HB.out, lm, by omega, ?_⟩
    rw [hw2.out, ← HW.out]
    exact ⟨rfl, rfl, rfl, rfl⟩
structure Stp (pw ps : Nat) (X : Nat → Prop) (w : World) (mv : Value) (X' : Nat → Prop) (w' : World) (mv' : Value) : Prop where
  adv : Adv X w X' w'
  fr : Fr (fun k => k = pw ∨ k = ps ∨ mv = .map (some k)) w w'
  mvs : ∀ k, mv' = .map (some k) → k < w.heap.size → mv = .map (some k)
theorem Stp.trans {pw ps : Nat} {X Y Z : Nat → Prop} {a b c : World} {m1 m2 m3 : Value} (h : Stp pw ps X a m1 Y b m2) (k : Stp pw ps Y b m2 Z c m3) : Stp pw ps X a m1 Z c m3 :=
  ⟨h.adv.trans k.adv, h.fr.trans k.fr fun i hi e => by
      rcases e with e | e | e
      · exact .inl e
      · exact .inr (.inl e)
      · exact .inr (.inr (h.mvs i e hi)),
    fun i e hi => h.mvs i (k.mvs i e (Nat.lt_of_lt_of_le hi h.adv.size)) hi⟩
theorem Stp.below {pw ps : Nat} {X : Nat → Prop} {w w' : World} {mv : Value} (h : Below w.heap.size w w') : Stp pw ps X w mv X w' mv := ⟨Adv.below h, Fr.below h, fun _ e _ => e⟩
theorem Sc.below {X : Nat → Prop} {w w' : World} {ps : Nat} {L : List T} {sh : Int} {A : Option Addr} {n c : Nat} {mv : Value} (h : Sc X w ps L sh A n c mv) (hb : Below w.heap.size w w') : Sc X w' ps L sh A n c mv := by
  exact h.adv (Adv.below hb) (hb.block _ h.box.lt) (fun pm e => hb.block _ (h.mapLt e)) fun b hx => Nat.lt_of_lt_of_le (h.bnd b hx) hb.size
theorem Sc.more {X X' : Nat → Prop} {w w' : World} {ps : Nat} {L : List T} {sh : Int} {A : Option Addr} {n c : Nat} {mv : Value} (h : Sc X w ps L sh A n c mv) (hb : Below w.heap.size w w') (h1 : ∀ b, X b → X' b) (h2 : ∀ b, b < w.heap.size → X' b → X b) (h3 : ∀ b, X' b → b < w'.heap.size) : Sc X' w' ps L sh A n c mv :=
  h.adv ⟨hb.size, h1, h2, fun b hl _ => hb.block b hl⟩ (hb.block _ h.box.lt) (fun pm e => hb.block _ (h.mapLt e)) h3
abbrev upL0 (L : List T) (fr : Int) (u : Nat) : T := upT u (L.getD (L.length - 1 - fr.toNat) (.node 0 0 [])) 0
def KEnd (pw ps : Nat) (X : Nat → Prop) (w : World) (L : List T) (sh : Int) (A : Option Addr) (n c : Nat) (mv : Value) (w' : World) : Prop :=
  ∃ X' mv', Sc X' w' ps L sh A n c mv' ∧ Stp pw ps X w mv X' w' mv'
theorem plK_inj {a b c d : Int} (h : plK a b = plK c d) : a = c ∧ b = d := by simpa [plK] using h
theorem keepC (pw : Nat) {fr : Int} {u : Nat} (hf : (Lit.int .i64 fr).wf = true) (hu : (Lit.int .i64 (u : Int)).wf = true) {X : Nat → Prop} {w : World} {ps : Nat} {L : List T} {sh : Int} {A : Option Addr} {n c : Nat} {mv : Value} (hs : Sc X w ps L sh A n c mv)
    {k h : Int} {AT : Option Addr} {nT cT : Nat} (hv : RX X w (upL0 L fr u) (.agg #[.int .i64 k, .int .i64 h, .slice AT nT cT]))
    (hno : ∀ pm es cl, mv = .map (some pm) → w.heap[pm]? = some (.map es cl) → ∀ x ∈ es.toList, x.key ≠ plK fr u) :
    Calls Tryz.prog 130 #[.pointer (some ⟨ps, 0, none⟩), plK fr u, .agg #[.int .i64 k, .int .i64 h, .slice AT nT cT]] w fun e w' => e = .returned (.tuple #[]) ∧ KEnd pw ps X w L sh A n c mv w' := by
  have lp := hs.box.lt
  rcases hs.found with rfl | ⟨pm, es, cl, rfl, hX, hm, hok⟩
  · refine (keepNil k h fr u AT nT cT hf hu w ps _ _ hs.box).mono ?_
    rintro e w' ⟨rfl, w1, pm, hb, lpm, hge, hh, ho, ht, hout⟩
    have hsz : w'.heap.size = w1.heap.size := by rw [hh]; simp [World.setCell]
    have hother : ∀ b, b ≠ ps → b ≠ pm → w'.heap[b]? = w1.heap[b]? := fun b h1 h2 => by
      rw [hh, Array.getElem?_setIfInBounds_ne (by omega), Below.heap_setCell _ _ _ _ (by dsimp only; omega)]
    have hX' : ∀ b, b < w.heap.size → (X b ∨ b = pm) → X b := fun b hb e => by
      rcases e with e | e
      · exact e
      · omega
    have adv : Adv X w (fun b => X b ∨ b = pm) w' := ⟨by rw [hsz]; exact hb.size, fun b h => .inl h, hX', fun b hl hx => (hother b (fun e => hx (e ▸ hs.own)) (by omega)).trans (hb.block b hl)⟩
    refine ⟨rfl, fun b => X b ∨ b = pm, .map (some pm), ⟨?_, .inl hs.own, ?_, hs.list.adv adv, .inr ⟨pm, #[].push ⟨plK fr u, .agg #[.int .i64 k, .int .i64 h, .slice AT nT cT], 0⟩, 0 + 1, rfl, .inr rfl, ?_, ?_⟩⟩, adv, ⟨?_, ?_, ?_, by rw [hsz]; exact hb.size, ?_⟩, ?_⟩
    · have b1 := (hs.box.keep hb lp).setAt 2 (.map (some pm))
      unfold Box at b1 ⊢
      rw [hh, Array.getElem?_setIfInBounds_ne (by omega), b1]
      simp
    · intro b hx
      rw [hsz]
      rcases hx with hx | rfl
      · have := hs.bnd b hx; have := hb.size; omega
      · exact lpm
    · rw [hh, Array.getElem?_setIfInBounds_self_of_lt (by simpa [World.setCell] using lpm)]
    · refine ⟨fun x hx => ?_, fun x hx y hy _ => ?_, fun x hx fr' u' hk h0 h1 => ?_⟩
      · simp at hx; subst hx; exact ⟨fr, u, rfl, hf, hu⟩
      · simp at hx hy; subst hx hy; rfl
      · simp at hx; subst hx
        obtain ⟨rfl, e2⟩ := plK_inj hk
        obtain rfl : u = u' := by omega
        exact hv.adv adv
    · rw [ho, hb.os]
    · rw [ht, hb.tape]
    · rw [hout, hb.output]
    · exact fun b hl hx => (hother b (fun e => hx (.inr (.inl e))) (by omega)).trans (hb.block b hl)
    · intro k hk hl
      cases hk
      omega
  · refine (keepMap k h fr u AT nT cT hf hu w ps pm _ _ es cl hs.box hm hok.keys (hno pm es cl rfl hm)).mono ?_
    rintro e w' ⟨rfl, w1, hb, hh, ho, ht, hout⟩
    have lpm := (Array.getElem?_eq_some_iff.1 hm).1
    have hne : ps ≠ pm := fun e => by
      have := hs.box
      unfold Box at this
      rw [e, hm] at this
      cases this
    have hsz : w'.heap.size = w1.heap.size := by rw [hh]; simp
    have hother : ∀ b, b ≠ pm → w'.heap[b]? = w1.heap[b]? := fun b h2 => by rw [hh, Array.getElem?_setIfInBounds_ne (by omega)]
    have adv : Adv X w X w' := ⟨by rw [hsz]; exact hb.size, fun b h => h, fun b _ h => h, fun b hl hx => (hother b (fun e => hx (e ▸ hX))).trans (hb.block b hl)⟩
    refine ⟨rfl, X, .map (some pm), ⟨?_, hs.own, fun b hx => (by rw [hsz]; have := hs.bnd b hx; have := hb.size; omega), hs.list.adv adv, .inr ⟨pm, es.push ⟨plK fr u, .agg #[.int .i64 k, .int .i64 h, .slice AT nT cT], cl⟩, cl + 1, rfl, hX, ?_, ?_⟩⟩, adv, ⟨?_, ?_, ?_, by rw [hsz]; exact hb.size, ?_⟩, fun k hk _ => hk⟩
    · have b1 := hs.box.keep hb lp
      unfold Box at b1 ⊢
      rw [hother _ hne, b1]
    · rw [hh, Array.getElem?_setIfInBounds_self_of_lt (Nat.lt_of_lt_of_le lpm hb.size)]
    · refine ⟨fun x hx => ?_, fun x hx y hy exy => ?_, fun x hx fr' u' hk h0 h1 => ?_⟩
      · simp only [Array.toList_push, List.mem_append, List.mem_singleton] at hx
        rcases hx with hx | rfl
        · exact hok.keys x hx
        · exact ⟨fr, u, rfl, hf, hu⟩
      · simp only [Array.toList_push, List.mem_append, List.mem_singleton] at hx hy
        rcases hx with hx | rfl
        · rcases hy with hy | rfl
          · exact hok.one x hx y hy exy
          · exact absurd exy (hno pm es cl rfl hm x hx)
        · rcases hy with hy | rfl
          · exact absurd exy.symm (hno pm es cl rfl hm y hy)
          · rfl
      · simp only [Array.toList_push, List.mem_append, List.mem_singleton] at hx
        rcases hx with hx | rfl
        · exact (hok.ok x hx fr' u' hk h0 h1).adv adv
        · obtain ⟨rfl, e2⟩ := plK_inj hk
          obtain rfl : u = u' := by omega
          exact hv.adv adv
    · rw [ho, hb.os]
    · rw [ht, hb.tape]
    · rw [hout, hb.output]
    · exact fun b hl hx => (hother b (fun e => hx (.inr (.inr (by rw [e]))))).trans (hb.block b hl)
end Go.Proofs.YtbbjjdnnlnabaaaGreat
