/-
  Texts of one proof, put together. No statement is proved here.
-/
import Derived.Test.YtmkahbbcagfbhaaGreatDoorPkSC
import Derived.Maps.OwnOps
import Derived.DeepKeys4
import Derived.Test.YtmkahbbcagfbhaaGreatDoorRows
import Derived.Orders
import Derived.WalkKit
import Derived.Deep.AppendLies
import Derived.Deep.RegionHeld3
import Derived.Lib.AppendZerosOnto
import Derived.Defers
import Derived.Recover
import Derived.Laws.Pointers
/-
  Substitutions that leave nothing to reduce, bs a plain function with fuel, and what holds of what it tells: shapes, Heads, how many nodes. No statement is proved here.
-/
namespace Go.Proofs.YtmkahbbcagfbhaaGreatDoor
open Go.RowKit
set_option linter.unusedVariables false
/-- how many a node binds -/
def bdn (k : Int) (m i : Nat) : Nat := if (k = 1 ∨ k = 3) ∧ i + 1 = m then 1 else 0
theorem bd_bdn (k : Int) (m i : Nat) : bd k m i = (bdn k m i : Int) := by
  unfold bd bdn
  split <;> rfl
theorem bdn_le (k : Int) (m i : Nat) : bdn k m i ≤ 1 := by
  unfold bdn
  split <;> omega
/-- what a substitution maps a free variable to, below so many nodes that bind -/
def mpT (L : List T) (sh : Int) (fr : Int) (u : Nat) : T :=
  if (L.length : Int) ≤ fr then .node 4 (fr - L.length + sh + u) [] else upT u (L.getD (L.length - 1 - fr.toNat) (.node 0 0 [])) 0
abbrev Res := Except Int (T × Nat)
/-- each Arg in order -/
def apL (A : Nat → T → Nat → Res) (k : Int) (m u : Nat) : List T → Nat → Nat → Except Int (List T × Nat)
  | [], _, n => .ok ([], n)
  | x :: xs, i, n =>
    match A (u + bdn k m i) x n with
    | .error e => .error e
    | .ok (y, n') =>
      match apL A k m u xs (i + 1) n' with
      | .error e => .error e
      | .ok (ys, n'') => .ok (y :: ys, n'')
/-- a term applied to others -/
def spL (A : T → T → Nat → Res) : T → List T → Nat → Res
  | t, [], n => .ok (t, n)
  | .node k h xs, a :: bs, n =>
    if k = 3 then
      if myB a = true then
        match A a (xs.headD (.node 0 0 [])) n with
        | .error e => .error e
        | .ok (t', n') => spL A t' bs n'
      else .error 4
    else if k = 4 ∨ k = 5 ∨ k = 2 then .ok (.node k h (xs ++ a :: bs), n) else .error 3
/-- a term under a substitution, below so many nodes that bind -/
def ap : Nat → List T → Int → Nat → T → Nat → Res
  | 0, _, _, _, _, _ => .error 4
  | f + 1, L, sh, u, .node k h xs, n =>
    if 40000 < n + 1 then .error 4 else
    match apL (fun u' x m => ap f L sh u' x m) k xs.length u xs 0 (n + 1) with
    | .error e => .error e
    | .ok (args, n1) => if k = 4 ∧ (u : Int) ≤ h then spL (fun a x m => ap f [a] 0 0 x m) (mpT L sh (h - u) u) args n1 else .ok (.node k h args, n1)
abbrev sp (f : Nat) : T → List T → Nat → Res := spL (fun a x m => ap f [a] 0 0 x m)
/-- how great Heads may have become when so many nodes have been gone to -/
def btB (B : Int) (n : Nat) : Int := B + n * 1048576
theorem btB_mono {B : Int} {a b : Nat} (h : a ≤ b) : btB B a ≤ btB B b := by unfold btB; omega
abbrev bt (n : Nat) : Int := btB 562949953421312 n
theorem bt_mono {a b : Nat} (h : a ≤ b) : bt a ≤ bt b := btB_mono h
mutual
theorem okT_mono {M N : Int} (h : M ≤ N) : ∀ t : T, okT M t → okT N t
  | .node k g xs, ho => by
    rw [okT] at ho ⊢
    exact ⟨fun hk => ⟨(ho.1 hk).1, Int.le_trans (ho.1 hk).2 h⟩, okL_mono h xs ho.2⟩
theorem okL_mono {M N : Int} (h : M ≤ N) : ∀ xs : List T, okL M xs → okL N xs
  | [], _ => by rw [okL]; trivial
  | t :: ts, ho => by
    rw [okL] at ho ⊢
    exact ⟨okT_mono h t ho.1, okL_mono h ts ho.2⟩
end
theorem okL_mem {M : Int} : ∀ {xs : List T} {t : T}, okL M xs → t ∈ xs → okT M t
  | x :: xs, t, ho, h => by
    rw [okL] at ho
    rcases List.mem_cons.1 h with rfl | h
    · exact ho.1
    · exact okL_mem ho.2 h
theorem okL_app {M : Int} : ∀ {xs ys : List T}, okL M xs → okL M ys → okL M (xs ++ ys)
  | [], ys, _, h => h
  | x :: xs, ys, ho, h => by
    rw [okL] at ho
    rw [List.cons_append, okL]
    exact ⟨ho.1, okL_app ho.2 h⟩
theorem nodL_mem : ∀ {xs : List T} {t : T}, nodL xs = true → t ∈ xs → nodB t = true
  | x :: xs, t, ho, h => by
    rw [nodL, Bool.and_eq_true] at ho
    rcases List.mem_cons.1 h with rfl | h
    · exact ho.1
    · exact nodL_mem ho.2 h
theorem nodL_app : ∀ {xs ys : List T}, nodL xs = true → nodL ys = true → nodL (xs ++ ys) = true
  | [], ys, _, h => h
  | x :: xs, ys, ho, h => by
    rw [nodL, Bool.and_eq_true] at ho
    rw [List.cons_append, nodL, ho.1, nodL_app ho.2 h]
    rfl
theorem ndL_app : ∀ (xs ys : List T), ndL (xs ++ ys) = ndL xs + ndL ys
  | [], ys => by simp [ndL]
  | x :: xs, ys => by rw [List.cons_append, ndL, ndL, ndL_app xs ys]; omega
/-- a term on the way -/
structure Way (M : Int) (t : T) : Prop where
  nod : nodB t = true
  ok : okT M t
theorem Way.mono {M N : Int} (h : M ≤ N) {t : T} (w : Way M t) : Way N t := ⟨w.nod, okT_mono h t w.ok⟩
theorem Way.args {M : Int} {k h : Int} {xs : List T} (w : Way M (.node k h xs)) {x : T} (hx : x ∈ xs) : Way M x := by
  have h1 := w.nod
  have h2 := w.ok
  rw [nodB, Bool.and_eq_true] at h1
  rw [okT] at h2
  exact ⟨nodL_mem h1.2 hx, okL_mem h2.2 hx⟩
def WayL (M : Int) (xs : List T) : Prop := ∀ t ∈ xs, Way M t
theorem WayL.mono {M N : Int} (h : M ≤ N) {xs : List T} (w : WayL M xs) : WayL N xs := fun t ht => (w t ht).mono h
theorem WayL.nod {M : Int} : ∀ {xs : List T}, WayL M xs → nodL xs = true
  | [], _ => by rw [nodL]
  | x :: xs, w => by
    rw [nodL, (w x (List.mem_cons_self ..)).nod, WayL.nod (xs := xs) fun t ht => w t (List.mem_cons_of_mem _ ht)]
    rfl
theorem WayL.ok {M : Int} : ∀ {xs : List T}, WayL M xs → okL M xs
  | [], _ => by rw [okL]; trivial
  | x :: xs, w => by
    rw [okL]
    exact ⟨(w x (List.mem_cons_self ..)).ok, WayL.ok (xs := xs) fun t ht => w t (List.mem_cons_of_mem _ ht)⟩
/-- a substitution on the way: all its terms may be -/
structure Sub (M : Int) (L : List T) (sh : Int) : Prop where
  may : ∀ t ∈ L, myB t = true
  ok : ∀ t ∈ L, okT M t
  lo : 0 ≤ sh
  hi : sh ≤ 1048576
theorem Sub.mono {M N : Int} (h : M ≤ N) {L : List T} {sh : Int} (s : Sub M L sh) : Sub N L sh := ⟨s.may, fun t ht => okT_mono h t (s.ok t ht), s.lo, s.hi⟩
theorem way_node {M : Int} {k h h' : Int} {xs ys : List T} (w : Way M (.node k h xs)) (hl : ys.length = xs.length) (wy : WayL M ys) : Way M (.node k h ys) := by
  have h1 := w.nod
  have h2 := w.ok
  rw [nodB, Bool.and_eq_true] at h1
  rw [okT] at h2
  refine ⟨by rw [nodB, hl, h1.1, wy.nod]; rfl, ?_⟩
  rw [okT]
  exact ⟨h2.1, wy.ok⟩
theorem getD_mem {L : List T} {i : Nat} (d : T) (h : i < L.length) : L.getD i d ∈ L := by
  rw [List.getD_eq_getElem?_getD, List.getElem?_eq_getElem h, Option.getD_some]
  exact List.getElem_mem h
theorem way_mp {M sh fr : Int} {L : List T} {u : Nat} (s : Sub M L sh) (h0 : 0 ≤ fr) (hfr : fr + u + sh ≤ M) : Way (M + u) (mpT L sh fr u) ∧ nd (mpT L sh fr u) ≤ 4000 := by
  unfold mpT
  split
  · rename_i hle
    refine ⟨⟨?_, ?_⟩, ?_⟩
    · have hk : 0 ≤ fr - (L.length : Int) + sh + u := by have := s.lo; omega
      simp [nodB, nodL, okN, hk]
    · rw [okT, okL]
      have := s.lo
      exact ⟨fun _ => ⟨by omega, by omega⟩, trivial⟩
    · simp [nd, ndL]
  · rename_i hle
    have hm := getD_mem (.node 0 0 []) (show L.length - 1 - fr.toNat < L.length by omega)
    obtain ⟨h1, h2, h3⟩ := (myB_iff _).1 (s.may _ hm)
    exact ⟨⟨nodB_up (by omega) _ _ h1, okT_up (by omega) _ _ (s.ok _ hm)⟩, by rw [nd_up]; exact h2⟩
/-- what a run tells -/
def Good (B : Int) (n : Nat) (r : Res) : Prop := ∀ t' n', r = .ok (t', n') → n ≤ n' ∧ n' ≤ 40000 ∧ Way (btB B n') t' ∧ nd t' ≤ 4001 * (n' - n)
theorem apL_good {B : Int} {A : Nat → T → Nat → Res} {k sh : Int} {m u n0 : Nat} (hA : ∀ v x n, n0 ≤ n → v ≤ n → n ≤ 40000 → Way (btB B n - sh) x → Good B n (A v x n)) :
    ∀ (xs : List T) (i n : Nat), n0 ≤ n → u + 1 ≤ n → n ≤ 40000 → WayL (btB B n - sh) xs → ∀ ys n', apL A k m u xs i n = .ok (ys, n') → n ≤ n' ∧ n' ≤ 40000 ∧ ys.length = xs.length ∧ WayL (btB B n') ys ∧ ndL ys ≤ 4001 * (n' - n) := by
  intro xs
  induction xs with
  | nil =>
    intro i n _ _ hn _ ys n' h
    rw [apL] at h
    cases h
    exact ⟨Nat.le_refl _, hn, rfl, (fun t ht => by cases ht), by simp [ndL]⟩
  | cons x xs ih =>
    intro i n h0 hu hn hw ys n' h
    rw [apL] at h
    have hb := bdn_le k m i
    have g := hA (u + bdn k m i) x n h0 (by omega) hn (hw x (List.mem_cons_self ..))
    split at h
    · cases h
    · rename_i y n1 h1
      obtain ⟨g1, g2, g3, g4⟩ := g y n1 h1
      split at h
      · cases h
      · rename_i zs n2 h2
        cases h
        obtain ⟨e1, e2, e3, e4, e5⟩ := ih (i + 1) n1 (by omega) (by omega) g2 (fun t ht => (hw t (List.mem_cons_of_mem _ ht)).mono (by have := btB_mono (B := B) g1; omega)) zs n' h2
        refine ⟨by omega, e2, by rw [List.length_cons, List.length_cons, e3], fun t ht => ?_, ?_⟩
        · rcases List.mem_cons.1 ht with rfl | ht
          · exact g3.mono (btB_mono e1)
          · exact e4 t ht
        · rw [ndL]; omega
/-- what is in a Lam -/
theorem lam_one {M k h : Int} {xs : List T} (hk : k = 3) (w : Way M (.node k h xs)) : ∃ x, xs = [x] := by
  have h1 := w.nod
  rw [nodB, Bool.and_eq_true] at h1
  have hl : xs.length = 1 := by
    rcases okN_cases h1.1 with ⟨e, _⟩ | ⟨e, _⟩ | ⟨e, _, he⟩ | ⟨e, he⟩ | ⟨e, he⟩ | ⟨e, he⟩ | ⟨e, he⟩ <;> first | exact he | omega
  exact List.length_eq_one_iff.1 hl
theorem lam_in {M k h : Int} {xs : List T} (hk : k = 3) (w : Way M (.node k h xs)) : Way M (xs.headD (.node 0 0 [])) := by
  obtain ⟨x, rfl⟩ := lam_one hk w
  exact w.args (List.mem_cons_self ..)
theorem spL_good {B : Int} {A : T → T → Nat → Res} (hA : ∀ a x n, n ≤ 40000 → myB a = true → okT (btB B n) a → Way (btB B n) x → Good B n (A a x n)) :
    ∀ (bs : List T) (t : T) (n : Nat), n ≤ 40000 → Way (btB B n) t → WayL (btB B n) bs → ∀ t' n', spL A t bs n = .ok (t', n') → n ≤ n' ∧ n' ≤ 40000 ∧ Way (btB B n') t' ∧ nd t' ≤ nd t + ndL bs + 4001 * (n' - n) := by
  intro bs
  induction bs with
  | nil =>
    intro t n hn ht _ t' n' h
    rw [spL] at h
    cases h
    exact ⟨Nat.le_refl _, hn, ht, by omega⟩
  | cons a bs ih =>
    rintro ⟨k, h, xs⟩ n hn ht hw t' n' hr
    rw [spL] at hr
    by_cases hk : k = 3
    · rw [if_pos hk] at hr
      by_cases hm : myB a = true
      · rw [if_pos hm] at hr
        have g := hA a (xs.headD (.node 0 0 [])) n hn hm (hw a (List.mem_cons_self ..)).ok (lam_in hk ht)
        split at hr
        · cases hr
        · rename_i t1 n1 h1
          obtain ⟨g1, g2, g3, g4⟩ := g t1 n1 h1
          obtain ⟨e1, e2, e3, e4⟩ := ih t1 n1 g2 g3 (fun b hb => (hw b (List.mem_cons_of_mem _ hb)).mono (btB_mono g1)) t' n' hr
          refine ⟨by omega, e2, e3, ?_⟩
          rw [ndL]
          omega
      · rw [if_neg hm] at hr
        cases hr
    · rw [if_neg hk] at hr
      split at hr
      · rename_i hk2
        cases hr
        refine ⟨Nat.le_refl _, hn, ⟨?_, ?_⟩, ?_⟩
        · have h1 := ht.nod
          rw [nodB, Bool.and_eq_true] at h1
          rw [nodB, Bool.and_eq_true]
          refine ⟨?_, nodL_app h1.2 hw.nod⟩
          rcases okN_cases h1.1 with ⟨e, _⟩ | ⟨e, _⟩ | ⟨e, _⟩ | ⟨e, he⟩ | ⟨e, he⟩ | ⟨e, he⟩ | ⟨e, he⟩ <;> first | omega | (subst e; simp [okN, he])
        · have h2 := ht.ok
          rw [okT] at h2 ⊢
          exact ⟨h2.1, okL_app h2.2 hw.ok⟩
        · rw [nd, nd, ndL_app]; omega
      · cases hr
theorem ap_good {B : Int} : ∀ (f : Nat) (L : List T) (sh : Int) (u : Nat) (t : T) (n : Nat), u ≤ n → n ≤ 40000 → Sub (btB B n) L sh → Way (btB B n - sh) t → Good B n (ap f L sh u t n) := by
  intro f
  induction f with
  | zero => exact fun L sh u t n _ _ _ _ t' n' h => by rw [ap] at h; cases h
  | succ f ih =>
    rintro L sh u ⟨k, h, xs⟩ n hu hn hs ht t' n' hr
    rw [ap] at hr
    by_cases hw : 40000 < n + 1
    · rw [if_pos hw] at hr; cases hr
    · rw [if_neg hw] at hr
      have hbt : btB B n ≤ btB B (n + 1) := btB_mono (by omega)
      split at hr
      · cases hr
      · rename_i args n1 h1
        have hL : n + 1 ≤ n1 ∧ n1 ≤ 40000 ∧ args.length = xs.length ∧ WayL (btB B n1) args ∧ ndL args ≤ 4001 * (n1 - (n + 1)) := by
          exact apL_good (n0 := n) (sh := sh) (fun v x m hv hm1 hm2 hx => ih L sh v x m hm1 hm2 (hs.mono (btB_mono hv)) hx) xs 0 (n + 1) (by omega) (by omega) (by omega) (fun x hx => (ht.args hx).mono (by omega)) args n1 h1
        obtain ⟨e1, e2, e3, e4, e5⟩ := hL
        have hbt1 : btB B (n + 1) ≤ btB B n1 := btB_mono e1
        by_cases hc : k = 4 ∧ (u : Int) ≤ h
        · rw [if_pos hc] at hr
          have hh := ht.ok
          rw [okT] at hh
          have hh := hh.1 hc.1
          obtain ⟨m1, m2⟩ := way_mp (fr := h - u) (u := u) hs (by omega) (by omega)
          have hmid : btB B n + u ≤ btB B n1 := by unfold btB; omega
          obtain ⟨g1, g2, g3, g4⟩ := spL_good (A := fun a x m => ap f [a] 0 0 x m) (fun a x m hm ha hoa hx => ih [a] 0 0 x m (Nat.zero_le _) hm
            ⟨fun t ht => by rw [List.mem_singleton.1 ht]; exact ha, fun t ht => by rw [List.mem_singleton.1 ht]; exact hoa, by omega, by omega⟩ (by rw [Int.sub_zero]; exact hx)) args _ n1 e2 (m1.mono hmid) e4 t' n' hr
          refine ⟨by omega, g2, g3, by omega⟩
        · rw [if_neg hc] at hr
          cases hr
          refine ⟨by omega, e2, way_node (h' := h) (ht.mono (by have := hs.lo; omega)) e3 e4, ?_⟩
          rw [nd]
          omega
end Go.Proofs.YtmkahbbcagfbhaaGreatDoor
/-
  What calls of package subst leave as it was; terms in memory beside blocks that are written; the map of package subst, keyed by two ints. No statement is proved here.
-/
namespace Go.Proofs.YtmkahbbcagfbhaaGreatDoor
open Go.ChangeShapes Go.WideShapes Go.ChangeAt Go.RowKit
set_option linter.unusedVariables false
set_option maxRecDepth 100000
/-- all blocks are as they were but some, and new ones -/
structure Fr (X : Nat → Prop) (w w' : World) : Prop where
  os : w'.os = w.os
  tape : w'.tape = w.tape
  output : w'.output = w.output
  size : w.heap.size ≤ w'.heap.size
  block : ∀ k, k < w.heap.size → ¬ X k → w'.heap[k]? = w.heap[k]?
theorem Fr.refl (X : Nat → Prop) (w : World) : Fr X w w := ⟨rfl, rfl, rfl, Nat.le_refl _, fun _ _ _ => rfl⟩
theorem Fr.of {X : Nat → Prop} {B : Nat} {w w' : World} (h : Below B w w') (hB : ∀ k, k < w.heap.size → ¬ X k → k < B) : Fr X w w' := ⟨h.os, h.tape, h.output, h.size, fun k hk hx => h.block k (hB k hk hx)⟩
theorem Fr.below {X : Nat → Prop} {w w' : World} (h : Below w.heap.size w w') : Fr X w w' := Fr.of h fun _ hk _ => hk
/-- the second one's blocks are the first one's, or new -/
theorem Fr.trans {X Y : Nat → Prop} {a b c : World} (h : Fr X a b) (k : Fr Y b c) (hy : ∀ i, i < a.heap.size → Y i → X i) : Fr X a c :=
  ⟨k.os.trans h.os, k.tape.trans h.tape, k.output.trans h.output, Nat.le_trans h.size k.size, fun i hi hx => (k.block i (Nat.lt_of_lt_of_le hi h.size) fun e => hx (hy i hi e)).trans (h.block i hi hx)⟩
theorem Fr.then {X : Nat → Prop} {a b c : World} (h : Fr X a b) (k : Below b.heap.size b c) : Fr X a c := h.trans (Fr.below (X := X) k) fun _ _ e => e
theorem Fr.mono {X Y : Nat → Prop} {w w' : World} (h : Fr X w w') (hy : ∀ i, i < w.heap.size → X i → Y i) : Fr Y w w' :=
  ⟨h.os, h.tape, h.output, h.size, fun i hi hx => h.block i hi fun e => hx (hy i hi e)⟩
/-- all of those blocks are new for an earlier world -/
theorem Fr.to_below {X : Nat → Prop} {w w' : World} {B : Nat} (h : Fr X w w') (hx : ∀ i, X i → B ≤ i) (hB : B ≤ w.heap.size) : Below B w w' :=
  ⟨h.os, h.tape, h.output, h.size, fun i hi => h.block i (by omega) fun e => by have := hx i e; omega⟩
/-- a term in memory, read elsewhere -/
theorem RdF.moveX {ok ok' : Nat → Prop} {w w' : World} (hk : ∀ b, ok b → b < w.heap.size → ok' b ∧ w'.heap[b]? = w.heap[b]?) : ∀ (t : T) (v : Value), RdF ok w t v → RdF ok' w' t v := by
  refine T.ind fun k h xs ih v hv => ?_
  obtain ⟨A, n, c, rfl, h1, h2, h3, h4, h5, h6⟩ := RdF_node.1 hv
  refine RdF_node.2 ⟨A, n, c, rfl, h1, h2, h3, h4, h5, fun i t ht => ?_⟩
  obtain ⟨b, o, v0, v1, v2, rfl, hb, c0, c1, c2, hr⟩ := h6 i t ht
  have e : ∀ j, w'.cell? ⟨b, j, none⟩ = w.cell? ⟨b, j, none⟩ := fun j => World.cell?_of_block (w := w) (hk b hb (cell_lt c0)).2
  exact ⟨b, o, v0, v1, v2, rfl, (hk b hb (cell_lt c0)).1, (e _).trans c0, (e _).trans c1, (e _).trans c2, ih t (List.mem_of_getElem? ht) _ hr⟩
theorem RdFAt.moveX {ok ok' : Nat → Prop} {w w' : World} (hk : ∀ b, ok b → b < w.heap.size → ok' b ∧ w'.heap[b]? = w.heap[b]?) {A : Option Addr} {j : Nat} {t : T} (h : RdFAt ok w A j t) : RdFAt ok' w' A j t := by
  obtain ⟨b, o, v0, v1, v2, rfl, hb, c0, c1, c2, hr⟩ := h
  have e : ∀ j, w'.cell? ⟨b, j, none⟩ = w.cell? ⟨b, j, none⟩ := fun j => World.cell?_of_block (w := w) (hk b hb (cell_lt c0)).2
  exact ⟨b, o, v0, v1, v2, rfl, (hk b hb (cell_lt c0)).1, (e _).trans c0, (e _).trans c1, (e _).trans c2, RdF.moveX hk t _ hr⟩
theorem RdFAt.full {ok : Nat → Prop} {w : World} {A : Option Addr} {j : Nat} {t : T} (h : RdFAt ok w A j t) :
    ∃ b o k h A' n c, A = some ⟨b, o, none⟩ ∧ w.cell? ⟨b, o + j * 3, none⟩ = some (.int .i64 k) ∧ w.cell? ⟨b, o + j * 3 + 1, none⟩ = some (.int .i64 h) ∧
      w.cell? ⟨b, o + j * 3 + 2, none⟩ = some (.slice A' n c) ∧ RdF ok w t (.agg #[.int .i64 k, .int .i64 h, .slice A' n c]) := by
  obtain ⟨b, o, v0, v1, v2, rfl, _, c0, c1, c2, hr⟩ := h
  obtain ⟨k, h, xs⟩ := t
  have hr' := hr
  obtain ⟨A', n, c, e, _⟩ := RdF_node.1 hr
  have e' : v0 = .int .i64 k ∧ v1 = .int .i64 h ∧ v2 = .slice A' n c := by simpa using e
  obtain ⟨rfl, rfl, rfl⟩ := e'
  exact ⟨b, o, k, h, A', n, c, rfl, c0, c1, c2, hr'⟩
/-! ### The map -/
abbrev plK (a b : Int) : Value := .agg #[.int .i64 a, .int .i64 b]
theorem placeLaid : laidOutB Tryz.prog = true := by kernel_rfl
theorem placeRow : (177 : TypeId) < Tryz.prog.types.size := of_decide_eq_true (by kernel_rfl)
theorem placeWide : (match Tryz.prog.underlying 177 with | some (.array _ _) | some (.struct _) => true | _ => false) = true := by kernel_rfl
theorem placeLaw : WideMaps.KeyLaw Tryz.prog 177 := deep_law_laid placeLaid (m := 2) (by omega) placeRow (by kernel_rfl) placeWide
theorem placeKey {a b : Int} (ha : (Lit.int .i64 a).wf = true) (hb : (Lit.int .i64 b).wf = true) : ∃ l, keyOf Tryz.prog 177 (plK a b) = some l := by
  obtain ⟨m, hm⟩ : ∃ m, Tryz.prog.types.size = m + 1 := ⟨Tryz.prog.types.size - 1, by have : 0 < Tryz.prog.types.size := Nat.lt_of_le_of_lt (Nat.zero_le _) placeRow; omega⟩
  have h1 : Tryz.prog.keyType 177 = true := by kernel_rfl
  have h2 : Tryz.prog.cellsOf 177 = 2 := by kernel_rfl
  have h3 : Tryz.prog.cellsOf 3 = 1 := by kernel_rfl
  have h4 : (plK a b).formed Tryz.prog 177 = true := by simp [Value.formed, Tryz.underlying177, h2]
  unfold keyOf
  rw [Tryz.underlying177, hm]
  simp only [h1, h4, Bool.and_self, if_true]
  simp [Program.keyLits, Tryz.underlying177, Tryz.underlying3, h2, h3, ha, hb, Value.cells]
/-- the keys are two ints -/
def PlKeys (es : Array MapEntry) : Prop := ∀ x ∈ es.toList, ∃ a b : Int, x.key = plK a b ∧ (Lit.int .i64 a).wf = true ∧ (Lit.int .i64 b).wf = true
theorem PlKeys.keyed {es : Array MapEntry} (h : PlKeys es) : ∀ e ∈ es.toList, ∃ l, keyOf Tryz.prog 177 e.key = some l := fun e he => by
  obtain ⟨a, b, hk, ha, hb⟩ := h e he
  rw [hk]
  exact placeKey ha hb
abbrev zT : Value := .agg #[.int .i64 0, .int .i64 0, .slice none 0 0]
theorem look_nil (a b : Int) (ha : (Lit.int .i64 a).wf = true) (hb : (Lit.int .i64 b).wf = true) (w : World) :
    (Instr.lookup 142 (.map none) (plK a b) true).run Tryz.prog w = .ok (.tuple #[zT, .bool false]) w := by
  obtain ⟨l, hl⟩ := placeKey ha hb
  have h1 : (Instr.findKey 177 (plK a b) []).run Tryz.prog w = .ok none w := by
    rcases placeLaw.find w hl [] (fun e he => by cases he) with ⟨h1, _⟩ | ⟨j, e, _, h2, _⟩
    · exact h1
    · simp at h2
  simp [Instr.lookup, run_underlying Tryz.underlying142, placeLaw.check w _ hl, h1, Result.andThen]
theorem look_map {es : Array MapEntry} {cl pm : Nat} {a b : Int} (ha : (Lit.int .i64 a).wf = true) (hb : (Lit.int .i64 b).wf = true) {w : World} (hm : w.heap[pm]? = some (.map es cl)) (hk : PlKeys es) :
    ((Instr.lookup 142 (.map (some pm)) (plK a b) true).run Tryz.prog w = .ok (.tuple #[zT, .bool false]) w ∧ ∀ x ∈ es.toList, x.key ≠ plK a b) ∨
    ∃ e ∈ es.toList, e.key = plK a b ∧ (Instr.lookup 142 (.map (some pm)) (plK a b) true).run Tryz.prog w = .ok (.tuple #[e.val, .bool true]) w := by
  obtain ⟨l, hl⟩ := placeKey ha hb
  rcases placeLaw.find w hl es.toList hk.keyed with ⟨h1, h2⟩ | ⟨j, e, h1, h2, h3⟩
  · exact .inl ⟨by simp [Instr.lookup, run_underlying Tryz.underlying142, MapKept.run_getObj_map hm, placeLaw.check w _ hl, h1, Result.andThen], h2⟩
  · exact .inr ⟨e, List.mem_of_getElem? h2, h3, by simp [Instr.lookup, run_underlying Tryz.underlying142, MapKept.run_getObj_map hm, placeLaw.check w _ hl, h1, Result.andThen]⟩
/-- a key that is not there is put in -/
theorem put_map {es : Array MapEntry} {cl pm : Nat} {a b : Int} (ha : (Lit.int .i64 a).wf = true) (hb : (Lit.int .i64 b).wf = true) {w : World} (hm : w.heap[pm]? = some (.map es cl)) (hk : PlKeys es) (hno : ∀ x ∈ es.toList, x.key ≠ plK a b) (v : Value) :
    (Instr.mapUpdate 142 (.map (some pm)) (plK a b) v).run Tryz.prog w = .ok () { w with heap := w.heap.setIfInBounds pm (.map (es.push ⟨plK a b, v, cl⟩) (cl + 1)) } := by
  obtain ⟨l, hl⟩ := placeKey ha hb
  rcases placeLaw.find w hl es.toList hk.keyed with ⟨h1, h2⟩ | ⟨j, e, h1, h2, h3⟩
  · simp [Instr.mapUpdate, run_underlying Tryz.underlying142, MapKept.run_getObj_map hm, placeLaw.check w false hl, h1, MapKept.run_setObj_map _ hm, Result.andThen]
  · exact absurd h3 (hno e (List.mem_of_getElem? h2))
/-- terms that lie beside the blocks of X -/
abbrev RX (X : Nat → Prop) (w : World) (t : T) (v : Value) : Prop := RdF (fun b => ¬ X b) w t v
/-- a list of such, in a slice -/
structure RXL (X : Nat → Prop) (w : World) (xs : List T) (A : Option Addr) (n c : Nat) : Prop where
  len : xs.length = n
  le : n ≤ c
  cap : c ≤ maxLen
  at_ : ∀ i t, xs[i]? = some t → RdFAt (fun b => ¬ X b) w A i t
/-- what the map of a scope holds is what it should -/
structure MapOk (X : Nat → Prop) (w : World) (L : List T) (es : Array MapEntry) : Prop where
  keys : PlKeys es
  one : ∀ x ∈ es.toList, ∀ y ∈ es.toList, x.key = y.key → x.val = y.val
  ok : ∀ x ∈ es.toList, ∀ (fr : Int) (u : Nat), x.key = plK fr u → 0 ≤ fr → fr < L.length → RX X w (upT u (L.getD (L.length - 1 - fr.toNat) (.node 0 0 [])) 0) x.val
/-- a scope's found -/
def Found (X : Nat → Prop) (w : World) (L : List T) (mv : Value) : Prop :=
  mv = .map none ∨ ∃ pm es cl, mv = .map (some pm) ∧ X pm ∧ w.heap[pm]? = some (.map es cl) ∧ MapOk X w L es
/-- a scope in memory, in block ps -/
structure Sc (X : Nat → Prop) (w : World) (ps : Nat) (L : List T) (sh : Int) (A : Option Addr) (n c : Nat) (mv : Value) : Prop where
  box : Box w ps 144 #[.slice A n c, .int .i64 sh, mv]
  own : X ps
  bnd : ∀ b, X b → b < w.heap.size
  list : RXL X w L A n c
  found : Found X w L mv
/-- the set of blocks that are written may have grown by new ones -/
structure Adv (X : Nat → Prop) (w : World) (X' : Nat → Prop) (w' : World) : Prop where
  size : w.heap.size ≤ w'.heap.size
  more : ∀ b, X b → X' b
  new : ∀ b, b < w.heap.size → X' b → X b
  block : ∀ b, b < w.heap.size → ¬ X b → w'.heap[b]? = w.heap[b]?
theorem Adv.refl (X : Nat → Prop) (w : World) : Adv X w X w := ⟨Nat.le_refl _, fun _ h => h, fun _ _ h => h, fun _ _ _ => rfl⟩
theorem Adv.trans {X Y Z : Nat → Prop} {a b c : World} (h : Adv X a Y b) (k : Adv Y b Z c) : Adv X a Z c :=
  ⟨Nat.le_trans h.size k.size, fun i e => k.more i (h.more i e), fun i hi e => h.new i hi (k.new i (Nat.lt_of_lt_of_le hi h.size) e),
    fun i hi e => (k.block i (Nat.lt_of_lt_of_le hi h.size) fun e' => e (h.new i hi e')).trans (h.block i hi e)⟩
theorem Adv.below {X : Nat → Prop} {w w' : World} (h : Below w.heap.size w w') : Adv X w X w' := ⟨h.size, fun _ h => h, fun _ _ h => h, fun b hb _ => h.block b hb⟩
theorem Adv.fr {X Y : Nat → Prop} {w w' : World} (h : Fr Y w w') (hy : ∀ i, i < w.heap.size → Y i → X i) : Adv X w X w' :=
  ⟨h.size, fun _ h => h, fun _ _ h => h, fun b hb e => h.block b hb fun e' => e (hy b hb e')⟩
theorem RX.adv {X X' : Nat → Prop} {w w' : World} {t : T} {v : Value} (h : RX X w t v) (a : Adv X w X' w') : RX X' w' t v :=
  RdF.moveX (fun b hb hl => ⟨fun e => hb (a.new b hl e), a.block b hl hb⟩) _ _ h
theorem RX.mono {X Y : Nat → Prop} {w : World} {t : T} {v : Value} (h : RX X w t v) (hy : ∀ i, i < w.heap.size → Y i → X i) : RX Y w t v :=
  RdF.moveX (fun b hb hl => ⟨fun e => hb (hy b hl e), rfl⟩) _ _ h
theorem RX.rd {X : Nat → Prop} {w : World} {t : T} {v : Value} (h : RX X w t v) : Rd w t v := RdF.rd _ _ h
theorem RXL.adv {X X' : Nat → Prop} {w w' : World} {xs : List T} {A : Option Addr} {n c : Nat} (h : RXL X w xs A n c) (a : Adv X w X' w') : RXL X' w' xs A n c :=
  ⟨h.len, h.le, h.cap, fun i t ht => RdFAt.moveX (fun b hb hl => ⟨fun e => hb (a.new b hl e), a.block b hl hb⟩) (h.at_ i t ht)⟩
theorem RXL.mono {X Y : Nat → Prop} {w : World} {xs : List T} {A : Option Addr} {n c : Nat} (h : RXL X w xs A n c) (hy : ∀ i, i < w.heap.size → Y i → X i) : RXL Y w xs A n c :=
  ⟨h.len, h.le, h.cap, fun i t ht => RdFAt.moveX (fun b hb hl => ⟨fun e => hb (hy b hl e), rfl⟩) (h.at_ i t ht)⟩
theorem MapOk.adv {X X' : Nat → Prop} {w w' : World} {L : List T} {es : Array MapEntry} (h : MapOk X w L es) (a : Adv X w X' w') : MapOk X' w' L es :=
  ⟨h.keys, h.one, fun x hx fr u hk h0 h1 => (h.ok x hx fr u hk h0 h1).adv a⟩
/-- a scope is as it was where its own blocks are -/
theorem Sc.adv {X X' : Nat → Prop} {w w' : World} {ps : Nat} {L : List T} {sh : Int} {A : Option Addr} {n c : Nat} {mv : Value} (h : Sc X w ps L sh A n c mv) (a : Adv X w X' w')
    (h1 : w'.heap[ps]? = w.heap[ps]?) (h2 : ∀ pm, mv = .map (some pm) → w'.heap[pm]? = w.heap[pm]?) (hX : ∀ b, X' b → b < w'.heap.size) : Sc X' w' ps L sh A n c mv := by
  refine ⟨h1.trans h.box, a.more _ h.own, hX, h.list.adv a, ?_⟩
  rcases h.found with rfl | ⟨pm, es, cl, rfl, hx, hm, hok⟩
  · exact .inl rfl
  · exact .inr ⟨pm, es, cl, rfl, a.more _ hx, (h2 pm rfl).trans hm, hok.adv a⟩
/-- the map's block is there -/
theorem Sc.mapLt {X : Nat → Prop} {w : World} {ps : Nat} {L : List T} {sh : Int} {A : Option Addr} {n c : Nat} {mv : Value} (h : Sc X w ps L sh A n c mv) {pm : Nat} (e : mv = .map (some pm)) : pm < w.heap.size := by
  rcases h.found with e1 | ⟨pm', es, cl, e1, _, hm, _⟩
  · rw [e] at e1; cases e1
  · rw [e] at e1; cases e1
    exact (Array.getElem?_eq_some_iff.1 hm).1
theorem Box.fr {X : Nat → Prop} {w w' : World} {b : Nat} {ty : TypeId} {cs : Array Value} (h : Box w b ty cs) (hf : Fr X w w') (hx : ¬ X b) : Box w' b ty cs := (hf.block b h.lt hx).trans h
theorem Box.put3 {w : World} {p : Nat} {ty : TypeId} {x0 x1 x2 : Value} (h : Box w p ty #[x0, x1, x2]) (u0 u1 u2 : Value) : Box (((w.setCell ⟨p, 0, none⟩ u0).setCell ⟨p, 1, none⟩ u1).setCell ⟨p, 2, none⟩ u2) p ty #[u0, u1, u2] := by
  have := ((h.setAt 0 u0).setAt 1 u1).setAt 2 u2
  simpa using this
theorem Fr.set3 {X : Nat → Prop} {w w' : World} (h : Fr X w w') {a : Nat} (ha : a < w.heap.size → X a) (u0 u1 u2 : Value) : Fr X w (((w'.setCell ⟨a, 0, none⟩ u0).setCell ⟨a, 1, none⟩ u1).setCell ⟨a, 2, none⟩ u2) :=
  ⟨h.os, h.tape, h.output, by simpa [World.setCell] using h.size, fun k hk hx => (heap_other3 _ _ _ _ _ _ (fun e => hx (by subst e; exact ha hk))).trans (h.block k hk hx)⟩
theorem Adv.set3 {X : Nat → Prop} {w : World} {a : Nat} (ha : X a) (u0 u1 u2 : Value) : Adv X w X (((w.setCell ⟨a, 0, none⟩ u0).setCell ⟨a, 1, none⟩ u1).setCell ⟨a, 2, none⟩ u2) :=
  ⟨by simp [World.setCell], fun _ h => h, fun _ _ h => h, fun k hk hx => heap_other3 _ _ _ _ _ _ (fun e => hx (by subst e; exact ha))⟩
theorem size_set3 (w : World) (a : Nat) (u0 u1 u2 : Value) : (((w.setCell ⟨a, 0, none⟩ u0).setCell ⟨a, 1, none⟩ u1).setCell ⟨a, 2, none⟩ u2).heap.size = w.heap.size := by simp [World.setCell]
end Go.Proofs.YtmkahbbcagfbhaaGreatDoor
/-
  Contracts of package subst's small functions: variable, bound, allMay, may. No statement is proved here.
-/
namespace Go.Proofs.YtmkahbbcagfbhaaGreatDoor
open Go.ChangeShapes Go.WideShapes Go.ChangeAt Go.RowKit
set_option linter.unusedVariables false
theorem varC (h : Int) (w : World) : Calls Tryz.prog 129 #[.int .i64 h] w fun e w' => e = .returned (.agg #[.int .i64 4, .int .i64 h, .slice none 0 0]) ∧ Below w.heap.size w w' := by
  go_enter Tryz.func129, Tryz.ntmps129
  go_wp2_with fail
  refine bodyPost_ret (v := .agg #[.int .i64 4, .int .i64 h, .slice none 0 0]) (by simp [results, Tryz.results129, go_sem]) rfl ?_
  exact ⟨rfl, (Below.refl _ _).alloc (Nat.le_refl _) _⟩
set_option maxHeartbeats 400000 in
theorem allMayC (xs : List T) (A : Option Addr) (n c : Nat) (w : World) (hn : xs.length = n) (hc : n ≤ c) (hm : c ≤ maxLen) (hx : ∀ i t, xs[i]? = some t → RdAt w A i t) :
    Calls Tryz.prog 115 #[.slice A n c] w fun e w' => e = .returned (.bool (xs.all myB)) ∧ Below w.heap.size w w' := by
  unfold maxLen at hm
  have HN := Lib.hid hn; clear hn
  have HX := Lib.hid hx; clear hx
  go_enter Tryz.func115, Tryz.ntmps115
  go_wp2_with fail
  go_loopw [7] (fun i wr => ∃ (j : Nat), j ≤ n ∧ i = .int .i64 j ∧ Hid ((xs.drop j).all myB = xs.all myB) ∧ Below w.heap.size w wr) (fun i _ => n - (intOf i).toNat)
  case atStart => exact ⟨0, Nat.zero_le _, rfl, Lib.hid (by simp), Below.refl _ _⟩
  case round =>
    obtain ⟨j, hj, rfl, HS, hb⟩ := hrel
    by_cases hlt : j < n
    · obtain ⟨t, ht⟩ := at_of HN.out hlt
      obtain ⟨b, o, k2, h2, A2, n2, c2', rfl, c0, c1, c2, hr⟩ := (RdAt.keep hb (HX.out j t ht)).full
      have HT := Lib.hid ht; clear ht
      have hi0 : (0 : Int) ≤ j := by omega
      have hi1 : (j : Int) < n := by omega
      go_wp2_with fail
      have hbA : Below wr.heap.size wr (wr.alloc (.cells #[.int .i64 k2, .int .i64 h2, .slice A2 n2 c2'] 36)) := (Below.refl _ wr).alloc (Nat.le_refl _) _
      generalize wr.alloc (.cells #[.int .i64 k2, .int .i64 h2, .slice A2 n2 c2'] 36) = Wa at *
      clear c0 c1 c2
      refine (myC t _ _ (Rd.keep hbA _ _ hr)).mono ?_
      have HS' := HS.out
      rw [drop_at HT.out, List.all_cons] at HS'
      have HS := Lib.hid HS'; clear HS'
      generalize myB t = r at *
      rintro e w1 ⟨rfl, hb1⟩
      have hbw : Below w.heap.size w w1 := hb.trans ((hbA.trans (hb1.mono hbA.size)).mono hb.size)
      clear hb1 hbA
      cases r
      · go_wp2_with fail
        go_ret
        exact ⟨ret_bool (by simpa using HS.out), hbw⟩
      · go_wp2_with fail
        go_roundw
        case rel => exact ⟨j + 1, by omega, by go_num, Lib.hid (by simpa using HS.out), hbw⟩
        case measure => simp [intOf]; omega
    · go_wp2_with fail
      go_ret
      exact ⟨ret_bool (by have := HS.out; rw [drop_all HN.out (by omega)] at this; exact this), hb⟩
/-- may a substitution be? -/
def sbB (L : List T) (sh : Int) : Bool := decide (L.length ≤ 200) && decide (0 ≤ sh) && decide (sh ≤ 1048576) && L.all myB
set_option maxHeartbeats 800000 in
theorem sbMayC (L : List T) (A : Option Addr) (n c : Nat) (sh : Int) (w : World) (hn : L.length = n) (hc : n ≤ c) (hm : c ≤ maxLen) (hx : ∀ i t, L[i]? = some t → RdAt w A i t) :
    Calls Tryz.prog 103 #[.agg #[.slice A n c, .int .i64 sh]] w fun e w' => e = .returned (.bool (sbB L sh)) ∧ Below w.heap.size w w' := by
  have hb : Below w.heap.size w (w.alloc (.cells #[.slice A n c, .int .i64 sh] 129)) := (Below.refl _ _).alloc (Nat.le_refl _) _
  have E : sbB L sh = (decide (n ≤ 200) && decide (0 ≤ sh) && decide (sh ≤ 1048576) && L.all myB) := by rw [sbB, hn]
  have HA : Hid (∀ W, Below w.heap.size w W → Calls Tryz.prog 115 #[.slice A n c] W fun e w' => e = .returned (.bool (L.all myB)) ∧ Below W.heap.size W w') := Lib.hid fun W h => allMayC L A n c W hn hc hm fun i t ht => RdAt.keep h (hx i t ht)
  unfold maxLen at hm
  rw [E]
  have HE := Lib.hid E; clear E hx hn
  cases h1 : decide (n ≤ 200)
  · have h1' : decide ((n : Int) ≤ 200) = false := by simp at h1; simp; omega
    go_enter Tryz.func103, Tryz.ntmps103
    go_wp2_with fail
    go_ret
    exact ⟨rfl, hb⟩
  have h1' : decide ((n : Int) ≤ 200) = true := by simp at h1; simp; omega
  cases h2 : decide (0 ≤ sh)
  · go_enter Tryz.func103, Tryz.ntmps103
    go_wp2_with fail
    go_ret
    exact ⟨rfl, hb⟩
  cases h3 : decide (sh ≤ 1048576)
  · go_enter Tryz.func103, Tryz.ntmps103
    go_wp2_with fail
    go_ret
    exact ⟨rfl, hb⟩
  go_enter Tryz.func103, Tryz.ntmps103
  go_wp2_with fail
  refine (HA.out _ hb).mono ?_
  rintro e w1 ⟨rfl, hb1⟩
  go_wp2_with fail
  go_ret
  exact ⟨by simp, hb.trans (hb1.mono hb.size)⟩
end Go.Proofs.YtmkahbbcagfbhaaGreatDoor
/-
  Contracts of package subst's keep and maps. No statement is proved here.
-/
namespace Go.Proofs.YtmkahbbcagfbhaaGreatDoor
open Go.ChangeShapes Go.WideShapes Go.ChangeAt Go.RowKit
set_option linter.unusedVariables false
set_option maxRecDepth 100000 in
set_option maxHeartbeats 1000000 in
theorem keepMap (k h fr : Int) (u : Nat) (AT : Option Addr) (nT cT : Nat) (hf : (Lit.int .i64 fr).wf = true) (hu : (Lit.int .i64 (u : Int)).wf = true) (w : World) (ps pm : Nat) (x0 x1 : Value) (es : Array MapEntry) (cl : Nat)
    (bx : Box w ps 144 #[x0, x1, .map (some pm)]) (hm : w.heap[pm]? = some (.map es cl)) (hk : PlKeys es) (hno : ∀ x ∈ es.toList, x.key ≠ plK fr u) :
    Calls Tryz.prog 130 #[.pointer (some ⟨ps, 0, none⟩), plK fr u, .agg #[.int .i64 k, .int .i64 h, .slice AT nT cT]] w fun e w' => e = .returned (.tuple #[]) ∧
      ∃ w1, Below w.heap.size w w1 ∧ w'.heap = w1.heap.setIfInBounds pm (.map (es.push ⟨plK fr u, .agg #[.int .i64 k, .int .i64 h, .slice AT nT cT], cl⟩) (cl + 1)) ∧ w'.os = w1.os ∧ w'.tape = w1.tape ∧ w'.output = w1.output := by
  have lp := bx.lt
  have HF := Lib.hid hf; clear hf
  have HU := Lib.hid hu; clear hu
  have HK := Lib.hid hk; clear hk
  have HNO := Lib.hid hno; clear hno
  have HM := Lib.hid hm; clear hm
  have c2 : w.cell? ⟨ps, 2, none⟩ = some (.map (some pm)) := bx.three.2.2
  have hq : ∀ W, Sem.run Tryz.prog (binOp BinOp.eql 142 (.map (some pm)) (.map none)) W = .ok (.bool false) W := fun W => by kernel_rfl
  go_enter Tryz.func130, Tryz.ntmps130
  go_wp2_with fail
  obtain ⟨W, hW⟩ : ∃ W, ((w.alloc (Obj.cells #[Value.int IntKind.i64 fr, Value.int IntKind.i64 ↑u] 177)).alloc (Obj.cells #[Value.int IntKind.i64 k, Value.int IntKind.i64 h, Value.slice AT nT cT] 36)) = W := ⟨_, rfl⟩
  have hb : Below w.heap.size w W := by rw [← hW]; exact ((Below.refl _ _).alloc (Nat.le_refl _) _).alloc (by simp) _
  have b1 : Box W w.heap.size 177 #[.int .i64 fr, .int .i64 u] := by rw [← hW]; exact (Box.new _ _ _).alloc _
  have b2 : Box W (w.heap.size + 1) 36 #[.int .i64 k, .int .i64 h, .slice AT nT cT] := by rw [← hW]; exact (Box.new (w.alloc _) _ _).at (by simp)
  have bp := bx.keep hb lp
  rw [hW]
  clear hW c2 bx
  have lm : pm < w.heap.size := (Array.getElem?_eq_some_iff.1 HM.out).1
  have hmu := put_map HF.out HU.out (w := W.drew) (show W.drew.heap[pm]? = some (.map es cl) from (hb.block pm lm).trans HM.out) HK.out HNO.out (.agg #[.int .i64 k, .int .i64 h, .slice AT nT cT])
  obtain ⟨w2, hw2, hmu'⟩ : ∃ w2, Hid (w2 = { W.drew with heap := W.drew.heap.setIfInBounds pm (.map (es.push ⟨plK fr u, .agg #[.int .i64 k, .int .i64 h, .slice AT nT cT], cl⟩) (cl + 1)) }) ∧ (Instr.mapUpdate 142 (.map (some pm)) (.agg #[.int .i64 fr, .int .i64 u]) (.agg #[.int .i64 k, .int .i64 h, .slice AT nT cT])).run Tryz.prog W.drew = .ok () w2 := ⟨_, Lib.hid rfl, hmu⟩
  clear hmu
  have c2 : W.cell? ⟨ps, 2, none⟩ = some (.map (some pm)) := bp.three.2.2
  obtain ⟨p0, p1⟩ := b1.two
  obtain ⟨t0, t1, t2⟩ := b2.three
  have HB := Lib.hid hb; clear hb
  go_region
  all_goals
    go_wp2_with fail
    go_end0
    refine ⟨rfl, W.drew, HB.out.drew, ?_⟩
    rw [hw2.out]
    exact ⟨rfl, rfl, rfl, rfl⟩
def KNil (ps : Nat) (fr : Int) (u : Nat) (v : Value) (w w' : World) : Prop :=
  ∃ w1 pm, Below w.heap.size w w1 ∧ pm < w1.heap.size ∧ w.heap.size ≤ pm ∧ w'.heap = (w1.setCell ⟨ps, 2, none⟩ (.map (some pm))).heap.setIfInBounds pm (.map (#[].push ⟨plK fr u, v, 0⟩) (0 + 1)) ∧ w'.os = w1.os ∧ w'.tape = w1.tape ∧ w'.output = w1.output
set_option maxRecDepth 100000 in
set_option maxHeartbeats 1000000 in
theorem keepNil (k h fr : Int) (u : Nat) (AT : Option Addr) (nT cT : Nat) (hf : (Lit.int .i64 fr).wf = true) (hu : (Lit.int .i64 (u : Int)).wf = true) (w : World) (ps : Nat) (x0 x1 : Value)
    (bx : Box w ps 144 #[x0, x1, .map none]) :
    Calls Tryz.prog 130 #[.pointer (some ⟨ps, 0, none⟩), plK fr u, .agg #[.int .i64 k, .int .i64 h, .slice AT nT cT]] w fun e w' => e = .returned (.tuple #[]) ∧ KNil ps fr u (.agg #[.int .i64 k, .int .i64 h, .slice AT nT cT]) w w' := by
  have lp := bx.lt
  have HF := Lib.hid hf; clear hf
  have HU := Lib.hid hu; clear hu
  have c2 : w.cell? ⟨ps, 2, none⟩ = some (.map none) := bx.three.2.2
  have f2 := bx.frozen 2
  have hq : ∀ W, Sem.run Tryz.prog (binOp BinOp.eql 142 (.map none) (.map none)) W = .ok (.bool true) W := fun W => by kernel_rfl
  have hmm := @run_makeMap Tryz.prog
  have bx3 : Box (((w.alloc (Obj.cells #[Value.int IntKind.i64 fr, Value.int IntKind.i64 ↑u] 177)).alloc (Obj.cells #[Value.int IntKind.i64 k, Value.int IntKind.i64 h, Value.slice AT nT cT] 36)).alloc (Obj.map #[] 0)) ps 144 #[x0, x1, .map none] := ((bx.alloc _).alloc _).alloc _
  have c3 := bx3.three.2.2
  have f3 := bx3.frozen 2
  go_enter Tryz.func130, Tryz.ntmps130
  go_wp2_with fail
  clear hmm hq c3 f3 c2 f2
  obtain ⟨W1, hW1⟩ : ∃ W1, (((w.alloc (Obj.cells #[Value.int IntKind.i64 fr, Value.int IntKind.i64 ↑u] 177)).alloc (Obj.cells #[Value.int IntKind.i64 k, Value.int IntKind.i64 h, Value.slice AT nT cT] 36)).alloc (Obj.map #[] 0)) = W1 := ⟨_, rfl⟩
  have hb : Below w.heap.size w W1 := by rw [← hW1]; exact (((Below.refl _ _).alloc (Nat.le_refl _) _).alloc (by simp) _).alloc (by simp; omega) _
  have b1 : Box W1 w.heap.size 177 #[.int .i64 fr, .int .i64 u] := by rw [← hW1]; exact ((Box.new _ _ _).alloc _).alloc _
  have b2 : Box W1 (w.heap.size + 1) 36 #[.int .i64 k, .int .i64 h, .slice AT nT cT] := by rw [← hW1]; exact ((Box.new (w.alloc _) _ _).at (by simp)).alloc _
  have hm : W1.heap[w.heap.size + 1 + 1]? = some (.map #[] 0) := by
    rw [← hW1]
    have := heap_alloc_new ((w.alloc (Obj.cells #[Value.int IntKind.i64 fr, Value.int IntKind.i64 ↑u] 177)).alloc (Obj.cells #[Value.int IntKind.i64 k, Value.int IntKind.i64 h, Value.slice AT nT cT] 36)) (Obj.map #[] 0)
    simpa using this
  rw [hW1] at bx3 ⊢
  clear hW1 bx
  have lm := (Array.getElem?_eq_some_iff.1 hm).1
  obtain ⟨W, hW⟩ : ∃ W, W1.setCell ⟨ps, 2, none⟩ (Value.map (some (w.heap.size + 1 + 1))) = W := ⟨_, rfl⟩
  have bp : Box W ps 144 #[x0, x1, .map (some (w.heap.size + 1 + 1))] := by
    rw [← hW]
    have := bx3.setAt 2 (Value.map (some (w.heap.size + 1 + 1)))
    simpa using this
  have d1 : Box W w.heap.size 177 #[.int .i64 fr, .int .i64 u] := by rw [← hW]; exact b1.other (by dsimp only; omega) _
  have d2 : Box W (w.heap.size + 1) 36 #[.int .i64 k, .int .i64 h, .slice AT nT cT] := by rw [← hW]; exact b2.other (by dsimp only; omega) _
  have hmW : W.heap[w.heap.size + 1 + 1]? = some (.map #[] 0) := by rw [← hW, Below.heap_setCell _ _ _ _ (by dsimp only; omega)]; exact hm
  rw [hW]
  have HW := Lib.hid hW; clear hW
  have hmu := put_map HF.out HU.out (w := W.drew) (show W.drew.heap[w.heap.size + 1 + 1]? = some (.map #[] 0) from hmW) (fun x hx => by simp at hx) (fun x hx => by simp at hx) (.agg #[.int .i64 k, .int .i64 h, .slice AT nT cT])
  obtain ⟨w2, hw2, hmu'⟩ : ∃ w2, Hid (w2 = { W.drew with heap := W.drew.heap.setIfInBounds (w.heap.size + 1 + 1) (.map (#[].push ⟨plK fr u, .agg #[.int .i64 k, .int .i64 h, .slice AT nT cT], 0⟩) (0 + 1)) }) ∧ (Instr.mapUpdate 142 (.map (some (w.heap.size + 1 + 1))) (.agg #[.int .i64 fr, .int .i64 u]) (.agg #[.int .i64 k, .int .i64 h, .slice AT nT cT])).run Tryz.prog W.drew = .ok () w2 := ⟨_, Lib.hid rfl, hmu⟩
  clear hmu
  have c2 : W.cell? ⟨ps, 2, none⟩ = some (.map (some (w.heap.size + 1 + 1))) := bp.three.2.2
  obtain ⟨p0, p1⟩ := d1.two
  obtain ⟨t0, t1, t2⟩ := d2.three
  have HB := Lib.hid hb; clear hb
  have HMW := Lib.hid hmW; clear hmW
  have HM1 := Lib.hid hm; clear hm
  go_region
  all_goals
    go_wp2_with fail
    go_end0
    refine ⟨rfl, W1, w.heap.size + 1 + 1, HB.out, lm, by omega, ?_⟩
    rw [hw2.out, ← HW.out]
    exact ⟨rfl, rfl, rfl, rfl⟩
/-- what became of a scope and of memory -/
structure Stp (pw ps : Nat) (X : Nat → Prop) (w : World) (mv : Value) (X' : Nat → Prop) (w' : World) (mv' : Value) : Prop where
  adv : Adv X w X' w'
  fr : Fr (fun k => k = pw ∨ k = ps ∨ mv = .map (some k)) w w'
  mvs : ∀ k, mv' = .map (some k) → k < w.heap.size → mv = .map (some k)
theorem Stp.trans {pw ps : Nat} {X Y Z : Nat → Prop} {a b c : World} {m1 m2 m3 : Value} (h : Stp pw ps X a m1 Y b m2) (k : Stp pw ps Y b m2 Z c m3) : Stp pw ps X a m1 Z c m3 :=
  ⟨h.adv.trans k.adv, h.fr.trans k.fr fun i hi e => by
      rcases e with e | e | e
      · exact .inl e
      · exact .inr (.inl e)
      · exact .inr (.inr (h.mvs i e hi)),
    fun i e hi => h.mvs i (k.mvs i e (Nat.lt_of_lt_of_le hi h.adv.size)) hi⟩
theorem Stp.below {pw ps : Nat} {X : Nat → Prop} {w w' : World} {mv : Value} (h : Below w.heap.size w w') : Stp pw ps X w mv X w' mv := ⟨Adv.below h, Fr.below h, fun _ e _ => e⟩
theorem Sc.below {X : Nat → Prop} {w w' : World} {ps : Nat} {L : List T} {sh : Int} {A : Option Addr} {n c : Nat} {mv : Value} (h : Sc X w ps L sh A n c mv) (hb : Below w.heap.size w w') : Sc X w' ps L sh A n c mv := by
  exact h.adv (Adv.below hb) (hb.block _ h.box.lt) (fun pm e => hb.block _ (h.mapLt e)) fun b hx => Nat.lt_of_lt_of_le (h.bnd b hx) hb.size
/-- blocks that are new may be counted to those that are written -/
theorem Sc.more {X X' : Nat → Prop} {w w' : World} {ps : Nat} {L : List T} {sh : Int} {A : Option Addr} {n c : Nat} {mv : Value} (h : Sc X w ps L sh A n c mv) (hb : Below w.heap.size w w') (h1 : ∀ b, X b → X' b) (h2 : ∀ b, b < w.heap.size → X' b → X b) (h3 : ∀ b, X' b → b < w'.heap.size) : Sc X' w' ps L sh A n c mv :=
  h.adv ⟨hb.size, h1, h2, fun b hl _ => hb.block b hl⟩ (hb.block _ h.box.lt) (fun pm e => hb.block _ (h.mapLt e)) h3
/-- what a scope holds of a free variable, up -/
abbrev upL0 (L : List T) (fr : Int) (u : Nat) : T := upT u (L.getD (L.length - 1 - fr.toNat) (.node 0 0 [])) 0
def KEnd (pw ps : Nat) (X : Nat → Prop) (w : World) (L : List T) (sh : Int) (A : Option Addr) (n c : Nat) (mv : Value) (w' : World) : Prop :=
  ∃ X' mv', Sc X' w' ps L sh A n c mv' ∧ Stp pw ps X w mv X' w' mv'
theorem plK_inj {a b c d : Int} (h : plK a b = plK c d) : a = c ∧ b = d := by simpa [plK] using h
theorem keepC (pw : Nat) {fr : Int} {u : Nat} (hf : (Lit.int .i64 fr).wf = true) (hu : (Lit.int .i64 (u : Int)).wf = true) {X : Nat → Prop} {w : World} {ps : Nat} {L : List T} {sh : Int} {A : Option Addr} {n c : Nat} {mv : Value} (hs : Sc X w ps L sh A n c mv)
    {k h : Int} {AT : Option Addr} {nT cT : Nat} (hv : RX X w (upL0 L fr u) (.agg #[.int .i64 k, .int .i64 h, .slice AT nT cT]))
    (hno : ∀ pm es cl, mv = .map (some pm) → w.heap[pm]? = some (.map es cl) → ∀ x ∈ es.toList, x.key ≠ plK fr u) :
    Calls Tryz.prog 130 #[.pointer (some ⟨ps, 0, none⟩), plK fr u, .agg #[.int .i64 k, .int .i64 h, .slice AT nT cT]] w fun e w' => e = .returned (.tuple #[]) ∧ KEnd pw ps X w L sh A n c mv w' := by
  have lp := hs.box.lt
  rcases hs.found with rfl | ⟨pm, es, cl, rfl, hX, hm, hok⟩
  · refine (keepNil k h fr u AT nT cT hf hu w ps _ _ hs.box).mono ?_
    rintro e w' ⟨rfl, w1, pm, hb, lpm, hge, hh, ho, ht, hout⟩
    have hsz : w'.heap.size = w1.heap.size := by rw [hh]; simp [World.setCell]
    have hother : ∀ b, b ≠ ps → b ≠ pm → w'.heap[b]? = w1.heap[b]? := fun b h1 h2 => by
      rw [hh, Array.getElem?_setIfInBounds_ne (by omega), Below.heap_setCell _ _ _ _ (by dsimp only; omega)]
    have hX' : ∀ b, b < w.heap.size → (X b ∨ b = pm) → X b := fun b hb e => by
      rcases e with e | e
      · exact e
      · omega
    have adv : Adv X w (fun b => X b ∨ b = pm) w' := ⟨by rw [hsz]; exact hb.size, fun b h => .inl h, hX', fun b hl hx => (hother b (fun e => hx (e ▸ hs.own)) (by omega)).trans (hb.block b hl)⟩
    refine ⟨rfl, fun b => X b ∨ b = pm, .map (some pm), ⟨?_, .inl hs.own, ?_, hs.list.adv adv, .inr ⟨pm, #[].push ⟨plK fr u, .agg #[.int .i64 k, .int .i64 h, .slice AT nT cT], 0⟩, 0 + 1, rfl, .inr rfl, ?_, ?_⟩⟩, adv, ⟨?_, ?_, ?_, by rw [hsz]; exact hb.size, ?_⟩, ?_⟩
    · have b1 := (hs.box.keep hb lp).setAt 2 (.map (some pm))
      unfold Box at b1 ⊢
      rw [hh, Array.getElem?_setIfInBounds_ne (by omega), b1]
      simp
    · intro b hx
      rw [hsz]
      rcases hx with hx | rfl
      · have := hs.bnd b hx; have := hb.size; omega
      · exact lpm
    · rw [hh, Array.getElem?_setIfInBounds_self_of_lt (by simpa [World.setCell] using lpm)]
    · refine ⟨fun x hx => ?_, fun x hx y hy _ => ?_, fun x hx fr' u' hk h0 h1 => ?_⟩
      · simp at hx; subst hx; exact ⟨fr, u, rfl, hf, hu⟩
      · simp at hx hy; subst hx hy; rfl
      · simp at hx; subst hx
        obtain ⟨rfl, e2⟩ := plK_inj hk
        obtain rfl : u = u' := by omega
        exact hv.adv adv
    · rw [ho, hb.os]
    · rw [ht, hb.tape]
    · rw [hout, hb.output]
    · exact fun b hl hx => (hother b (fun e => hx (.inr (.inl e))) (by omega)).trans (hb.block b hl)
    · intro k hk hl
      cases hk
      omega
  · refine (keepMap k h fr u AT nT cT hf hu w ps pm _ _ es cl hs.box hm hok.keys (hno pm es cl rfl hm)).mono ?_
    rintro e w' ⟨rfl, w1, hb, hh, ho, ht, hout⟩
    have lpm := (Array.getElem?_eq_some_iff.1 hm).1
    have hne : ps ≠ pm := fun e => by
      have := hs.box
      unfold Box at this
      rw [e, hm] at this
      cases this
    have hsz : w'.heap.size = w1.heap.size := by rw [hh]; simp
    have hother : ∀ b, b ≠ pm → w'.heap[b]? = w1.heap[b]? := fun b h2 => by rw [hh, Array.getElem?_setIfInBounds_ne (by omega)]
    have adv : Adv X w X w' := ⟨by rw [hsz]; exact hb.size, fun b h => h, fun b _ h => h, fun b hl hx => (hother b (fun e => hx (e ▸ hX))).trans (hb.block b hl)⟩
    refine ⟨rfl, X, .map (some pm), ⟨?_, hs.own, fun b hx => (by rw [hsz]; have := hs.bnd b hx; have := hb.size; omega), hs.list.adv adv, .inr ⟨pm, es.push ⟨plK fr u, .agg #[.int .i64 k, .int .i64 h, .slice AT nT cT], cl⟩, cl + 1, rfl, hX, ?_, ?_⟩⟩, adv, ⟨?_, ?_, ?_, by rw [hsz]; exact hb.size, ?_⟩, fun k hk _ => hk⟩
    · have b1 := hs.box.keep hb lp
      unfold Box at b1 ⊢
      rw [hother _ hne, b1]
    · rw [hh, Array.getElem?_setIfInBounds_self_of_lt (Nat.lt_of_lt_of_le lpm hb.size)]
    · refine ⟨fun x hx => ?_, fun x hx y hy exy => ?_, fun x hx fr' u' hk h0 h1 => ?_⟩
      · simp only [Array.toList_push, List.mem_append, List.mem_singleton] at hx
        rcases hx with hx | rfl
        · exact hok.keys x hx
        · exact ⟨fr, u, rfl, hf, hu⟩
      · simp only [Array.toList_push, List.mem_append, List.mem_singleton] at hx hy
        rcases hx with hx | rfl
        · rcases hy with hy | rfl
          · exact hok.one x hx y hy exy
          · exact absurd exy (hno pm es cl rfl hm x hx)
        · rcases hy with hy | rfl
          · exact absurd exy.symm (hno pm es cl rfl hm y hy)
          · rfl
      · simp only [Array.toList_push, List.mem_append, List.mem_singleton] at hx
        rcases hx with hx | rfl
        · exact (hok.ok x hx fr' u' hk h0 h1).adv adv
        · obtain ⟨rfl, e2⟩ := plK_inj hk
          obtain rfl : u = u' := by omega
          exact hv.adv adv
    · rw [ho, hb.os]
    · rw [ht, hb.tape]
    · rw [hout, hb.output]
    · exact fun b hl hx => (hother b (fun e => hx (.inr (.inr (by rw [e]))))).trans (hb.block b hl)
end Go.Proofs.YtmkahbbcagfbhaaGreatDoor
/-
  A region that draws its order and whose last operation waits for all others: the others are a region by themselves, and behind it comes the last one.
-/
namespace Go.Proofs.YtmkahbbcagfbhaaGreatDoor
set_option linter.unusedVariables false
section
variable {P : Program} {md : Region.Mode}
/-- what is asked behind the others: the last one, then what was asked -/
def thenLast (P : Program) (ops : Array Oper) (o : Oper) (Q : Exit → Act → World → Prop) : Exit → Act → World → Prop
  | .normal, a, w => wpList P ops Q [o] a w
  | e, a, w => Q e a w
theorem Oper.wp_posts {o : Oper} {a : Act} {w : World} {K K' : Act → World → Prop} {Q Q' : Exit → Act → World → Prop} (h : ∀ a w, K a w → K' a w) (hp : ∀ c a w, Q (.panic c) a w → Q' (.panic c) a w) (hl : LetsOut Q → LetsOut Q')
    (hh : o.wp P a w K Q) : o.wp P a w K' Q' := by
  unfold Oper.wp at *
  generalize (execOp a.eval o).run P w = r at *
  cases r with
  | ok n w' =>
    cases n <;> simp only [Oper.upon] at hh ⊢ <;>
      first
        | exact h _ _ hh
        | exact Calls.mono hh (fun e w'' he => by cases e <;> first | exact h _ _ he | exact hp _ _ _ he | exact hl he)
        | exact Rows.mono hh (fun _ _ he => h _ _ he)
  | halt x w' => cases x <;> simp only [Oper.upon] at hh ⊢ <;> first | exact hp _ _ _ hh | exact hh
/-- no operation is guarded; each waits for earlier ones alone; the last one waits for all others -/
def lastB (md : Region.Mode) (pre : Array Oper) (o : Oper) : Bool :=
  (pre.push o).all (fun p => p.guard.isNone) &&
  (List.range pre.size).all (fun i => ((pre[i]?).map fun p => p.after.all fun e => !Region.binds md e || decide (e.on < i)).getD false) &&
  (List.range pre.size).all (fun i => o.after.any fun e => Region.binds md e && decide (e.on = i)) &&
  o.after.all (fun e => !Region.binds md e || decide (e.on < pre.size))
structure LastOk (md : Region.Mode) (pre : Array Oper) (o : Oper) : Prop where
  guard : ∀ p, p = o ∨ p ∈ pre → p.guard = none
  early : ∀ i p, pre[i]? = some p → ∀ e ∈ p.after, Region.binds md e = true → e.on < i
  waits : ∀ i, i < pre.size → ∃ e ∈ o.after, Region.binds md e = true ∧ e.on = i
  last : ∀ e ∈ o.after, Region.binds md e = true → e.on < pre.size
theorem lastB_ok {pre : Array Oper} {o : Oper} (h : lastB md pre o = true) : LastOk md pre o := by
  simp only [lastB, Bool.and_eq_true, List.all_eq_true, List.mem_range] at h
  obtain ⟨⟨⟨h1, h2⟩, h3⟩, h4⟩ := h
  rw [Array.all_eq_true_iff_forall_mem] at h1 h4
  refine ⟨fun p hp => ?_, fun i p hp e he hb => ?_, fun i hi => ?_, fun e he hb => ?_⟩
  · have := h1 p (by rw [Array.mem_push]; exact hp.symm)
    simpa using this
  · have hi := (Array.getElem?_eq_some_iff.1 hp).1
    have := h2 i hi
    rw [hp, Option.map_some, Option.getD_some, Array.all_eq_true_iff_forall_mem] at this
    have := this e he
    simpa [hb] using this
  · have := h3 i hi
    rw [Array.any_eq_true'] at this
    obtain ⟨e, he, hh⟩ := this
    simp only [Bool.and_eq_true, decide_eq_true_eq] at hh
    exact ⟨e, he, hh⟩
  · have := h4 e he
    simpa [hb] using this
theorem gD (l : Array Bool) (i : Nat) (d : Bool) : l.getD i d = (l[i]?).getD d := by
  simp [Array.getD_eq_getD_getElem?]
/-- the two regions are at the same point, the last one still to come -/
structure Agree (n : Nat) (lo lp : Array Bool) : Prop where
  so : lo.size = n + 1
  sp : lp.size = n
  same : ∀ i, i < n → lo[i]? = lp[i]?
  top : lo[n]? = some false
theorem Agree.getD {n : Nat} {lo lp : Array Bool} (h : Agree n lo lp) {i : Nat} (hi : i < n) (d : Bool) : lo.getD i d = lp.getD i d := by
  rw [gD, gD, h.same i hi]
theorem Agree.getTop {n : Nat} {lo lp : Array Bool} (h : Agree n lo lp) (d : Bool) : lo.getD n d = false := by
  rw [gD, h.top]; rfl
theorem Agree.set {n : Nat} {lo lp : Array Bool} (h : Agree n lo lp) {i : Nat} (hi : i < n) : Agree n (lo.setIfInBounds i true) (lp.setIfInBounds i true) := by
  refine ⟨by simpa using h.so, by simpa using h.sp, fun j hj => ?_, ?_⟩
  · rw [Array.getElem?_setIfInBounds, Array.getElem?_setIfInBounds, h.same j hj, h.so, h.sp]
    by_cases hij : i = j
    · subst hij; rw [if_pos rfl, if_pos rfl, if_pos (by omega), if_pos hi]
    · rw [if_neg hij, if_neg hij]
  · rw [Array.getElem?_setIfInBounds, if_neg (by omega), h.top]
section
variable {pre : Array Oper} {o : Oper} {lo lp : Array Bool}
theorem push_get {i : Nat} (hi : i < pre.size) : (pre.push o)[i]? = pre[i]? := by
  rw [Array.getElem?_push, if_neg (by omega)]
theorem push_top : (pre.push o)[pre.size]? = some o := by
  rw [Array.getElem?_push, if_pos rfl]
theorem ready_pre (hk : LastOk md pre o) (hg : Agree pre.size lo lp) {i : Nat} (hi : i < pre.size) (h : i ∈ Region.ready md (pre.push o) lo) : i ∈ Region.ready md pre lp := by
  rw [mem_ready] at h ⊢
  obtain ⟨h1, p, hp, h2⟩ := h
  rw [push_get hi] at hp
  refine ⟨by rw [← hg.getD hi]; exact h1, p, hp, fun e he hb => ?_⟩
  have := hk.early i p hp e he hb
  rw [← hg.getD (by omega)]
  exact h2 e he hb
/-- the last one comes up only when all others have -/
theorem ready_top (hk : LastOk md pre o) (hg : Agree pre.size lo lp) (h : pre.size ∈ Region.ready md (pre.push o) lo) : Region.ready md pre lp = [] := by
  rw [mem_ready] at h
  obtain ⟨_, p, hp, h2⟩ := h
  rw [push_top] at hp
  cases hp
  rw [List.eq_nil_iff_forall_not_mem]
  intro i hi
  rw [mem_ready] at hi
  obtain ⟨h3, q, hq, _⟩ := hi
  have hlt := (Array.getElem?_eq_some_iff.1 hq).1
  obtain ⟨e, he, hb, rfl⟩ := hk.waits i hlt
  have h4 := h2 e he hb
  rw [hg.getD hlt] at h4
  rw [gD] at h3 h4
  cases hl : lp[e.on]? with
  | none => rw [hl] at h3; simp at h3
  | some b => rw [hl] at h3 h4; simp at h3 h4; rw [h3] at h4; cases h4
/-- where none of the others is ready, all have come up -/
theorem all_listed (hk : LastOk md pre o) (hg : Agree pre.size lo lp) (h : Region.ready md pre lp = []) : ∀ i, i < pre.size → lp[i]? = some true := by
  intro i
  induction i using Nat.strongRecOn with
  | _ i ih =>
    intro hi
    have hs := hg.sp
    cases hl : lp[i]? with
    | none => rw [Array.getElem?_eq_none_iff] at hl; omega
    | some b =>
      cases b with
      | true => rfl
      | false =>
        exfalso
        obtain ⟨p, hp⟩ : ∃ p, pre[i]? = some p := ⟨_, Array.getElem?_eq_getElem hi⟩
        have : i ∈ Region.ready md pre lp := by
          rw [mem_ready]
          refine ⟨by rw [gD, hl]; rfl, p, hp, fun e he hb => ?_⟩
          have hlt := hk.early i p hp e he hb
          rw [gD, ih e.on hlt (by omega)]
          rfl
        rw [h] at this
        cases this
theorem top_ready (hk : LastOk md pre o) (hg : Agree pre.size lo lp) (h : Region.ready md pre lp = []) : pre.size ∈ Region.ready md (pre.push o) lo := by
  have hall := all_listed hk hg h
  rw [mem_ready]
  refine ⟨hg.getTop _, o, push_top, fun e he hb => ?_⟩
  have hlt := hk.last e he hb
  rw [hg.getD hlt, gD, hall e.on hlt]
  rfl
theorem ready_done (hk : LastOk md pre o) (hg : Agree pre.size lo lp) (h : Region.ready md pre lp = []) : Region.ready md (pre.push o) (lo.setIfInBounds pre.size true) = [] := by
  have hall := all_listed hk hg h
  rw [List.eq_nil_iff_forall_not_mem]
  intro i hi
  rw [mem_ready] at hi
  obtain ⟨h3, q, hq, _⟩ := hi
  have hlt := (Array.getElem?_eq_some_iff.1 hq).1
  rw [Array.size_push] at hlt
  rw [gD, Array.getElem?_setIfInBounds, hg.so] at h3
  by_cases hi : pre.size = i
  · rw [if_pos hi, if_pos (by omega)] at h3; simp at h3
  · rw [if_neg hi, hg.same i (by omega), hall i (by omega)] at h3; simp at h3
variable {Q : Exit → Act → World → Prop}
theorem wpOp_push (hk : LastOk md pre o) {i : Nat} (hi : i < pre.size) {K K' : Act → World → Prop} {a : Act} {w : World} (hK : ∀ a w, K a w → K' a w)
    (h : wpOp P pre (thenLast P (pre.push o) o Q) i K a w) : wpOp P (pre.push o) Q i K' a w := by
  obtain ⟨p, hp⟩ : ∃ p, pre[i]? = some p := ⟨_, Array.getElem?_eq_getElem hi⟩
  have hg := hk.guard p (.inr (Array.mem_of_getElem? hp))
  have hl : LetsOut (thenLast P (pre.push o) o Q) → LetsOut Q := fun ⟨a, w, h⟩ => ⟨a, w, h⟩
  unfold wpOp at *
  rw [push_get hi]
  simp only [hp] at h ⊢
  have hw : ∀ l, Region.wanted p l = true := fun l => by simp [Region.wanted, hg]
  rw [if_pos (hw _)] at h ⊢
  exact h.imp (Oper.wp_posts hK (fun c a w h => h) hl) (fun h => ⟨h.1, hl h.2⟩)
theorem wpAny_last (hk : LastOk md pre o) : ∀ (fuel : Nat) (lo lp : Array Bool) (a : Act) (w : World), Agree pre.size lo lp →
    wpAny P md pre (thenLast P (pre.push o) o Q) fuel lp a w → wpAny P md (pre.push o) Q (fuel + 1) lo a w
  | fuel, lo, lp, a, w, hg, h => by
    have hnil : Region.ready md pre lp = [] → thenLast P (pre.push o) o Q .normal a w := by
      cases fuel with
      | zero => exact fun _ => h.2
      | succ f => exact h.1
    refine ⟨fun he => ?_, fun i hi => ?_⟩
    · exfalso
      have : Region.ready md pre lp = [] := by
        rw [List.eq_nil_iff_forall_not_mem]
        intro i hi
        have hi' := hi
        rw [mem_ready] at hi
        obtain ⟨h1, p, hp, h2⟩ := hi
        have hlt := (Array.getElem?_eq_some_iff.1 hp).1
        have : i ∈ Region.ready md (pre.push o) lo := by
          rw [mem_ready]
          refine ⟨by rw [hg.getD hlt]; exact h1, p, by rw [push_get hlt]; exact hp, fun e he hb => ?_⟩
          have := hk.early i p hp e he hb
          rw [hg.getD (by omega)]
          exact h2 e he hb
        rw [he] at this
        cases this
      have := top_ready hk hg this
      rw [he] at this
      cases this
    · have hlt : i < pre.size + 1 := by
        rw [mem_ready] at hi
        obtain ⟨_, p, hp, _⟩ := hi
        have := (Array.getElem?_eq_some_iff.1 hp).1
        simpa using this
      rcases Nat.lt_or_ge i pre.size with hi' | hi'
      · have hr := ready_pre hk hg hi' hi
        cases fuel with
        | zero => rw [h.1] at hr; cases hr
        | succ f => exact wpOp_push hk hi' (fun a' w' h' => wpAny_last hk f _ _ a' w' (hg.set hi') h') (h.2 i hr)
      · obtain rfl : i = pre.size := by omega
        have hn := ready_top hk hg hi
        have hq : wpList P (pre.push o) Q [o] a w := hnil hn
        have hd := ready_done hk hg hn
        have hgd := hk.guard o (.inl rfl)
        have hw : ∀ l, Region.wanted o l = true := fun l => by simp [Region.wanted, hgd]
        simp only [wpList] at hq
        unfold wpOp
        rw [push_top]
        simp only
        rw [if_pos (hw _)] at hq ⊢
        refine hq.imp (Oper.wp_posts (fun a' w' h' => ?_) (fun _ _ _ h => h) id) id
        cases fuel with
        | zero => exact ⟨hd, h'⟩
        | succ f => exact ⟨fun _ => h', fun i hi => by rw [hd] at hi; cases hi⟩
end
/-- THE LAW: the region without its last operation, and behind it that one. -/
theorem wp_region_last {id : Nat} {pre : Array Oper} {o : Oper} {Q : Exit → Act → World → Prop} {a : Act} {w : World} (hm : P.follows .mixedOrders = true) (hB : lastB .any pre o = true)
    (h : wpAny P .any pre (thenLast P (pre.push o) o Q) pre.size (Array.replicate pre.size false) a { w with drawn := w.drawn + 1 }) : (Code.region id (pre.push o) true).wp P Q a w := by
  refine wp_region_any hm ?_
  rw [Array.size_push]
  refine wpAny_last (lastB_ok hB) pre.size _ _ a _ ⟨by simp, by simp, fun i hi => ?_, ?_⟩ h
  · rw [Array.getElem?_replicate, Array.getElem?_replicate, if_pos (by omega), if_pos hi]
  · rw [Array.getElem?_replicate, if_pos (by omega)]
/-- the same, of a region that is written out -/
theorem wp_region_cut {id : Nat} {ops : Array Oper} {o : Oper} {Q : Exit → Act → World → Prop} {a : Act} {w : World} (ho : ops.back? = some o) (hm : P.follows .mixedOrders = true) (hB : lastB .any ops.pop o = true)
    (h : wpAny P .any ops.pop (thenLast P ops o Q) (ops.size - 1) (Array.replicate (ops.size - 1) false) a w.drew) : (Code.region id ops true).wp P Q a w := by
  have e : ops = ops.pop.push o := by
    rw [Array.back?_eq_getElem?] at ho
    obtain ⟨hlt, rfl⟩ := Array.getElem?_eq_some_iff.1 ho
    apply Array.ext_getElem?
    intro i
    rw [Array.getElem?_push, Array.size_pop]
    by_cases hi : i = ops.size - 1
    · subst hi; rw [if_pos rfl, Array.getElem?_eq_getElem hlt]
    · rw [if_neg hi]
      rcases Nat.lt_or_ge i (ops.size - 1) with h | h
      · rw [Array.getElem?_pop, if_pos h]
      · rw [Array.getElem?_pop, if_neg (by omega), Array.getElem?_eq_none (by omega)]
  rw [e]
  refine wp_region_last hm hB ?_
  rw [← e, Array.size_pop]
  exact h
end
end Go.Proofs.YtmkahbbcagfbhaaGreatDoor
/-
  Contracts of the document's own functions of layer 2.
-/
namespace Go.Proofs.YtmkahbbcagfbhaaGreatDoor
open Go.ChangeShapes Go.WideShapes Go.ChangeAt Go.RowKit
set_option linter.unusedVariables false
/-- cells that are terms, three by three -/
def KidL (w : World) (ok : Nat → Prop) (cs : List Value) (ys : List T) : Prop :=
  ∀ i t, ys[i]? = some t → ∃ k h A n c, cs[i * 3]? = some (.int .i64 k) ∧ cs[i * 3 + 1]? = some (.int .i64 h) ∧ cs[i * 3 + 2]? = some (.slice A n c) ∧ RdF ok w t (.agg #[.int .i64 k, .int .i64 h, .slice A n c])
theorem KidL.move {w w' : World} {ok ok' : Nat → Prop} {cs : List Value} {ys : List T} (hk : KidL w ok cs ys) (hok : ∀ b, ok b → ok' b) (hm : ∀ b, ok b → b < w.heap.size → w'.heap[b]? = w.heap[b]?) : KidL w' ok' cs ys := fun i t ht => by
  obtain ⟨k', h', A', n', c', e0, e1, e2, hr⟩ := hk i t ht
  exact ⟨k', h', A', n', c', e0, e1, e2, RdF.move hok hm _ _ hr⟩
theorem KidL.snoc {w : World} {ok : Nat → Prop} {cs : List Value} {ys : List T} {t : T} {k h : Int} {A : Option Addr} {n c : Nat} (hk : KidL w ok cs ys) (hl : cs.length = ys.length * 3)
    (hr : RdF ok w t (.agg #[.int .i64 k, .int .i64 h, .slice A n c])) : KidL w ok (cs ++ [.int .i64 k, .int .i64 h, .slice A n c]) (ys ++ [t]) := fun i u hu => by
  rcases Nat.lt_or_ge i ys.length with hi | hi
  · rw [List.getElem?_append_left hi] at hu
    obtain ⟨k', h', A', n', c', e0, e1, e2, hr'⟩ := hk i u hu
    refine ⟨k', h', A', n', c', ?_, ?_, ?_, hr'⟩
    · rw [List.getElem?_append_left (by omega)]; exact e0
    · rw [List.getElem?_append_left (by omega)]; exact e1
    · rw [List.getElem?_append_left (by omega)]; exact e2
  · rw [List.getElem?_append_right hi] at hu
    have hi' : i = ys.length := by
      rcases Nat.eq_or_lt_of_le hi with h | h
      · exact h.symm
      · rw [List.getElem?_eq_none (by simp; omega)] at hu; cases hu
    subst hi'
    rw [Nat.sub_self] at hu
    simp only [List.getElem?_cons_zero, Option.some.injEq] at hu
    subst hu
    refine ⟨k, h, A, n, c, ?_, ?_, ?_, hr⟩
    · rw [List.getElem?_append_right (by omega), hl, Nat.sub_self]; rfl
    · rw [List.getElem?_append_right (by omega), hl, show ys.length * 3 + 1 - ys.length * 3 = 1 by omega]; rfl
    · rw [List.getElem?_append_right (by omega), hl, show ys.length * 3 + 2 - ys.length * 3 = 2 by omega]; rfl
theorem below_grown {B : Nat} {w a b : World} {row : Option Nat} (h : Below B w a) (hg : a.grownBy b row) (hr : ∀ r, row = some r → B ≤ r) (hB : B ≤ a.heap.size) : Below B w b :=
  h.trans ⟨hg.os, hg.tape, hg.output, hg.size, fun k hk => hg.block k (by omega) (fun e => by have := hr k e.symm; omega)⟩
/-- a row of its own whose cells are terms: a node -/
theorem rdF_row {w : World} {ok ok' : Nat → Prop} {base n : Nat} {A : Option Addr} {c : Nat} {cs : List Value} {ys : List T} {k h : Int} (how : w.ownsRow base 36 3 (.slice A n c) n cs) (hk : KidL w ok cs ys) (hy : ys.length = n)
    (hok : ∀ g, ok g → ok' g) (hrow : ∀ g, Value.ownBlock (.slice A n c) = some g → ok' g) (wk : (Lit.int .i64 k).wf = true) (wh : (Lit.int .i64 h).wf = true) : RdF ok' w (.node k h ys) (.agg #[.int .i64 k, .int .i64 h, .slice A n c]) := by
  have hcell := fun g (hg : Value.ownBlock (.slice A n c) = some g) => how.cells hg
  refine RdF_node.2 ⟨A, n, c, rfl, wk, wh, hy, ?_, ?_, fun i t ht => ?_⟩
  · rcases how.2 with ⟨e, _⟩ | ⟨g, cap, cur, e, _, _, h1, _⟩
    · injection e with e1 e2 e3; omega
    · injection e with e1 e2 e3; omega
  · rcases how.2 with ⟨e, _⟩ | ⟨g, cap, cur, e, _, _, h1, h2, _⟩
    · injection e with e1 e2 e3; rw [e3]; exact Nat.zero_le _
    · injection e with e1 e2 e3; rw [e3]; exact h2
  · obtain ⟨k', h', A', n', c', e0, e1, e2, hr⟩ := hk i t ht
    have hi := (List.getElem?_eq_some_iff.1 ht).1
    rcases how.2 with ⟨e, h0⟩ | ⟨g, cap, cur, e, _, _, h1, h2, _⟩
    · omega
    · injection e with ea _ _
      subst ea
      have hc := hcell g rfl
      have c0 := hc _ _ e0
      have c1 := hc _ _ e1
      have c2 := hc _ _ e2
      rw [addr_add] at c0 c1 c2
      exact ⟨g, 0, _, _, _, rfl, hrow g rfl, c0, c1, c2, RdF.move hok (fun _ _ _ => rfl) _ _ hr⟩
theorem RdF.full {ok : Nat → Prop} {w : World} {t : T} {v : Value} (h : RdF ok w t v) : ∃ k h A n c, v = .agg #[.int .i64 k, .int .i64 h, .slice A n c] := (RdF.rd _ _ h).full
end Go.Proofs.YtmkahbbcagfbhaaGreatDoor
/-
  Contract of package subst's maps. No statement is proved here.
-/
namespace Go.Proofs.YtmkahbbcagfbhaaGreatDoor
open Go.ChangeShapes Go.WideShapes Go.ChangeAt Go.RowKit
set_option linter.unusedVariables false
/-- how maps ends -/
def MEnd (pw ps : Nat) (X : Nat → Prop) (w : World) (L : List T) (sh : Int) (A : Option Addr) (n c : Nat) (mv : Value) (t : T) (e : Ending) (w' : World) : Prop :=
  ∃ k h A' n' c' X' mv', e = .returned (.agg #[.int .i64 k, .int .i64 h, .slice A' n' c']) ∧ RX X' w' t (.agg #[.int .i64 k, .int .i64 h, .slice A' n' c']) ∧ Sc X' w' ps L sh A n c mv' ∧ Stp pw ps X w mv X' w' mv'
theorem rx_leaf {X : Nat → Prop} {w : World} {k h : Int} (hk : (Lit.int .i64 k).wf = true) (hh : (Lit.int .i64 h).wf = true) : RX X w (.node k h []) (.agg #[.int .i64 k, .int .i64 h, .slice none 0 0]) :=
  RdF_node.2 ⟨none, 0, 0, rfl, hk, hh, rfl, Nat.le_refl _, Nat.zero_le _, fun i t ht => by simp at ht⟩
theorem wf_small {x : Int} (h : -9223372036854775808 ≤ x) (h' : x ≤ 9223372036854775807) : (Lit.int .i64 x).wf = true := by
  have := wf_wrap64 x
  rwa [wrap_small h h'] at this
set_option maxRecDepth 100000 in
set_option maxHeartbeats 1000000 in
theorem mapsFar (pw : Nat) {X : Nat → Prop} {w : World} {ps : Nat} {L : List T} {sh : Int} {A : Option Addr} {n c : Nat} {mv : Value} (hs : Sc X w ps L sh A n c mv) (fr : Int) (u : Nat) (h1 : n ≤ fr) (h2 : fr ≤ 1125899906842624) (h3 : 0 ≤ sh) (h4 : sh ≤ 1048576) (hu : u ≤ 40000) :
    Calls Tryz.prog 119 #[.pointer (some ⟨ps, 0, none⟩), .int .i64 fr, .int .i64 u] w (MEnd pw ps X w L sh A n c mv (.node 4 (fr - n + sh + u) [])) := by
  have lp := hs.box.lt
  obtain ⟨c0, c1, c2⟩ := hs.box.three
  have d1 : decide ((n : Int) ≤ fr) = true := by simpa using h1
  have hn := hs.list.le
  have hc := hs.list.cap
  unfold maxLen at hc
  have HS := Lib.hid hs; clear hs
  go_enter Tryz.func119, Tryz.ntmps119
  go_wp2_with fail
  obtain ⟨W, hW⟩ : ∃ W, w.alloc (.cells #[.int .i64 0, .int .i64 0, .slice none 0 0] 36) = W := ⟨_, rfl⟩
  have hb : Below w.heap.size w W := by rw [← hW]; exact (Below.refl _ _).alloc (Nat.le_refl _) _
  have xR : Box W w.heap.size 36 #[.int .i64 0, .int .i64 0, .slice none 0 0] := by rw [← hW]; exact Box.new _ _ _
  rw [hW]
  clear hW
  refine (varC _ _).mono ?_
  rintro e w1 ⟨rfl, hb1⟩
  have lR := xR.lt
  have zR := xR.keep hb1 lR
  have HB := Lib.hid (hb.trans (hb1.mono hb.size))
  clear hb1 xR c0 c1 c2
  obtain ⟨r0, r1, r2⟩ := zR.three
  have f0 := zR.frozen 0
  have f1 := zR.frozen 1
  have f2 := zR.frozen 2
  go_wp2_with fail
  refine bodyPost_ret (v := .agg #[.int .i64 4, .int .i64 (fr - n + sh + u), .slice none 0 0]) (by simp [results, Tryz.results119, go_sem, r0, r1, r2]) rfl ?_
  have hbb := below_set3 (a := w.heap.size) HB.out (Nat.le_refl _) (.int .i64 4) (.int .i64 (fr - n + sh + u)) (.slice none 0 0)
  exact ⟨_, _, _, _, _, X, mv, rfl, rx_leaf (by decide) (wf_small (by omega) (by omega)), HS.out.below hbb, Stp.below hbb⟩
/-- a scope's list, at a place -/
theorem Sc.at_ {X : Nat → Prop} {w : World} {ps : Nat} {L : List T} {sh : Int} {A : Option Addr} {n c : Nat} {mv : Value} (hs : Sc X w ps L sh A n c mv) {j : Nat} (hj : j < n) : RdFAt (fun b => ¬ X b) w A j (L.getD j (.node 0 0 [])) := by
  have hl : j < L.length := by rw [hs.list.len]; exact hj
  refine hs.list.at_ j _ ?_
  rw [List.getD_eq_getElem?_getD, List.getElem?_eq_getElem hl, Option.getD_some]
set_option maxRecDepth 100000 in
set_option maxHeartbeats 1000000 in
/-- the variable is one of the list, and nothing binds around it -/
theorem mapsZero (pw : Nat) {X : Nat → Prop} {w : World} {ps : Nat} {L : List T} {sh : Int} {A : Option Addr} {n c : Nat} {mv : Value} (hs : Sc X w ps L sh A n c mv) (m j : Nat) (h1 : m + j + 1 = n) :
    Calls Tryz.prog 119 #[.pointer (some ⟨ps, 0, none⟩), .int .i64 m, .int .i64 0] w (MEnd pw ps X w L sh A n c mv (L.getD j (.node 0 0 []))) := by
  have lp := hs.box.lt
  obtain ⟨c0, c1, c2⟩ := hs.box.three
  have d1 : decide (n ≤ m) = false := by simp; omega
  have hn := hs.list.le
  have hc := hs.list.cap
  unfold maxLen at hc
  have hij : (n : Int) - 1 - m = j := by omega
  have hlt : (j : Int) < n := by omega
  obtain ⟨b, o, k2, h2, A2, n2, c2', rfl, e0, e1, e2, hr⟩ := (hs.at_ (j := j) (by omega)).full
  have HS := Lib.hid hs; clear hs
  have HR := Lib.hid hr; clear hr
  have lb := cell_lt e0
  dsimp only at lb
  have H1 := Lib.hid h1; clear h1
  go_enter Tryz.func119, Tryz.ntmps119
  go_wp2_with fail
  refine bodyPost_ret (v := .agg #[.int .i64 k2, .int .i64 h2, .slice A2 n2 c2']) (by simp [results, Tryz.results119, go_sem]) rfl ?_
  have hbb : Below w.heap.size w ((w.alloc (.cells #[.int .i64 k2, .int .i64 h2, .slice A2 n2 c2'] 36)).alloc (.cells #[.int .i64 k2, .int .i64 h2, .slice A2 n2 c2'] 36)) := ((Below.refl _ _).alloc (Nat.le_refl _) _).alloc (by simp) _
  exact ⟨_, _, _, _, _, X, mv, rfl, RX.adv HR.out (Adv.below hbb), HS.out.below hbb, Stp.below hbb⟩
/-- the look-up's run, at two worlds -/
def LkR (mv : Value) (fr : Int) (u : Nat) (v : Value) (bo : Bool) (W : World) : Prop :=
  (Instr.lookup 142 mv (plK fr u) true).run Tryz.prog W = .ok (.tuple #[v, .bool bo]) W
set_option maxRecDepth 100000 in
set_option maxHeartbeats 4000000 in
/-- found -/
theorem mapsFound (pw : Nat) {X : Nat → Prop} {w : World} {ps : Nat} {L : List T} {sh : Int} {A : Option Addr} {n c : Nat} {mv : Value} (hs : Sc X w ps L sh A n c mv) (m j u : Nat) (h1 : m + j + 1 = n) (hu : 0 < u) (hu2 : u ≤ 40000)
    {k h : Int} {AT : Option Addr} {nT cT : Nat} (hv : RX X w (upT u (L.getD j (.node 0 0 [])) 0) (.agg #[.int .i64 k, .int .i64 h, .slice AT nT cT]))
    (hlk : ∀ W, Below w.heap.size w W → LkR mv m u (.agg #[.int .i64 k, .int .i64 h, .slice AT nT cT]) true W) :
    Calls Tryz.prog 119 #[.pointer (some ⟨ps, 0, none⟩), .int .i64 m, .int .i64 u] w (MEnd pw ps X w L sh A n c mv (upT u (L.getD j (.node 0 0 [])) 0)) := by
  have lp := hs.box.lt
  obtain ⟨c0, c1, c2⟩ := hs.box.three
  have d1 : decide (n ≤ m) = false := by simp; omega
  have hn := hs.list.le
  have hc := hs.list.cap
  unfold maxLen at hc
  have hij : (n : Int) - 1 - m = j := by omega
  have hlt : (j : Int) < n := by omega
  have hu0 : ((u : Int) == 0) = false := by rw [beq_eq_false_iff_ne]; omega
  obtain ⟨b, o, k2, h2, A2, n2, c2', rfl, e0, e1, e2, hr⟩ := (hs.at_ (j := j) (by omega)).full
  have bxS := hs.box
  have HS := Lib.hid hs; clear hs
  have HV := Lib.hid hv; clear hv hr
  have HLK := Lib.hid hlk; clear hlk
  have lb := cell_lt e0
  dsimp only at lb
  have H1 := Lib.hid h1; clear h1
  go_enter Tryz.func119, Tryz.ntmps119
  go_wp2_with fail
  obtain ⟨W, hW⟩ : ∃ W, (((w.alloc (Obj.cells #[Value.int IntKind.i64 0, Value.int IntKind.i64 0, Value.slice none 0 0] 36)).alloc (Obj.cells #[Value.int IntKind.i64 k2, Value.int IntKind.i64 h2, Value.slice A2 n2 c2'] 36)).alloc (Obj.cells #[Value.int IntKind.i64 ↑m, Value.int IntKind.i64 ↑u] 177)) = W := ⟨_, rfl⟩
  have hb : Below w.heap.size w W := by rw [← hW]; exact (((Below.refl _ _).alloc (Nat.le_refl _) _).alloc (by simp) _).alloc (by simp; omega) _
  have xR : Box W w.heap.size 36 #[.int .i64 0, .int .i64 0, .slice none 0 0] := by rw [← hW]; exact ((Box.new _ _ _).alloc _).alloc _
  have xT : Box W (w.heap.size + 1) 36 #[.int .i64 k2, .int .i64 h2, .slice A2 n2 c2'] := by rw [← hW]; exact ((Box.new (w.alloc _) _ _).at (by simp)).alloc _
  have xP : Box W (w.heap.size + 1 + 1) 177 #[.int .i64 m, .int .i64 u] := by rw [← hW]; exact (Box.new ((w.alloc _).alloc _) _ _).at (by simp)
  have bxW := bxS.keep hb lp
  rw [hW]
  clear hW bxS c0 c1 c2 e0 e1 e2
  obtain ⟨c0, c1, c2⟩ := bxW.three
  obtain ⟨p0, p1⟩ := xP.two
  obtain ⟨r0, r1, r2⟩ := xR.three
  have f0 := xR.frozen 0
  have f1 := xR.frozen 1
  have f2 := xR.frozen 2
  have lR := xR.lt
  have lP := xP.lt
  have lS := bxW.lt
  have hk1 : (Instr.lookup 142 mv (.agg #[.int .i64 m, .int .i64 u]) true).run Tryz.prog W.drew = .ok (.tuple #[.agg #[.int .i64 k, .int .i64 h, .slice AT nT cT], .bool true]) W.drew := HLK.out _ hb.drew
  have hk2 : (Instr.lookup 142 mv (.agg #[.int .i64 m, .int .i64 u]) true).run Tryz.prog (W.alloc (.cells #[.int .i64 0, .int .i64 0, .slice none 0 0] 36)).drew = .ok (.tuple #[.agg #[.int .i64 k, .int .i64 h, .slice AT nT cT], .bool true]) (W.alloc (.cells #[.int .i64 0, .int .i64 0, .slice none 0 0] 36)).drew := HLK.out _ (hb.alloc hb.size _).drew
  have HB := Lib.hid hb; clear hb
  go_region
  all_goals
    go_wp2_with fail
    refine bodyPost_ret (v := .agg #[.int .i64 k, .int .i64 h, .slice AT nT cT]) (by simp [results, Tryz.results119, go_sem, lR, r0, r1, r2]) rfl ?_
    have hbb := ((below_set3 (a := w.heap.size) HB.out (Nat.le_refl _) (.int .i64 k) (.int .i64 h) (.slice AT nT cT)).alloc (by have := HB.out.size; simpa using this) (.cells #[.int .i64 k, .int .i64 h, .slice AT nT cT] 36)).drew
    exact ⟨_, _, _, _, _, X, mv, rfl, RX.adv HV.out (Adv.below hbb), HS.out.below hbb, Stp.below hbb⟩
set_option maxRecDepth 100000 in
set_option maxHeartbeats 4000000 in
/-- not found: it is found now, and kept -/
theorem mapsNew (pw : Nat) {X : Nat → Prop} {w : World} {ps : Nat} {L : List T} {sh : Int} {A : Option Addr} {n c : Nat} {mv : Value} (hs : Sc X w ps L sh A n c mv) (m j u : Nat) (h1 : m + j + 1 = n) (hu : 0 < u) (hu2 : u ≤ 40000)
    {M : Int} (hM : M ≤ 1125899906842624) (ho : okT M (L.getD j (.node 0 0 []))) (hmy : myB (L.getD j (.node 0 0 [])) = true)
    (hlk : ∀ W, Below w.heap.size w W → LkR mv m u zT false W)
    (hno : ∀ pm es cl, mv = .map (some pm) → w.heap[pm]? = some (.map es cl) → ∀ x ∈ es.toList, x.key ≠ plK m u) :
    Calls Tryz.prog 119 #[.pointer (some ⟨ps, 0, none⟩), .int .i64 m, .int .i64 u] w (MEnd pw ps X w L sh A n c mv (upT u (L.getD j (.node 0 0 [])) 0)) := by
  have lp := hs.box.lt
  obtain ⟨c0, c1, c2⟩ := hs.box.three
  have d1 : decide (n ≤ m) = false := by simp; omega
  have hn := hs.list.le
  have hc := hs.list.cap
  unfold maxLen at hc
  have hij : (n : Int) - 1 - m = j := by omega
  have hlt : (j : Int) < n := by omega
  have hu0 : ((u : Int) == 0) = false := by rw [beq_eq_false_iff_ne]; omega
  obtain ⟨b, o, k2, h2, A2, n2, c2', rfl, e0, e1, e2, hr⟩ := (hs.at_ (j := j) (by omega)).full
  have bxS := hs.box
  have hbn := hs.bnd
  have HBN := Lib.hid hbn; clear hbn
  have hml : ∀ pm, mv = .map (some pm) → pm < w.heap.size := fun pm e => hs.mapLt e
  have HML := Lib.hid hml; clear hml
  have HS := Lib.hid hs; clear hs
  obtain ⟨t, ht⟩ : ∃ t, L.getD j (.node 0 0 []) = t := ⟨_, rfl⟩
  have hut : upL0 L m u = upT u t 0 := by
    rw [← ht, upL0, HS.out.list.len, show n - 1 - (m : Int).toNat = j by omega]
  rw [ht] at hr ho hmy ⊢
  have HUT := Lib.hid hut; clear hut ht
  have HR := Lib.hid hr; clear hr
  have HNO := Lib.hid hno; clear hno
  have HO := Lib.hid ho; clear ho
  have HMY := Lib.hid hmy; clear hmy
  have hwu : (Lit.int .i64 (u : Int)).wf = true := wf_small (by omega) (by omega)
  have hwm : (Lit.int .i64 (m : Int)).wf = true := wf_small (by omega) (by omega)
  have HWU := Lib.hid hwu; clear hwu
  have HWM := Lib.hid hwm; clear hwm
  have HLK := Lib.hid hlk; clear hlk
  have lb := cell_lt e0
  dsimp only at lb
  have H1 := Lib.hid h1; clear h1
  go_enter Tryz.func119, Tryz.ntmps119
  go_wp2_with fail
  obtain ⟨W, hW⟩ : ∃ W, (((w.alloc (Obj.cells #[Value.int IntKind.i64 0, Value.int IntKind.i64 0, Value.slice none 0 0] 36)).alloc (Obj.cells #[Value.int IntKind.i64 k2, Value.int IntKind.i64 h2, Value.slice A2 n2 c2'] 36)).alloc (Obj.cells #[Value.int IntKind.i64 ↑m, Value.int IntKind.i64 ↑u] 177)) = W := ⟨_, rfl⟩
  have hb : Below w.heap.size w W := by rw [← hW]; exact (((Below.refl _ _).alloc (Nat.le_refl _) _).alloc (by simp) _).alloc (by simp; omega) _
  have xR : Box W w.heap.size 36 #[.int .i64 0, .int .i64 0, .slice none 0 0] := by rw [← hW]; exact ((Box.new _ _ _).alloc _).alloc _
  have xT : Box W (w.heap.size + 1) 36 #[.int .i64 k2, .int .i64 h2, .slice A2 n2 c2'] := by rw [← hW]; exact ((Box.new (w.alloc _) _ _).at (by simp)).alloc _
  have xP : Box W (w.heap.size + 1 + 1) 177 #[.int .i64 m, .int .i64 u] := by rw [← hW]; exact (Box.new ((w.alloc _).alloc _) _ _).at (by simp)
  have bxW := bxS.keep hb lp
  rw [hW]
  clear hW bxS c0 c1 c2 e0 e1 e2
  obtain ⟨c0, c1, c2⟩ := bxW.three
  obtain ⟨p0, p1⟩ := xP.two
  obtain ⟨r0, r1, r2⟩ := xR.three
  have f0 := xR.frozen 0
  have f1 := xR.frozen 1
  have f2 := xR.frozen 2
  have lR := xR.lt
  have lP := xP.lt
  have lS := bxW.lt
  have hk1 : (Instr.lookup 142 mv (.agg #[.int .i64 m, .int .i64 u]) true).run Tryz.prog W.drew = .ok (.tuple #[.agg #[.int .i64 0, .int .i64 0, .slice none 0 0], .bool false]) W.drew := HLK.out _ hb.drew
  have hk2 : (Instr.lookup 142 mv (.agg #[.int .i64 m, .int .i64 u]) true).run Tryz.prog (W.alloc (.cells #[.int .i64 0, .int .i64 0, .slice none 0 0] 36)).drew = .ok (.tuple #[.agg #[.int .i64 0, .int .i64 0, .slice none 0 0], .bool false]) (W.alloc (.cells #[.int .i64 0, .int .i64 0, .slice none 0 0] 36)).drew := HLK.out _ (hb.alloc hb.size _).drew
  have HB := Lib.hid hb; clear hb
  have HXR := Lib.hid xR; have HXT := Lib.hid xT; have HXP := Lib.hid xP; have HBX := Lib.hid bxW
  clear xR xT xP bxW
  go_region
  all_goals
    clear hk1 hk2
    obtain ⟨W2, hW2⟩ : ∃ W2, (W.alloc (Obj.cells #[Value.int IntKind.i64 0, Value.int IntKind.i64 0, Value.slice none 0 0] 36)).drew = W2 := ⟨_, rfl⟩
    have hb2 : Below w.heap.size w W2 := by rw [← hW2]; exact (HB.out.alloc HB.out.size _).drew
    have yU : Box W2 W.heap.size 36 #[.int .i64 0, .int .i64 0, .slice none 0 0] := by rw [← hW2]; exact Box.new _ _ _
    have yR : Box W2 w.heap.size 36 #[.int .i64 0, .int .i64 0, .slice none 0 0] := by rw [← hW2]; exact HXR.out.alloc _
    have yT : Box W2 (w.heap.size + 1) 36 #[.int .i64 k2, .int .i64 h2, .slice A2 n2 c2'] := by rw [← hW2]; exact HXT.out.alloc _
    have yP : Box W2 (w.heap.size + 1 + 1) 177 #[.int .i64 m, .int .i64 u] := by rw [← hW2]; exact HXP.out.alloc _
    have lWW := yU.lt
    rw [hW2]
    clear hW2 c0 c1 c2 p0 p1 r0 r1 r2 f0 f1 f2
    obtain ⟨t0, t1, t2⟩ := yT.three
    go_wp2_with fail
    clear t0 t1 t2
    have hup : upX t u 0 = upT u t 0 := by
      have hnd := ((myB_iff _).1 HMY.out).2.1
      exact upX_eq hM HO.out (by omega) (by rw [mayB_my (by omega)]; exact HMY.out) (by omega) (by omega)
    have hUp := upC t u 0 _ W2 (Rd.keep hb2 _ _ (RX.rd HR.out)) (by have := ((myB_iff _).1 HMY.out).2.1; omega)
    rw [hup] at hUp
    refine hUp.mono ?_
    clear hUp hup
    rintro e w3 ⟨v3, rfl, how, hb3⟩
    obtain ⟨k3, h3, A3, n3, c3, rfl⟩ := how.full
    have HOW := Lib.hid how; clear how
    have hbw : Below w.heap.size w w3 := hb2.trans (hb3.mono hb2.size)
    replace yU := yU.keep hb3 yU.lt
    replace yR := yR.keep hb3 yR.lt
    replace yP := yP.keep hb3 yP.lt
    clear hb3 yT
    have HBW := Lib.hid hbw; clear hbw
    have lU := yU.lt
    have sU : W.heap.size ≠ w.heap.size ∧ W.heap.size ≠ w.heap.size + 1 + 1 := ⟨by omega, by omega⟩
    obtain ⟨u0, u1, u2⟩ := yU.three
    have g0 := yU.frozen 0
    have g1 := yU.frozen 1
    have g2 := yU.frozen 2
    obtain ⟨p0, p1⟩ := yP.two
    have e1 : ¬ (w.heap.size + 1 + 1 = W.heap.size) := by omega
    go_wp2_with fail
    have hW2 := yU.lt
    obtain ⟨W3, hW3⟩ : ∃ W3, ((w3.setCell ⟨W.heap.size, 0, none⟩ (.int .i64 k3)).setCell ⟨W.heap.size, 1, none⟩ (.int .i64 h3)).setCell ⟨W.heap.size, 2, none⟩ (.slice A3 n3 c3) = W3 := ⟨_, rfl⟩
    have hlW : w.heap.size ≤ W.heap.size := HB.out.size
    have hb3 : Below w.heap.size w W3 := by rw [← hW3]; exact below_set3 HBW.out hlW _ _ _
    have zU : Box W3 W.heap.size 36 #[.int .i64 k3, .int .i64 h3, .slice A3 n3 c3] := by rw [← hW3]; exact yU.put3 _ _ _
    have zR : Box W3 w.heap.size 36 #[.int .i64 0, .int .i64 0, .slice none 0 0] := by rw [← hW3]; exact yR.other3 (by omega) _ _ _
    have ad3 : Adv X w (fun b => X b ∨ b = w.heap.size ∨ b = W.heap.size) W3 := ⟨hb3.size, fun _ h => .inl h, fun i hi e => by
      rcases e with e | e | e
      · exact e
      · omega
      · omega, fun i hi _ => hb3.block i hi⟩
    have sc3 : Sc (fun b => X b ∨ b = w.heap.size ∨ b = W.heap.size) W3 ps L sh (some ⟨b, o, none⟩) n c mv := HS.out.more hb3 (fun _ h => .inl h) (fun i hi e => by
      rcases e with e | e | e
      · exact e
      · omega
      · omega) (fun i e => by
      rcases e with e | e | e
      · exact Nat.lt_of_lt_of_le (HBN.out i e) hb3.size
      · rw [e]; exact zR.lt
      · rw [e]; exact zU.lt)
    have rv3 : RX (fun b => X b ∨ b = w.heap.size ∨ b = W.heap.size) W3 (upL0 L m u) (.agg #[.int .i64 k3, .int .i64 h3, .slice A3 n3 c3]) := by
      rw [HUT.out, ← hW3]
      refine RdF.moveX (fun g hg hl => ⟨fun e => ?_, heap_other3 _ _ _ _ _ _ (by omega)⟩) _ _ HOW.out.rdF
      rcases e with e | e | e
      · have := HBN.out g e; have := hb2.size; omega
      · omega
      · omega
    have zlt := zR.lt
    rw [hW3]
    clear hW3 u0 u1 u2 g0 g1 g2 p0 p1 yU yR yP HOW
    refine (keepC ps HWM.out HWU.out sc3 rv3 (fun pm es cl e hm => HNO.out pm es cl e (by rw [← hb3.block pm (HML.out pm e)]; exact hm))).mono ?_
    rintro e w4 ⟨rfl, X', mv', sc4, st4⟩
    have nx : ∀ g, w.heap.size ≤ g → ¬ (g = ps ∨ g = ps ∨ mv = .map (some g)) := fun g hg e => by
      rcases e with e | e | e
      · omega
      · omega
      · have := HML.out g e; omega
    replace zU := zU.fr st4.fr (nx _ hlW)
    replace zR := zR.fr st4.fr (nx _ (Nat.le_refl _))
    have rv4 := RX.adv rv3 st4.adv
    clear nx rv3 sc3
    obtain ⟨u0, u1, u2⟩ := zU.three
    obtain ⟨r0, r1, r2⟩ := zR.three
    have f0 := zR.frozen 0
    have f1 := zR.frozen 1
    have f2 := zR.frozen 2
    have hXR := st4.adv.more w.heap.size (.inr (.inl rfl))
    have hne : ∀ pm, mv' = .map (some pm) → pm ≠ w.heap.size := fun pm e e2 => by
      subst e2
      have := HML.out _ (st4.mvs _ e zlt)
      omega
    have HNE := Lib.hid hne; clear hne
    have HXR' := Lib.hid hXR; clear hXR
    have HB3 := Lib.hid hb3; clear hb3
    have HA3 := Lib.hid ad3; clear ad3
    have HS4 := Lib.hid sc4; clear sc4
    have HT4 := Lib.hid st4; clear st4
    have HV4 := Lib.hid rv4; clear rv4
    go_wp2_with fail
    refine bodyPost_ret (v := .agg #[.int .i64 k3, .int .i64 h3, .slice A3 n3 c3]) (by simp [results, Tryz.results119, go_sem, r0, r1, r2]) rfl ?_
    refine ⟨_, _, _, _, _, X', mv', rfl, RX.adv (HUT.out ▸ HV4.out) (Adv.set3 HXR'.out _ _ _), HS4.out.adv (Adv.set3 HXR'.out _ _ _) (heap_other3 _ _ _ _ _ _ (by omega)) (fun pm e => heap_other3 _ _ _ _ _ _ (HNE.out pm e)) (fun g hg => by rw [size_set3]; exact HS4.out.bnd g hg), ?_⟩
    refine ⟨HA3.out.trans (HT4.out.adv.trans (Adv.set3 HXR'.out _ _ _)), Fr.set3 ((Fr.below HB3.out).trans HT4.out.fr fun i hi e => .inr (by rcases e with e | e | e; exact .inl e; exact .inl e; exact .inr e)) (fun h => absurd h (Nat.lt_irrefl _)) _ _ _, fun k e hl => HT4.out.mvs k e (Nat.lt_of_lt_of_le hl HB3.out.size)⟩
/-- what a scope maps a free variable to -/
theorem mapsC (pw : Nat) {X : Nat → Prop} {w : World} {ps : Nat} {L : List T} {sh M : Int} {A : Option Addr} {n c : Nat} {mv : Value} (hs : Sc X w ps L sh A n c mv) (fr : Int) (u : Nat) (sb : Sub M L sh) (hM : M ≤ 1125899906842624)
    (h0 : 0 ≤ fr) (h1 : fr ≤ 1125899906842624) (hu : u ≤ 40000) :
    Calls Tryz.prog 119 #[.pointer (some ⟨ps, 0, none⟩), .int .i64 fr, .int .i64 u] w (MEnd pw ps X w L sh A n c mv (mpT L sh fr u)) := by
  have hl := hs.list.len
  by_cases hfar : (L.length : Int) ≤ fr
  · have e : mpT L sh fr u = .node 4 (fr - n + sh + u) [] := by rw [mpT, if_pos hfar, hl]
    rw [e]
    exact mapsFar pw hs fr u (by omega) h1 sb.lo sb.hi hu
  · obtain ⟨m, rfl⟩ : ∃ m : Nat, fr = m := ⟨fr.toNat, by omega⟩
    obtain ⟨j, hj⟩ : ∃ j, m + j + 1 = n := ⟨n - 1 - m, by omega⟩
    have hidx : L.length - 1 - (m : Int).toNat = j := by omega
    have e : mpT L sh m u = upT u (L.getD j (.node 0 0 [])) 0 := by rw [mpT, if_neg hfar, hidx]
    have e2 : upL0 L m u = upT u (L.getD j (.node 0 0 [])) 0 := by rw [upL0, hidx]
    rw [e]
    have hmem : L.getD j (.node 0 0 []) ∈ L := getD_mem _ (by omega)
    have hmx := hs.list.le
    have hmc := hs.list.cap
    unfold maxLen at hmc
    have wm : (Lit.int .i64 (m : Int)).wf = true := wf_small (by omega) (by omega)
    have wu : (Lit.int .i64 (u : Int)).wf = true := wf_small (by omega) (by omega)
    rcases Nat.eq_zero_or_pos u with rfl | hup
    · have := mapsZero pw hs m j hj
      rwa [← up_zero (L.getD j (.node 0 0 [])) 0] at this
    · rcases hs.found with rfl | ⟨pm, es, cl, rfl, hX, hm, hok⟩
      · exact mapsNew pw hs m j u hj hup hu hM (sb.ok _ hmem) (sb.may _ hmem) (fun W _ => look_nil _ _ wm wu W) (fun pm es cl e => by cases e)
      · have lpm := (Array.getElem?_eq_some_iff.1 hm).1
        rcases look_map wm wu hm hok.keys with ⟨_, hno⟩ | ⟨x, hx, hk, _⟩
        · refine mapsNew pw hs m j u hj hup hu hM (sb.ok _ hmem) (sb.may _ hmem) (fun W hb => ?_) (fun pm' es' cl' e hm' => ?_)
          · rcases look_map wm wu ((hb.block pm lpm).trans hm) hok.keys with ⟨h, _⟩ | ⟨x, hx, hk, _⟩
            · exact h
            · exact absurd hk (hno x hx)
          · cases e
            rw [hm] at hm'
            cases hm'
            exact hno
        · have hr := hok.ok x hx m u hk (by omega) (by omega)
          have hr' : RX X w (upT u (L.getD j (.node 0 0 [])) 0) x.val := e2 ▸ hr
          obtain ⟨k2, h2, A2, n2, c2, hxv⟩ := RdF.full hr'
          rw [hxv] at hr'
          refine mapsFound pw hs m j u hj hup hu hr' fun W hb => ?_
          rcases look_map wm wu ((hb.block pm lpm).trans hm) hok.keys with ⟨_, hno⟩ | ⟨y, hy, hk2, h⟩
          · exact absurd hk (hno x hx)
          · rw [hok.one y hy x hx (hk2.trans hk.symm), hxv] at h
            exact h
end Go.Proofs.YtmkahbbcagfbhaaGreatDoor
/-
  Contracts of slices.Grow and slices.Concat at lists of terms. No statement is proved here.
-/
namespace Go.Proofs.YtmkahbbcagfbhaaGreatDoor
open Go.ChangeShapes Go.WideShapes Go.ChangeAt Go.RowKit
set_option linter.unusedVariables false
def GEnd (w : World) (e : Ending) (w' : World) : Prop :=
  ∃ cap, e = .returned (.slice (some ⟨w.heap.size, 0, none⟩) 0 cap) ∧ w'.ownsRow w.heap.size 36 3 (.slice (some ⟨w.heap.size, 0, none⟩) 0 cap) 0 [] ∧ Below w.heap.size w w'
set_option maxRecDepth 100000 in
set_option maxHeartbeats 1000000 in
theorem growC (n : Nat) (h0 : 0 < n) (hn : n ≤ 3518437208780) (w : World) : Calls Tryz.prog 137 #[.slice none 0 0, .int .i64 n] w (GEnd w) := by
  obtain ⟨i0, hi, hz0, hz1, hz2⟩ := info_parts infoTerm
  have hrz : ∀ ty, (Builtin.append_ #[34, 3] ty #[.slice none 0 0, .int .i64 n]).run Tryz.prog w =
      .ok (.slice (some ⟨w.heap.size, 0, none⟩) n (grownCap w n 0 36)) (w.drew.alloc (.cells (#[] ++ Builtin.zeroCells (Value.cells zT) n ++ Builtin.zeroCells (Value.cells zT) (grownCap w n 0 36 - n)) 36)) := fun ty => by
    have h := Lib.run_append_grow_zeros w 34 3 ty 36 i0 zT .i64 .i64 Tryz.underlying34 Tryz.underlying3 hi hz0 none 0 0 [] (run_firstCells_none w.drew i0.size 0 0 0) n h0 (by omega) (by omega) (by omega) (by rw [hz2]; omega)
      (by rw [hz2]; simp only [Builtin.nextslicecap]; split <;> omega)
    simpa using h
  have hg := grownCap_ge w n 0 36
  have hgm := grownCap_le_maxLen w n 0 36 (by unfold maxLen; omega)
  obtain ⟨G, hG⟩ : ∃ G, grownCap w n 0 36 = G := ⟨_, rfl⟩
  rw [hG] at hrz hg hgm
  have hcs : (#[] ++ Builtin.zeroCells (Value.cells zT) n ++ Builtin.zeroCells (Value.cells zT) (G - n)).size = G * 3 := by
    simp only [Array.size_append, size_zeroCells]
    have : (Value.cells zT).size = 3 := rfl
    rw [this]
    simp only [List.size_toArray, List.length_nil]
    omega
  generalize (#[] ++ Builtin.zeroCells (Value.cells zT) n ++ Builtin.zeroCells (Value.cells zT) (G - n)) = cs at *
  have HCS := Lib.hid hcs; clear hcs hG hi hz0 hz1 hz2 i0
  have h1 : ¬ ((n : Int) < 0) := by omega
  have h4 : (0 : Int) < n := by omega
  unfold maxLen at hgm
  go_enter Tryz.func137, Tryz.ntmps137
  go_wp2_with (at_builtin; refine Lib.wpList_append_run _ rfl _ _ _ _ rfl _ _ rfl rfl _ _ (hrz _) ?_)
  go_ret
  refine ⟨G, rfl, ⟨rfl, .inr ⟨w.heap.size, G, cs, rfl, Nat.le_refl _, ?_, Nat.zero_le _, by unfold maxLen; omega, HCS.out, by simp⟩⟩, ?_⟩
  · exact heap_alloc_new w.drew _
  · exact ((Below.refl _ w).drew).alloc (by simp) _
/-- the cells of a list in memory -/
theorem RXL.cells {X : Nat → Prop} {w : World} {xs : List T} {A : Option Addr} {n c : Nat} (h : RXL X w xs A n c) : ∃ cs : List Value, cs.length = n * 3 ∧ KidL w (fun b => ¬ X b) cs xs ∧ (∀ u ∈ cs, u.oneCell' = true) ∧ ∀ a, A = some a → ∀ j u, cs[j]? = some u → w.cell? (a.add j) = some u := by
  obtain ⟨hl, h1, _, hat⟩ := h
  clear h1
  subst hl
  induction xs generalizing A with
  | nil => exact ⟨[], rfl, (fun i t ht => by simp at ht), (fun u hu => by cases hu), fun a _ j u hu => by simp at hu⟩
  | cons x xs ih =>
    obtain ⟨b, o, k, g, A', n', c', rfl, c0, c1, c2, hr⟩ := (hat 0 x rfl).full
    obtain ⟨cs, h1, h2, h3, h4⟩ := ih (A := some ⟨b, o + 3, none⟩) (fun i t ht => by
      obtain ⟨b', o', v0, v1, v2, e, hb, d0, d1, d2, hr'⟩ := hat (i + 1) t (by simpa using ht)
      cases e
      refine ⟨b, o + 3, v0, v1, v2, rfl, hb, ?_, ?_, ?_, hr'⟩
      · rw [show o + 3 + i * 3 = o + (i + 1) * 3 by omega]; exact d0
      · rw [show o + 3 + i * 3 = o + (i + 1) * 3 by omega]; exact d1
      · rw [show o + 3 + i * 3 = o + (i + 1) * 3 by omega]; exact d2)
    refine ⟨.int .i64 k :: .int .i64 g :: .slice A' n' c' :: cs, by simp [h1]; omega, fun i t ht => ?_, fun u hu => ?_, fun a ha j u hu => ?_⟩
    · cases i with
      | zero =>
        simp only [List.getElem?_cons_zero, Option.some.injEq] at ht
        subst ht
        exact ⟨k, g, A', n', c', rfl, rfl, rfl, hr⟩
      | succ i =>
        obtain ⟨k2, g2, A2, n2, c2', e0, e1, e2, hr2⟩ := h2 i t (by simpa using ht)
        refine ⟨k2, g2, A2, n2, c2', ?_, ?_, ?_, hr2⟩
        · rw [show (i + 1) * 3 = i * 3 + 1 + 1 + 1 by omega]; simpa using e0
        · rw [show (i + 1) * 3 + 1 = i * 3 + 1 + 1 + 1 + 1 by omega]; simpa using e1
        · rw [show (i + 1) * 3 + 2 = i * 3 + 2 + 1 + 1 + 1 by omega]; simpa using e2
    · simp only [List.mem_cons] at hu
      rcases hu with rfl | rfl | rfl | hu
      · rfl
      · rfl
      · rfl
      · exact h3 u hu
    · cases ha
      rw [addr_add]
      match j, hu with
      | 0, hu => simp at hu; subst hu; simpa using c0
      | 1, hu => simp at hu; subst hu; simpa using c1
      | 2, hu => simp at hu; subst hu; simpa using c2
      | j + 3, hu =>
        have := h4 _ rfl j u (by simpa using hu)
        rw [addr_add] at this
        rw [show o + (j + 3) = o + 3 + j by omega]
        exact this
theorem KidL.app {w : World} {ok : Nat → Prop} {cs ds : List Value} {xs ys : List T} (h : KidL w ok cs xs) (hl : cs.length = xs.length * 3) (k : KidL w ok ds ys) : KidL w ok (cs ++ ds) (xs ++ ys) := fun i t ht => by
  by_cases hi : i < xs.length
  · rw [List.getElem?_append_left hi] at ht
    obtain ⟨k1, h1, A, n, c, e0, e1, e2, hr⟩ := h i t ht
    exact ⟨k1, h1, A, n, c, by rw [List.getElem?_append_left (by omega)]; exact e0, by rw [List.getElem?_append_left (by omega)]; exact e1, by rw [List.getElem?_append_left (by omega)]; exact e2, hr⟩
  · rw [List.getElem?_append_right (by omega)] at ht
    obtain ⟨k1, h1, A, n, c, e0, e1, e2, hr⟩ := k _ t ht
    refine ⟨k1, h1, A, n, c, ?_, ?_, ?_, hr⟩
    · rw [List.getElem?_append_right (by omega), show i * 3 - cs.length = (i - xs.length) * 3 by omega]; exact e0
    · rw [List.getElem?_append_right (by omega), show i * 3 + 1 - cs.length = (i - xs.length) * 3 + 1 by omega]; exact e1
    · rw [List.getElem?_append_right (by omega), show i * 3 + 2 - cs.length = (i - xs.length) * 3 + 2 by omega]; exact e2
theorem run_append_empty (ty : TypeId) (g c : Nat) (A : Option Addr) (c' n : Nat) (h : n ≤ c) (w : World) : (Builtin.append_ #[34, 34] ty #[.slice (some ⟨g, 0, none⟩) n c, .slice A 0 c']).run Tryz.prog w = .ok (.slice (some ⟨g, 0, none⟩) n c) w := by
  obtain ⟨i0, hi, hz0, hz1, hz2⟩ := info_parts infoTerm
  cases A <;> simp [Builtin.append_, run_underlying Tryz.underlying34, sizeOf, typeInfo, hi, Builtin.lenOf, h, Builtin.firstCells, storeCells, loadCells, loadCellsFrom]
def sm (a b : Nat) : Nat → Nat
  | 0 => 0
  | 1 => a
  | _ => a + b
def cl2 (cs ds : List Value) : Nat → List Value
  | 0 => []
  | 1 => cs
  | _ => cs ++ ds
/-- an append at a row of the call's own -/
theorem append_row {w wr : World} {g cap n m c : Nat} {xs news : List Value} {A : Option Addr} (hb : Below w.heap.size w wr) (how : wr.ownsRow w.heap.size 36 3 (.slice (some ⟨g, 0, none⟩) n cap) n xs) (hnc : n ≤ cap)
    (hl : news.length = m * 3) (hnews : ∀ a, A = some a → ∀ j u, news[j]? = some u → w.cell? (a.add j) = some u) (h1 : ∀ u ∈ news, u.oneCell' = true) (hA : 0 < m → ∃ b o, A = some ⟨b, o, none⟩) (hs : n + m ≤ 3518437208780) (ty : TypeId) :
    ∃ g' cap' w', (Builtin.append_ #[34, 34] ty #[.slice (some ⟨g, 0, none⟩) n cap, .slice A m c]).run Tryz.prog wr = .ok (.slice (some ⟨g', 0, none⟩) (n + m) cap') w' ∧
      w'.ownsRow w.heap.size 36 3 (.slice (some ⟨g', 0, none⟩) (n + m) cap') (n + m) (xs ++ news) ∧ n + m ≤ cap' ∧ Below w.heap.size w w' := by
  rcases Nat.eq_zero_or_pos m with rfl | hm
  · have hn : news = [] := List.length_eq_zero_iff.1 (by simpa using hl)
    subst hn
    exact ⟨g, cap, wr, run_append_empty ty g cap A c n hnc wr, by simpa using how, hnc, hb⟩
  · obtain ⟨b, o, rfl⟩ := hA hm
    obtain ⟨i0, hi, hz0, hz1, hz2⟩ := info_parts infoTerm
    have hg := how.lt g rfl
    obtain ⟨g', cap', w', hrun, how', hgr, _, _⟩ := run_append_lies (P := Tryz.prog) wr 34 ty w.heap.size 36 i0 _ 3 40 Tryz.underlying34 hi hz0 hz1 hz2 rfl (by omega) (.slice (some ⟨g, 0, none⟩) n cap) n xs how ⟨b, o, none⟩ m c news hl
      (fun j u hu => by
        have := hnews _ rfl j u hu
        rw [addr_add] at this ⊢
        exact (hb.cell (cell_lt this)).trans this) h1 hm (by unfold maxLen; omega) (by omega) hb.size _ rfl
    refine ⟨g', cap', w', hrun, how', ?_, below_grown hb hgr (fun r hr => (how.lt r hr).1) hb.size⟩
    rcases how'.2 with ⟨h, _⟩ | ⟨g2, c2, cur, h, _, _, hle, _⟩
    · cases h
    · cases h; exact hle
def CEnd (X : Nat → Prop) (zs : List T) (m : Nat) (w : World) (e : Ending) (w' : World) : Prop := ∃ A c, e = .returned (.slice A m c) ∧ RXL X w' zs A m c ∧ Below w.heap.size w w'
theorem rxl_row {X : Nat → Prop} {w w' : World} {cs : List Value} {zs : List T} {A : Option Addr} {n c : Nat} (how : w'.ownsRow w.heap.size 36 3 (.slice A n c) n cs) (hk : KidL w' (fun b => ¬ X b) cs zs) (hz : zs.length = n) (hX : ∀ b, X b → b < w.heap.size) : RXL X w' zs A n c := by
  have h := rdF_row (k := 0) (h := 0) (ok' := fun b => ¬ X b) how hk hz (fun _ h => h) (fun g hg e => by have := (how.lt g hg).1; have := hX g e; omega) (by decide) (by decide)
  obtain ⟨A', n', c', e, _, _, h3, h4, h5, h6⟩ := RdF_node.1 h
  simp only [Value.agg.injEq] at e
  have e' : A = A' ∧ n = n' ∧ c = c' := by simpa using e
  obtain ⟨rfl, rfl, rfl⟩ := e'
  exact ⟨h3, h4, h5, h6⟩
set_option maxRecDepth 100000 in
set_option maxHeartbeats 2000000 in
theorem concatC {X : Nat → Prop} {w : World} {xs ys : List T} {A1 A2 : Option Addr} {n1 c1 n2 c2 B : Nat} (hx : RXL X w xs A1 n1 c1) (hy : RXL X w ys A2 n2 c2) (hX : ∀ b, X b → b < w.heap.size) (b0 : w.cell? ⟨B, 0, none⟩ = some (.slice A1 n1 c1)) (b1 : w.cell? ⟨B, 1, none⟩ = some (.slice A2 n2 c2))
    (h2 : 0 < n2) (hs : n1 + n2 ≤ 3518437208780) : Calls Tryz.prog 128 #[.slice (some ⟨B, 0, none⟩) 2 2] w (CEnd X (xs ++ ys) (n1 + n2) w) := by
  obtain ⟨cs, l1, k1, o1, e1⟩ := hx.cells
  obtain ⟨ds, l2, k2, o2, e2⟩ := hy.cells
  have ha1 : 0 < n1 → ∃ b o, A1 = some ⟨b, o, none⟩ := fun h => by
    obtain ⟨t, ht⟩ := at_of hx.len h
    obtain ⟨b, o, _, _, _, e, _⟩ := hx.at_ 0 t ht
    exact ⟨b, o, e⟩
  have ha2 : 0 < n2 → ∃ b o, A2 = some ⟨b, o, none⟩ := fun h => by
    obtain ⟨t, ht⟩ := at_of hy.len h
    obtain ⟨b, o, _, _, _, e, _⟩ := hy.at_ 0 t ht
    exact ⟨b, o, e⟩
  have lb := cell_lt b0
  dsimp only at lb
  have q1 := hx.le; have q2 := hx.cap; have q3 := hy.le; have q4 := hy.cap
  unfold maxLen at q2 q4
  have HX := Lib.hid hx; clear hx
  have HY := Lib.hid hy; clear hy
  have HXX := Lib.hid hX; clear hX
  have HL1 := Lib.hid (And.intro l1 (And.intro k1 (And.intro o1 e1))); clear l1 k1 o1 e1
  have HL2 := Lib.hid (And.intro l2 (And.intro k2 (And.intro o2 e2))); clear l2 k2 o2 e2
  have HA1 := Lib.hid ha1; clear ha1
  have HA2 := Lib.hid ha2; clear ha2
  go_enter Tryz.func128, Tryz.ntmps128
  go_wp2_with fail
  go_loop [3, 11] (fun z i => ∃ j : Nat, j ≤ 2 ∧ i = .int .i64 j ∧ z = .int .i64 (sm n1 n2 j : Nat)) (fun _ i => 2 - (intOf i).toNat)
  case atStart => exact ⟨0, by omega, rfl, rfl⟩
  case round =>
    obtain ⟨j, hj, rfl, rfl⟩ := hrel
    rcases (show j = 0 ∨ j = 1 ∨ j = 2 by omega) with rfl | rfl | rfl
    · have z0 : sm n1 n2 0 = 0 := rfl
      go_wp2_with fail
      go_round
      case rel => exact ⟨1, by omega, rfl, by simp [sm]⟩
      case measure => simp [intOf]
    · have z0 : sm n1 n2 1 = n1 := rfl
      go_wp2_with fail
      go_round
      case rel => exact ⟨2, by omega, rfl, by simp [sm]⟩
      case measure => simp [intOf]
    · have z0 : sm n1 n2 2 = n1 + n2 := rfl
      go_wp2_with fail
      have hG := growC (n1 + n2) (by omega) hs w
      rw [show ((n1 + n2 : Nat) : Int) = (n1 : Int) + n2 by omega] at hG
      refine hG.mono ?_
      clear hG
      rintro e w1 ⟨cap, rfl, how, hb⟩
      have HO := Lib.hid how; clear how
      have HB := Lib.hid hb; clear hb
      go_wp2_with fail
      go_loopw [6, 27] (fun v i wr => ∃ (j g cap : Nat), j ≤ 2 ∧ i = .int .i64 j ∧ v = .slice (some ⟨g, 0, none⟩) (sm n1 n2 j) cap ∧ Hid (wr.ownsRow w.heap.size 36 3 (.slice (some ⟨g, 0, none⟩) (sm n1 n2 j) cap) (sm n1 n2 j) (cl2 cs ds j)) ∧ sm n1 n2 j ≤ cap ∧ Hid (Below w.heap.size w wr)) (fun _ i _ => 2 - (intOf i).toNat)
      case atStart => exact ⟨0, w.heap.size, cap, by omega, rfl, rfl, HO, Nat.zero_le _, HB⟩
      case round =>
        obtain ⟨j, g, cap, hj, rfl, rfl, HO, hcap, HB⟩ := hrel
        have d0 : wr.cell? ⟨B, 0, none⟩ = some (.slice A1 n1 c1) := (HB.out.cell (p := ⟨B, 0, none⟩) lb).trans b0
        have d1 : wr.cell? ⟨B, 1, none⟩ = some (.slice A2 n2 c2) := (HB.out.cell (p := ⟨B, 1, none⟩) lb).trans b1
        rcases (show j = 0 ∨ j = 1 ∨ j = 2 by omega) with rfl | rfl | rfl
        · have hap := append_row (c := c1) (m := n1) HB.out HO.out hcap HL1.out.1 HL1.out.2.2.2 HL1.out.2.2.1 HA1.out (by show 0 + n1 ≤ _; omega)
          obtain ⟨g', cap', w', hrun, how', hle, hb'⟩ := hap 34
          have HO' := Lib.hid how'; clear how'
          have HB' := Lib.hid hb'; clear hb'
          have z0 : sm n1 n2 0 = 0 := rfl
          rw [z0] at hrun hle HO' ⊢
          go_wp2_with (at_builtin; refine Lib.wpList_append_run _ rfl _ _ _ _ rfl _ _ rfl rfl _ _ hrun ?_)
          go_roundw
          case rel => exact ⟨1, g', cap', by omega, rfl, by simp [sm], Lib.hid (by have := HO'.out; simpa [sm, cl2] using this), by simpa [sm] using hle, HB'⟩
          case measure => simp [intOf]
        · have hap := append_row (c := c2) (m := n2) HB.out HO.out hcap HL2.out.1 HL2.out.2.2.2 HL2.out.2.2.1 HA2.out (by show n1 + n2 ≤ _; omega)
          obtain ⟨g', cap', w', hrun, how', hle, hb'⟩ := hap 34
          have HO' := Lib.hid how'; clear how'
          have HB' := Lib.hid hb'; clear hb'
          have z0 : sm n1 n2 1 = n1 := rfl
          rw [z0] at hrun hle HO' ⊢
          go_wp2_with (at_builtin; refine Lib.wpList_append_run _ rfl _ _ _ _ rfl _ _ rfl rfl _ _ hrun ?_)
          go_roundw
          case rel => exact ⟨2, g', cap', by omega, rfl, by simp [sm], Lib.hid (by have := HO'.out; simpa [sm, cl2] using this), by simpa [sm] using hle, HB'⟩
          case measure => simp [intOf]
        · go_wp2_with fail
          go_ret
          refine ⟨_, cap, rfl, rxl_row (w := w) HO.out (KidL.app (HL1.out.2.1.move (fun _ h => h) fun b _ hl => HB.out.block b hl) (by rw [HL1.out.1, HX.out.len]) (HL2.out.2.1.move (fun _ h => h) fun b _ hl => HB.out.block b hl)) (by rw [List.length_append, HX.out.len, HY.out.len]) HXX.out, HB.out⟩
end Go.Proofs.YtmkahbbcagfbhaaGreatDoor
/-
  How package subst's apply, args and spine end; the contract of args, given that of apply. No statement is proved here.
-/
namespace Go.Proofs.YtmkahbbcagfbhaaGreatDoor
open Go.ChangeShapes Go.WideShapes Go.ChangeAt Go.RowKit
set_option linter.unusedVariables false
/-- the panic by which an error leaves all of it -/
abbrev stopC (e : Int) : List PanicEntry := [{ v := .iface 157 (.agg #[.int .i64 e]), recovered := false }]
abbrev wkB (w : World) (pw n : Nat) : Prop := Box w pw 160 #[.int .i64 (n : Int)]
/-- how apply ends -/
def AEnd (pw ps : Nat) (X : Nat → Prop) (w : World) (L : List T) (sh : Int) (A : Option Addr) (n c : Nat) (mv : Value) (r : Res) (e : Ending) (w' : World) : Prop :=
  match r with
  | .ok (t, m) => ∃ k h A' n' c' X' mv', e = .returned (.agg #[.int .i64 k, .int .i64 h, .slice A' n' c']) ∧ RX X' w' t (.agg #[.int .i64 k, .int .i64 h, .slice A' n' c']) ∧ Sc X' w' ps L sh A n c mv' ∧ Stp pw ps X w mv X' w' mv' ∧ wkB w' pw m
  | .error ec => e = .panicked (stopC ec) ∧ Fr (fun k => k = pw ∨ k = ps ∨ mv = .map (some k)) w w'
/-- how args ends -/
def LEnd (pw ps : Nat) (X : Nat → Prop) (w : World) (L : List T) (sh : Int) (A : Option Addr) (n c : Nat) (mv : Value) (r : Except Int (List T × Nat)) (e : Ending) (w' : World) : Prop :=
  match r with
  | .ok (ys, m) => ∃ A' n' c' X' mv', e = .returned (.slice A' n' c') ∧ RXL X' w' ys A' n' c' ∧ Sc X' w' ps L sh A n c mv' ∧ Stp pw ps X w mv X' w' mv' ∧ wkB w' pw m
  | .error ec => e = .panicked (stopC ec) ∧ Fr (fun k => k = pw ∨ k = ps ∨ mv = .map (some k)) w w'
/-- how spine ends -/
def PEnd (pw : Nat) (X : Nat → Prop) (w : World) (r : Res) (e : Ending) (w' : World) : Prop :=
  match r with
  | .ok (t, m) => ∃ k h A' n' c', e = .returned (.agg #[.int .i64 k, .int .i64 h, .slice A' n' c']) ∧ RX X w' t (.agg #[.int .i64 k, .int .i64 h, .slice A' n' c']) ∧ Fr (fun k => k = pw) w w' ∧ wkB w' pw m
  | .error ec => e = .panicked (stopC ec) ∧ Fr (fun k => k = pw) w w'
def ApC (f : Nat) : Prop := ∀ (L : List T) (sh : Int) (u : Nat) (t : T) (n : Nat) (v : Value) (w : World) (pw ps : Nat) (X : Nat → Prop) (A : Option Addr) (m c : Nat) (mv : Value),
  40001 ≤ n + f → u ≤ n → n ≤ 40000 → Sub (bt n) L sh → Way (bt n - sh) t → nd t ≤ 200000000 → X pw → pw ≠ ps → wkB w pw n → Sc X w ps L sh A m c mv → RX X w t v →
  Calls Tryz.prog 106 #[.pointer (some ⟨pw, 0, none⟩), v, .pointer (some ⟨ps, 0, none⟩), .int .i64 u] w (AEnd pw ps X w L sh A m c mv (ap f L sh u t n))
def SpC (f : Nat) : Prop := ∀ (t : T) (args : List T) (n : Nat) (v : Value) (A : Option Addr) (m c : Nat) (w : World) (pw : Nat) (X : Nat → Prop),
  40001 ≤ n + f → n ≤ 40000 → Way (bt n) t → WayL (bt n) args → nd t ≤ 200000000 → ndL args ≤ 200000000 → X pw → (∀ b, X b → b < w.heap.size) → wkB w pw n → RX X w t v → RXL X w args A m c →
  Calls Tryz.prog 118 #[.pointer (some ⟨pw, 0, none⟩), v, .slice A m c] w (PEnd pw X w (sp f t args n))
theorem Sc.mapNe {X : Nat → Prop} {w : World} {ps : Nat} {L : List T} {sh : Int} {A : Option Addr} {n c : Nat} {mv : Value} (h : Sc X w ps L sh A n c mv) {b : Nat} {ty : TypeId} {cs : Array Value} (hb : Box w b ty cs) : mv ≠ .map (some b) := fun e => by
  rcases h.found with e1 | ⟨pm', es, cl, e1, _, hm, _⟩
  · rw [e] at e1; cases e1
  · rw [e] at e1; cases e1
    unfold Box at hb
    rw [hb] at hm
    cases hm
/-- fewer blocks that are written -/
theorem Sc.less {X Y : Nat → Prop} {w : World} {ps : Nat} {L : List T} {sh : Int} {A : Option Addr} {n c : Nat} {mv : Value} (h : Sc Y w ps L sh A n c mv) (h1 : ∀ b, X b → Y b) (h2 : X ps) (h3 : ∀ pm, mv = .map (some pm) → X pm) : Sc X w ps L sh A n c mv := by
  refine ⟨h.box, h2, fun b hb => h.bnd b (h1 b hb), h.list.mono fun i _ e => h1 i e, ?_⟩
  rcases h.found with rfl | ⟨pm, es, cl, rfl, hx, hm, hok⟩
  · exact .inl rfl
  · exact .inr ⟨pm, es, cl, rfl, h3 pm rfl, hm, hok.keys, hok.one, fun x hx fr u hk h0 h1' => (hok.ok x hx fr u hk h0 h1').mono fun i _ e => h1 i e⟩
theorem Kids.moveX {w w' : World} {ok ok' : Nat → Prop} {cs : Array Value} {ys : List T} (hk : Kids w ok cs ys) (hm : ∀ b, ok b → b < w.heap.size → ok' b ∧ w'.heap[b]? = w.heap[b]?) : Kids w' ok' cs ys := fun i t ht => by
  obtain ⟨k, h, A, n, c, e0, e1, e2, hr⟩ := hk i t ht
  exact ⟨k, h, A, n, c, e0, e1, e2, RdF.moveX hm _ _ hr⟩
theorem Kids.rxl {X Y : Nat → Prop} {w : World} {cs : Array Value} {ys : List T} {b n : Nat} {ty : TypeId} (hk : Kids w (fun b => ¬ Y b) cs ys) (hb : Box w b ty cs) (hl : ys.length = n) (hm : n ≤ maxLen) (hX : ¬ X b) (hY : ∀ i, X i → Y i) : RXL X w ys (some ⟨b, 0, none⟩) n n := by
  refine ⟨hl, Nat.le_refl _, hm, fun i t ht => ?_⟩
  obtain ⟨k, h, A, n', c, e0, e1, e2, hr⟩ := hk i t ht
  refine ⟨b, 0, _, _, _, rfl, hX, ?_, ?_, ?_, RX.mono hr fun i _ e => hY i e⟩
  · rw [Nat.zero_add, hb.cell]; exact e0
  · rw [Nat.zero_add, hb.cell]; exact e1
  · rw [Nat.zero_add, hb.cell]; exact e2
theorem sboundN (k h : Int) (A : Option Addr) (n c : Nat) (hc : n ≤ c) (hm : c ≤ maxLen) (i : Nat) (hi : i ≤ maxLen) (w : World) :
    Calls Tryz.prog 107 #[.agg #[.int .i64 k, .int .i64 h, .slice A n c], .int .i64 i] w fun e w' => e = .returned (.int .i64 (bdn k n i : Nat)) ∧ Below w.heap.size w w' := by
  rw [← bd_bdn]; exact boundC k h A n c hc hm i hi w
theorem Stp.more {pw ps : Nat} {X Y : Nat → Prop} {w w' : World} {mv : Value} (h : Below w.heap.size w w') (h1 : ∀ b, X b → Y b) (h2 : ∀ b, b < w.heap.size → Y b → X b) : Stp pw ps X w mv Y w' mv :=
  ⟨⟨h.size, h1, h2, fun b hb _ => h.block b hb⟩, Fr.below h, fun _ e _ => e⟩
def contL (ys : List T) (r : Except Int (List T × Nat)) : Except Int (List T × Nat) :=
  match r with
  | .error e => .error e
  | .ok (zs, m) => .ok (ys ++ zs, m)
theorem contL_nil (r : Except Int (List T × Nat)) : contL [] r = r := by
  cases r with
  | error e => rfl
  | ok p => obtain ⟨zs, m⟩ := p; rfl
/-- what holds at the head of args' loop -/
structure ArI (f : Nat) (L : List T) (sh : Int) (u : Nat) (k h : Int) (xs : List T) (n0 : Nat) (An : Option Addr) (n c : Nat) (w : World) (pw ps : Nat) (X : Nat → Prop) (A : Option Addr) (m cL : Nat) (mv : Value) (j : Nat) (wr : World)
    (cs : Array Value) (ys : List T) (n1 : Nat) (Y : Nat → Prop) (mv1 : Value) : Prop where
  row : Box wr (w.heap.size + 1) 36 cs
  size : cs.size = n * 3
  len : ys.length = j
  kids : Kids wr (fun b => ¬ Y b) cs ys
  own : Y (w.heap.size + 1)
  box : Box wr w.heap.size 36 #[.int .i64 k, .int .i64 h, .slice An n c]
  sc : Sc Y wr ps L sh A m cL mv1
  st : Stp pw ps X w mv Y wr mv1
  wk : wkB wr pw n1
  lo : n0 ≤ n1
  hi : n1 ≤ 40000
  eq : apL (fun u' x m => ap f L sh u' x m) k xs.length u xs 0 n0 = contL ys (apL (fun u' x m => ap f L sh u' x m) k xs.length u (xs.drop j) j n1)
theorem Stp.setCell {pw ps : Nat} {X Y : Nat → Prop} {w w' : World} {mv mv' : Value} (h : Stp pw ps X w mv Y w' mv') {a : Addr} (ha : w.heap.size ≤ a.block) (v : Value) : Stp pw ps X w mv Y (w'.setCell a v) mv' :=
  ⟨⟨by simpa [World.setCell] using h.adv.size, h.adv.more, h.adv.new, fun b hb e => (Below.heap_setCell _ _ _ _ (by omega)).trans (h.adv.block b hb e)⟩,
    ⟨h.fr.os, h.fr.tape, h.fr.output, by simpa [World.setCell] using h.fr.size, fun b hb e => (Below.heap_setCell _ _ _ _ (by omega)).trans (h.fr.block b hb e)⟩, h.mvs⟩
theorem Adv.setCell {X : Nat → Prop} {w : World} {a : Addr} (ha : X a.block) (v : Value) : Adv X w X (w.setCell a v) :=
  ⟨by simp [World.setCell], fun _ h => h, fun _ _ h => h, fun b hb e => Below.heap_setCell _ _ _ _ (fun e' => e (e' ▸ ha))⟩
theorem Sc.setCell {X : Nat → Prop} {w : World} {ps : Nat} {L : List T} {sh : Int} {A : Option Addr} {n c : Nat} {mv : Value} (h : Sc X w ps L sh A n c mv) {a : Addr} (ha : X a.block) (h1 : ps ≠ a.block) (h2 : mv ≠ .map (some a.block)) (v : Value) : Sc X (w.setCell a v) ps L sh A n c mv :=
  h.adv (Adv.setCell ha v) (Below.heap_setCell _ _ _ _ h1) (fun pm e => Below.heap_setCell _ _ _ _ (fun e' => h2 (e' ▸ e))) (fun b hb => by simpa [World.setCell] using h.bnd b hb)
set_option maxRecDepth 100000 in
set_option maxHeartbeats 4000000 in
theorem argsC {f : Nat} (hA : ApC f) (L : List T) (sh : Int) (u : Nat) (k h : Int) (xs : List T) (n0 : Nat) (An : Option Addr) (n c : Nat) (w : World) (pw ps : Nat) (X : Nat → Prop) (A : Option Addr) (m cL : Nat) (mv : Value)
    (hf : 40001 ≤ n0 + f) (hu : u + 1 ≤ n0) (hn0 : n0 ≤ 40000) (hs : Sub (bt n0) L sh) (hw : Way (bt n0 - sh) (.node k h xs)) (hnd : nd (.node k h xs) ≤ 200000000) (hX : X pw) (hne : pw ≠ ps) (hwk : wkB w pw n0) (hsc : Sc X w ps L sh A m cL mv)
    (hv : RX X w (.node k h xs) (.agg #[.int .i64 k, .int .i64 h, .slice An n c])) :
    Calls Tryz.prog 117 #[.pointer (some ⟨pw, 0, none⟩), .agg #[.int .i64 k, .int .i64 h, .slice An n c], .pointer (some ⟨ps, 0, none⟩), .int .i64 u] w (LEnd pw ps X w L sh A m cL mv (apL (fun u' x m => ap f L sh u' x m) k xs.length u xs 0 n0)) := by
  obtain ⟨An', n', c', ev, _, _, hn, hc, hm, hx⟩ := RdF_node.1 hv
  have ev' : An = An' ∧ n = n' ∧ c = c' := by simpa using ev
  obtain ⟨rfl, rfl, rfl⟩ := ev'
  clear ev
  have hMM := hm
  unfold maxLen at hm
  have hnl : n ≤ 200000000 := by rw [nd] at hnd; have := (wdL_nd xs).2; omega
  obtain ⟨i0, hi, hz0, hz1, hz2⟩ := info_parts infoTerm
  have hmk : ∀ W : World, (Instr.makeSlice 34 (.int .i64 n) (.int .i64 n)).run Tryz.prog W = .ok (.slice (some ⟨W.heap.size, 0, none⟩) n n) (W.alloc (.cells (madeCells #[.int .i64 0, .int .i64 0, .slice none 0 0] (n * 3)) 36)) := by
    intro W
    have := run_make W 34 36 i0 _ Tryz.underlying34 hi hz0 .i64 .i64 (n : Int) (n : Int) (by omega) (Int.le_refl _) (by rw [hz2]; omega) (by omega)
    rw [hz1] at this
    simpa [Value.cells] using this
  clear hi hz0 hz1 hz2
  have HN := Lib.hid hn; clear hn
  have HSC := Lib.hid hsc; clear hsc
  have HV := Lib.hid hv; clear hv
  have HX := Lib.hid hx; clear hx
  have HWK := Lib.hid hwk; clear hwk
  have HS := Lib.hid hs; clear hs
  have HW := Lib.hid hw; clear hw
  have HND := Lib.hid hnd; clear hnd
  have HXP := Lib.hid hX; clear hX
  have HAP := Lib.hid hA; clear hA
  have lpw := HWK.out.lt
  have lps := HSC.out.box.lt
  by_cases h0 : n = 0
  · subst h0
    have hxs : xs = [] := List.length_eq_zero_iff.1 HN.out
    go_enter Tryz.func117, Tryz.ntmps117
    go_wp2_with fail
    go_ret
    have hb : Below w.heap.size w (w.alloc (.cells #[.int .i64 k, .int .i64 h, .slice An 0 c] 36)) := (Below.refl _ _).alloc (Nat.le_refl _) _
    rw [hxs, apL]
    exact ⟨none, 0, 0, X, mv, rfl, ⟨rfl, Nat.le_refl _, Nat.zero_le _, fun i t ht => by simp at ht⟩, HSC.out.below hb, Stp.below hb, HWK.out.keep hb lpw⟩
  · have e0 : ((n : Int) == 0) = false := by rw [beq_eq_false_iff_ne]; omega
    go_enter Tryz.func117, Tryz.ntmps117
    go_wp2_with fail
    have hcs := size_madeCells #[.int .i64 0, .int .i64 0, .slice none 0 0] (n * 3)
    generalize madeCells #[.int .i64 0, .int .i64 0, .slice none 0 0] (n * 3) = cs0 at *
    obtain ⟨W, hW⟩ : ∃ W, (w.alloc (.cells #[.int .i64 k, .int .i64 h, .slice An n c] 36)).alloc (.cells cs0 36) = W := ⟨_, rfl⟩
    have hb : Below w.heap.size w W := by rw [← hW]; exact ((Below.refl _ _).alloc (Nat.le_refl _) _).alloc (by simp) _
    have x0 : Box W w.heap.size 36 #[.int .i64 k, .int .i64 h, .slice An n c] := by rw [← hW]; exact (Box.new _ _ _).alloc _
    have x1 : Box W (w.heap.size + 1) 36 cs0 := by rw [← hW]; exact (Box.new (w.alloc _) _ _).at (by simp)
    rw [hW]
    clear hW hmk
    have HCS := Lib.hid hcs; clear hcs
    go_loopw [23] (fun i wr => ∃ (j : Nat) (cs : Array Value) (ys : List T) (n1 : Nat) (Y : Nat → Prop) (mv1 : Value), j ≤ n ∧ i = .int .i64 j ∧ Hid (ArI f L sh u k h xs n0 An n c w pw ps X A m cL mv j wr cs ys n1 Y mv1)) (fun i _ => n - (intOf i).toNat)
    case atStart =>
      have hY2 : ∀ b, b < w.heap.size → (X b ∨ b = w.heap.size + 1) → X b := fun b hl e => by
        rcases e with e | e
        · exact e
        · omega
      refine ⟨0, cs0, [], n0, fun b => X b ∨ b = w.heap.size + 1, mv, Nat.zero_le _, rfl, Lib.hid ⟨x1, HCS.out, rfl, fun i t ht => by simp at ht, .inr rfl, x0, ?_, Stp.more hb (fun _ h => .inl h) hY2, HWK.out.keep hb lpw, Nat.le_refl _, hn0, ?_⟩⟩
      · exact HSC.out.more hb (fun _ h => .inl h) hY2 (fun b e => by
          rcases e with e | e
          · exact Nat.lt_of_lt_of_le (HSC.out.bnd b e) hb.size
          · rw [e]; exact x1.lt)
      · rw [List.drop_zero, contL_nil]
    case round =>
      obtain ⟨j, cs, ys, n1, Y, mv1, hj, rfl, HI⟩ := hrel
      clear x0 x1 hb HCS
      by_cases hlt : j < n
      · obtain ⟨t, ht⟩ := at_of HN.out hlt
        obtain ⟨b, o, k2, h2, A2, n2a, c2', rfl, c0, c1, c2, hr⟩ := (RdFAt.moveX (fun b hb hl => ⟨fun e => hb (HI.out.st.adv.new b hl e), HI.out.st.adv.block b hl hb⟩) (HX.out j t ht)).full
        have HT := Lib.hid ht; clear ht
        have hi0 : (0 : Int) ≤ j := by omega
        have hi1 : (j : Int) < n := by omega
        go_wp2_with fail
        have hbA : Below wr.heap.size wr (wr.alloc (.cells #[.int .i64 k2, .int .i64 h2, .slice A2 n2a c2'] 36)) := (Below.refl _ wr).alloc (Nat.le_refl _) _
        have xa := Box.new wr 36 #[.int .i64 k2, .int .i64 h2, .slice A2 n2a c2']
        generalize wr.alloc (.cells #[.int .i64 k2, .int .i64 h2, .slice A2 n2a c2'] 36) = Wa at *
        clear c0 c1 c2
        have HR := Lib.hid (RX.adv hr (Adv.below (X := Y) hbA)); clear hr
        have hl1 := HI.out.lo
        have hl2 := HI.out.hi
        obtain ⟨β, hβ⟩ : ∃ β, bdn k n j = β := ⟨_, rfl⟩
        have hβ1 : β ≤ 1 := by rw [← hβ]; exact bdn_le _ _ _
        have xb := HI.out.box.keep hbA HI.out.box.lt
        have HBD : Hid (∀ W', Calls Tryz.prog 107 #[.agg #[.int .i64 k, .int .i64 h, .slice (some ⟨b, o, none⟩) n c], .int .i64 j] W' fun e w' => e = .returned (.int .i64 (β : Nat)) ∧ Below W'.heap.size W' w') := Lib.hid fun W' => by
          rw [← hβ]; exact sboundN k h _ n c hc hMM j (by unfold maxLen; omega) W'
        have hst := HI.out.st.fr.size
        have hmem : t ∈ xs := List.mem_of_getElem? HT.out
        have hbt := bt_mono hl1
        have hndt : nd t ≤ 200000000 := by have h1 := HND.out; rw [nd] at h1; have := nd_mem hmem; omega
        have HAC : Hid (∀ W', Below Wa.heap.size Wa W' → Calls Tryz.prog 106 #[.pointer (some ⟨pw, 0, none⟩), .agg #[.int .i64 k2, .int .i64 h2, .slice A2 n2a c2'], .pointer (some ⟨ps, 0, none⟩), .int .i64 ((u : Int) + (β : Int))] W' (AEnd pw ps Y W' L sh A m cL mv1 (ap f L sh (u + β) t n1))) := Lib.hid fun W' hW' => by
          have hbW := hbA.trans (hW'.mono hbA.size)
          rw [show (u : Int) + (β : Int) = ((u + β : Nat) : Int) by omega]
          exact HAP.out L sh (u + β) t n1 _ W' pw ps Y A m cL mv1 (by omega) (by omega) hl2 (HS.out.mono hbt) ((HW.out.args hmem).mono (by omega)) hndt (HI.out.st.adv.more _ HXP.out) hne (HI.out.wk.keep hbW HI.out.wk.lt) (HI.out.sc.below hbW) (RX.adv HR.out (Adv.below hW'))
        have HEQ := HI.out.eq
        rw [drop_at HT.out, apL, HN.out, hβ] at HEQ
        have HEQ' := Lib.hid HEQ; clear HEQ
        have hw1 : IntKind.i64.wrap ((u : Int) + (β : Int)) = (u : Int) + (β : Int) := by rw [wrapEq, wrap_small (by omega) (by omega)]
        have hS : Wa.cell? ⟨wr.heap.size, 0, none⟩ = some (.int .i64 k2) ∧ Wa.cell? ⟨wr.heap.size, 1, none⟩ = some (.int .i64 h2) ∧ Wa.cell? ⟨wr.heap.size, 2, none⟩ = some (.slice A2 n2a c2') ∧ Wa.cell? ⟨w.heap.size, 0, none⟩ = some (.int .i64 k) ∧ Wa.cell? ⟨w.heap.size, 1, none⟩ = some (.int .i64 h) ∧ Wa.cell? ⟨w.heap.size, 2, none⟩ = some (.slice (some ⟨b, o, none⟩) n c) := ⟨xa.three.1, xa.three.2.1, xa.three.2.2, xb.three.1, xb.three.2.1, xb.three.2.2⟩
        have HKS : Hid (∀ w', Below Wa.heap.size Wa w' → (w'.cell? ⟨wr.heap.size, 0, none⟩ = some (.int .i64 k2) ∧ w'.cell? ⟨wr.heap.size, 1, none⟩ = some (.int .i64 h2) ∧ w'.cell? ⟨wr.heap.size, 2, none⟩ = some (.slice A2 n2a c2') ∧ w'.cell? ⟨w.heap.size, 0, none⟩ = some (.int .i64 k) ∧ w'.cell? ⟨w.heap.size, 1, none⟩ = some (.int .i64 h) ∧ w'.cell? ⟨w.heap.size, 2, none⟩ = some (.slice (some ⟨b, o, none⟩) n c))) := Lib.hid fun w' h => by
          have s1 := xa.keep h xa.lt
          have s2 := xb.keep h xb.lt
          exact ⟨s1.three.1, s1.three.2.1, s1.three.2.2, s2.three.1, s2.three.2.1, s2.three.2.2⟩
        have hcur : Below Wa.heap.size Wa Wa.drew := (Below.refl _ Wa).drew
        have hbWa := hbA
        clear hS hβ
        cases hres : ap f L sh (u + β) t n1 with
        | error ec =>
          rw [hres] at HAC
          have hap : apL (fun u' x m => ap f L sh u' x m) k xs.length u xs 0 n0 = .error ec := by rw [HN.out, HEQ'.out, hres]; rfl
          have HERR : Hid (∀ W' w8, Below Wa.heap.size Wa W' → Fr (fun k => k = pw ∨ k = ps ∨ mv1 = .map (some k)) W' w8 → LEnd pw ps X w L sh A m cL mv (apL (fun u' x m => ap f L sh u' x m) k xs.length u xs 0 n0) (.panicked (stopC ec)) w8) := Lib.hid fun W' w8 h1 h2 => by
            rw [hap]
            refine ⟨rfl, (HI.out.st.fr.then (hbWa.trans (h1.mono hbWa.size))).trans h2 fun i hi e => ?_⟩
            rcases e with e | e | e
            · exact .inl e
            · exact .inr (.inl e)
            · exact .inr (.inr (HI.out.st.mvs i e hi))
          clear hres hap
          obtain ⟨q0, q1, q2, q3, q4, q5⟩ := HKS.out _ (Below.refl _ _)
          go_region_with
            (first
              | (go_at_call 107
                 with_reducible refine (HBD.out _).mono ?_
                 rintro e w8 ⟨rfl, hb1⟩
                 replace hcur := hcur.trans (hb1.mono hcur.size)
                 clear hb1
                 obtain ⟨q0, q1, q2, q3, q4, q5⟩ := HKS.out _ hcur)
              | (go_at_call 106
                 with_reducible refine (HAC.out _ hcur).mono ?_
                 rintro e w8 ⟨rfl, hfr⟩
                 suffices hfk : wpAny Tryz.prog .any #[] (fun _ _ _ => True) 0 #[] { tmps := #[], defers := [] } w8 from ⟨rfl, HERR.out _ _ hcur hfr⟩))
          all_goals trivial
        | ok p =>
          obtain ⟨t', n2⟩ := p
          rw [hres] at HAC
          have hap : apL (fun u' x m => ap f L sh u' x m) k xs.length u xs 0 n0 = contL (ys ++ [t']) (apL (fun u' x m => ap f L sh u' x m) k xs.length u (xs.drop (j + 1)) (j + 1) n2) := by
            rw [HN.out, HEQ'.out, hres]
            simp only [contL]
            cases apL (fun u' x m => ap f L sh u' x m) k n u (xs.drop (j + 1)) (j + 1) n2 with
            | error e => rfl
            | ok q => obtain ⟨zs, m'⟩ := q; simp
          have HAPP := Lib.hid hap; clear hap
          have hgood := ap_good f L sh (u + β) t n1 (by omega) hl2 (HS.out.mono hbt) ((HW.out.args hmem).mono (Int.sub_le_sub_right hbt _)) t' n2 hres
          have HG := Lib.hid hgood; clear hgood
          have HRE := Lib.hid hres; clear hres
          have HF1 : Hid (∀ W' w9, Below Wa.heap.size Wa W' → Fr (fun k => k = pw ∨ k = ps ∨ mv1 = .map (some k)) W' w9 → Box w9 wr.heap.size 36 #[.int .i64 k2, .int .i64 h2, .slice A2 n2a c2'] ∧ Box w9 w.heap.size 36 #[.int .i64 k, .int .i64 h, .slice (some ⟨b, o, none⟩) n c] ∧ Box w9 (w.heap.size + 1) 36 cs) := Lib.hid fun W' w9 h1 h2 => by
            have hbW := hbWa.trans (h1.mono hbWa.size)
            have hsc := HI.out.sc.below hbW
            have a1 := xa.keep h1 xa.lt
            have a2 := xb.keep h1 xb.lt
            have a3 := HI.out.row.keep hbW HI.out.row.lt
            have l1 := HI.out.wk.lt
            have l2 := HI.out.sc.box.lt
            exact ⟨a1.fr h2 (fun e => by
              rcases e with e | e | e
              · omega
              · omega
              · exact hsc.mapNe a1 e), a2.fr h2 (fun e => by
              rcases e with e | e | e
              · omega
              · omega
              · exact hsc.mapNe a2 e), a3.fr h2 (fun e => by
              rcases e with e | e | e
              · omega
              · omega
              · exact hsc.mapNe a3 e)⟩
          have lrow := HI.out.row.lt
          go_region_held3 (fun w' => w'.cell? ⟨wr.heap.size, 0, none⟩ = some (.int .i64 k2) ∧ w'.cell? ⟨wr.heap.size, 1, none⟩ = some (.int .i64 h2) ∧ w'.cell? ⟨wr.heap.size, 2, none⟩ = some (.slice A2 n2a c2') ∧ w'.cell? ⟨w.heap.size, 0, none⟩ = some (.int .i64 k) ∧ w'.cell? ⟨w.heap.size, 1, none⟩ = some (.int .i64 h) ∧ w'.cell? ⟨w.heap.size, 2, none⟩ = some (.slice (some ⟨b, o, none⟩) n c))
            (first | exact HKS.out _ hcur | exact HFIN.out | exact HFIN3.out)
            (first
              | (go_at_call 107
                 with_reducible refine (HBD.out _).mono ?_
                 rintro e w8 ⟨rfl, hb1⟩
                 replace hcur := hcur.trans (hb1.mono hcur.size)
                 clear hb1)
              | (go_at_call 106
                 with_reducible refine (HAC.out _ hcur).mono ?_
                 rintro e w9 ⟨k3, h3, A3, n3, c3, Y3, mv3, rfl, hrx, hsc3, hst3, hwk3⟩
                 obtain ⟨y1, y2, y3⟩ := HF1.out _ _ hcur hst3.fr
                 have HFIN := (show w9.cell? ⟨wr.heap.size, 0, none⟩ = some (.int .i64 k2) ∧ w9.cell? ⟨wr.heap.size, 1, none⟩ = some (.int .i64 h2) ∧ w9.cell? ⟨wr.heap.size, 2, none⟩ = some (.slice A2 n2a c2') ∧ w9.cell? ⟨w.heap.size, 0, none⟩ = some (.int .i64 k) ∧ w9.cell? ⟨w.heap.size, 1, none⟩ = some (.int .i64 h) ∧ w9.cell? ⟨w.heap.size, 2, none⟩ = some (.slice (some ⟨b, o, none⟩) n c) from ⟨y1.three.1, y1.three.2.1, y1.three.2.2, y2.three.1, y2.three.2.1, y2.three.2.2⟩)
                 have HFIN3 := (show (((w9.setCell ⟨w.heap.size + 1, j * 3, none⟩ (.int .i64 k3)).setCell ⟨w.heap.size + 1, j * 3 + 1, none⟩ (.int .i64 h3)).setCell ⟨w.heap.size + 1, j * 3 + 2, none⟩ (.slice A3 n3 c3)).cell? ⟨wr.heap.size, 0, none⟩ = some (.int .i64 k2) ∧ (((w9.setCell ⟨w.heap.size + 1, j * 3, none⟩ (.int .i64 k3)).setCell ⟨w.heap.size + 1, j * 3 + 1, none⟩ (.int .i64 h3)).setCell ⟨w.heap.size + 1, j * 3 + 2, none⟩ (.slice A3 n3 c3)).cell? ⟨wr.heap.size, 1, none⟩ = some (.int .i64 h2) ∧ (((w9.setCell ⟨w.heap.size + 1, j * 3, none⟩ (.int .i64 k3)).setCell ⟨w.heap.size + 1, j * 3 + 1, none⟩ (.int .i64 h3)).setCell ⟨w.heap.size + 1, j * 3 + 2, none⟩ (.slice A3 n3 c3)).cell? ⟨wr.heap.size, 2, none⟩ = some (.slice A2 n2a c2') ∧ (((w9.setCell ⟨w.heap.size + 1, j * 3, none⟩ (.int .i64 k3)).setCell ⟨w.heap.size + 1, j * 3 + 1, none⟩ (.int .i64 h3)).setCell ⟨w.heap.size + 1, j * 3 + 2, none⟩ (.slice A3 n3 c3)).cell? ⟨w.heap.size, 0, none⟩ = some (.int .i64 k) ∧ (((w9.setCell ⟨w.heap.size + 1, j * 3, none⟩ (.int .i64 k3)).setCell ⟨w.heap.size + 1, j * 3 + 1, none⟩ (.int .i64 h3)).setCell ⟨w.heap.size + 1, j * 3 + 2, none⟩ (.slice A3 n3 c3)).cell? ⟨w.heap.size, 1, none⟩ = some (.int .i64 h) ∧ (((w9.setCell ⟨w.heap.size + 1, j * 3, none⟩ (.int .i64 k3)).setCell ⟨w.heap.size + 1, j * 3 + 1, none⟩ (.int .i64 h3)).setCell ⟨w.heap.size + 1, j * 3 + 2, none⟩ (.slice A3 n3 c3)).cell? ⟨w.heap.size, 2, none⟩ = some (.slice (some ⟨b, o, none⟩) n c) from by
                    have z1 := ((y1.other (a := ⟨w.heap.size + 1, j * 3, none⟩) (by dsimp only; omega) (.int .i64 k3)).other (a := ⟨w.heap.size + 1, j * 3 + 1, none⟩) (by dsimp only; omega) (.int .i64 h3)).other (a := ⟨w.heap.size + 1, j * 3 + 2, none⟩) (by dsimp only; omega) (.slice A3 n3 c3)
                    have z2 := ((y2.other (a := ⟨w.heap.size + 1, j * 3, none⟩) (by dsimp only; omega) (.int .i64 k3)).other (a := ⟨w.heap.size + 1, j * 3 + 1, none⟩) (by dsimp only; omega) (.int .i64 h3)).other (a := ⟨w.heap.size + 1, j * 3 + 2, none⟩) (by dsimp only; omega) (.slice A3 n3 c3)
                    exact ⟨z1.three.1, z1.three.2.1, z1.three.2.2, z2.three.1, z2.three.2.1, z2.three.2.2⟩)
                 replace HFIN := Lib.hid HFIN
                 replace HFIN3 := Lib.hid HFIN3
                 obtain ⟨u0, hu0⟩ := y3.there (i := j * 3) (by rw [HI.out.size]; omega)
                 obtain ⟨u1, hu1⟩ := y3.there (i := j * 3 + 1) (by rw [HI.out.size]; omega)
                 obtain ⟨u2, hu2⟩ := y3.there (i := j * 3 + 2) (by rw [HI.out.size]; omega)
                 have f0 := y3.frozen (j * 3)
                 have f1 := y3.frozen (j * 3 + 1)
                 have f2 := y3.frozen (j * 3 + 2)
                 have HY := Lib.hid (And.intro y2 y3)
                 clear y1 y2 y3
                 have HCU := Lib.hid hcur
                 clear hcur
                 have HH := Lib.hid (And.intro hrx (And.intro hsc3 (And.intro hst3 hwk3)))
                 clear hrx hsc3 hst3 hwk3))
          go_wp2_with fail
          go_roundw
          case rel =>
            obtain ⟨hrx, hsc3, hst3, hwk3⟩ := HH.out
            obtain ⟨y2, y3⟩ := HY.out
            obtain ⟨g1, g2, g3, g4⟩ := HG.out
            have hbW := hbWa.trans (HCU.out.mono hbWa.size)
            have adv := (Adv.below (X := Y) hbW).trans hst3.adv
            have hown : Y3 (w.heap.size + 1) := adv.more _ HI.out.own
            have hmn : mv3 ≠ .map (some (w.heap.size + 1)) := hsc3.mapNe y3
            have l1 := HI.out.wk.lt
            have l2 := HI.out.sc.box.lt
            have l3 := HI.out.sc.bnd
            have hset : ∀ g, ¬ Y3 g → g < w9.heap.size → (((w9.setCell ⟨w.heap.size + 1, j * 3, none⟩ (.int .i64 k3)).setCell ⟨w.heap.size + 1, j * 3 + 1, none⟩ (.int .i64 h3)).setCell ⟨w.heap.size + 1, j * 3 + 2, none⟩ (.slice A3 n3 c3)).heap[g]? = w9.heap[g]? := fun g hg _ => by
              have hgne : g ≠ w.heap.size + 1 := fun e => hg (e ▸ hown)
              rw [Below.heap_setCell _ _ _ _ hgne, Below.heap_setCell _ _ _ _ hgne, Below.heap_setCell _ _ _ _ hgne]
            refine ⟨j + 1, _, ys ++ [t'], n2, Y3, mv3, by omega, by go_num, Lib.hid ⟨((y3.setAt _ _).setAt _ _).setAt _ _, by simp [HI.out.size], by simp [HI.out.len], ?_, hown, ?_, ?_, ?_, ?_, by omega, g2, HAPP.out⟩⟩
            · exact Kids.snoc (HI.out.kids.moveX fun b hb hl => ⟨fun e => hb (adv.new b hl e), adv.block b hl hb⟩) HI.out.len hset (RdF.moveX (fun b hb hl => ⟨hb, hset b hb hl⟩) _ _ hrx) (by rw [HI.out.size]; omega)
            · exact ((y2.other (by dsimp only; omega) _).other (by dsimp only; omega) _).other (by dsimp only; omega) _
            · exact ((hsc3.setCell hown (by dsimp only; omega) hmn _).setCell hown (by dsimp only; omega) hmn _).setCell hown (by dsimp only; omega) hmn _
            · exact (((HI.out.st.trans ((Stp.below hbW).trans hst3)).setCell (by dsimp only; omega) _).setCell (by dsimp only; omega) _).setCell (by dsimp only; omega) _
            · exact ((hwk3.other (by dsimp only; omega) _).other (by dsimp only; omega) _).other (by dsimp only; omega) _
          case measure => simp [intOf]; omega
      · obtain rfl : j = n := by omega
        go_wp2_with fail
        go_ret
        have he := HI.out.eq
        rw [drop_all HN.out (Nat.le_refl _), apL] at he
        have he' : apL (fun u' x m => ap f L sh u' x m) k xs.length u xs 0 n0 = .ok (ys, n1) := by rw [he]; simp [contL]
        rw [he']
        have hsc := HI.out.sc
        have hbn := HSC.out.bnd
        have hX1 : ∀ b, (Y b ∧ b ≠ w.heap.size + 1) → Y b := fun b h => h.1
        have hmore : ∀ b, X b → (Y b ∧ b ≠ w.heap.size + 1) := fun b h => ⟨HI.out.st.adv.more b h, by have := hbn b h; omega⟩
        refine ⟨_, _, _, fun b => Y b ∧ b ≠ w.heap.size + 1, mv1, rfl, HI.out.kids.rxl HI.out.row HI.out.len (by unfold maxLen; omega) (fun h => h.2 rfl) hX1, hsc.less hX1 (hmore _ HSC.out.own) (fun pm e => ⟨?_, fun e2 => hsc.mapNe HI.out.row (e2 ▸ e)⟩), ⟨⟨HI.out.st.adv.size, hmore, fun b hb h => HI.out.st.adv.new b hb h.1, HI.out.st.adv.block⟩, HI.out.st.fr, HI.out.st.mvs⟩, HI.out.wk⟩
        rcases hsc.found with e1 | ⟨pm', es, cl, e1, hxp, _, _⟩
        · rw [e] at e1; cases e1
        · rw [e] at e1; cases e1; exact hxp
end Go.Proofs.YtmkahbbcagfbhaaGreatDoor
/-
  The contract of package subst's spine, given that of apply. No statement is proved here.
-/
namespace Go.Proofs.YtmkahbbcagfbhaaGreatDoor
open Go.ChangeShapes Go.WideShapes Go.ChangeAt Go.RowKit
set_option linter.unusedVariables false
theorem RXL.tail {X : Nat → Prop} {w : World} {a : T} {bs : List T} {b o m c : Nat} (h : RXL X w (a :: bs) (some ⟨b, o, none⟩) (m + 1) (c + 1)) : RXL X w bs (some ⟨b, o + 3, none⟩) m c := by
  refine ⟨by have := h.len; simpa using this, by have := h.le; omega, by have := h.cap; omega, fun i t ht => ?_⟩
  obtain ⟨b', o', v0, v1, v2, e, hb, d0, d1, d2, hr⟩ := h.at_ (i + 1) t (by simpa using ht)
  cases e
  refine ⟨b, o + 3, v0, v1, v2, rfl, hb, ?_, ?_, ?_, hr⟩
  · rw [show o + 3 + i * 3 = o + (i + 1) * 3 by omega]; exact d0
  · rw [show o + 3 + i * 3 = o + (i + 1) * 3 by omega]; exact d1
  · rw [show o + 3 + i * 3 = o + (i + 1) * 3 by omega]; exact d2
theorem RXL.head {X : Nat → Prop} {w : World} {a : T} {bs : List T} {A : Option Addr} {m c : Nat} (h : RXL X w (a :: bs) A m c) (hm : 1 ≤ c) : RXL X w [a] A 1 c := by
  refine ⟨rfl, hm, h.cap, fun i t ht => ?_⟩
  cases i with
  | zero => exact h.at_ 0 t (by simpa using ht)
  | succ i => simp at ht
theorem RXL.nil {X : Nat → Prop} {w : World} (A : Option Addr) {c : Nat} (hc : c ≤ maxLen) : RXL X w [] A 0 c := ⟨rfl, Nat.zero_le _, hc, fun i t ht => by simp at ht⟩
def lenV : Value → Nat
  | .slice _ n _ => n
  | _ => 0
/-- what holds at the head of spine's loop -/
structure SpI (f : Nat) (t : T) (args : List T) (n : Nat) (w : World) (pw : Nat) (X : Nat → Prop) (wr : World) (t' : T) (args' : List T) (n1 : Nat) (k h : Int) (At : Option Addr) (nt ct : Nat) (A : Option Addr) (m c : Nat) : Prop where
  box : Box wr w.heap.size 36 #[.int .i64 k, .int .i64 h, .slice At nt ct]
  res : Box wr (w.heap.size + 1) 36 #[.int .i64 0, .int .i64 0, .slice none 0 0]
  rt : RX (fun b => X b ∨ b = w.heap.size ∨ b = w.heap.size + 1) wr t' (.agg #[.int .i64 k, .int .i64 h, .slice At nt ct])
  ra : RXL (fun b => X b ∨ b = w.heap.size ∨ b = w.heap.size + 1) wr args' A m c
  fr : Fr (fun k => k = pw) w wr
  wk : wkB wr pw n1
  lo : n ≤ n1
  hi : n1 ≤ 40000
  wt : Way (bt n1) t'
  wa : WayL (bt n1) args'
  nt : nd t' ≤ 200000000
  na : ndL args' ≤ 200000000
  eq : sp f t args n = sp f t' args' n1
abbrev YX (X : Nat → Prop) (w : World) (b : Nat) : Prop := X b ∨ b = w.heap.size ∨ b = w.heap.size + 1
/-- an answer is stored -/
theorem SpI.done {f : Nat} {t : T} {args : List T} {n : Nat} {w : World} {pw : Nat} {X : Nat → Prop} {wr : World} {t' : T} {args' : List T} {n1 : Nat} {k h : Int} {At : Option Addr} {nt ct : Nat} {A : Option Addr} {m c : Nat} (I : SpI f t args n w pw X wr t' args' n1 k h At nt ct A m c)
    (lpw : pw < w.heap.size) {w2 : World} {u : T} {k2 h2 : Int} {A2 : Option Addr} {n2 c2 : Nat} (hfr : Fr (fun k => k = pw) w w2) (hwk : wkB w2 pw n1) (hr : RX (YX X w) w2 u (.agg #[.int .i64 k2, .int .i64 h2, .slice A2 n2 c2])) (heq : sp f t' args' n1 = .ok (u, n1)) :
    PEnd pw X w (sp f t args n) (.returned (.agg #[.int .i64 k2, .int .i64 h2, .slice A2 n2 c2])) (((w2.setCell ⟨w.heap.size + 1, 0, none⟩ (.int .i64 k2)).setCell ⟨w.heap.size + 1, 1, none⟩ (.int .i64 h2)).setCell ⟨w.heap.size + 1, 2, none⟩ (.slice A2 n2 c2)) := by
  rw [I.eq, heq]
  exact ⟨_, _, _, _, _, rfl, RX.mono (RX.adv hr (Adv.set3 (.inr (.inr rfl)) _ _ _)) (fun i _ e => .inl e), hfr.set3 (fun h => by omega) _ _ _, hwk.other3 (by omega) _ _ _⟩
set_option maxRecDepth 100000 in
set_option maxHeartbeats 4000000 in
theorem spineC {f : Nat} (hA : ApC f) : SpC f := by
  intro t args n v A m c w pw X hf hn ht ha hnt hna hX hbn hwk hv hva
  obtain ⟨k, h, At, nt, ct, rfl⟩ := RdF.full hv
  have lpw := hwk.lt
  have HF := Lib.hid hf; clear hf
  have HX := Lib.hid hX; clear hX
  have HBN := Lib.hid hbn; clear hbn
  have HAP := Lib.hid hA; clear hA
  obtain ⟨W, hW⟩ : ∃ W, (w.alloc (.cells #[.int .i64 k, .int .i64 h, .slice At nt ct] 36)).alloc (.cells #[.int .i64 0, .int .i64 0, .slice none 0 0] 36) = W := ⟨_, rfl⟩
  have hb : Below w.heap.size w W := by rw [← hW]; exact ((Below.refl _ _).alloc (Nat.le_refl _) _).alloc (by simp) _
  have x0 : Box W w.heap.size 36 #[.int .i64 k, .int .i64 h, .slice At nt ct] := by rw [← hW]; exact (Box.new _ _ _).alloc _
  have x1 : Box W (w.heap.size + 1) 36 #[.int .i64 0, .int .i64 0, .slice none 0 0] := by rw [← hW]; exact (Box.new (w.alloc _) _ _).at (by simp)
  have hnew : ∀ b, b < w.heap.size → (X b ∨ b = w.heap.size ∨ b = w.heap.size + 1) → X b := fun b hl e => by
    rcases e with e | e | e
    · exact e
    · omega
    · omega
  have hadv : Adv X w (fun b => X b ∨ b = w.heap.size ∨ b = w.heap.size + 1) W := ⟨hb.size, fun _ h => .inl h, hnew, fun b hl _ => hb.block b hl⟩
  have HI : Hid (SpI f t args n w pw X W t args n k h At nt ct A m c) := Lib.hid ⟨x0, x1, RX.adv hv hadv, hva.adv hadv, Fr.below hb, hwk.keep hb lpw, Nat.le_refl _, hn, ht, ha, hnt, hna, rfl⟩
  clear hadv hnew x0 x1 hb hv hva hwk ht ha hnt hna
  have HW := Lib.hid hW; clear hW
  go_enter Tryz.func118, Tryz.ntmps118
  go_wp2_with fail
  rw [HW.out]
  clear HW
  go_loopw [2] (fun av wr => ∃ (t' : T) (args' : List T) (n1 : Nat) (k h : Int) (At : Option Addr) (nt ct : Nat) (A : Option Addr) (m c : Nat), av = .slice A m c ∧ Hid (SpI f t args n w pw X wr t' args' n1 k h At nt ct A m c)) (fun av _ => lenV av)
  case atStart => exact ⟨t, args, n, k, h, At, nt, ct, A, m, c, rfl, HI⟩
  case round =>
    clear HI
    obtain ⟨t', args', n1, k', h', At', nt', ct', A', m', c', rfl, HI⟩ := hrel
    obtain ⟨c0, c1, c2⟩ := HI.out.box.three
    have hle := HI.out.ra.le
    have hcap := HI.out.ra.cap
    unfold maxLen at hcap
    by_cases hm0 : m' = 0
    · subst hm0
      have hz : args' = [] := List.length_eq_zero_iff.1 HI.out.ra.len
      have heq : sp f t' args' n1 = .ok (t', n1) := by rw [hz, sp, spL]
      have HE := Lib.hid heq; clear heq hz
      obtain ⟨r0, r1, r2⟩ := HI.out.res.three
      have f0 := HI.out.res.frozen 0
      have f1 := HI.out.res.frozen 1
      have f2 := HI.out.res.frozen 2
      cases hk3 : (k' == 3)
      all_goals
        go_wp2_with fail
        refine bodyPost_ret (v := .agg #[.int .i64 k', .int .i64 h', .slice At' nt' ct']) (by simp [results, Tryz.results118, go_sem, r0, r1, r2]) rfl ?_
        exact HI.out.done lpw HI.out.fr HI.out.wk HI.out.rt HE.out
    · obtain ⟨a, bs, hargs⟩ : ∃ a bs, args' = a :: bs := by
        cases args' with
        | nil => have := HI.out.ra.len; simp at this; omega
        | cons a bs => exact ⟨a, bs, rfl⟩
      subst hargs
      have hpos : (0 : Int) < m' := by omega
      have hne0 : ((m' : Int) == 0) = false := by rw [beq_eq_false_iff_ne]; omega
      obtain ⟨kt, gt, xs⟩ := t'
      have hkt := RdF_node.1 HI.out.rt
      obtain ⟨Aq, nq, cq, eq, wfk, wfh, hl, hnc, hcm, hxs⟩ := hkt
      have eq' : k' = kt ∧ h' = gt ∧ At' = Aq ∧ nt' = nq ∧ ct' = cq := by simpa using eq
      obtain ⟨rfl, rfl, rfl, rfl, rfl⟩ := eq'
      clear eq
      have HXS := Lib.hid hxs; clear hxs
      have HL := Lib.hid hl; clear hl
      obtain ⟨ab, ao, ak, ah, aA, an, ac, rfl, a0, a1, a2, har⟩ := (HI.out.ra.at_ 0 a rfl).full
      rw [Nat.zero_mul, Nat.add_zero] at a0 a1 a2
      have HAR := Lib.hid har; clear har
      have HWF := Lib.hid (And.intro wfk wfh); clear wfk wfh
      by_cases hk3 : k' = 3
      · subst hk3
        cases hmy : myB a
        · have heq : sp f (.node 3 h' xs) (a :: bs) n1 = .error 4 := by rw [sp, spL, if_pos rfl, if_neg (by rw [hmy]; simp)]
          have HE := Lib.hid heq; clear heq
          have HMY := Lib.hid hmy; clear hmy
          go_wp2_with fail
          refine (myC a _ _ (RX.rd HAR.out)).mono ?_
          rw [HMY.out]
          rintro e w1 ⟨rfl, hb1⟩
          have HB1 := Lib.hid hb1; clear hb1 c0 c1 c2 a0 a1 a2
          go_wp2_with fail
          refine ⟨rfl, ?_⟩
          rw [HI.out.eq, HE.out]
          exact ⟨rfl, HI.out.fr.then HB1.out⟩
        · obtain ⟨x, rfl⟩ := lam_one rfl HI.out.wt
          obtain rfl : nt' = 1 := by have := HL.out; simpa using this.symm
          obtain ⟨bb, bo, bk, bh, bA, bn, bc, rfl, b0, b1, b2, hbr⟩ := (HXS.out 0 x rfl).full
          rw [Nat.zero_mul, Nat.add_zero] at b0 b1 b2
          have HBR := Lib.hid hbr; clear hbr
          have HMY := Lib.hid hmy; clear hmy
          have lb := cell_lt b0
          dsimp only at lb
          have l0 := HI.out.box.lt
          have l1 := HI.out.res.lt
          have lw := HI.out.wk.lt
          go_wp2_with fail
          refine (myC a _ _ (RX.rd HAR.out)).mono ?_
          rw [HMY.out]
          rintro e w1 ⟨rfl, hb1⟩
          replace b0 := (hb1.cell (p := ⟨bb, bo, none⟩) lb).trans b0
          replace b1 := (hb1.cell (p := ⟨bb, bo + 1, none⟩) lb).trans b1
          replace b2 := (hb1.cell (p := ⟨bb, bo + 2, none⟩) lb).trans b2
          replace lb := Nat.lt_of_lt_of_le lb hb1.size
          have y0 := HI.out.box.keep hb1 l0
          have ly0 := y0.lt
          have HB1 := Lib.hid hb1; clear hb1
          clear c0 c1 c2 a0 a1 a2
          obtain ⟨c0, c1, c2⟩ := y0.three
          have hb5 : Below wr.heap.size wr (w1.alloc (.cells #[.slice (some ⟨ab, ao, none⟩) 1 c', .int .i64 0, .map none] 144)).drew := (HB1.out.alloc HB1.out.size _).drew
          obtain ⟨W5, hW5⟩ : ∃ W5, (w1.alloc (.cells #[.slice (some ⟨ab, ao, none⟩) 1 c', .int .i64 0, .map none] 144)).drew = W5 := ⟨_, rfl⟩
          have bx5 : Box W5 w1.heap.size 144 #[.slice (some ⟨ab, ao, none⟩) 1 c', .int .i64 0, .map none] := by rw [← hW5]; exact Box.new w1 _ _
          have sz1 := HB1.out.size
          have szf := HI.out.fr.size
          rw [hW5] at hb5
          have hYX : ∀ b, YX X w b → b < wr.heap.size := fun b e => by
            rcases e with e | e | e
            · have := HBN.out b e; omega
            · omega
            · omega
          have adv5 : Adv (YX X w) wr (fun b => YX X w b ∨ b = w1.heap.size) W5 := ⟨hb5.size, fun _ h => .inl h, fun b hl e => by
            rcases e with e | e
            · exact e
            · omega, fun b hl _ => hb5.block b hl⟩
          have lo1 := HI.out.lo
          have hi1 := HI.out.hi
          have hAC := HAP.out [a] 0 0 x n1 (.agg #[.int .i64 bk, .int .i64 bh, .slice bA bn bc]) W5 pw w1.heap.size (fun b => YX X w b ∨ b = w1.heap.size) (some ⟨ab, ao, none⟩) 1 c' (.map none) (by have := HF.out; omega) (Nat.zero_le _) hi1
            ⟨fun t ht => by rw [List.mem_singleton.1 ht]; exact HMY.out, fun t ht => by rw [List.mem_singleton.1 ht]; exact (HI.out.wa a (List.mem_cons_self ..)).ok, by omega, by omega⟩
            (by rw [Int.sub_zero]; exact HI.out.wt.args (List.mem_cons_self ..)) (by have h1 := HI.out.nt; rw [nd, ndL] at h1; omega) (.inl (.inl HX.out)) (by omega) (HI.out.wk.keep hb5 lw)
            ⟨bx5, .inr rfl, fun b e => by
              rcases e with e | e
              · exact Nat.lt_of_lt_of_le (hYX b e) hb5.size
              · rw [e]; exact bx5.lt, (HI.out.ra.head (by omega)).adv adv5, .inl rfl⟩ (RX.adv HBR.out adv5)
          rw [show ((0 : Nat) : Int) = 0 from rfl] at hAC
          have HAC := Lib.hid hAC; clear hAC
          cases hres : ap f [a] 0 0 x n1 with
          | error ec =>
            rw [hres] at HAC
            have heq : sp f (.node 3 h' [x]) (a :: bs) n1 = .error ec := by rw [sp, spL, if_pos rfl, if_pos HMY.out]; simp only [List.headD_cons]; rw [hres]
            have HERR : Hid (∀ w8, Fr (fun k => k = pw ∨ k = w1.heap.size ∨ Value.map none = .map (some k)) W5 w8 → PEnd pw X w (sp f t args n) (.panicked (stopC ec)) w8) := Lib.hid fun w8 h2 => by
              rw [HI.out.eq, heq]
              refine ⟨rfl, (HI.out.fr.then hb5).trans h2 fun i hi e => ?_⟩
              rcases e with e | e | e
              · exact e
              · omega
              · cases e
            clear hres heq adv5 hYX bx5 y0 hb5
            rw [← hW5] at HAC HERR
            clear hW5
            go_wp2_with fail
            go_region_with
              (first
                | (go_at_call 106
                   with_reducible refine HAC.out.mono ?_
                   rintro e w8 ⟨rfl, hfr⟩
                   suffices hfk : wpAny Tryz.prog .any #[] (fun _ _ _ => True) 0 #[] { tmps := #[], defers := [] } w8 from ⟨rfl, HERR.out _ hfr⟩))
            all_goals trivial
          | ok p =>
            obtain ⟨t2, n2⟩ := p
            rw [hres] at HAC
            have heq : sp f (.node 3 h' [x]) (a :: bs) n1 = sp f t2 bs n2 := by rw [sp, spL, if_pos rfl, if_pos HMY.out]; simp only [List.headD_cons]; rw [hres]
            have hgood := ap_good f [a] 0 0 x n1 (Nat.zero_le _) hi1 ⟨fun t ht => by rw [List.mem_singleton.1 ht]; exact HMY.out, fun t ht => by rw [List.mem_singleton.1 ht]; exact (HI.out.wa a (List.mem_cons_self ..)).ok, by omega, by omega⟩ (by rw [Int.sub_zero]; exact HI.out.wt.args (List.mem_cons_self ..)) t2 n2 hres
            have HG := Lib.hid hgood; clear hgood
            have HE := Lib.hid heq; clear heq hres
            have HFR : Hid (∀ w9, Fr (fun k => k = pw ∨ k = w1.heap.size ∨ Value.map none = .map (some k)) W5 w9 → Fr (fun k => k = pw) wr w9) := Lib.hid fun w9 h2 => (Fr.below (X := fun k => k = pw) hb5).trans h2 fun i hi e => by
              rcases e with e | e | e
              · exact e
              · omega
              · cases e
            have hsz5 : w1.heap.size < W5.heap.size := bx5.lt
            clear adv5 hYX bx5 y0 hb5
            rw [← hW5] at HAC HFR hsz5
            clear hW5
            go_wp2_with fail
            go_region_with
              (first
                | (go_at_call 106
                   with_reducible refine HAC.out.mono ?_
                   rintro e w9 ⟨k3, h3, A3, n3, c3, X3, mv3, rfl, hrx, hsc, hst, hwk⟩
                   have hfr9 := HFR.out _ hst.fr
                   have z0 := HI.out.box.fr hfr9 (by omega)
                   have z1 := HI.out.res.fr hfr9 (by omega)
                   have HH := Lib.hid (And.intro hrx (And.intro hst (And.intro hwk (And.intro hfr9 (And.intro z0 z1)))))
                   clear hrx hsc hst hwk hfr9 c0 c1 c2 b0 b1 b2
                   obtain ⟨c0, c1, c2⟩ := z0.three
                   have g0 := z0.frozen 0
                   have g1 := z0.frozen 1
                   have g2 := z0.frozen 2
                   clear z0 z1))
            all_goals
              go_wp2_with fail
              obtain ⟨hrx, hst, hwk, hfr9, z0, z1⟩ := HH.out
              obtain ⟨q1, q2, q3, q4⟩ := HG.out
              have advs : Adv (YX X w) w9 (YX X w) (((w9.setCell ⟨w.heap.size, 0, none⟩ (.int .i64 k3)).setCell ⟨w.heap.size, 1, none⟩ (.int .i64 h3)).setCell ⟨w.heap.size, 2, none⟩ (.slice A3 n3 c3)) := Adv.set3 (.inr (.inl rfl)) _ _ _
              refine ⟨⟨t2, bs, n2, k3, h3, A3, n3, c3, _, m' - 1, c' - 1, rfl, Lib.hid ⟨z0.put3 _ _ _, z1.other3 (by omega) _ _ _, ?_, ?_, ?_, hwk.other3 (by omega) _ _ _, by omega, q2, q3, fun b hb => (HI.out.wa b (List.mem_cons_of_mem _ hb)).mono (bt_mono q1), by omega, ?_, HI.out.eq.trans HE.out⟩⟩, by simp [lenV]; omega⟩
              · exact RX.adv (RX.mono hrx fun i _ e => hst.adv.more i (.inl e)) advs
              · refine RXL.adv (w := w9) (X := YX X w) ?_ advs
                have hra := HI.out.ra.adv (Adv.fr (X := YX X w) hfr9 fun i _ e => by subst e; exact .inl HX.out)
                by_cases hc1 : c' = 1
                · have hbs : bs = [] := by have h1 := HI.out.ra.len; have : m' = 1 := by omega
                                           rw [this] at h1; simpa using h1
                  subst hbs
                  obtain rfl : m' = 1 := by omega
                  exact RXL.nil _ (by unfold maxLen; omega)
                · rw [if_neg hc1]
                  obtain ⟨m2, rfl⟩ : ∃ m2, m' = m2 + 1 := ⟨m' - 1, by omega⟩
                  obtain ⟨c2, rfl⟩ : ∃ c2, c' = c2 + 1 := ⟨c' - 1, by omega⟩
                  exact hra.tail
              · exact (HI.out.fr.trans hfr9 fun i _ e => e).set3 (fun h => absurd h (Nat.lt_irrefl _)) _ _ _
              · have h1 := HI.out.na; rw [ndL] at h1; omega
      · have e3 : (k' == 3) = false := by simpa using hk3
        by_cases hk2 : k' = 4 ∨ k' = 5 ∨ k' = 2
        · have heq : sp f (.node k' h' xs) (a :: bs) n1 = .ok (.node k' h' (xs ++ a :: bs), n1) := by rw [sp, spL, if_neg hk3, if_pos hk2]
          have HE := Lib.hid heq; clear heq hk3
          have hb5 : Below wr.heap.size wr (wr.alloc (.cells #[.slice At' nt' ct', .slice (some ⟨ab, ao, none⟩) m' c'] 34)).drew := ((Below.refl _ _).alloc (Nat.le_refl _) _).drew
          have l0 := HI.out.box.lt
          have l1 := HI.out.res.lt
          have hsum : nt' + m' ≤ 3518437208780 := by
            have h1 := HI.out.nt
            have h2 := HI.out.na
            rw [nd] at h1
            have h3 := (wdL_nd xs).2
            have h4 := (wdL_nd (a :: bs)).2
            have h5 := HL.out
            have h6 := HI.out.ra.len
            omega
          have HCC : Hid (Calls Tryz.prog 128 #[.slice (some ⟨wr.heap.size, 0, none⟩) 2 2] (wr.alloc (.cells #[.slice At' nt' ct', .slice (some ⟨ab, ao, none⟩) m' c'] 34)).drew (CEnd (YX X w) (xs ++ a :: bs) (nt' + m') (wr.alloc (.cells #[.slice At' nt' ct', .slice (some ⟨ab, ao, none⟩) m' c'] 34)).drew)) := Lib.hid (by
            have bx := Box.new wr 34 #[.slice At' nt' ct', .slice (some ⟨ab, ao, none⟩) m' c']
            refine concatC (RXL.adv ⟨HL.out, hnc, hcm, HXS.out⟩ (Adv.below hb5)) (HI.out.ra.adv (Adv.below hb5)) (fun b e => ?_) (bx.cell 0) (bx.cell 1) (by omega) hsum
            have := hb5.size
            rcases e with e | e | e
            · have := HBN.out b e; have := HI.out.fr.size; omega
            · omega
            · omega)
          have HKS : Hid (∀ w', Below wr.heap.size wr w' → (w'.cell? ⟨w.heap.size, 0, none⟩ = some (.int .i64 k') ∧ w'.cell? ⟨w.heap.size, 1, none⟩ = some (.int .i64 h') ∧ w'.cell? ⟨w.heap.size, 2, none⟩ = some (.slice At' nt' ct'))) := Lib.hid fun w' h => (HI.out.box.keep h l0).three
          have hcur : Below wr.heap.size wr wr.drew := (Below.refl _ _).drew
          have hcur2 := hb5
          have HB5 := Lib.hid hb5; clear hb5
          have e4 : (k' == 4) = true ∨ (k' == 4) = false ∧ (k' == 5) = true ∨ (k' == 4) = false ∧ (k' == 5) = false ∧ (k' == 2) = true := by simp; omega
          clear hk2
          rcases e4 with e4 | ⟨e4, e5⟩ | ⟨e4, e5, e6⟩
          all_goals
            go_wp2_with fail
            go_region_held3 (fun w' => w'.cell? ⟨w.heap.size, 0, none⟩ = some (.int .i64 k') ∧ w'.cell? ⟨w.heap.size, 1, none⟩ = some (.int .i64 h') ∧ w'.cell? ⟨w.heap.size, 2, none⟩ = some (.slice At' nt' ct'))
              (first | exact HKS.out _ hcur | exact HKS.out _ hcur2 | exact HFIN.out | exact HFIN3.out)
              (first
                | (go_at_call 128
                   with_reducible refine HCC.out.mono ?_
                   rintro e w9 ⟨A9, c9, rfl, hrx, hb9⟩
                   have hb09 := HB5.out.trans (hb9.mono HB5.out.size)
                   have y0 := HI.out.box.keep hb09 l0
                   have y1 := HI.out.res.keep hb09 l1
                   have HFIN := Lib.hid y0.three
                   have HFIN3 := Lib.hid ((y0.other3 (a := w.heap.size + 1) (by omega) (.int .i64 k') (.int .i64 h') (.slice A9 (nt' + m') c9)).three)
                   have HRX := Lib.hid hrx
                   have HB09 := Lib.hid hb09
                   clear hb9 hrx hb09
                   obtain ⟨r0, r1, r2⟩ := y1.three
                   have f0 := y1.frozen 0
                   have f1 := y1.frozen 1
                   have f2 := y1.frozen 2))
            go_wp2_with fail
            refine bodyPost_ret (v := .agg #[.int .i64 k', .int .i64 h', .slice A9 (nt' + m') c9]) (by simp [results, Tryz.results118, go_sem, r0, r1, r2]) rfl ?_
            exact HI.out.done lpw (HI.out.fr.then HB09.out) (HI.out.wk.keep HB09.out HI.out.wk.lt) (RdF_node.2 ⟨_, _, _, rfl, HWF.out.1, HWF.out.2, HRX.out.len, HRX.out.le, HRX.out.cap, HRX.out.at_⟩) HE.out
        · have e4 : (k' == 4) = false := by simp; omega
          have e5 : (k' == 5) = false := by simp; omega
          have e2 : (k' == 2) = false := by simp; omega
          have heq : sp f (.node k' h' xs) (a :: bs) n1 = .error 3 := by rw [sp, spL, if_neg hk3, if_neg hk2]
          have HE := Lib.hid heq; clear heq hk3 hk2
          go_wp2_with fail
          refine ⟨rfl, ?_⟩
          rw [HI.out.eq, HE.out]
          exact ⟨rfl, HI.out.fr⟩
end Go.Proofs.YtmkahbbcagfbhaaGreatDoor
/-
  The contracts of package subst's apply and spine, whatever the fuel. No statement is proved here.
-/
namespace Go.Proofs.YtmkahbbcagfbhaaGreatDoor
open Go.ChangeShapes Go.WideShapes Go.ChangeAt Go.RowKit
set_option linter.unusedVariables false
theorem Stp.weaken {pw ps : Nat} {X Y : Nat → Prop} {w w' : World} {mv mv' : Value} (h : Stp ps ps X w mv Y w' mv') : Stp pw ps X w mv Y w' mv' :=
  ⟨h.adv, h.fr.mono fun i _ e => by
    rcases e with e | e | e
    · exact .inr (.inl e)
    · exact .inr (.inl e)
    · exact .inr (.inr e), h.mvs⟩
theorem Stp.ofFr {pw ps : Nat} {X : Nat → Prop} {w w' : World} {mv : Value} (h : Fr (fun k => k = pw) w w') (hX : X pw) : Stp pw ps X w mv X w' mv :=
  ⟨Adv.fr h fun i _ e => by subst e; exact hX, h.mono fun i _ e => .inl e, fun _ e _ => e⟩
theorem Sc.ofFr {pw : Nat} {X : Nat → Prop} {w w' : World} {ps : Nat} {L : List T} {sh : Int} {A : Option Addr} {n c : Nat} {mv : Value} (h : Sc X w ps L sh A n c mv) (hf : Fr (fun k => k = pw) w w') (hX : X pw) (hne : pw ≠ ps) (hmn : mv ≠ .map (some pw)) : Sc X w' ps L sh A n c mv :=
  h.adv (Adv.fr hf fun i _ e => by subst e; exact hX) (hf.block _ h.box.lt (fun e => hne e.symm)) (fun pm e => hf.block _ (h.mapLt e) (fun e' => hmn (e' ▸ e))) fun b hb => Nat.lt_of_lt_of_le (h.bnd b hb) hf.size
set_option maxRecDepth 100000 in
set_option maxHeartbeats 4000000 in
theorem applyC {f : Nat} (hA : ApC f) : ApC (f + 1) := by
  intro L sh u t n v w pw ps X A m c mv hf hu hn hs ht hnt hX hne hwk hsc hv
  obtain ⟨k, h, xs⟩ := t
  obtain ⟨An, nn, cc, rfl, wfk, wfh, hl, hnc, hcm, hxs⟩ := RdF_node.1 hv
  clear hxs hl
  have lpw := hwk.lt
  have lps := hsc.box.lt
  have hSP := spineC hA
  have HF := Lib.hid hf; clear hf
  have HX := Lib.hid hX; clear hX
  have HAP := Lib.hid hA; clear hA
  have HSPC := Lib.hid hSP; clear hSP
  have HSC := Lib.hid hsc; clear hsc
  have HV := Lib.hid hv; clear hv
  have HS := Lib.hid hs; clear hs
  have HT := Lib.hid ht; clear ht
  have HWF := Lib.hid (And.intro wfk wfh); clear wfk wfh
  have q0 := hwk.one.1
  have q1 := hwk.one.2
  obtain ⟨W, hW⟩ : ∃ W, ((w.setCell ⟨pw, 0, none⟩ (.int .i64 ((n : Int) + 1))).alloc (.cells #[.int .i64 k, .int .i64 h, .slice An nn cc] 36)).alloc (.cells #[.int .i64 0, .int .i64 0, .slice none 0 0] 36) = W := ⟨_, rfl⟩
  have sz : (w.setCell ⟨pw, 0, none⟩ (.int .i64 ((n : Int) + 1))).heap.size = w.heap.size := by simp [World.setCell]
  have hb : Below w.heap.size (w.setCell ⟨pw, 0, none⟩ (.int .i64 ((n : Int) + 1))) W := by rw [← hW]; exact ((Below.refl _ _).alloc (by omega) _).alloc (by simp) _
  have x0 : Box W w.heap.size 36 #[.int .i64 k, .int .i64 h, .slice An nn cc] := by rw [← hW]; exact ((Box.new _ _ _).at (by omega)).alloc _
  have x1 : Box W (w.heap.size + 1) 36 #[.int .i64 0, .int .i64 0, .slice none 0 0] := by rw [← hW]; exact (Box.new _ _ _).at (by simp [sz])
  have xw : wkB W pw (n + 1) := by
    have := (hwk.set (.int .i64 ((n : Int) + 1))).keep hb (by omega)
    exact this
  have hfrW : Fr (fun k => k = pw) w W := by
    refine ⟨hb.os, hb.tape, hb.output, by have := hb.size; omega, fun i hi e => (hb.block i hi).trans (Below.heap_setCell _ _ _ _ e)⟩
  have hmvpw := HSC.out.mapNe hwk
  have hnew : ∀ b, b < w.heap.size → (X b ∨ b = w.heap.size + 1) → X b := fun b hl e => by
    rcases e with e | e
    · exact e
    · omega
  have st0 : Stp pw ps X w mv (fun b => X b ∨ b = w.heap.size + 1) W mv := ⟨⟨hfrW.size, fun _ h => .inl h, hnew, fun b hl e => hfrW.block b hl fun e' => e (by rw [e']; exact HX.out)⟩, hfrW.mono fun i _ e => .inl e, fun _ e _ => e⟩
  have sc0 : Sc (fun b => X b ∨ b = w.heap.size + 1) W ps L sh A m c mv := HSC.out.adv st0.adv (hfrW.block ps lps (fun e => hne e.symm)) (fun pm e => hfrW.block _ (HSC.out.mapLt e) (fun e' => hmvpw (e' ▸ e))) (fun b e => by
    rcases e with e | e
    · exact Nat.lt_of_lt_of_le (HSC.out.bnd b e) hfrW.size
    · rw [e]; exact x1.lt)
  have rv0 := RX.adv HV.out st0.adv
  clear hb sz hnew hwk
  have HST := Lib.hid st0; clear st0
  have HSC0 := Lib.hid sc0; clear sc0
  have HV0 := Lib.hid rv0; clear rv0
  have HFR := Lib.hid hfrW; clear hfrW
  have HMV := Lib.hid hmvpw; clear hmvpw
  have HW := Lib.hid hW; clear hW
  have hbt1 : bt n - sh ≤ bt (n + 1) - sh := by have : bt n ≤ bt (n + 1) := bt_mono (by omega)
                                                omega
  by_cases hlim : 40000 < n + 1
  · have hap : ap (f + 1) L sh u (.node k h xs) n = .error 4 := by rw [ap, if_pos hlim]
    have HE := Lib.hid hap; clear hap
    have d1 : (40000 : Int) < n + 1 := by omega
    go_enter Tryz.func106, Tryz.ntmps106
    go_wp2_with fail
    rw [HW.out]
    refine ⟨rfl, ?_⟩
    rw [HE.out]
    exact ⟨rfl, HST.out.fr⟩
  · have d1 : ¬ (40000 : Int) < n + 1 := by omega
    have hArg := argsC HAP.out L sh u k h xs (n + 1) An nn cc W pw ps (fun b => X b ∨ b = w.heap.size + 1) A m c mv (by have := HF.out; omega) (by omega) (by omega) (HS.out.mono (bt_mono (by omega))) (HT.out.mono hbt1) hnt (.inl HX.out) hne xw HSC0.out HV0.out
    have HArg := Lib.hid hArg; clear hArg
    have HLIM := Lib.hid hlim; clear hlim
    obtain ⟨c0, c1, c2⟩ := x0.three
    go_enter Tryz.func106, Tryz.ntmps106
    go_wp2_with fail
    rw [HW.out]
    clear HW q0 q1 c0 c1 c2
    refine HArg.out.mono ?_
    cases hres : apL (fun u' x m => ap f L sh u' x m) k xs.length u xs 0 (n + 1) with
    | error ec =>
      rintro e w2 ⟨rfl, hfr⟩
      have heq : ap (f + 1) L sh u (.node k h xs) n = .error ec := by rw [ap, if_neg HLIM.out, hres]
      have HE := Lib.hid heq; clear heq
      go_wp2_with fail
      refine ⟨rfl, ?_⟩
      rw [HE.out]
      exact ⟨rfl, HST.out.fr.trans hfr fun i hi e => e⟩
    | ok p =>
      obtain ⟨ys, n1⟩ := p
      rintro e w2 ⟨A2, m2, c2, X2, mv2, rfl, hrl, hsc2, hst2, hwk2⟩
      have nx : ∀ {b : Nat} {cs : Array Value} {ty : TypeId}, w.heap.size ≤ b → Box W b ty cs → ¬ (b = pw ∨ b = ps ∨ mv = .map (some b)) := fun hb bx e => by
        rcases e with e | e | e
        · omega
        · omega
        · exact HSC0.out.mapNe bx e
      have y0 := x0.fr hst2.fr (nx (Nat.le_refl _) x0)
      have y1 := x1.fr hst2.fr (nx (by omega) x1)
      have hgL := apL_good (A := fun u' x m => ap f L sh u' x m) (n0 := n) (sh := sh) (fun v x m hv hm1 hm2 hx => ap_good f L sh v x m hm1 hm2 (HS.out.mono (bt_mono hv)) hx) xs 0 (n + 1) (by omega) (by omega) (by omega) (fun x hx => (HT.out.args hx).mono hbt1) ys n1 hres
      obtain ⟨g1, g2, g3, g4, g5⟩ := hgL
      have heq : ap (f + 1) L sh u (.node k h xs) n = if k = 4 ∧ (u : Int) ≤ h then sp f (mpT L sh (h - u) u) ys n1 else .ok (.node k h ys, n1) := by rw [ap, if_neg HLIM.out, hres]
      have HEQ := Lib.hid heq; clear heq hres
      clear x0 x1 nx
      have HRL := Lib.hid hrl; clear hrl
      have HSC2 := Lib.hid hsc2; clear hsc2
      have HST2 := Lib.hid hst2; clear hst2
      have HG := Lib.hid (And.intro g3 (And.intro g4 g5)); clear g3 g4 g5
      obtain ⟨c0, c1, c2'⟩ := y0.three
      have l0 := y0.lt
      have l1 := y1.lt
      have lw2 := hwk2.lt
      have hX2 : X2 pw := HST2.out.adv.more _ (.inl HX.out)
      have hX2p : X2 (w.heap.size + 1) := HST2.out.adv.more _ (.inr rfl)
      have HX2 := Lib.hid hX2; clear hX2
      have HX2P := Lib.hid hX2p; clear hX2p
      by_cases hvar : k = 4 ∧ (u : Int) ≤ h
      · have heq := HEQ.out
        rw [if_pos hvar] at heq
        have HE := Lib.hid heq; clear heq HEQ
        obtain ⟨rfl, hvar⟩ := hvar
        have d2 : decide ((u : Int) ≤ h) = true := by simpa using hvar
        have hh := HT.out.ok
        rw [okT] at hh
        have hh1 := (hh.1 rfl).1
        have hh2 := (hh.1 rfl).2
        clear hh
        have hsl := HS.out.lo
        have hsh := HS.out.hi
        have hbn : bt n ≤ 1125899906842624 := by unfold bt btB; omega
        have hmp := mapsC ps HSC2.out (h - u) u (HS.out.mono (bt_mono (show n ≤ n1 by omega))) (by unfold bt btB; omega) (by omega) (by omega) (by omega)
        have HMP := Lib.hid hmp; clear hmp
        have hsub : (h : Int) - u ≤ 1125899906842624 := by omega
        obtain ⟨mw1, mw2⟩ := way_mp (u := u) (fr := h - u) HS.out (by omega) (by omega)
        have hmid : bt n + u ≤ bt n1 := by unfold bt btB; omega
        have HMW := Lib.hid (mw1.mono hmid); clear mw1
        go_wp2_with fail
        refine HMP.out.mono ?_
        rintro e w3 ⟨k3, h3, A3, n3, c3, X3, mv3, rfl, hrx3, hsc3, hst3⟩
        have nx : ∀ {b : Nat} {cs : Array Value} {ty : TypeId}, b ≠ ps → Box w2 b ty cs → ¬ (b = ps ∨ b = ps ∨ mv2 = .map (some b)) := fun hb bx e => by
          rcases e with e | e | e
          · exact hb e
          · exact hb e
          · exact HSC2.out.mapNe bx e
        have z1 := y1.fr hst3.fr (nx (by omega) y1)
        have zw := hwk2.fr hst3.fr (nx hne hwk2)
        have hX3 : X3 pw := hst3.adv.more _ HX2.out
        have hX3p : X3 (w.heap.size + 1) := hst3.adv.more _ HX2P.out
        have lz := z1.lt
        have hsp := HSPC.out (mpT L sh (h - u) u) ys n1 _ A2 m2 c2 w3 pw X3 (by have := HF.out; omega) g2 HMW.out HG.out.2.1 (by omega) (by have := HG.out.2.2; omega) hX3 hsc3.bnd zw hrx3 (HRL.out.adv hst3.adv)
        have HSP := Lib.hid hsp; clear hsp
        have HST3 := Lib.hid (hst3.weaken (pw := pw)); clear hst3
        have HSC3 := Lib.hid hsc3; clear hsc3
        clear hrx3 nx c0 c1 c2' y0 y1
        have hmn3 := HSC3.out.mapNe zw
        have HMN3 := Lib.hid hmn3; clear hmn3
        have hmn4 := HSC3.out.mapNe z1
        have HMN4 := Lib.hid hmn4; clear hmn4
        have HX3 := Lib.hid hX3; clear hX3
        have HX3P := Lib.hid hX3p; clear hX3p
        go_wp2_with fail
        refine HSP.out.mono ?_
        cases hres2 : sp f (mpT L sh (h - u) u) ys n1 with
        | error ec =>
          rintro e w4 ⟨rfl, hfr4⟩
          have heq : ap (f + 1) L sh u (.node 4 h xs) n = .error ec := by rw [HE.out, hres2]
          have HE2 := Lib.hid heq; clear heq hres2
          go_wp2_with fail
          refine ⟨rfl, ?_⟩
          rw [HE2.out]
          exact ⟨rfl, ((HST.out.trans HST2.out).trans HST3.out).fr.trans hfr4 fun i hi e => .inl e⟩
        | ok p =>
          obtain ⟨t4, n4⟩ := p
          rintro e w4 ⟨k4, h4, A4, m4, c4, rfl, hrx4, hfr4, hwk4⟩
          have heq : ap (f + 1) L sh u (.node 4 h xs) n = .ok (t4, n4) := by rw [HE.out, hres2]
          have v1 := z1.fr hfr4 (by omega)
          have hfin : AEnd pw ps X w L sh A m c mv (ap (f + 1) L sh u (.node 4 h xs) n) (.returned (.agg #[.int .i64 k4, .int .i64 h4, .slice A4 m4 c4])) (((w4.setCell ⟨w.heap.size + 1, 0, none⟩ (.int .i64 k4)).setCell ⟨w.heap.size + 1, 1, none⟩ (.int .i64 h4)).setCell ⟨w.heap.size + 1, 2, none⟩ (.slice A4 m4 c4)) := by
            rw [heq]
            have hsc4 := HSC3.out.ofFr hfr4 HX3.out hne HMN3.out
            refine ⟨_, _, _, _, _, X3, mv3, rfl, RX.adv hrx4 (Adv.set3 HX3P.out _ _ _), ?_, ?_, hwk4.other3 (by omega) _ _ _⟩
            · exact ((hsc4.setCell HX3P.out (by dsimp only; omega) HMN4.out _).setCell HX3P.out (by dsimp only; omega) HMN4.out _).setCell HX3P.out (by dsimp only; omega) HMN4.out _
            · exact (((((HST.out.trans HST2.out).trans HST3.out).trans (Stp.ofFr hfr4 HX3.out)).setCell (by dsimp only; omega) _).setCell (by dsimp only; omega) _).setCell (by dsimp only; omega) _
          have HFIN := Lib.hid hfin; clear hfin heq hres2 hrx4 hwk4 hfr4
          obtain ⟨r0, r1, r2⟩ := v1.three
          have f0 := v1.frozen 0
          have f1 := v1.frozen 1
          have f2 := v1.frozen 2
          go_wp2_with fail
          refine bodyPost_ret (v := .agg #[.int .i64 k4, .int .i64 h4, .slice A4 m4 c4]) (by simp [results, Tryz.results106, go_sem, r0, r1, r2]) rfl ?_
          exact HFIN.out
      · have heq := HEQ.out
        rw [if_neg hvar] at heq
        have HE := Lib.hid heq; clear heq HEQ
        obtain ⟨r0, r1, r2⟩ := y1.three
        have f0 := y1.frozen 0
        have f1 := y1.frozen 1
        have f2 := y1.frozen 2
        have hfin : AEnd pw ps X w L sh A m c mv (ap (f + 1) L sh u (.node k h xs) n) (.returned (.agg #[.int .i64 k, .int .i64 h, .slice A2 m2 c2])) (((w2.setCell ⟨w.heap.size + 1, 0, none⟩ (.int .i64 k)).setCell ⟨w.heap.size + 1, 1, none⟩ (.int .i64 h)).setCell ⟨w.heap.size + 1, 2, none⟩ (.slice A2 m2 c2)) := by
          rw [HE.out]
          have hmn := HSC2.out.mapNe y1
          refine ⟨_, _, _, _, _, X2, mv2, rfl, RX.adv (RdF_node.2 ⟨_, _, _, rfl, HWF.out.1, HWF.out.2, HRL.out.len, HRL.out.le, HRL.out.cap, HRL.out.at_⟩) (Adv.set3 HX2P.out _ _ _), ?_, ?_, hwk2.other3 (by omega) _ _ _⟩
          · exact ((HSC2.out.setCell HX2P.out (by dsimp only; omega) hmn _).setCell HX2P.out (by dsimp only; omega) hmn _).setCell HX2P.out (by dsimp only; omega) hmn _
          · exact (((HST.out.trans HST2.out).setCell (by dsimp only; omega) _).setCell (by dsimp only; omega) _).setCell (by dsimp only; omega) _
        have HFIN := Lib.hid hfin; clear hfin
        have d2 : (k == 4) = false ∨ (k == 4) = true ∧ decide ((u : Int) ≤ h) = false := by
          by_cases e : k = 4
          · exact .inr ⟨by simpa using e, by simp; omega⟩
          · exact .inl (by simpa using e)
        clear hvar
        rcases d2 with d2 | ⟨d2, d3⟩
        all_goals
          go_wp2_with fail
          refine bodyPost_ret (v := .agg #[.int .i64 k, .int .i64 h, .slice A2 m2 c2]) (by simp [results, Tryz.results106, go_sem, r0, r1, r2]) rfl ?_
          exact HFIN.out
theorem apC : ∀ f : Nat, ApC f
  | 0 => fun L sh u t n v w pw ps X A m c mv hf hu hn => by omega
  | f + 1 => applyC (apC f)
end Go.Proofs.YtmkahbbcagfbhaaGreatDoor
/-
  The contracts of package subst's answer, and of the function that it defers. No statement is proved here.
-/
namespace Go.Proofs.YtmkahbbcagfbhaaGreatDoor
open Go.ChangeShapes Go.WideShapes Go.ChangeAt Go.RowKit
set_option linter.unusedVariables false
theorem assertStop (ec : Int) (W : World) : (Instr.typeAssert (.iface 157 (.agg #[.int .i64 ec])) 20 157 true).run Tryz.prog W = .ok (.tuple #[.agg #[.int .i64 ec], .bool true]) W := by kernel_rfl
theorem assertNil (W : World) : (Instr.typeAssert .nilIface 20 157 true).run Tryz.prog W = .ok (.tuple #[.agg #[.int .i64 0], .bool false]) W := by kernel_rfl
def CatchQ (pt pe : Nat) (ec : Int) (w : World) (e : Exit) (a : Act) (w' : World) : Prop :=
  e = .normal ∧ a.defers = [] ∧ Box w' pt 36 #[.int .i64 0, .int .i64 0, .slice none 0 0] ∧ Box w' pe 25 #[.int .i64 ec] ∧ Fr (fun k => k = pt ∨ k = pe) w w'
set_option maxRecDepth 100000 in
set_option maxHeartbeats 2000000 in
/-- a frame that panics by an error -/
theorem catch_stop (pt pe : Nat) (ec : Int) (older : List PanicEntry) (w : World) (x0 x1 x2 y : Value) (ht : Box w pt 36 #[x0, x1, x2]) (he : Box w pe 25 #[y]) (hne : pt ≠ pe) :
    CallsD Tryz.prog 116 #[.pointer (some ⟨pt, 0, none⟩), .pointer (some ⟨pe, 0, none⟩)] (.panicking ({ v := .iface 157 (.agg #[.int .i64 ec]), recovered := false } :: older)) w fun e u' w' =>
      e = .returned (.tuple #[]) ∧ u' = .panicking ({ v := .iface 157 (.agg #[.int .i64 ec]), recovered := true } :: older) ∧
      Box w' pt 36 #[.int .i64 0, .int .i64 0, .slice none 0 0] ∧ Box w' pe 25 #[.int .i64 ec] ∧ Fr (fun k => k = pt ∨ k = pe) w w' := by
  refine callsD_of_wpS Tryz.func116 rfl fun c₀ cs hu => ?_
  apply wpS_seq
  apply wpS_region
  simp [wpOpsS, go_sem, recoverD, hu, Tryz.ntmps116, Exit.thenS]
  have hta := assertStop ec
  refine wpS_of_wp ?_
  have HU := Lib.hid hu; clear hu
  refine Code.wp_mono (Q := CatchQ pt pe ec w) (fun e a' w' hq => ?_) ?_
  · obtain ⟨rfl, hd, hq⟩ := hq
    cases c₀
    exact ⟨hd, _, rfl, .tuple #[], results_none rfl _ _ _, rfl, rfl, hq⟩
  simp only [Array.replicate_succ, Array.replicate_zero, List.push_toArray, List.append_toArray, List.nil_append, List.cons_append, List.setIfInBounds_toArray, List.set_cons_zero, List.set_cons_succ]
  go_wp2_with fail
  obtain ⟨W, hW⟩ : ∃ W, w.alloc (.cells #[.int .i64 ec] 157) = W := ⟨_, rfl⟩
  have hb : Below w.heap.size w W := by rw [← hW]; exact (Below.refl _ _).alloc (Nat.le_refl _) _
  have bt' := ht.keep hb ht.lt
  have be' := he.keep hb he.lt
  have bs' : Box W w.heap.size 157 #[.int .i64 ec] := by rw [← hW]; exact Box.new _ _ _
  have lt := ht.lt
  have le := he.lt
  rw [hW]
  clear hW ht he
  obtain ⟨t0, t1, t2⟩ := bt'.three
  have g0 := bt'.frozen 0
  have g1 := bt'.frozen 1
  have g2 := bt'.frozen 2
  have e0 := be'.one.1
  have e1 := be'.one.2
  have s0 := bs'.one.1
  have n1 : ¬ pe = pt := fun e => hne e.symm
  have n2 : ¬ w.heap.size = pt := by omega
  have n3 : ¬ w.heap.size = pe := by omega
  have HB := Lib.hid hb; clear hb
  go_region
  refine ⟨rfl, rfl, ?_, ?_, ?_⟩
  · exact (bt'.put3 _ _ _).other (fun e => hne e) _
  · exact (be'.other3 n1 _ _ _).set _
  · refine ⟨HB.out.os, HB.out.tape, HB.out.output, by have := HB.out.size; simpa [World.setCell] using this, fun i hi e => ?_⟩
    have h1 : i ≠ pt := fun e' => e (.inl e')
    have h2 : i ≠ pe := fun e' => e (.inr e')
    show (((((W.setCell _ _).setCell _ _).setCell _ _).setCell _ _).drew).heap[i]? = _
    exact (Below.heap_setCell _ _ _ _ h2).trans ((heap_other3 _ _ _ _ _ _ h1).trans (HB.out.block i hi))
def IdleQ (w : World) (e : Exit) (a : Act) (w' : World) : Prop := e = .normal ∧ a.defers = [] ∧ Below w.heap.size w w'
set_option maxRecDepth 100000 in
set_option maxHeartbeats 2000000 in
/-- a frame that returns -/
theorem catch_idle (pt pe : Nat) (w : World) :
    CallsD Tryz.prog 116 #[.pointer (some ⟨pt, 0, none⟩), .pointer (some ⟨pe, 0, none⟩)] .returning w fun e u' w' => e = .returned (.tuple #[]) ∧ u' = .returning ∧ Below w.heap.size w w' := by
  refine callsD_of_wpS Tryz.func116 rfl fun c₀ cs hu => ?_
  apply wpS_seq
  apply wpS_region
  simp [wpOpsS, go_sem, recoverD, hu, Tryz.ntmps116, Exit.thenS]
  have hta := assertNil
  refine wpS_of_wp ?_
  have HU := Lib.hid hu; clear hu
  refine Code.wp_mono (Q := IdleQ w) (fun e a' w' hq => ?_) ?_
  · obtain ⟨rfl, hd, hq⟩ := hq
    cases c₀
    have hu := HU.out
    simp only at hu
    subst hu
    exact ⟨hd, _, rfl, .tuple #[], results_none rfl _ _ _, rfl, rfl, hq⟩
  simp only [Array.replicate_succ, Array.replicate_zero, List.push_toArray, List.append_toArray, List.nil_append, List.cons_append, List.setIfInBounds_toArray, List.set_cons_zero, List.set_cons_succ]
  have hq : ∀ W, Sem.run Tryz.prog (binOp BinOp.neq 20 .nilIface .nilIface) W = .ok (.bool false) W := fun W => by kernel_rfl
  go_wp2_with fail
  exact ⟨rfl, rfl, (Below.refl _ _).alloc (Nat.le_refl _) _⟩
/-- what an answer is -/
def anT : Res → T
  | .ok (t, _) => if myB t = true then t else .node 0 0 []
  | .error _ => .node 0 0 []
def anE : Res → Int
  | .ok (t, _) => if myB t = true then 0 else 4
  | .error e => e
def AnsEnd (r : Res) (w : World) (e : Ending) (w' : World) : Prop :=
  ∃ k h A n c, e = .returned (.tuple #[.agg #[.int .i64 k, .int .i64 h, .slice A n c], .int .i64 (anE r)]) ∧ RdF (fun b => w.heap.size ≤ b) w' (anT r) (.agg #[.int .i64 k, .int .i64 h, .slice A n c]) ∧ Below w.heap.size w w'
/-- what is made -/
def MdEnd (pw q : Nat) (w : World) (r : Res) (e : Ending) (w' : World) : Prop :=
  match r with
  | .ok (t, _) => ∃ k h A n c, e = .returned (.agg #[.int .i64 k, .int .i64 h, .slice A n c]) ∧ RX (fun b => b = q) w' t (.agg #[.int .i64 k, .int .i64 h, .slice A n c]) ∧ Fr (fun k => k = pw) w w'
  | .error ec => e = .panicked (stopC ec) ∧ Fr (fun k => k = pw) w w'
set_option maxRecDepth 100000 in
set_option maxHeartbeats 4000000 in
theorem answerC (g : FuncId) (c1 c2 : Value) (hen : ∀ (args : Array Value) (W : World), Sem.run Tryz.prog (callFunc g args) W = .ok (.enter g args) W) (r : Res) (w : World)
    (hM : ∀ W pw q, Below w.heap.size w W → wkB W pw 0 → w.heap.size ≤ pw → w.heap.size ≤ q → q < W.heap.size → q ≠ pw → Calls Tryz.prog g #[.pointer (some ⟨pw, 0, none⟩), c1, c2] W (MdEnd pw q W r)) :
    Calls Tryz.prog 104 #[.func (.func g) #[] #[c1, c2]] w (AnsEnd r w) := by
  have hmf : ∀ (fn : Fn) (first cap : Array Value) (w : World), (Instr.makeFunc fn first cap).run Tryz.prog w = .ok (.func fn first cap) w := fun _ _ _ _ => rfl
  obtain ⟨W, hW⟩ : ∃ W, ((w.alloc (.cells #[.int .i64 0, .int .i64 0, .slice none 0 0] 36)).alloc (.cells #[.int .i64 0] 25)).alloc (.cells #[.int .i64 0] 160) = W := ⟨_, rfl⟩
  have hb : Below w.heap.size w W := by rw [← hW]; exact (((Below.refl _ _).alloc (Nat.le_refl _) _).alloc (by simp) _).alloc (by simp; omega) _
  have xT : Box W w.heap.size 36 #[.int .i64 0, .int .i64 0, .slice none 0 0] := by rw [← hW]; exact ((Box.new _ _ _).alloc _).alloc _
  have xE : Box W (w.heap.size + 1) 25 #[.int .i64 0] := by rw [← hW]; exact ((Box.new (w.alloc _) _ _).at (by simp)).alloc _
  have xW : wkB W (w.heap.size + 1 + 1) 0 := by rw [← hW]; exact (Box.new ((w.alloc _).alloc _) _ _).at (by simp)
  have HW := Lib.hid hW; clear hW
  have HM := Lib.hid (hM W _ w.heap.size hb xW (by omega) (Nat.le_refl _) xT.lt (by omega)); clear hM
  go_enter_defers Tryz.func104, Tryz.ntmps104
  go_wp2_with fail
  rw [HW.out]
  clear HW
  refine HM.out.mono ?_
  have hn0 : w.heap.size ≠ w.heap.size + 1 := by omega
  cases r with
  | error ec =>
    rintro e w1 ⟨rfl, hfr⟩
    have yT := xT.fr hfr (by omega)
    have yE := xE.fr hfr (by omega)
    go_wp2_with fail
    refine leaves_cons (f := 116) (args := #[.pointer (some ⟨w.heap.size, 0, none⟩), .pointer (some ⟨w.heap.size + 1, 0, none⟩)]) (by simp) (by simp [go_sem]) ?_
    refine (catch_stop w.heap.size (w.heap.size + 1) ec [] w1 _ _ _ _ yT yE hn0).mono ?_
    rintro e u' w2 ⟨rfl, rfl, zT, zE, hfr2⟩
    obtain ⟨t0, t1, t2⟩ := zT.three
    have e0 := zE.one.1
    have hfin : AnsEnd (.error ec) w (.returned (.tuple #[.agg #[.int .i64 0, .int .i64 0, .slice none 0 0], .int .i64 ec])) w2 := by
      refine ⟨_, _, _, _, _, rfl, RdF_node.2 ⟨none, 0, 0, rfl, by decide, by decide, rfl, Nat.le_refl _, Nat.zero_le _, fun i t ht => by simp at ht⟩, ?_⟩
      refine (hb.trans ((hfr.to_below (B := w.heap.size) (fun i e => by omega) hb.size))).trans (hfr2.to_below (fun i e => by omega) (by have := hb.size; have := hfr.size; omega))
    have HFIN := Lib.hid hfin; clear hfin
    simp [Leaves, settle, results, Tryz.results104, go_sem, t0, t1, t2, e0]
    exact HFIN.out
  | ok p =>
    obtain ⟨t, m⟩ := p
    rintro e w1 ⟨k, h, A, n, c, rfl, hrd, hfr⟩
    have yT := xT.fr hfr (by omega)
    have yE := xE.fr hfr (by omega)
    have hb1 : Below w.heap.size w w1 := hb.trans ((hfr.to_below (B := w.heap.size) (fun i e => by omega) hb.size))
    have lT := yT.lt
    clear hfr xT xE xW hb HM
    obtain ⟨t0, t1, t2⟩ := yT.three
    have f0 := yT.frozen 0
    have f1 := yT.frozen 1
    have f2 := yT.frozen 2
    have HRD := Lib.hid hrd; clear hrd
    go_wp2_with fail
    obtain ⟨W2, hW2⟩ : ∃ W2, ((w1.setCell ⟨w.heap.size, 0, none⟩ (.int .i64 k)).setCell ⟨w.heap.size, 1, none⟩ (.int .i64 h)).setCell ⟨w.heap.size, 2, none⟩ (.slice A n c) = W2 := ⟨_, rfl⟩
    have hb2 : Below w.heap.size w W2 := by rw [← hW2]; exact below_set3 hb1 (Nat.le_refl _) _ _ _
    have xT : Box W2 w.heap.size 36 #[.int .i64 k, .int .i64 h, .slice A n c] := by rw [← hW2]; exact yT.put3 _ _ _
    have xE : Box W2 (w.heap.size + 1) 25 #[.int .i64 0] := by rw [← hW2]; exact yE.other3 (by omega) _ _ _
    have rd2 : Rd W2 t (.agg #[.int .i64 k, .int .i64 h, .slice A n c]) := by rw [← hW2]; exact RX.rd (RX.adv HRD.out (Adv.set3 (X := fun b => b = w.heap.size) rfl _ _ _))
    rw [hW2]
    clear hW2 t0 t1 t2 f0 f1 f2 yT yE hb1 lT HRD
    have HR2 := Lib.hid rd2; clear rd2
    refine (myC t _ _ HR2.out).mono ?_
    rintro e w3 ⟨rfl, hb3⟩
    have yT := xT.keep hb3 xT.lt
    have yE := xE.keep hb3 xE.lt
    have HR3 := Lib.hid (Rd.keep hb3 _ _ HR2.out)
    replace hb2 := hb2.trans (hb3.mono hb2.size)
    clear hb3 xT xE HR2
    obtain ⟨t0, t1, t2⟩ := yT.three
    cases hmy : myB t
    · have hT : anT (.ok (t, m)) = .node 0 0 [] := by simp [anT, hmy]
      have hE : anE (.ok (t, m)) = 4 := by simp [anE, hmy]
      have HT := Lib.hid hT; clear hT
      have HE := Lib.hid hE; clear hE
      go_wp2_with fail
      refine leaves_cons (f := 116) (args := #[.pointer (some ⟨w.heap.size, 0, none⟩), .pointer (some ⟨w.heap.size + 1, 0, none⟩)]) (by simp) (by simp [go_sem]) ?_
      refine (catch_stop w.heap.size (w.heap.size + 1) 4 [] w3 _ _ _ _ yT yE hn0).mono ?_
      rintro e u' w4 ⟨rfl, rfl, zT, zE, hfr2⟩
      clear t0 t1 t2
      obtain ⟨t0, t1, t2⟩ := zT.three
      have e0 := zE.one.1
      have hfin : AnsEnd (.ok (t, m)) w (.returned (.tuple #[.agg #[.int .i64 0, .int .i64 0, .slice none 0 0], .int .i64 4])) w4 := by
        refine ⟨0, 0, none, 0, 0, by rw [HE.out], ?_, ?_⟩
        · rw [HT.out]
          exact RdF_node.2 ⟨none, 0, 0, rfl, by decide, by decide, rfl, Nat.le_refl _, Nat.zero_le _, fun i t ht => by simp at ht⟩
        · exact hb2.trans (hfr2.to_below (fun i e => by omega) hb2.size)
      have HFIN := Lib.hid hfin; clear hfin
      simp [Leaves, settle, results, Tryz.results104, go_sem, t0, t1, t2, e0]
      exact HFIN.out
    · have hT : anT (.ok (t, m)) = t := by simp [anT, hmy]
      have hE : anE (.ok (t, m)) = 0 := by simp [anE, hmy]
      have HT := Lib.hid hT; clear hT
      have HE := Lib.hid hE; clear hE
      have hwd : wd t ≤ 3518437208780 := by have := wd_nd t; have := ((myB_iff t).1 hmy).2.1; omega
      have HWD := Lib.hid hwd; clear hwd
      have HMY := Lib.hid hmy; clear hmy
      go_wp2_with fail
      refine (termOwn t _ _ HR3.out HWD.out).mono ?_
      rintro e w4 ⟨v4, rfl, how, hb4⟩
      obtain ⟨k4, h4, A4, n4, c4, rfl⟩ := how.full
      have zT := yT.keep hb4 yT.lt
      have zE := yE.keep hb4 yE.lt
      have HO := Lib.hid how; clear how
      replace hb2 := hb2.trans (hb4.mono hb2.size)
      have sz4 := yT.lt
      have sz6 := yE.lt
      have sz5 := hb4.size
      clear hb4 t0 t1 t2 HR3 yE
      obtain ⟨t0, t1, t2⟩ := zT.three
      have f0 := zT.frozen 0
      have f1 := zT.frozen 1
      have f2 := zT.frozen 2
      have e0 := zE.one.1
      have e1 := zE.one.2
      go_wp2_with fail
      refine leaves_cons (f := 116) (args := #[.pointer (some ⟨w.heap.size, 0, none⟩), .pointer (some ⟨w.heap.size + 1, 0, none⟩)]) (by simp) (by simp [go_sem]) ?_
      obtain ⟨W6, hW6⟩ : ∃ W6, (((w4.setCell ⟨w.heap.size, 0, none⟩ (.int .i64 k4)).setCell ⟨w.heap.size, 1, none⟩ (.int .i64 h4)).setCell ⟨w.heap.size, 2, none⟩ (.slice A4 n4 c4)).setCell ⟨w.heap.size + 1, 0, none⟩ (.int .i64 0) = W6 := ⟨_, rfl⟩
      have hb6 : Below w.heap.size w W6 := by rw [← hW6]; exact (below_set3 hb2 (Nat.le_refl _) _ _ _).setCell (by dsimp only; omega) _
      have vT : Box W6 w.heap.size 36 #[.int .i64 k4, .int .i64 h4, .slice A4 n4 c4] := by rw [← hW6]; exact (zT.put3 _ _ _).other (by dsimp only; omega) _
      have vE : Box W6 (w.heap.size + 1) 25 #[.int .i64 0] := by rw [← hW6]; exact (zE.other3 (by omega) _ _ _).set _
      have lE := zE.lt
      have rd6 : RdF (fun b => w.heap.size ≤ b) W6 t (.agg #[.int .i64 k4, .int .i64 h4, .slice A4 n4 c4]) := by
        rw [← hW6]
        refine RdF.moveX (fun b hb hl => ⟨by omega, ?_⟩) _ _ HO.out.rdF
        rw [Below.heap_setCell _ _ _ _ (by dsimp only; omega)]
        exact heap_other3 _ _ _ _ _ _ (by omega)
      rw [hW6]
      clear hW6 t0 t1 t2 f0 f1 f2 e0 e1 zT zE
      refine (catch_idle w.heap.size (w.heap.size + 1) W6).mono ?_
      rintro e u' w5 ⟨rfl, rfl, hb5⟩
      have uT := vT.keep hb5 vT.lt
      have uE := vE.keep hb5 vE.lt
      obtain ⟨t0, t1, t2⟩ := uT.three
      have e0 := uE.one.1
      have hfin : AnsEnd (.ok (t, m)) w (.returned (.tuple #[.agg #[.int .i64 k4, .int .i64 h4, .slice A4 n4 c4], .int .i64 0])) w5 := by
        refine ⟨k4, h4, A4, n4, c4, by rw [HE.out], ?_, hb6.trans (hb5.mono hb6.size)⟩
        rw [HT.out]
        exact RdF.moveX (fun b hb hl => ⟨hb, hb5.block b hl⟩) _ _ rd6
      have HFIN := Lib.hid hfin; clear hfin rd6
      simp [Leaves, settle, results, Tryz.results104, go_sem, t0, t1, t2, e0]
      exact HFIN.out
end Go.Proofs.YtmkahbbcagfbhaaGreatDoor
/-
  The contracts of package subst's Apply and Spine. No statement is proved here.
-/
namespace Go.Proofs.YtmkahbbcagfbhaaGreatDoor
open Go.ChangeShapes Go.WideShapes Go.ChangeAt Go.RowKit
set_option linter.unusedVariables false
def fl : Nat := 40001
theorem fl_eq : fl = 40001 := rfl
def apR (t : T) (L : List T) (sh : Int) : Res := ap fl L sh 0 t 0
def apT (t : T) (L : List T) (sh : Int) : T := if (myB t && sbB L sh) = true then anT (apR t L sh) else .node 0 0 []
def apE (t : T) (L : List T) (sh : Int) : Int := if (myB t && sbB L sh) = true then anE (apR t L sh) else 1
/-- an answer: a term and an error -/
def TEnd (t : T) (ec : Int) (w : World) (e : Ending) (w' : World) : Prop :=
  ∃ k h A n c, e = .returned (.tuple #[.agg #[.int .i64 k, .int .i64 h, .slice A n c], .int .i64 ec]) ∧ RdF (fun b => w.heap.size ≤ b) w' t (.agg #[.int .i64 k, .int .i64 h, .slice A n c]) ∧ Below w.heap.size w w'
/-- Heads of what a caller hands in -/
abbrev LoT (t : T) : Prop := okT 281474976710656 t
theorem way_of {t : T} {M : Int} (hm : myB t = true) (hl : LoT t) (hM : 281474976710656 ≤ M) : Way M t :=
  ⟨((myB_iff t).1 hm).1, okT_mono hM _ hl⟩
theorem bt0 : bt 0 = 562949953421312 := by simp [btB]
/-- terms that lie beside some new blocks -/
theorem rd_rx {X : Nat → Prop} {w w' : World} (hb : Below w.heap.size w w') (hX : ∀ b, X b → w.heap.size ≤ b) (t : T) : ∀ v, Rd w t v → RX X w' t v := by
  induction t using T.ind with
  | step k h xs ih =>
    intro v hv
    obtain ⟨A, n, c, rfl, h1, h2, h3, h4, h5, h6⟩ := Rd_node.1 hv
    refine RdF_node.2 ⟨A, n, c, rfl, h1, h2, h3, h4, h5, fun i t ht => ?_⟩
    obtain ⟨b, o, v0, v1, v2, rfl, c0, c1, c2, hr⟩ := h6 i t ht
    have hl := cell_lt c0
    exact ⟨b, o, v0, v1, v2, rfl, fun e => by have := hX b e; dsimp only at hl; omega, (hb.cell hl).trans c0, (hb.cell (cell_lt c1)).trans c1, (hb.cell (cell_lt c2)).trans c2, ih t (List.mem_of_getElem? ht) _ hr⟩
theorem rd_rxl {X : Nat → Prop} {w w' : World} (hb : Below w.heap.size w w') (hX : ∀ b, X b → w.heap.size ≤ b) {xs : List T} {A : Option Addr} {n c : Nat} (hn : xs.length = n) (hc : n ≤ c) (hm : c ≤ maxLen) (hx : ∀ i t, xs[i]? = some t → RdAt w A i t) : RXL X w' xs A n c := by
  refine ⟨hn, hc, hm, fun i t ht => ?_⟩
  obtain ⟨b, o, v0, v1, v2, rfl, c0, c1, c2, hr⟩ := hx i t ht
  have hl := cell_lt c0
  exact ⟨b, o, v0, v1, v2, rfl, fun e => by have := hX b e; dsimp only at hl; omega, (hb.cell hl).trans c0, (hb.cell (cell_lt c1)).trans c1, (hb.cell (cell_lt c2)).trans c2, rd_rx hb hX t _ hr⟩
set_option maxRecDepth 100000 in
set_option maxHeartbeats 2000000 in
theorem appMade {w0 W : World} {t : T} {L : List T} {sh k h : Int} {At A : Option Addr} {nt ct n c pw q pt ps : Nat} (hb : Below w0.heap.size w0 W) (hpw : w0.heap.size ≤ pw) (hq : w0.heap.size ≤ q) (hqW : q < W.heap.size) (hne : q ≠ pw) (hwk : wkB W pw 0)
    (bt1 : Box W pt 36 #[.int .i64 k, .int .i64 h, .slice At nt ct]) (bs1 : Box W ps 129 #[.slice A n c, .int .i64 sh])
    (rt : Rd w0 t (.agg #[.int .i64 k, .int .i64 h, .slice At nt ct])) (hn : L.length = n) (hc : n ≤ c) (hm : c ≤ maxLen) (hx : ∀ i t, L[i]? = some t → RdAt w0 A i t)
    (hmy : myB t = true) (hsb : sbB L sh = true) (hlo : myB t = true → LoT t) (hlL : ∀ x ∈ L, myB x = true → LoT x) :
    Calls Tryz.prog 105 #[.pointer (some ⟨pw, 0, none⟩), .pointer (some ⟨pt, 0, none⟩), .pointer (some ⟨ps, 0, none⟩)] W (MdEnd pw q W (apR t L sh)) := by
  have hsb' : L.length ≤ 200 ∧ 0 ≤ sh ∧ sh ≤ 1048576 ∧ ∀ x ∈ L, myB x = true := by
    unfold sbB at hsb
    simp only [Bool.and_eq_true, decide_eq_true_eq, List.all_eq_true] at hsb
    exact ⟨hsb.1.1.1, hsb.1.1.2, hsb.1.2, hsb.2⟩
  obtain ⟨s1, s2, s3, s4⟩ := hsb'
  have lpw := hwk.lt
  obtain ⟨c0, c1, c2⟩ := bt1.three
  obtain ⟨d0, d1⟩ := bs1.two
  have lt := bt1.lt
  have ls := bs1.lt
  obtain ⟨W2, hW2⟩ : ∃ W2, (W.alloc (.cells #[.int .i64 0, .int .i64 0, .slice none 0 0] 36)).alloc (.cells #[.slice A n c, .int .i64 sh, .map none] 144) = W2 := ⟨_, rfl⟩
  have hb2 : Below W.heap.size W W2 := by rw [← hW2]; exact ((Below.refl _ _).alloc (Nat.le_refl _) _).alloc (by simp) _
  have xR : Box W2 W.heap.size 36 #[.int .i64 0, .int .i64 0, .slice none 0 0] := by rw [← hW2]; exact (Box.new _ _ _).alloc _
  have xS : Box W2 (W.heap.size + 1) 144 #[.slice A n c, .int .i64 sh, .map none] := by rw [← hW2]; exact (Box.new (W.alloc _) _ _).at (by simp)
  have hbW := hb.trans (hb2.mono hb.size)
  have sz0 := hb.size
  have hX : ∀ b, (b = pw ∨ b = q ∨ b = W.heap.size ∨ b = W.heap.size + 1) → w0.heap.size ≤ b := fun b e => by omega
  have hap := apC fl L sh 0 t 0 (.agg #[.int .i64 k, .int .i64 h, .slice At nt ct]) W2 pw (W.heap.size + 1) (fun b => b = pw ∨ b = q ∨ b = W.heap.size ∨ b = W.heap.size + 1) A n c (.map none) (by rw [fl_eq]; omega) (Nat.le_refl _) (by omega)
    ⟨s4, fun x hx => okT_mono (by rw [bt0]; omega) _ (hlL x hx (s4 x hx)), s2, s3⟩ (way_of hmy (hlo hmy) (by rw [bt0]; omega)) (by have := ((myB_iff t).1 hmy).2.1; omega) (.inl rfl) (by omega) (hwk.keep hb2 lpw)
    ⟨xS, .inr (.inr (.inr rfl)), fun b e => by have := xS.lt; have := hb2.size; omega, rd_rxl hbW hX hn hc hm hx, .inl rfl⟩ (rd_rx hbW hX t _ rt)
  rw [show ((0 : Nat) : Int) = 0 from rfl, ← apR] at hap
  generalize apR t L sh = r at hap ⊢
  have HAP := Lib.hid hap; clear hap
  have HW2 := Lib.hid hW2; clear hW2
  have HB2 := Lib.hid hb2; clear hb2
  clear hx rt hsb hlL s4 hX hbW
  go_enter Tryz.func105, Tryz.ntmps105
  go_wp2_with fail
  rw [HW2.out]
  clear HW2
  refine HAP.out.mono ?_
  clear HAP
  cases r with
  | error ec =>
    rintro e w3 ⟨rfl, hfr⟩
    go_wp2_with fail
    refine ⟨rfl, rfl, (Fr.below (X := fun k => k = pw) HB2.out).trans hfr fun i hi e => ?_⟩
    rcases e with e | e | e
    · exact e
    · omega
    · cases e
  | ok p =>
    obtain ⟨u, m⟩ := p
    rintro e w3 ⟨k3, h3, A3, n3, c3, X3, mv3, rfl, hrx, hsc, hst, hwk3⟩
    have yR := xR.fr hst.fr (by
      intro e
      rcases e with e | e | e
      · omega
      · omega
      · cases e)
    have hfin : MdEnd pw q W (.ok (u, m)) (.returned (.agg #[.int .i64 k3, .int .i64 h3, .slice A3 n3 c3])) (((w3.setCell ⟨W.heap.size, 0, none⟩ (.int .i64 k3)).setCell ⟨W.heap.size, 1, none⟩ (.int .i64 h3)).setCell ⟨W.heap.size, 2, none⟩ (.slice A3 n3 c3)) := by
      refine ⟨_, _, _, _, _, rfl, RX.mono (RX.adv (RX.mono (Y := fun b => b = q ∨ b = W.heap.size) hrx fun i _ e => hst.adv.more i (by omega)) (Adv.set3 (X := fun b => b = q ∨ b = W.heap.size) (.inr rfl) _ _ _)) (fun i _ e => .inl e), ?_⟩
      refine Fr.set3 ((Fr.below (X := fun k => k = pw) HB2.out).trans hst.fr fun i hi e => ?_) (fun h => absurd h (Nat.lt_irrefl _)) _ _ _
      rcases e with e | e | e
      · exact e
      · omega
      · cases e
    have HFIN := Lib.hid hfin; clear hfin hrx hsc hst hwk3 xR xS c0 c1 c2 d0 d1
    obtain ⟨r0, r1, r2⟩ := yR.three
    have f0 := yR.frozen 0
    have f1 := yR.frozen 1
    have f2 := yR.frozen 2
    go_wp2_with fail
    refine bodyPost_ret (v := .agg #[.int .i64 k3, .int .i64 h3, .slice A3 n3 c3]) (by simp [results, Tryz.results105, go_sem, r0, r1, r2]) rfl ?_
    exact HFIN.out
theorem entersApp (args : Array Value) (W : World) : Sem.run Tryz.prog (callFunc 105 args) W = .ok (.enter 105 args) W := by
  simp [callFunc, go_sem, Tryz.func105, Tryz.f105]
theorem rd_nil0 (ok : Nat → Prop) (w : World) : RdF ok w (.node 0 0 []) (.agg #[.int .i64 0, .int .i64 0, .slice none 0 0]) :=
  RdF_node.2 ⟨none, 0, 0, rfl, by decide, by decide, rfl, Nat.le_refl _, Nat.zero_le _, fun i t ht => by simp at ht⟩
set_option maxRecDepth 100000 in
set_option maxHeartbeats 4000000 in
theorem ApplyC {w : World} {t : T} {L : List T} {sh k h : Int} {At A : Option Addr} {nt ct n c : Nat} (rt : Rd w t (.agg #[.int .i64 k, .int .i64 h, .slice At nt ct])) (hn : L.length = n) (hc : n ≤ c) (hm : c ≤ maxLen) (hx : ∀ i t, L[i]? = some t → RdAt w A i t) (hlo : myB t = true → LoT t) (hlL : ∀ x ∈ L, myB x = true → LoT x) :
    Calls Tryz.prog 92 #[.agg #[.int .i64 k, .int .i64 h, .slice At nt ct], .agg #[.slice A n c, .int .i64 sh]] w (TEnd (apT t L sh) (apE t L sh) w) := by
  have hmf : ∀ (fn : Fn) (first cap : Array Value) (w : World), (Instr.makeFunc fn first cap).run Tryz.prog w = .ok (.func fn first cap) w := fun _ _ _ _ => rfl
  obtain ⟨W, hW⟩ : ∃ W, ((w.alloc (.cells #[.int .i64 k, .int .i64 h, .slice At nt ct] 36)).alloc (.cells #[.slice A n c, .int .i64 sh] 129)).alloc (.cells #[.int .i64 0, .int .i64 0, .slice none 0 0] 36) = W := ⟨_, rfl⟩
  have hb : Below w.heap.size w W := by rw [← hW]; exact (((Below.refl _ _).alloc (Nat.le_refl _) _).alloc (by simp) _).alloc (by simp; omega) _
  have xT : Box W w.heap.size 36 #[.int .i64 k, .int .i64 h, .slice At nt ct] := by rw [← hW]; exact ((Box.new _ _ _).alloc _).alloc _
  have xS : Box W (w.heap.size + 1) 129 #[.slice A n c, .int .i64 sh] := by rw [← hW]; exact ((Box.new (w.alloc _) _ _).at (by simp)).alloc _
  have xR : Box W (w.heap.size + 1 + 1) 36 #[.int .i64 0, .int .i64 0, .slice none 0 0] := by rw [← hW]; exact (Box.new ((w.alloc _).alloc _) _ _).at (by simp)
  have HW := Lib.hid hW; clear hW
  have HMY : Hid (∀ W', Below w.heap.size w W' → Calls Tryz.prog 33 #[.agg #[.int .i64 k, .int .i64 h, .slice At nt ct]] W' fun e w' => e = .returned (.bool (myB t)) ∧ Below W'.heap.size W' w') := Lib.hid fun W' h' => myC t _ _ (Rd.keep h' _ _ rt)
  have HSB : Hid (∀ W', Below w.heap.size w W' → Calls Tryz.prog 103 #[.agg #[.slice A n c, .int .i64 sh]] W' fun e w' => e = .returned (.bool (sbB L sh)) ∧ Below W'.heap.size W' w') := Lib.hid fun W' h' => sbMayC L A n c sh W' hn hc hm fun i t ht => RdAt.keep h' (hx i t ht)
  have HAN : Hid (myB t = true → sbB L sh = true → ∀ W', Below w.heap.size w W' → Box W' w.heap.size 36 #[.int .i64 k, .int .i64 h, .slice At nt ct] → Box W' (w.heap.size + 1) 129 #[.slice A n c, .int .i64 sh] →
      Calls Tryz.prog 104 #[.func (.func 105) #[] #[.pointer (some ⟨w.heap.size, 0, none⟩), .pointer (some ⟨w.heap.size + 1, 0, none⟩)]] W' (AnsEnd (apR t L sh) W')) := Lib.hid fun h1 h2 W' hb' b1 b2 => by
    refine answerC _ _ _ entersApp _ _ fun W2 pw q hb2 hwk hpw hq hqW hne => ?_
    have hsz := hb'.size
    exact appMade (hb'.trans (hb2.mono hb'.size)) (by omega) (by omega) hqW hne hwk (b1.keep hb2 b1.lt) (b2.keep hb2 b2.lt) rt hn hc hm hx h1 h2 hlo hlL
  have HTE : Hid (apT t L sh = (if (myB t && sbB L sh) = true then anT (apR t L sh) else .node 0 0 []) ∧ apE t L sh = (if (myB t && sbB L sh) = true then anE (apR t L sh) else 1)) := Lib.hid ⟨rfl, rfl⟩
  clear rt hx hlL hlo hn hc hm
  generalize apT t L sh = RT at *
  generalize apE t L sh = RE at *
  generalize apR t L sh = r at *
  obtain ⟨c0, c1, c2⟩ := xT.three
  go_enter Tryz.func92, Tryz.ntmps92
  go_wp2_with fail
  rw [HW.out]
  clear HW
  refine (HMY.out W hb).mono ?_
  clear HMY
  generalize myB t = M1 at *
  rintro e w1 ⟨rfl, hb1⟩
  replace xT := xT.keep hb1 xT.lt
  replace xS := xS.keep hb1 xS.lt
  replace xR := xR.keep hb1 xR.lt
  replace hb := hb.trans (hb1.mono hb.size)
  clear hb1 c0 c1 c2
  obtain ⟨s0, s1⟩ := xS.two
  obtain ⟨r0, r1, r2⟩ := xR.three
  have f0 := xR.frozen 0
  have f1 := xR.frozen 1
  have f2 := xR.frozen 2
  cases M1
  · go_wp2_with fail
    refine bodyPost_ret (v := .tuple #[.agg #[.int .i64 0, .int .i64 0, .slice none 0 0], .int .i64 1]) (by simp [results, Tryz.results92, go_sem, r0, r1, r2]) rfl ?_
    obtain ⟨h1, h2⟩ := HTE.out
    simp only [Bool.false_and, Bool.false_eq_true, if_false] at h1 h2
    rw [h1, h2]
    exact ⟨_, _, _, _, _, rfl, rd_nil0 _ _, below_set3 hb (by omega) _ _ _⟩
  go_wp2_with fail
  clear f0 f1 f2 r0 r1 r2 s0 s1
  refine (HSB.out w1 hb).mono ?_
  clear HSB
  generalize sbB L sh = M2 at *
  rintro e w2 ⟨rfl, hb1⟩
  replace xT := xT.keep hb1 xT.lt
  replace xS := xS.keep hb1 xS.lt
  replace xR := xR.keep hb1 xR.lt
  replace hb := hb.trans (hb1.mono hb.size)
  clear hb1
  obtain ⟨r0, r1, r2⟩ := xR.three
  have f0 := xR.frozen 0
  have f1 := xR.frozen 1
  have f2 := xR.frozen 2
  cases M2
  · go_wp2_with fail
    refine bodyPost_ret (v := .tuple #[.agg #[.int .i64 0, .int .i64 0, .slice none 0 0], .int .i64 1]) (by simp [results, Tryz.results92, go_sem, r0, r1, r2]) rfl ?_
    obtain ⟨h1, h2⟩ := HTE.out
    simp only [Bool.and_false, Bool.false_eq_true, if_false] at h1 h2
    rw [h1, h2]
    exact ⟨_, _, _, _, _, rfl, rd_nil0 _ _, below_set3 hb (by omega) _ _ _⟩
  go_wp2_with fail
  clear f0 f1 f2 r0 r1 r2
  have xR2 := xR.lt
  refine (HAN.out (by trivial) (by trivial) w2 hb xT xS).mono ?_
  rintro e w3 ⟨k3, h3, A3, n3, c3, rfl, hrd, hb1⟩
  replace xR := xR.keep hb1 xR.lt
  replace hb := hb.trans (hb1.mono hb.size)
  clear hb1
  obtain ⟨r0, r1, r2⟩ := xR.three
  have f0 := xR.frozen 0
  have f1 := xR.frozen 1
  have f2 := xR.frozen 2
  have HRD := Lib.hid hrd; clear hrd
  go_wp2_with fail
  refine bodyPost_ret (v := .tuple #[.agg #[.int .i64 k3, .int .i64 h3, .slice A3 n3 c3], .int .i64 (anE r)]) (by simp [results, Tryz.results92, go_sem, r0, r1, r2]) rfl ?_
  obtain ⟨h1, h2⟩ := HTE.out
  simp only [Bool.and_self, if_true] at h1 h2
  rw [h1, h2]
  have lw2 := xR2
  exact ⟨_, _, _, _, _, rfl, RdF.moveX (fun b hb' hl => ⟨by omega, heap_other3 _ _ _ _ _ _ (by omega)⟩) _ _ HRD.out, below_set3 hb (by omega) _ _ _⟩
end Go.Proofs.YtmkahbbcagfbhaaGreatDoor
/-
  The contracts of package subst's Same and Under. No statement is proved here.
-/
namespace Go.Proofs.YtmkahbbcagfbhaaGreatDoor
open Go.ChangeShapes Go.WideShapes Go.ChangeAt Go.RowKit
set_option linter.unusedVariables false
/-- what holds at the head of Same's loop -/
structure SaI (m : Nat) (w : World) (j : Nat) (wr : World) (cs : Array Value) : Prop where
  res : Box wr w.heap.size 129 #[.slice none 0 0, .int .i64 0]
  row : Box wr (w.heap.size + 1) 36 cs
  size : cs.size = m * 3
  at_ : ∀ i, i < j → ∃ a b c, cs[i * 3]? = some a ∧ cs[i * 3 + 1]? = some b ∧ cs[i * 3 + 2]? = some c ∧ (a = .int .i64 4 ∧ b = .int .i64 ((m : Int) - 1 - (i : Int)) ∧ c = .slice none 0 0)
  below : Below w.heap.size w wr
end Go.Proofs.YtmkahbbcagfbhaaGreatDoor
/-
  The contract of package subst's Under. No statement is proved here.
-/
namespace Go.Proofs.YtmkahbbcagfbhaaGreatDoor
open Go.ChangeShapes Go.WideShapes Go.ChangeAt Go.RowKit
set_option linter.unusedVariables false
abbrev upO (t : T) : T := upX t 1 0
/-- what holds at the head of Under's loop -/
structure UnI (L : List T) (A : Option Addr) (n c : Nat) (sh : Int) (w : World) (j : Nat) (wr : World) (g cap : Nat) (cs : List Value) : Prop where
  box : Box wr w.heap.size 129 #[.slice A n c, .int .i64 sh]
  res : Box wr (w.heap.size + 1) 129 #[.slice none 0 0, .int .i64 0]
  own : wr.ownsRow (w.heap.size + 2) 36 3 (.slice (some ⟨g, 0, none⟩) j cap) j cs
  kids : KidL wr (fun b => w.heap.size + 2 ≤ b ∧ b ≠ g) cs ((L.take j).map upO)
  below : Below w.heap.size w wr
/-- one more is appended -/
theorem UnI.snoc {w wr w1 w4 : World} {g g' : Nat} {cs : List Value} {ys : List T} {u : T} {k h : Int} {A3 : Option Addr} {n3 c3 : Nat}
    (hk : KidL wr (fun b => w.heap.size + 2 ≤ b ∧ b ≠ g) cs ys) (hl : cs.length = ys.length * 3) (hb : Below wr.heap.size wr w1) (hu : RdF (fun b => wr.heap.size ≤ b ∧ b < w1.heap.size) w1 u (.agg #[.int .i64 k, .int .i64 h, .slice A3 n3 c3])) (hwr : w.heap.size + 2 ≤ wr.heap.size) (hg0 : g < wr.heap.size)
    (hgr : World.grownBy (w1.alloc (.cells #[.int .i64 k, .int .i64 h, .slice A3 n3 c3] 36)) w4 (some g)) (hg : g' = g ∨ g' = w1.heap.size + 1) :
    KidL w4 (fun b => w.heap.size + 2 ≤ b ∧ b ≠ g') (cs ++ [.int .i64 k, .int .i64 h, .slice A3 n3 c3]) (ys ++ [u]) := by
  have hsz := hb.size
  have e : ∀ b, b < w1.heap.size → b ≠ g → w4.heap[b]? = w1.heap[b]? := fun b hl hne => (hgr.block b (by simp; omega) (by simpa using hne)).trans (Below.heap_alloc _ _ _ hl)
  refine KidL.snoc (fun i t ht => ?_) hl (RdF.moveX (fun b hb' hl' => ⟨⟨by omega, by omega⟩, e b hl' (by omega)⟩) _ _ hu)
  obtain ⟨k1, h1, A1, n1, c1, e0, e1, e2, hr⟩ := hk i t ht
  exact ⟨k1, h1, A1, n1, c1, e0, e1, e2, RdF.moveX (fun b hb' hl' => ⟨⟨hb'.1, by omega⟩, (e b (by omega) hb'.2).trans (hb.block b hl')⟩) _ _ hr⟩
end Go.Proofs.YtmkahbbcagfbhaaGreatDoor
/-
  Plain facts on substitutions: those that rename, what stays in scope, what hangs on the count of nodes. No statement is proved here.
-/
namespace Go.Proofs.YtmkahbbcagfbhaaGreatDoor
open Go.RowKit
set_option linter.unusedVariables false
theorem scL_of {k : Int} {m : Nat} {metas : Int} : ∀ {xs : List T} {i : Nat} {V : Int}, (∀ (j : Nat) (x : T), xs[j]? = some x → scC x (V + bd k m (i + j)) metas) → scCL k m xs i V metas
  | [], i, V, h => by rw [scCL]; trivial
  | x :: xs, i, V, h => by
    rw [scCL]
    refine ⟨h 0 x rfl, scL_of fun j y hy => ?_⟩
    have := h (j + 1) y (by simpa using hy)
    rw [show i + 1 + j = i + (j + 1) by omega]
    exact this
theorem bd_var {k : Int} (hk : k ≠ 1 ∧ k ≠ 3) (m i : Nat) : bd k m i = 0 := by unfold bd; rw [if_neg (by omega)]
/-- a term that has a shape, in scope -/
structure Sco (metas V : Int) (t : T) : Prop where
  nod : nodB t = true
  sc : scC t V metas
end Go.Proofs.YtmkahbbcagfbhaaGreatDoor
/-
  awake: the chapter's example of layer 3 comes out as the document says; the document's Lights. No statement is proved here.
-/
namespace Go.Proofs.YtmkahbbcagfbhaaGreatDoor
open Go.ChangeShapes Go.WideShapes Go.ChangeAt Go.RowKit
set_option linter.unusedVariables false
theorem rd_one {w : World} {b : Nat} {ty : TypeId} {t : T} {k h k2 h2 : Int} {A : Option Addr} {n c : Nat} (hb : Box w b ty #[.int .i64 k2, .int .i64 h2, .slice A n c]) (hr : Rd w t (.agg #[.int .i64 k2, .int .i64 h2, .slice A n c])) :
    ∀ i u, [t][i]? = some u → RdAt w (some ⟨b, 0, none⟩) i u := fun i u hu => by
  cases i with
  | zero =>
    simp only [List.getElem?_cons_zero, Option.some.injEq] at hu
    subst hu
    obtain ⟨c0, c1, c2⟩ := hb.three
    exact ⟨b, 0, _, _, _, rfl, c0, c1, c2, hr⟩
  | succ i => simp at hu
end Go.Proofs.YtmkahbbcagfbhaaGreatDoor
/-
  What the laws of layer 3 need of substitutions, as plain facts. No statement is proved here.
-/
namespace Go.Proofs.YtmkahbbcagfbhaaGreatDoor
open Go.ChangeShapes Go.WideShapes Go.ChangeAt Go.RowKit
set_option linter.unusedVariables false
/-- what is known of a term that is light and may be -/
structure Kn (s d : Nat) (t : T) : Prop where
  my : myB t = true
  lo : lowB t = true
  nd : nd t ≤ s
  dp : dp t ≤ d
theorem Kn.nod {s d : Nat} {t : T} (k : Kn s d t) : nodB t = true := ((myB_iff t).1 k.my).1
theorem Kn.ok {s d : Nat} {t : T} (k : Kn s d t) : okT 1099511627776 t := okT_of t k.nod k.lo
theorem Kn.low {s d : Nat} {t : T} (k : Kn s d t) : LoT t := okT_mono (by omega) _ k.ok
theorem Kn.n4 {s d : Nat} {t : T} (k : Kn s d t) : Go.Proofs.YtmkahbbcagfbhaaGreatDoor.nd t ≤ 4000 := ((myB_iff t).1 k.my).2.1
theorem Kn.upX {s d : Nat} {t : T} (k : Kn s d t) {b f : Int} (hb : 0 ≤ b ∧ b ≤ 1048576) (hf : 0 ≤ f ∧ f ≤ 1048576) : upX t b f = upT b t f :=
  upX_eq (by omega) k.ok (by have := k.n4; omega) (by rw [mayB_my (by have := k.n4; omega)]; exact k.my) hb hf
theorem Box.keepC {w w' : World} {b : Nat} {ty : TypeId} {cs : Array Value} (h : Box w b ty cs) (hk : Below w.heap.size w w') : Box w' b ty cs := h.keep hk h.lt
theorem Box.drewI {w : World} {b : Nat} {ty : TypeId} {cs : Array Value} (h : Box w b ty cs) : Box w.drew b ty cs := h
end Go.Proofs.YtmkahbbcagfbhaaGreatDoor
/-
  What the laws SubstBeta, SubstScopes and SubstUnder need of substitutions, as plain facts. No statement is proved here.
-/
namespace Go.Proofs.YtmkahbbcagfbhaaGreatDoor
open Go.ChangeShapes Go.WideShapes Go.ChangeAt Go.RowKit
set_option linter.unusedVariables false
/-- a row of two terms -/
theorem rd_two {w : World} {b : Nat} {ty : TypeId} {t u : T} {k2 h2 k3 h3 : Int} {A A' : Option Addr} {n c n' c' : Nat} (hb : Box w b ty #[.int .i64 k2, .int .i64 h2, .slice A n c, .int .i64 k3, .int .i64 h3, .slice A' n' c']) (hr : Rd w t (.agg #[.int .i64 k2, .int .i64 h2, .slice A n c])) (hr' : Rd w u (.agg #[.int .i64 k3, .int .i64 h3, .slice A' n' c'])) :
    ∀ i x, [t, u][i]? = some x → RdAt w (some ⟨b, 0, none⟩) i x := fun i x hu => by
  match i, hu with
  | 0, hu =>
    simp only [List.getElem?_cons_zero, Option.some.injEq] at hu
    subst hu
    exact ⟨b, 0, _, _, _, rfl, hb.cell 0, hb.cell 1, hb.cell 2, hr⟩
  | 1, hu =>
    simp only [List.getElem?_cons_succ, List.getElem?_cons_zero, Option.some.injEq] at hu
    subst hu
    exact ⟨b, 0, _, _, _, rfl, hb.cell 3, hb.cell 4, hb.cell 5, hr'⟩
  | i + 2, hu => simp at hu
/-! ### An error is not nought -/
theorem apL_err {A : Nat → T → Nat → Res} {k : Int} {m u : Nat} (hA : ∀ v x n e, A v x n = .error e → e ≠ 0) : ∀ (xs : List T) (i n : Nat) (e : Int), apL A k m u xs i n = .error e → e ≠ 0
  | [], _, _, _, h => by simp [apL] at h
  | x :: xs, i, n, e, h => by
    rw [apL] at h
    split at h
    · rename_i e' h'
      cases h
      exact hA _ _ _ _ h'
    · split at h
      · rename_i e' h'
        cases h
        exact apL_err hA xs _ _ _ h'
      · cases h
theorem spL_err {A : T → T → Nat → Res} (hA : ∀ a x n e, A a x n = .error e → e ≠ 0) : ∀ (bs : List T) (t : T) (n : Nat) (e : Int), spL A t bs n = .error e → e ≠ 0
  | [], _, _, _, h => by simp [spL] at h
  | a :: bs, .node k hd xs, n, e, h => by
    rw [spL] at h
    split at h
    · split at h
      · split at h
        · rename_i e' h'
          cases h
          exact hA _ _ _ _ h'
        · exact spL_err hA bs _ _ _ h
      · cases h; omega
    · split at h
      · cases h
      · cases h; omega
theorem ap_err : ∀ (f : Nat) (L : List T) (sh : Int) (u : Nat) (t : T) (n : Nat) (e : Int), ap f L sh u t n = .error e → e ≠ 0 := by
  intro f
  induction f with
  | zero => intro L sh u t n e h; rw [ap] at h; cases h; omega
  | succ f ih =>
    rintro L sh u ⟨k, hd, xs⟩ n e h
    rw [ap] at h
    split at h
    · cases h; omega
    · split at h
      · rename_i e' h'
        cases h
        exact apL_err (fun v x n e h => ih _ _ _ _ _ _ h) _ _ _ _ h'
      · split at h
        · exact spL_err (fun a x n e h => ih _ _ _ _ _ _ h) _ _ _ _ h
        · cases h
end Go.Proofs.YtmkahbbcagfbhaaGreatDoor
