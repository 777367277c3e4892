/-
  Texts of one proof, put together. No statement is proved here.
-/
import Derived.Test.YtnnmnkgogiabiaaGreatPkA
import Derived.Test.YtnnmnkgogiabiaaGreatPd
import Derived.Test.YtnnmnkgogiabiaaGreatWi
import Derived.Test.YtnnmnkgogiabiaaGreatPc
import Derived.Test.YtnnmnkgogiabiaaGreatGr
import Derived.Test.YtnnmnkgogiabiaaGreatWl

/-
  What metas are, as plain data and in memory; the metas of a term. No statement is proved here.
-/
namespace Go.Proofs.YtnnmnkgogiabiaaGreat
open Go.ChangeShapes Go.WideShapes Go.ChangeAt Go.RowKit
set_option linter.unusedVariables false

theorem node_partsJ {k h : Int} {xs : List T} (h1 : nodB (.node k h xs) = true) : okN k h xs.length = true ∧ ∀ x ∈ xs, nodB x = true := by
  rw [nodB, Bool.and_eq_true] at h1
  exact ⟨h1.1, fun x hx => nodL_mem h1.2 hx⟩
theorem ok_partsJ {M k h : Int} {xs : List T} (h1 : okT M (.node k h xs)) : ∀ x ∈ xs, okT M x := fun x hx => by
  rw [okT] at h1
  exact okL_mem h1.2 hx
theorem len_ndJ : ∀ xs : List T, xs.length ≤ ndL xs
  | [] => Nat.le_refl _
  | .node k h ys :: xs => by rw [ndL, nd, List.length_cons]; have := len_ndJ xs; omega
theorem ptn_lenJ {below : Int} : ∀ (l : List T) (seen zs : List Int), ptn below seen l = some zs → zs.length = seen.length + l.length
  | [], seen, zs, h => by rw [ptn] at h; cases h; simp
  | .node k h' xs :: ts, seen, zs, h => by
    by_cases hp : pt1 seen below (.node k h' xs) = true
    · rw [ptn, if_pos hp] at h
      have := ptn_lenJ ts _ zs h
      simp at this ⊢
      omega
    · rw [ptn, if_neg hp] at h
      cases h

/-- what a meta is: something, and what -/
abbrev BT := Bool × T
def noB : BT := (false, .node 0 0 [])
/-- is a meta something -/
def thI (bs : List BT) (h : Int) : Bool := decide (h < bs.length) && (bs.getD h.toNat noB).1
mutual
/-- the metas of a term, in order -/
def mts : T → List Int
  | .node k h xs => (if k = 6 then [h] else []) ++ mtsL xs
def mtsL : List T → List Int
  | [] => []
  | x :: xs => mts x ++ mtsL xs
end
mutual
theorem mts_eq : ∀ (t : T) (b : Int), (nds t b).flatMap mt1 = mts t
  | .node k h xs, b => by rw [nds, List.flatMap_cons, mts, mts_eqL k xs.length xs 0 b]; rfl
theorem mts_eqL (k : Int) (n : Nat) : ∀ (xs : List T) (i : Nat) (b : Int), (ndsL k n xs i b).flatMap mt1 = mtsL xs
  | [], _, _ => by rw [ndsL, mtsL]; rfl
  | t :: ts, i, b => by rw [ndsL, mtsL, List.flatMap_append, mts_eq t, mts_eqL k n ts]
end
mutual
theorem mts_pos : ∀ (t : T), nodB t = true → ∀ m ∈ mts t, 0 ≤ m
  | .node k h xs, e, m, hm => by
    rw [nodB, Bool.and_eq_true] at e
    rw [mts, List.mem_append] at hm
    rcases hm with hm | hm
    · split at hm
      · rename_i hk
        subst hk
        rw [List.mem_singleton] at hm
        subst hm
        have := e.1
        simp [okN] at this
        omega
      · cases hm
    · exact mts_posL xs e.2 m hm
theorem mts_posL : ∀ (xs : List T), nodL xs = true → ∀ m ∈ mtsL xs, 0 ≤ m
  | [], _, m, hm => by rw [mtsL] at hm; cases hm
  | t :: ts, e, m, hm => by
    rw [nodL, Bool.and_eq_true] at e
    rw [mtsL, List.mem_append] at hm
    rcases hm with hm | hm
    · exact mts_pos t e.1 m hm
    · exact mts_posL ts e.2 m hm
end
/-- the metas of a term, rising -/
def mtO (t : T) : List Int := rs (mts t)
theorem mtO_pos {t : T} (h : nodB t = true) : ∀ m ∈ mtO t, 0 ≤ m := fun m hm => mts_pos t h m (mem_rs.1 hm)
theorem mtO_eq (t : T) : rs ((nds t 0).flatMap mt1) = mtO t := by rw [mtO, mts_eq]

/-! ### Binds in memory -/
/-- one bind of a list, its term in blocks that are ok -/
def BAt (ok : Nat → Prop) (w : World) (A : Option Addr) (i : Nat) (x : BT) : Prop :=
  ∃ b o k h A' n c, A = some ⟨b, o, none⟩ ∧ w.cell? ⟨b, o + i * 4, none⟩ = some (.bool x.1) ∧ w.cell? ⟨b, o + i * 4 + 1, none⟩ = some (.int .i64 k) ∧ w.cell? ⟨b, o + i * 4 + 2, none⟩ = some (.int .i64 h) ∧
    w.cell? ⟨b, o + i * 4 + 3, none⟩ = some (.slice A' n c) ∧ RdF ok w x.2 (.agg #[.int .i64 k, .int .i64 h, .slice A' n c])
/-- a list of binds that is handed in -/
structure BL (ok : Nat → Prop) (w : World) (bs : List BT) (A : Option Addr) (n c : Nat) : Prop where
  len : bs.length = n
  le : n ≤ c
  cap : c ≤ maxLen
  at_ : ∀ i x, bs[i]? = some x → BAt ok w A i x
theorem rdF_any {w : World} : ∀ (t : T) (v : Value), Rd w t v → RdF (fun _ => True) w t v := by
  refine T.ind fun k h xs ih v hv => ?_
  obtain ⟨A, n, c, rfl, h1, h2, h3, h4, h5, h6⟩ := Rd_node.1 hv
  refine RdF_node.2 ⟨A, n, c, rfl, h1, h2, h3, h4, h5, fun i t ht => ?_⟩
  obtain ⟨b, o, v0, v1, v2, rfl, c0, c1, c2, hr⟩ := h6 i t ht
  exact ⟨b, o, v0, v1, v2, rfl, trivial, c0, c1, c2, ih t (List.mem_of_getElem? ht) _ hr⟩
/-- it lies in the heap -/
theorem rdF_heap {w : World} {ok : Nat → Prop} : ∀ (t : T) (v : Value), RdF ok w t v → RdF (fun b => ok b ∧ b < w.heap.size) w t v := by
  refine T.ind fun k h xs ih v hv => ?_
  obtain ⟨A, n, c, rfl, h1, h2, h3, h4, h5, h6⟩ := RdF_node.1 hv
  refine RdF_node.2 ⟨A, n, c, rfl, h1, h2, h3, h4, h5, fun i t ht => ?_⟩
  obtain ⟨b, o, v0, v1, v2, rfl, hb, c0, c1, c2, hr⟩ := h6 i t ht
  exact ⟨b, o, v0, v1, v2, rfl, ⟨hb, cell_lt c0⟩, c0, c1, c2, ih t (List.mem_of_getElem? ht) _ hr⟩
theorem BAt.keep {ok : Nat → Prop} {w w' : World} {A : Option Addr} {i : Nat} {x : BT} (h : BAt ok w A i x) (hb : Below w.heap.size w w') : BAt ok w' A i x := by
  obtain ⟨b, o, k, g, A', n, c, rfl, c0, c1, c2, c3, hr⟩ := h
  exact ⟨b, o, k, g, A', n, c, rfl, (hb.cell (cell_lt c0)).trans c0, (hb.cell (cell_lt c1)).trans c1, (hb.cell (cell_lt c2)).trans c2, (hb.cell (cell_lt c3)).trans c3, RdF.moveX (fun b hb' hl => ⟨hb', hb.block b hl⟩) _ _ hr⟩
theorem BL.keep {ok : Nat → Prop} {w w' : World} {bs : List BT} {A : Option Addr} {n c : Nat} (h : BL ok w bs A n c) (hb : Below w.heap.size w w') : BL ok w' bs A n c :=
  ⟨h.len, h.le, h.cap, fun i x hx => (h.at_ i x hx).keep hb⟩
theorem BAt.any {ok : Nat → Prop} {w : World} {A : Option Addr} {i : Nat} {x : BT} (h : BAt ok w A i x) : BAt (fun _ => True) w A i x := by
  obtain ⟨b, o, k, g, A', n, c, rfl, c0, c1, c2, c3, hr⟩ := h
  exact ⟨b, o, k, g, A', n, c, rfl, c0, c1, c2, c3, rdF_any _ _ (RdF.rd _ _ hr)⟩
/-- the cells of a block of binds -/
def BCs (ok : Nat → Prop) (w : World) (cs : Array Value) (bs : List BT) : Prop :=
  ∀ i x, bs[i]? = some x → ∃ k h A n c, cs[i * 4]? = some (.bool x.1) ∧ cs[i * 4 + 1]? = some (.int .i64 k) ∧ cs[i * 4 + 2]? = some (.int .i64 h) ∧ cs[i * 4 + 3]? = some (.slice A n c) ∧ RdF ok w x.2 (.agg #[.int .i64 k, .int .i64 h, .slice A n c])
end Go.Proofs.YtnnmnkgogiabiaaGreat

/-
  Two terms that are made the same, as plain functions with fuel, and what their answers look like. No statement is proved here.
-/
namespace Go.Proofs.YtnnmnkgogiabiaaGreat
open Go.ChangeShapes Go.WideShapes Go.ChangeAt Go.RowKit
set_option linter.unusedVariables false

/-! ### Heads, as seen from the context around -/
mutual
/-- no variable is greater than that, and one more below a node that binds -/
def lv (M : Int) : T → Prop
  | .node k h xs => (k = 4 → 0 ≤ h ∧ h ≤ M) ∧ lvL M k xs.length xs 0
def lvL (M : Int) (k : Int) (n : Nat) : List T → Nat → Prop
  | [], _ => True
  | t :: ts, i => lv (M + bd k n i) t ∧ lvL M k n ts (i + 1)
end
mutual
theorem lv_mono {M N : Int} (h : M ≤ N) : ∀ t : T, lv M t → lv N t
  | .node k g xs, ho => by
    rw [lv] at ho ⊢
    exact ⟨fun hk => ⟨(ho.1 hk).1, by have := (ho.1 hk).2; omega⟩, lvL_mono h k xs.length xs 0 ho.2⟩
theorem lvL_mono {M N : Int} (h : M ≤ N) (k : Int) (n : Nat) : ∀ (xs : List T) (i : Nat), lvL M k n xs i → lvL N k n xs i
  | [], i, _ => by rw [lvL]; trivial
  | t :: ts, i, ho => by
    rw [lvL] at ho ⊢
    exact ⟨lv_mono (by omega) t ho.1, lvL_mono h k n ts (i + 1) ho.2⟩
end
mutual
theorem lv_of_ok {M : Int} : ∀ t : T, okT M t → lv M t
  | .node k g xs, ho => by
    rw [okT] at ho
    rw [lv]
    exact ⟨ho.1, lvL_of_ok k xs.length xs 0 ho.2⟩
theorem lvL_of_ok {M : Int} (k : Int) (n : Nat) : ∀ (xs : List T) (i : Nat), okL M xs → lvL M k n xs i
  | [], i, _ => by rw [lvL]; trivial
  | t :: ts, i, ho => by
    rw [okL] at ho
    rw [lvL]
    have := bd_cases k n i
    exact ⟨lv_mono (by omega) t (lv_of_ok t ho.1), lvL_of_ok k n ts (i + 1) ho.2⟩
end
mutual
theorem lv_ok {M : Int} : ∀ t : T, lv M t → okT (M + dp t) t
  | .node k g xs, ho => by
    rw [lv] at ho
    rw [okT, dp]
    refine ⟨fun hk => ⟨(ho.1 hk).1, by have := (ho.1 hk).2; omega⟩, ?_⟩
    exact okL_mono (by omega) _ (lvL_ok k xs.length xs 0 ho.2)
theorem lvL_ok {M : Int} (k : Int) (n : Nat) : ∀ (xs : List T) (i : Nat), lvL M k n xs i → okL (M + 1 + dpL xs) xs
  | [], i, _ => by rw [okL]; trivial
  | t :: ts, i, ho => by
    rw [lvL] at ho
    rw [okL, dpL]
    have := bd_cases k n i
    exact ⟨okT_mono (by omega) _ (lv_ok t ho.1), okL_mono (by omega) _ (lvL_ok k n ts (i + 1) ho.2)⟩
end
mutual
theorem lv_up {M b : Int} (hb : 0 ≤ b) : ∀ (t : T) (f : Int), lv M t → lv (M + b) (upT b t f)
  | .node k g xs, f, ho => by
    rw [lv] at ho
    rw [upT, lv]
    refine ⟨fun hk => ?_, ?_⟩
    · have := ho.1 hk
      split <;> omega
    · rw [upL_len]
      exact lvL_up hb k xs.length xs 0 f ho.2
theorem lvL_up {M b : Int} (hb : 0 ≤ b) (k : Int) (n : Nat) : ∀ (xs : List T) (i : Nat) (f : Int), lvL M k n xs i → lvL (M + b) k n (upL b k n xs i f) i
  | [], i, f, _ => by rw [upL, lvL]; trivial
  | t :: ts, i, f, ho => by
    rw [lvL] at ho
    rw [upL, lvL]
    have h1 := lv_up hb t (f + bd k n i) ho.1
    exact ⟨lv_mono (by omega) _ h1, lvL_up hb k n ts (i + 1) f ho.2⟩
end
theorem lvL_at {M k : Int} {n : Nat} : ∀ {xs : List T} {i j : Nat} {x : T}, lvL M k n xs i → xs[j]? = some x → lv (M + bd k n (i + j)) x
  | [], i, j, x, _, h => by simp at h
  | t :: ts, i, 0, x, ho, h => by
    rw [lvL] at ho
    simp at h
    subst h
    exact ho.1
  | t :: ts, i, j + 1, x, ho, h => by
    rw [lvL] at ho
    simp at h
    have := lvL_at ho.2 h
    rwa [show i + 1 + j = i + (j + 1) by omega] at this
/-- a row of which each is so -/
theorem lvL_all {M k : Int} {n : Nat} : ∀ {xs : List T} {i : Nat}, (∀ j x, xs[j]? = some x → lv (M + bd k n (i + j)) x) → lvL M k n xs i
  | [], i, _ => by rw [lvL]; trivial
  | t :: ts, i, h => by
    rw [lvL]
    refine ⟨h 0 t rfl, lvL_all fun j x hx => ?_⟩
    have := h (j + 1) x (by simpa using hx)
    rwa [show i + (j + 1) = i + 1 + j by omega] at this
theorem lv_arg {M k h : Int} {xs : List T} (hl : lv M (.node k h xs)) {j : Nat} {x : T} (hx : xs[j]? = some x) : lv (M + bd k xs.length j) x := by
  rw [lv] at hl
  have := lvL_at hl.2 hx
  rwa [Nat.zero_add] at this
theorem bd_bind {k : Int} {n i : Nat} (h : k ≠ 1) (h' : k ≠ 3) : bd k n i = 0 := by
  unfold bd
  rw [if_neg (by omega)]
/-! ### Apply leaves them so -/
theorem apL_lv {A : Nat → T → Nat → Res} {k M M' : Int} {m u : Nat} (hA : ∀ v x n t' n', A v x n = .ok (t', n') → lv (M + v) x → lv (M' + v) t') :
    ∀ (xs : List T) (i n : Nat) (ys : List T) (n' : Nat), apL A k m u xs i n = .ok (ys, n') → lvL (M + u) k m xs i → lvL (M' + u) k m ys i := by
  intro xs
  induction xs with
  | nil => intro i n ys n' h _; rw [apL] at h; cases h; rw [lvL]; trivial
  | cons x xs ih =>
    intro i n ys n' h hl
    rw [apL] at h
    rw [lvL] at hl
    split at h
    · cases h
    · rename_i y n1 h1
      split at h
      · cases h
      · rename_i zs n2 h2
        cases h
        rw [lvL]
        have hb := bd_bdn k m i
        have := hA _ _ _ _ _ h1 (lv_mono (by omega) _ hl.1)
        exact ⟨lv_mono (by omega) _ this, ih _ _ _ _ h2 hl.2⟩
theorem apL_len {A : Nat → T → Nat → Res} {k : Int} {m u : Nat} : ∀ (xs : List T) (i n : Nat) (ys : List T) (n' : Nat), apL A k m u xs i n = .ok (ys, n') → ys.length = xs.length := by
  intro xs
  induction xs with
  | nil => intro i n ys n' h; rw [apL] at h; cases h; rfl
  | cons x xs ih =>
    intro i n ys n' h
    rw [apL] at h
    split at h
    · cases h
    · split at h
      · cases h
      · rename_i zs n2 h2
        cases h
        rw [List.length_cons, List.length_cons, ih _ _ _ _ h2]
theorem lv_head {M k h : Int} {xs : List T} (ht : lv M (.node k h xs)) : lv (M + 1) (xs.headD (.node 0 0 [])) := by
  cases xs with
  | nil => rw [List.headD_nil, lv, lvL]; exact ⟨fun e => by omega, trivial⟩
  | cons x xs =>
    have := lv_arg ht (j := 0) rfl
    have h2 := bd_cases k (x :: xs).length 0
    exact lv_mono (by omega) _ this
theorem spL_lv {A : T → T → Nat → Res} {M : Int} (hA : ∀ a x n t' n', A a x n = .ok (t', n') → lv M a → lv (M + 1) x → lv M t') :
    ∀ (bs : List T) (t : T) (n : Nat) (t' : T) (n' : Nat), spL A t bs n = .ok (t', n') → lv M t → (∀ b ∈ bs, lv M b) → lv M t' := by
  intro bs
  induction bs with
  | nil => intro t n t' n' h ht _; rw [spL] at h; cases h; exact ht
  | cons a bs ih =>
    rintro ⟨k, h, xs⟩ n t' n' hr ht hb
    rw [spL] at hr
    by_cases hk : k = 3
    · rw [if_pos hk] at hr
      by_cases hm : myB a = true
      · rw [if_pos hm] at hr
        split at hr
        · cases hr
        · rename_i t1 n1 h1
          exact ih t1 n1 t' n' hr (hA _ _ _ _ _ h1 (hb a (List.mem_cons_self ..)) (lv_head ht)) fun b hb' => hb b (List.mem_cons_of_mem _ hb')
      · rw [if_neg hm] at hr; cases hr
    · rw [if_neg hk] at hr
      split at hr
      · rename_i hk2
        cases hr
        rw [lv] at ht ⊢
        refine ⟨ht.1, lvL_all fun j x hx => ?_⟩
        rw [bd_bind (by omega) hk, Int.add_zero]
        by_cases hj : j < xs.length
        · rw [List.getElem?_append_left hj] at hx
          have := lvL_at ht.2 hx
          rwa [bd_bind (by omega) hk, Int.add_zero] at this
        · rw [List.getElem?_append_right (by omega)] at hx
          exact hb x (List.mem_of_getElem? hx)
      · cases hr
theorem lv_mp {A sh fr : Int} {L : List T} {u : Nat} (h0 : 0 ≤ fr) (hs : 0 ≤ sh) (hfr : fr ≤ A + L.length) (hL : ∀ x ∈ L, lv (A + sh) x) (hA : 0 ≤ A + sh) : lv (A + sh + u) (mpT L sh fr u) := by
  unfold mpT
  split
  · rename_i hle
    rw [lv, lvL]
    exact ⟨fun _ => ⟨by omega, by omega⟩, trivial⟩
  · rename_i hle
    exact lv_up (by omega) _ _ (hL _ (getD_mem (.node 0 0 []) (show L.length - 1 - fr.toNat < L.length by omega)))
theorem lvL_mem {M k : Int} {n : Nat} {ys : List T} {i : Nat} (hk : k ≠ 1 ∧ k ≠ 3) (h : lvL M k n ys i) : ∀ y ∈ ys, lv M y := fun y hy => by
  obtain ⟨j, hj⟩ := List.mem_iff_getElem?.1 hy
  have := lvL_at h hj
  rwa [bd_bind hk.1 hk.2, Int.add_zero] at this
theorem ap_lv : ∀ (f : Nat) (L : List T) (sh A : Int) (u : Nat) (t : T) (n : Nat) (t' : T) (n' : Nat), 0 ≤ sh → 0 ≤ A + sh → (∀ x ∈ L, lv (A + sh) x) → lv (A + L.length + u) t → ap f L sh u t n = .ok (t', n') → lv (A + sh + u) t' := by
  intro f
  induction f with
  | zero => intro L sh A u t n t' n' _ _ _ _ h; rw [ap] at h; cases h
  | succ f ih =>
    rintro L sh A u ⟨k, h, xs⟩ n t' n' hs hA hL ht hr
    rw [ap] at hr
    split at hr
    · cases hr
    · split at hr
      · cases hr
      · rename_i args n1 h1
        have hlen := apL_len _ _ _ _ _ h1
        have ht2 := ht
        rw [lv] at ht2
        have hy : lvL (A + sh + u) k xs.length args 0 := apL_lv (M := A + L.length) (M' := A + sh) (fun v x m t1 m1 e hx => ih L sh A v x m t1 m1 hs hA hL (by exact hx) e) xs 0 _ _ _ h1 ht2.2
        split at hr
        · rename_i hc
          have h2 := ht2.1 hc.1
          refine spL_lv (M := A + sh + u) (fun a x m t1 m1 e ha hx => ?_) args _ _ _ _ hr (lv_mp (by omega) hs (by omega) hL hA) (lvL_mem (by omega) hy)
          have := ih [a] 0 (A + sh + u) 0 x m t1 m1 (by omega) (by omega) (fun y hy => by rw [List.mem_singleton.1 hy]; exact lv_mono (by omega) _ ha) (lv_mono (by simp) _ hx) e
          exact lv_mono (by omega) _ this
        · rename_i hc
          cases hr
          rw [lv, hlen]
          refine ⟨fun hk => ?_, hy⟩
          have := ht2.1 hk
          refine ⟨this.1, ?_⟩
          have : ¬ ((u : Int) ≤ h) := fun e => hc ⟨hk, e⟩
          omega
theorem apT_my {t : T} {L : List T} {sh : Int} (h : apE t L sh = 0) : myB (apT t L sh) = true := by
  unfold apE at h
  unfold apT
  split at h
  · rename_i hc
    rw [if_pos hc]
    cases hr : apR t L sh with
    | error e =>
      rw [hr] at h
      exact absurd h (by simpa [anE] using ap_err _ _ _ _ _ _ _ (show ap fl L sh 0 t 0 = .error e from hr))
    | ok p =>
      obtain ⟨t', n'⟩ := p
      rw [hr] at h
      cases hm : myB t' with
      | true => simp [anT, hm]
      | false => simp [anE, hm] at h
  · omega
theorem apT_lv {t : T} {L : List T} {sh A : Int} (hs : 0 ≤ sh) (hA : 0 ≤ A + sh) (hL : ∀ x ∈ L, lv (A + sh) x) (ht : lv (A + L.length) t) : lv (A + sh) (apT t L sh) := by
  have hz : lv (A + sh) (.node 0 0 []) := by rw [lv, lvL]; exact ⟨fun e => by omega, trivial⟩
  unfold apT
  split
  · cases hr : apR t L sh with
    | error e => exact hz
    | ok p =>
      obtain ⟨t', n'⟩ := p
      simp only [anT]
      split
      · have := ap_lv fl L sh A 0 t 0 t' n' hs hA hL (lv_mono (by omega) _ ht) hr
        exact lv_mono (by omega) _ this
      · exact hz
  · exact hz
/-! ### Invert, too -/
mutual
theorem lv_iv {g : Int → Option Int} {M M' : Int} (h0 : 0 ≤ M') (hg : ∀ x, 0 ≤ x → x ≤ M → ∀ y, g x = some y → 0 ≤ y ∧ y ≤ M') : ∀ (t : T) (s : Int) (u : T), 0 ≤ s → lv (M + s) t → ivT g t s = some u → lv (M' + s) u
  | .node k h xs, s, u, hs, hl, e => by
    obtain ⟨h', ys, rfl, e1, e2, e3⟩ := iv_node e
    rw [lv] at hl ⊢
    refine ⟨fun hk => ?_, ?_⟩
    · have := hl.1 hk
      rcases e3 with ⟨_, h1, y, h2, rfl⟩ | ⟨h1, e4⟩
      · have := hg _ (by omega) (by omega) _ h2
        omega
      · have : ¬ s ≤ h := fun e => h1 ⟨hk, e⟩
        omega
    · rw [e2]
      exact lvL_iv h0 hg k xs.length xs 0 s ys hs hl.2 e1
theorem lvL_iv {g : Int → Option Int} {M M' : Int} (h0 : 0 ≤ M') (hg : ∀ x, 0 ≤ x → x ≤ M → ∀ y, g x = some y → 0 ≤ y ∧ y ≤ M') (k : Int) (n : Nat) : ∀ (xs : List T) (i : Nat) (s : Int) (ys : List T), 0 ≤ s → lvL (M + s) k n xs i → ivL g k n xs i s = some ys → lvL (M' + s) k n ys i
  | [], i, s, ys, hs, _, e => by rw [ivL] at e; cases e; rw [lvL]; trivial
  | t :: ts, i, s, ys, hs, hl, e => by
    obtain ⟨u, vs, rfl, e1, e2⟩ := iv_cons e
    rw [lvL] at hl ⊢
    have hb := bd_cases k n i
    have h1 := lv_iv h0 hg t (s + bd k n i) u (by omega) (lv_mono (by omega) _ hl.1) e1
    exact ⟨lv_mono (by omega) _ h1, lvL_iv h0 hg k n ts (i + 1) s vs hs hl.2 e2⟩
end
theorem igo_lv {vs : List Int} {n M x y : Int} (hM : 0 ≤ M) (h0 : 0 ≤ x) (hx : x ≤ M + n) (h : igo vs n x = some y) : 0 ≤ y ∧ y ≤ M + vs.length := by
  unfold igo at h
  split at h
  · cases h; omega
  · have := pls_lt h; omega

/-! ### Making two the same -/
def fu : Nat := 40001
theorem fu_eq : fu = 40001 := rfl
/-- is a node a meta that is something -/
def som (bs : List BT) : T → Bool
  | .node k h _ => decide (k = 6) && thI bs h
/-- what it is -/
def isT (bs : List BT) (h : Int) : T := (bs.getD h.toNat noB).2
/-- a node is reduced -/
def rdU (bs : List BT) (m : Int) : Nat → T → Nat → Res
  | 0, _, _ => .error 4
  | f + 1, .node k h xs, N =>
    if 40000 < N + 1 then .error 4
    else if som bs (.node k h xs) = true then
      if apE (isT bs h) xs m = 0 then rdU bs m f (apT (isT bs h) xs m) (N + 1) else .error (apE (isT bs h) xs m)
    else .ok (.node k h xs, N + 1)
/-- each of some terms is resolved -/
def rsL (A : T → Int → Nat → Res) (k : Int) (n : Nat) (m : Int) : List T → Nat → Nat → Except Int (List T × Nat)
  | [], _, N => .ok ([], N)
  | x :: xs, i, N =>
    match A x (m + bd k n i) N with
    | .error e => .error e
    | .ok (y, N') =>
      match rsL A k n m xs (i + 1) N' with
      | .error e => .error e
      | .ok (ys, N'') => .ok (y :: ys, N'')
/-- a node is resolved -/
def rsU (bs : List BT) : Nat → T → Int → Nat → Res
  | 0, _, _, _ => .error 4
  | f + 1, t, m, N =>
    match rdU bs m (f + 1) t N with
    | .error e => .error e
    | .ok (.node k h xs, N') =>
      match rsL (rsU bs f) k xs.length m xs 0 N' with
      | .error e => .error e
      | .ok (ys, N'') => .ok (.node k h ys, N'')
/-- what it comes to: is a meta outside, what all are, how many nodes were reduced -/
abbrev USt := Bool × List BT × Nat
/-- a meta is solved for a term -/
def svU (sz : List Int) (bs : List BT) (f : Nat) (h : Int) (xs : List T) (t : T) (m : Int) (N : Nat) : Except Int USt :=
  if (bs.length : Int) ≤ h ∨ (xs.length : Int) ≠ sz.getD h.toNat 0 then .error 2
  else match rsU bs f t m N with
  | .error e => .error e
  | .ok (t', N') =>
    match rsL (rsU bs f) 0 0 m xs 0 N' with
    | .error e => .error e
    | .ok (ys, N'') =>
      match ptn m [] ys with
      | none => .ok (true, bs, N'')
      | some vs =>
        if h ∈ mtO t' then .ok (true, bs, N'')
        else match ivR t' vs m with
        | .ok u => .ok (false, bs.set h.toNat (true, u), N'')
        | .error e => if e = 7 then (if (mtO t').length = 0 then .error 6 else .ok (true, bs, N'')) else .error 4
/-- two of one meta -/
def cmU (bs : List BT) (f : Nat) (a c : T) (m : Int) (N : Nat) : Except Int USt :=
  match rsL (rsU bs f) 0 0 m [a, c] 0 N with
  | .error e => .error e
  | .ok (ys, N') => .ok (!samB (ys.getD 0 (.node 0 0 [])) (ys.getD 1 (.node 0 0 [])), bs, N')
/-- two of which one is a meta, or each -/
def meU (sz : List Int) (bs : List BT) (f : Nat) : T → T → Int → Nat → Except Int USt
  | .node k h xs, .node k' h' ys, m, N =>
    if k ≠ 6 then svU sz bs f h' ys (.node k h xs) m N
    else if k' = 6 ∧ h' = h then cmU bs f (.node k h xs) (.node k' h' ys) m N
    else match svU sz bs f h xs (.node k' h' ys) m N with
    | .error e => .error e
    | .ok (o, bs', N') => if o = true ∧ k' = 6 then svU sz bs' f h' ys (.node k h xs) m N' else .ok (o, bs', N')
/-- all Args, in order -/
def ndsU (A : T → T → Int → List BT → Nat → Except Int USt) (k : Int) (n : Nat) (m : Int) : List T → List T → Nat → Bool → List BT → Nat → Except Int USt
  | x :: xs, y :: ys, i, o, bs, N =>
    match A x y (m + bd k n i) bs N with
    | .error e => .error e
    | .ok (o', bs', N') => ndsU A k n m xs ys (i + 1) (o || o') bs' N'
  | _, _, _, o, bs, N => .ok (o, bs, N)
/-- two nodes -/
def uND (sz : List Int) : Nat → T → T → Int → List BT → Nat → Except Int USt
  | 0, _, _, _, _, _ => .error 4
  | f + 1, a, c, m, bs, N =>
    match rdU bs m (f + 1) a N with
    | .error e => .error e
    | .ok (.node k h xs, N1) =>
      match rdU bs m (f + 1) c N1 with
      | .error e => .error e
      | .ok (.node k' h' ys, N2) =>
        if k = 6 ∨ k' = 6 then meU sz bs (f + 1) (.node k h xs) (.node k' h' ys) m N2
        else if k = k' ∧ h = h' ∧ xs.length = ys.length then ndsU (uND sz f) k xs.length m xs ys 0 false bs N2
        else .error 6
/-- all metas that are something are resolved -/
def rvL (sz : List Int) : Nat → Nat → List BT → Nat → Except Int (List BT × Nat)
  | 0, _, bs, N => .ok (bs, N)
  | r + 1, i, bs, N =>
    if (bs.getD i noB).1 = true then
      match rsU bs fu (bs.getD i noB).2 (sz.getD i 0) N with
      | .error e => .error e
      | .ok (t, N') => rvL sz r (i + 1) (bs.set i (true, t)) N'
    else rvL sz r (i + 1) bs N
/-- may the arguments be -/
def unA (a c : T) (n : Int) (sz : List Int) : Bool :=
  decide (0 ≤ n) && decide (n ≤ 1000) && decide (sz.length ≤ 200) && (sz.all fun s => decide (0 ≤ s) && decide (s ≤ 1000)) && (myB a && myB c)
/-- what Unify tells -/
def unR (a c : T) (n : Int) (sz : List Int) : Except Int (List BT) :=
  if unA a c n sz = true then
    match uND sz fu a c n (List.replicate sz.length noB) 0 with
    | .error e => .error e
    | .ok (o, bs, N) =>
      if o = true then .error 5
      else match rvL sz sz.length 0 bs N with
      | .error e => .error e
      | .ok (bs', _) => .ok bs'
  else .error 1
end Go.Proofs.YtnnmnkgogiabiaaGreat

/-
  What making two terms the same leaves in order: shapes, Heads, counts. No statement is proved here.
-/
namespace Go.Proofs.YtnnmnkgogiabiaaGreat
open Go.ChangeShapes Go.WideShapes Go.ChangeAt Go.RowKit
set_option linter.unusedVariables false

/-- how great a Head may be, from the context around, when so many nodes were reduced -/
def kN (N : Nat) : Int := 1099511627776 + 1000 * N
theorem kN_mono {a b : Nat} (h : a ≤ b) : kN a ≤ kN b := by unfold kN; omega
theorem kN_succ (a : Nat) : kN (a + 1) = kN a + 1000 := by unfold kN; omega
theorem kN_pos (a : Nat) : 1099511627776 ≤ kN a := by unfold kN; omega
/-- a term on the way -/
structure WT (M : Int) (t : T) : Prop where
  nod : nodB t = true
  cnt : nd t ≤ 50000
  low : lv M t
theorem WT.mono {M M' : Int} {t : T} (h : WT M t) (hm : M ≤ M') : WT M' t := ⟨h.nod, h.cnt, lv_mono hm _ h.low⟩
theorem WT.ok {M : Int} {t : T} (h : WT M t) : okT (M + 50000) t := okT_mono (by have := dp_le t; have := h.cnt; omega) _ (lv_ok t h.low)
theorem WT.arg {M k h : Int} {xs : List T} (w : WT M (.node k h xs)) {j : Nat} {x : T} (hx : xs[j]? = some x) : WT (M + bd k xs.length j) x := by
  have h1 := List.mem_of_getElem? hx
  have h2 := w.cnt
  rw [nd] at h2
  have h3 := nd_mem h1
  exact ⟨(node_partsJ w.nod).2 x h1, by omega, lv_arg w.low hx⟩
theorem WT.len {M k h : Int} {xs : List T} (w : WT M (.node k h xs)) : xs.length < 50000 := by
  have h2 := w.cnt
  rw [nd] at h2
  have := len_ndJ xs
  omega
theorem WT.pos {M k h : Int} {xs : List T} (w : WT M (.node k h xs)) (hk : k = 6) : 0 ≤ h := by
  have := (node_partsJ w.nod).1
  subst hk
  simp [okN] at this
  omega
/-- what the metas are so far is in order -/
structure okU (sz : List Int) (bs : List BT) (N : Nat) : Prop where
  len : bs.length = sz.length
  few : sz.length ≤ 200
  szs : ∀ i, 0 ≤ sz.getD i 0 ∧ sz.getD i 0 ≤ 1000
  at_ : ∀ i x, bs[i]? = some x → x.1 = true → WT (kN N + sz.getD i 0) x.2
theorem okU.mono {sz : List Int} {bs : List BT} {N N' : Nat} (h : okU sz bs N) (hn : N ≤ N') : okU sz bs N' :=
  ⟨h.len, h.few, h.szs, fun i x hx h1 => (h.at_ i x hx h1).mono (by have := kN_mono hn; omega)⟩
theorem okU.set {sz : List Int} {bs : List BT} {N : Nat} (h : okU sz bs N) {j : Nat} {u : T} (hu : WT (kN N + sz.getD j 0) u) : okU sz (bs.set j (true, u)) N := by
  refine ⟨by rw [List.length_set]; exact h.len, h.few, h.szs, fun i x hx h1 => ?_⟩
  rw [List.getElem?_set] at hx
  split at hx
  · rename_i e
    subst e
    split at hx
    · cases hx; exact hu
    · cases hx
  · exact h.at_ i x hx h1
theorem okU.is {sz : List Int} {bs : List BT} {N : Nat} (h : okU sz bs N) {g : Int} {k : Int} {xs : List T} (hs : som bs (.node k g xs) = true) : k = 6 ∧ g < bs.length ∧ (bs.getD g.toNat noB).1 = true ∧ (0 ≤ g → bs[g.toNat]? = some (true, isT bs g) ∧ WT (kN N + sz.getD g.toNat 0) (isT bs g)) := by
  simp only [som, thI, Bool.and_eq_true, decide_eq_true_eq] at hs
  obtain ⟨h1, h2, h3⟩ := hs
  refine ⟨h1, h2, h3, fun h0 => ?_⟩
  obtain ⟨x, hx⟩ : ∃ x, bs[g.toNat]? = some x := ⟨_, List.getElem?_eq_getElem (by omega)⟩
  have e : bs.getD g.toNat noB = x := by rw [List.getD_eq_getElem?_getD, hx]; rfl
  have e2 : isT bs g = x.2 := by rw [isT, e]
  rw [e] at h3
  rw [e2]
  exact ⟨by rw [hx, ← h3], h.at_ _ x hx h3⟩
theorem my_nd {t : T} (h : myB t = true) : nodB t = true ∧ nd t ≤ 50000 := by
  have := (myB_iff t).1 h
  exact ⟨this.1, by omega⟩
theorem rdU_good {sz : List Int} {bs : List BT} {m : Int} (hm : 0 ≤ m) : ∀ (f : Nat) (t : T) (N : Nat) (t' : T) (N' : Nat), okU sz bs N → WT (kN N + m) t → rdU bs m f t N = .ok (t', N') →
    N + 1 ≤ N' ∧ N' ≤ 40000 ∧ WT (kN N' + m) t' ∧ som bs t' = false := by
  intro f
  induction f with
  | zero => intro t N t' N' _ _ h; rw [rdU] at h; cases h
  | succ f ih =>
    rintro ⟨k, g, xs⟩ N t' N' hb ht h
    rw [rdU] at h
    split at h
    · cases h
    · split at h
      · rename_i hN hs
        split at h
        · rename_i he
          obtain ⟨rfl, h1, h2, h3⟩ := hb.is hs
          obtain ⟨h4, h5⟩ := h3 (ht.pos rfl)
          have hl : WT (kN (N + 1) + m) (apT (isT bs g) xs m) := by
            have hsz := hb.szs g.toNat
            have hp := kN_pos N
            refine ⟨(my_nd (apT_my he)).1, (my_nd (apT_my he)).2, ?_⟩
            refine apT_lv hm (by rw [kN_succ]; omega) (fun x hx => ?_) (lv_mono (by rw [kN_succ]; omega) _ h5.low)
            obtain ⟨j, hj⟩ := List.mem_iff_getElem?.1 hx
            have := (ht.arg hj).low
            rw [bd_bind (by omega) (by omega), Int.add_zero] at this
            exact lv_mono (by rw [kN_succ]; omega) _ this
          obtain ⟨e1, e2, e3, e4⟩ := ih _ _ _ _ (hb.mono (Nat.le_succ N)) hl h
          exact ⟨by omega, e2, e3, e4⟩
        · cases h
      · rename_i hN hs
        cases h
        exact ⟨Nat.le_refl _, by omega, ht.mono (by have := kN_mono (show N ≤ N + 1 by omega); omega), by simpa using hs⟩
theorem rsL_good {sz : List Int} {bs : List BT} {A : T → Int → Nat → Res} {k : Int} {n : Nat} {m : Int} (hm : 0 ≤ m) (hA : ∀ t m N t' N', 0 ≤ m → okU sz bs N → WT (kN N + m) t → A t m N = .ok (t', N') → N + 1 ≤ N' ∧ N' ≤ 40000 ∧ nodB t' = true ∧ nd t' ≤ N' - N ∧ lv (kN N' + m) t') :
    ∀ (xs : List T) (i N : Nat) (ys : List T) (N' : Nat), N ≤ 40000 → okU sz bs N → (∀ j x, xs[j]? = some x → WT (kN N + m + bd k n (i + j)) x) → rsL A k n m xs i N = .ok (ys, N') →
      N ≤ N' ∧ N' ≤ 40000 ∧ ys.length = xs.length ∧ nodL ys = true ∧ ndL ys ≤ N' - N ∧ lvL (kN N' + m) k n ys i := by
  intro xs
  induction xs with
  | nil =>
    intro i N ys N' hN _ _ h
    rw [rsL] at h
    cases h
    exact ⟨Nat.le_refl _, hN, rfl, by rw [nodL], by rw [ndL]; omega, by rw [lvL]; trivial⟩
  | cons x xs ih =>
    intro i N ys N' hN hb hx h
    rw [rsL] at h
    split at h
    · cases h
    · rename_i y N1 h1
      split at h
      · cases h
      · rename_i zs N2 h2
        cases h
        have hbd := bd_cases k n i
        have h0 := hx 0 x rfl
        rw [Nat.add_zero] at h0
        obtain ⟨e1, e2, e3, e4, e5⟩ := hA _ _ _ _ _ (by omega) hb (h0.mono (by omega)) h1
        obtain ⟨g1, g2, g3, g4, g5, g6⟩ := ih (i + 1) N1 _ _ e2 (hb.mono (by omega)) (fun j x' hj => by
          have := hx (j + 1) x' (by simpa using hj)
          rw [show i + (j + 1) = i + 1 + j by omega] at this
          exact this.mono (by have := kN_mono (show N ≤ N1 by omega); omega)) h2
        refine ⟨by omega, g2, by rw [List.length_cons, List.length_cons, g3], by rw [nodL, e3, g4]; rfl, by rw [ndL]; omega, ?_⟩
        rw [lvL]
        exact ⟨lv_mono (by have := kN_mono g1; omega) _ e5, g6⟩
theorem rsU_good {sz : List Int} {bs : List BT} : ∀ (f : Nat) (t : T) (m : Int) (N : Nat) (t' : T) (N' : Nat), 0 ≤ m → okU sz bs N → WT (kN N + m) t → rsU bs f t m N = .ok (t', N') →
    N + 1 ≤ N' ∧ N' ≤ 40000 ∧ nodB t' = true ∧ nd t' ≤ N' - N ∧ lv (kN N' + m) t' := by
  intro f
  induction f with
  | zero => intro t m N t' N' _ _ _ h; rw [rsU] at h; cases h
  | succ f ih =>
    intro t m N t' N' hm hb ht h
    rw [rsU] at h
    split at h
    · cases h
    · rename_i k g xs N1 h1
      obtain ⟨e1, e2, e3, e4⟩ := rdU_good hm _ _ _ _ _ hb ht h1
      split at h
      · cases h
      · rename_i ys N2 h2
        cases h
        obtain ⟨g1, g2, g3, g4, g5, g6⟩ := rsL_good (A := rsU bs f) hm (fun t m N t' N' hm hb ht h => ih t m N t' N' hm hb ht h) xs 0 N1 ys _ e2 (hb.mono (by omega)) (fun j x hj => by rw [Nat.zero_add]; exact e3.arg hj) h2
        have h5 := node_partsJ e3.nod
        have h6 := e3.low
        rw [lv] at h6
        refine ⟨by omega, g2, by rw [nodB, g3, h5.1, g4]; rfl, by rw [nd]; omega, ?_⟩
        rw [lv, g3]
        exact ⟨fun hk => ⟨(h6.1 hk).1, by have := (h6.1 hk).2; have := kN_mono g1; omega⟩, g6⟩
theorem WT.of {M : Int} {t : T} {N : Nat} (h1 : nodB t = true) (h2 : nd t ≤ N) (h3 : N ≤ 40000) (h4 : lv M t) : WT M t := ⟨h1, by omega, h4⟩
/-- what Invert tells -/
theorem iv_good {t u : T} {vs : List Int} {m K : Int} (hK : 0 ≤ K) (hKb : K ≤ 281474976710656) (hvl : vs.length ≤ 1048576) (ht : lv (K + m) t) (hnd : nd t ≤ 40000) (h : ivR t vs m = .ok u) : ivT (igo vs m) t 0 = some u ∧ WT (K + vs.length) u ∧ 0 ≤ m ∧ m ≤ 1000 ∧ vB m [] vs = true ∧ myB t = true := by
  rw [ivR] at h
  split at h
  · rename_i hc
    simp only [Bool.and_eq_true, decide_eq_true_eq] at hc
    obtain ⟨⟨⟨h1, h2⟩, h3⟩, h4⟩ := hc
    rw [mayB_my (by omega)] at h3
    have hd := dp_le t
    have hok : okT (K + 1000 + 50000) t := okT_mono (by omega) _ (lv_ok t ht)
    rw [rn_iv (M := K + 1000 + 50000) (g := igo vs m) (by omega) (fun x h0 hx => ⟨igW_eq h0 (by omega) ⟨h1, h2⟩ (by omega), fun y hy => by have := igo_bd (M := K + 1000 + 50000) (by omega) hx h1 hy; omega⟩) t 0 hok (by omega) (by omega)] at h
    cases hi : ivT (igo vs m) t 0 with
    | none => rw [hi] at h; cases h
    | some v =>
      rw [hi] at h
      cases h
      have hn := nd_iv t 0 _ hi
      refine ⟨rfl, ⟨?_, by omega, ?_⟩, h1, h2, h4, h3⟩
      · refine nodB_iv (M := K + 1000 + 50000) (fun x h0 hx y hy => (igo_lv (M := K + 1000 + 50000) (by omega) h0 (by omega) hy).1) t 0 _ (Int.le_refl _) hok ((myB_iff t).1 h3).1 hi
      · have := lv_iv (g := igo vs m) (M := K + m) (M' := K + vs.length) (by omega) (fun x h0 hx y hy => igo_lv hK h0 hx hy) t 0 _ (Int.le_refl _) (lv_mono (by omega) _ ht) hi
        exact lv_mono (by omega) _ this
  · cases h
theorem svU_good {sz : List Int} {bs : List BT} {f : Nat} {h : Int} {xs : List T} {t : T} {m : Int} {N : Nat} {o : Bool} {bs' : List BT} {N' : Nat} (hm : 0 ≤ m) (hb : okU sz bs N) (hx : WT (kN N + m) (.node 6 h xs)) (ht : WT (kN N + m) t) (e : svU sz bs f h xs t m N = .ok (o, bs', N')) :
    okU sz bs' N' ∧ N ≤ N' ∧ N' ≤ 40000 := by
  rw [svU] at e
  split at e
  · cases e
  · rename_i hc
    split at e
    · cases e
    · rename_i t' N1 h1
      obtain ⟨e1, e2, e3, e4, e5⟩ := rsU_good f t m N t' N1 hm hb ht h1
      split at e
      · cases e
      · rename_i ys N2 h2
        obtain ⟨g1, g2, g3, g4, g5, g6⟩ := rsL_good (A := rsU bs f) hm (fun t m N t' N' hm hb ht h => rsU_good f t m N t' N' hm hb ht h) xs 0 N1 ys N2 e2 (hb.mono (by omega)) (fun j x hj => by
          have := hx.arg hj
          rw [bd_bind (by omega) (by omega)] at this ⊢
          exact this.mono (by have := kN_mono (show N ≤ N1 by omega); omega)) h2
        have hb2 := hb.mono (show N ≤ N2 by omega)
        split at e
        · cases e; exact ⟨hb2, by omega, g2⟩
        · rename_i vs hv
          split at e
          · cases e; exact ⟨hb2, by omega, g2⟩
          · split at e
            · rename_i u hu
              have hl := ptn_lenJ ys [] vs hv
              have hlx := hx.len
              simp only [List.length_nil, Nat.zero_add] at hl
              obtain ⟨_, k2, _⟩ := iv_good (K := kN N2) (by have := kN_pos N2; omega) (by unfold kN; omega) (by omega) (lv_mono (by have := kN_mono g1; omega) _ e5) (by omega) hu
              have hq : ¬ (xs.length : Int) ≠ sz.getD h.toNat 0 := fun e => hc (.inr e)
              have hset := hb2.set (j := h.toNat) (k2.mono (by omega))
              cases e
              exact ⟨hset, by omega, g2⟩
            · split at e
              · split at e
                · cases e
                · cases e; exact ⟨hb2, by omega, g2⟩
              · cases e
theorem cmU_good {sz : List Int} {bs : List BT} {f : Nat} {a c : T} {m : Int} {N : Nat} {o : Bool} {bs' : List BT} {N' : Nat} (hm : 0 ≤ m) (hN : N ≤ 40000) (hb : okU sz bs N) (ha : WT (kN N + m) a) (hc : WT (kN N + m) c) (e : cmU bs f a c m N = .ok (o, bs', N')) :
    okU sz bs' N' ∧ N ≤ N' ∧ N' ≤ 40000 := by
  rw [cmU] at e
  split at e
  · cases e
  · rename_i ys N1 h1
    obtain ⟨g1, g2, _⟩ := rsL_good (A := rsU bs f) hm (fun t m N t' N' hm hb ht h => rsU_good f t m N t' N' hm hb ht h) [a, c] 0 N ys N1 hN hb (fun j x hj => by
      rw [bd_bind (by omega) (by omega), Int.add_zero]
      have := List.mem_of_getElem? hj
      simp at this
      rcases this with rfl | rfl
      · exact ha
      · exact hc) h1
    cases e
    exact ⟨hb.mono g1, g1, g2⟩
theorem meU_good {sz : List Int} {bs : List BT} {f : Nat} {a c : T} {m : Int} {N : Nat} {o : Bool} {bs' : List BT} {N' : Nat} (hm : 0 ≤ m) (hN : N ≤ 40000) (hb : okU sz bs N) (ha : WT (kN N + m) a) (hc : WT (kN N + m) c) (h6 : (match a with | .node k _ _ => k) = 6 ∨ (match c with | .node k _ _ => k) = 6) (e : meU sz bs f a c m N = .ok (o, bs', N')) :
    okU sz bs' N' ∧ N ≤ N' ∧ N' ≤ 40000 := by
  obtain ⟨k, h, xs⟩ := a
  obtain ⟨k', h', ys⟩ := c
  rw [meU] at e
  dsimp only at h6
  split at e
  · rename_i hk
    obtain rfl : k' = 6 := by omega
    exact svU_good hm hb hc ha e
  · rename_i hk
    obtain rfl : k = 6 := by omega
    split at e
    · exact cmU_good hm hN hb ha hc e
    · split at e
      · cases e
      · rename_i o1 bs1 N1 h1
        obtain ⟨e1, e2, e3⟩ := svU_good hm hb ha hc h1
        split at e
        · rename_i hk2
          obtain ⟨rfl, rfl⟩ := hk2
          obtain ⟨g1, g2, g3⟩ := svU_good hm e1 (hc.mono (by have := kN_mono e2; omega)) (ha.mono (by have := kN_mono e2; omega)) e
          exact ⟨g1, by omega, g3⟩
        · cases e; exact ⟨e1, e2, e3⟩
theorem ndsU_good {sz : List Int} {A : T → T → Int → List BT → Nat → Except Int USt} {k : Int} {n : Nat} {m : Int} (hm : 0 ≤ m) (hA : ∀ a c m bs N o bs' N', 0 ≤ m → N ≤ 40000 → okU sz bs N → WT (kN N + m) a → WT (kN N + m) c → A a c m bs N = .ok (o, bs', N') → okU sz bs' N' ∧ N ≤ N' ∧ N' ≤ 40000) :
    ∀ (xs ys : List T) (i : Nat) (o : Bool) (bs : List BT) (N : Nat) (o' : Bool) (bs' : List BT) (N' : Nat), N ≤ 40000 → okU sz bs N → (∀ j x, xs[j]? = some x → WT (kN N + m + bd k n (i + j)) x) → (∀ j x, ys[j]? = some x → WT (kN N + m + bd k n (i + j)) x) →
      ndsU A k n m xs ys i o bs N = .ok (o', bs', N') → okU sz bs' N' ∧ N ≤ N' ∧ N' ≤ 40000 := by
  intro xs
  induction xs with
  | nil => intro ys i o bs N o' bs' N' hN hb _ _ h; rw [ndsU] at h; cases h; exact ⟨hb, Nat.le_refl _, hN⟩; simp
  | cons x xs ih =>
    intro ys i o bs N o' bs' N' hN hb hx hy h
    cases ys with
    | nil => rw [ndsU] at h; cases h; exact ⟨hb, Nat.le_refl _, hN⟩; simp
    | cons y ys =>
      rw [ndsU] at h
      split at h
      · cases h
      · rename_i o1 bs1 N1 h1
        have hbd := bd_cases k n i
        have hx0 := hx 0 x rfl
        have hy0 := hy 0 y rfl
        rw [Nat.add_zero] at hx0 hy0
        obtain ⟨e1, e2, e3⟩ := hA _ _ _ _ _ _ _ _ (by omega) hN hb (hx0.mono (by omega)) (hy0.mono (by omega)) h1
        have hk := kN_mono e2
        obtain ⟨g1, g2, g3⟩ := ih ys (i + 1) _ bs1 N1 _ _ _ e3 e1 (fun j x' hj => by
          have := hx (j + 1) x' (by simpa using hj)
          rw [show i + (j + 1) = i + 1 + j by omega] at this
          exact this.mono (by omega)) (fun j x' hj => by
          have := hy (j + 1) x' (by simpa using hj)
          rw [show i + (j + 1) = i + 1 + j by omega] at this
          exact this.mono (by omega)) h
        exact ⟨g1, by omega, g3⟩
theorem uND_good {sz : List Int} : ∀ (f : Nat) (a c : T) (m : Int) (bs : List BT) (N : Nat) (o : Bool) (bs' : List BT) (N' : Nat), 0 ≤ m → okU sz bs N → WT (kN N + m) a → WT (kN N + m) c → uND sz f a c m bs N = .ok (o, bs', N') →
    okU sz bs' N' ∧ N + 2 ≤ N' ∧ N' ≤ 40000 := by
  intro f
  induction f with
  | zero => intro a c m bs N o bs' N' _ _ _ _ h; rw [uND] at h; cases h
  | succ f ih =>
    intro a c m bs N o bs' N' hm hb ha hc h
    rw [uND] at h
    split at h
    · cases h
    · rename_i k g xs N1 h1
      obtain ⟨e1, e2, e3, e4⟩ := rdU_good hm _ _ _ _ _ hb ha h1
      split at h
      · cases h
      · rename_i k' g' ys N2 h2
        obtain ⟨f1, f2, f3, f4⟩ := rdU_good hm _ _ _ _ _ (hb.mono (by omega)) (hc.mono (by have := kN_mono (show N ≤ N1 by omega); omega)) h2
        have e5 := e3.mono (show kN N1 + m ≤ kN N2 + m by have := kN_mono (show N1 ≤ N2 by omega); omega)
        split at h
        · rename_i h6
          obtain ⟨g1, g2, g3⟩ := meU_good hm f2 (hb.mono (by omega)) e5 f3 h6 h
          exact ⟨g1, by omega, g3⟩
        · split at h
          · rename_i hc
            obtain ⟨rfl, rfl, hl⟩ := hc
            obtain ⟨g1, g2, g3⟩ := ndsU_good hm (fun a c m bs N o bs' N' hm hN hb ha hc h => by
              obtain ⟨i1, i2, i3⟩ := ih a c m bs N o bs' N' hm hb ha hc h
              exact ⟨i1, by omega, i3⟩) xs ys 0 false bs N2 o bs' N' f2 (hb.mono (by omega)) (fun j x hj => by rw [Nat.zero_add]; exact e5.arg hj) (fun j x hj => by rw [Nat.zero_add, hl]; exact f3.arg hj) h
            exact ⟨g1, by omega, g3⟩
          · cases h
end Go.Proofs.YtnnmnkgogiabiaaGreat

/-
  Package unify's state in memory; contract of something. No statement is proved here.
-/
namespace Go.Proofs.YtnnmnkgogiabiaaGreat
open Go.ChangeShapes Go.WideShapes Go.ChangeAt Go.RowKit
set_option linter.unusedVariables false

/-- the blocks that are written: the binds' row, and the state -/
def UX (Bk pu : Nat) (b : Nat) : Prop := b = Bk ∨ b = pu
/-- those, and two of a call's own -/
def YV (X : Nat → Prop) (B : Nat) (b : Nat) : Prop := X b ∨ b = B ∨ b = B + 1
theorem RX.fr {X : Nat → Prop} {w w' : World} {t : T} {v : Value} (h : RX X w t v) (f : Fr X w w') : RX X w' t v :=
  RdF.moveX (fun b hb hl => ⟨hb, f.block b hl hb⟩) _ _ h
theorem RXL.fr {X : Nat → Prop} {w w' : World} {xs : List T} {A : Option Addr} {n c : Nat} (h : RXL X w xs A n c) (f : Fr X w w') : RXL X w' xs A n c :=
  ⟨h.len, h.le, h.cap, fun i t ht => RdFAt.moveX (fun b hb hl => ⟨hb, f.block b hl hb⟩) (h.at_ i t ht)⟩
theorem RX.of_new {X : Nat → Prop} {B : Nat} {w : World} {t : T} {v : Value} (h : RdF (fun b => B ≤ b) w t v) (hX : ∀ b, X b → b < B) : RX X w t v :=
  RdF.moveX (fun b hb hl => ⟨fun e => by have := hX b e; omega, rfl⟩) _ _ h
/-- a list of numbers beside some blocks -/
def LI (X : Nat → Prop) (w : World) (zs : List Int) (A : Option Addr) : Prop := ∀ i z, zs[i]? = some z → ∃ b o, A = some ⟨b, o, none⟩ ∧ ¬ X b ∧ w.cell? ⟨b, o + i, none⟩ = some (.int .i64 z)
theorem LI.fr {X : Nat → Prop} {w w' : World} {zs : List Int} {A : Option Addr} (h : LI X w zs A) (f : Fr X w w') : LI X w' zs A := fun i z hz => by
  obtain ⟨b, o, e, hx, hc⟩ := h i z hz
  exact ⟨b, o, e, hx, (World.cell?_of_block (w := w) (f.block b (cell_lt hc) hx)).trans hc⟩
/-- what metas are so far, and how many nodes were reduced -/
structure UM (sz : List Int) (Bk pu : Nat) (As : Option Addr) (cs : Nat) (bs : List BT) (N : Nat) (w : World) : Prop where
  ptr : Box w pu 42 #[.slice (some ⟨Bk, 0, none⟩) sz.length sz.length, .slice As sz.length cs, .int .i64 N]
  row : ∃ c, Box w Bk 35 c ∧ c.size = sz.length * 4 ∧ BCs (fun b => ¬ UX Bk pu b) w c bs
  ne : Bk ≠ pu
  sizes : LI (UX Bk pu) w sz As
theorem UM.keep {sz : List Int} {Bk pu : Nat} {As : Option Addr} {cs : Nat} {bs : List BT} {N : Nat} {w w' : World} (h : UM sz Bk pu As cs bs N w) (hb : Below w.heap.size w w') : UM sz Bk pu As cs bs N w' := by
  obtain ⟨c, h1, h2, h3⟩ := h.row
  refine ⟨h.ptr.keep hb h.ptr.lt, ⟨c, h1.keep hb h1.lt, h2, fun i x hx => ?_⟩, h.ne, h.sizes.fr (Fr.below hb)⟩
  obtain ⟨k, g, A, n, c, e0, e1, e2, e3, hr⟩ := h3 i x hx
  exact ⟨k, g, A, n, c, e0, e1, e2, e3, RX.fr hr (Fr.below hb)⟩
theorem UM.lt {sz : List Int} {Bk pu : Nat} {As : Option Addr} {cs : Nat} {bs : List BT} {N : Nat} {w : World} (h : UM sz Bk pu As cs bs N w) : Bk < w.heap.size ∧ pu < w.heap.size := by
  obtain ⟨c, h1, h2, h3⟩ := h.row
  exact ⟨h1.lt, h.ptr.lt⟩
theorem UM.cells {sz : List Int} {Bk pu : Nat} {As : Option Addr} {cs : Nat} {bs : List BT} {N : Nat} {w : World} (h : UM sz Bk pu As cs bs N w) (i : Nat) (x : BT) (hx : bs[i]? = some x) :
    ∃ k g A n c, w.cell? ⟨Bk, i * 4, none⟩ = some (.bool x.1) ∧ w.cell? ⟨Bk, i * 4 + 1, none⟩ = some (.int .i64 k) ∧ w.cell? ⟨Bk, i * 4 + 2, none⟩ = some (.int .i64 g) ∧ w.cell? ⟨Bk, i * 4 + 3, none⟩ = some (.slice A n c) ∧ RX (UX Bk pu) w x.2 (.agg #[.int .i64 k, .int .i64 g, .slice A n c]) := by
  obtain ⟨c, hb, hs, hc⟩ := h.row
  obtain ⟨k, g, A, n, c, e0, e1, e2, e3, hr⟩ := hc i x hx
  exact ⟨k, g, A, n, c, (hb.cell _).trans e0, (hb.cell _).trans e1, (hb.cell _).trans e2, (hb.cell _).trans e3, hr⟩
theorem Fr.putJ {X : Nat → Prop} {w w' : World} (h : Fr X w w') {a : Addr} (ha : a.block < w.heap.size → X a.block) (v : Value) : Fr X w (w'.setCell a v) :=
  ⟨h.os, h.tape, h.output, by simpa [World.setCell] using h.size, fun k hk hx => (Below.heap_setCell _ _ _ _ (fun e => by subst e; exact hx (ha hk))).trans (h.block k hk hx)⟩
/-- the state's block -/
abbrev PB (sz : List Int) (Bk pu : Nat) (As : Option Addr) (cs : Nat) (w : World) (N : Nat) : Prop := Box w pu 42 #[.slice (some ⟨Bk, 0, none⟩) sz.length sz.length, .slice As sz.length cs, .int .i64 N]
/-- only the state's block is written -/
abbrev FrP (pu : Nat) (w w' : World) : Prop := Fr (fun b => b = pu) w w'
theorem FrP.ux {Bk pu : Nat} {w w' : World} (h : FrP pu w w') : Fr (UX Bk pu) w w' := h.mono fun _ _ e => .inr e
/-- the count alone has turned -/
theorem UM.after {sz : List Int} {Bk pu : Nat} {As : Option Addr} {cs : Nat} {bs : List BT} {N N' : Nat} {w w' : World} (h : UM sz Bk pu As cs bs N w) (f : FrP pu w w') (hp : PB sz Bk pu As cs w' N') : UM sz Bk pu As cs bs N' w' := by
  obtain ⟨c, h1, h2, h3⟩ := h.row
  refine ⟨hp, ⟨c, h1.fr f h.ne, h2, fun i x hx => ?_⟩, h.ne, h.sizes.fr f.ux⟩
  obtain ⟨k, g, A, n, c, e0, e1, e2, e3, hr⟩ := h3 i x hx
  exact ⟨k, g, A, n, c, e0, e1, e2, e3, RX.fr hr f.ux⟩
/-- one more node was reduced -/
theorem PB.count {sz : List Int} {Bk pu : Nat} {As : Option Addr} {cs : Nat} {N : Nat} {w : World} (h : PB sz Bk pu As cs w N) (N' : Nat) : PB sz Bk pu As cs (w.setCell ⟨pu, 2, none⟩ (.int .i64 N')) N' ∧ FrP pu w (w.setCell ⟨pu, 2, none⟩ (.int .i64 N')) := by
  refine ⟨?_, (Fr.refl (fun b => b = pu) w).putJ (a := ⟨pu, 2, none⟩) (fun _ => rfl) _⟩
  have := h.setAt (i := 2) (.int .i64 N')
  simpa using this

set_option maxRecDepth 100000 in
set_option maxHeartbeats 8000000 in
theorem uSomethingC {sz : List Int} {Bk pu : Nat} {As : Option Addr} {cs : Nat} {bs : List BT} {N : Nat} {X : Nat → Prop} (k h : Int) (xs : List T) (A : Option Addr) (n c : Nat) (w : World) (hst : UM sz Bk pu As cs bs N w) (hl : bs.length = sz.length) (h200 : sz.length ≤ 200) (hk : k = 6 → 0 ≤ h) :
    Calls Tryz.prog 35 #[.pointer (some ⟨pu, 0, none⟩), .agg #[.int .i64 k, .int .i64 h, .slice A n c]] w fun e w' => e = .returned (.bool (som bs (.node k h xs))) ∧ Below w.heap.size w w' := by
  obtain ⟨W, hW⟩ : ∃ W, w.alloc (.cells #[.int .i64 k, .int .i64 h, .slice A n c] 24) = W := ⟨_, rfl⟩
  have hb : Below w.heap.size w W := by rw [← hW]; exact (Below.refl _ _).alloc (Nat.le_refl _) _
  have xP : Box W w.heap.size 24 #[.int .i64 k, .int .i64 h, .slice A n c] := by rw [← hW]; exact Box.new _ _ _
  have hst' := hst.keep hb
  obtain ⟨p0, p1, p2⟩ := hst'.ptr.three
  obtain ⟨R, hR⟩ : ∃ R, som bs (.node k h xs) = R := ⟨_, rfl⟩
  rw [hR]
  have HW := Lib.hid hW; clear hW
  obtain ⟨a0, a1, a2⟩ := xP.three
  by_cases hk6 : k = 6
  · subst hk6
    have h0 := hk rfl
    by_cases hhN : (sz.length : Int) ≤ h
    · have hd : decide (h < (sz.length : Int)) = false := by simpa using hhN
      have hR' : R = false := by rw [← hR, som, thI, hl, decide_eq_false (p := h < (sz.length : Int)) (by omega)]; simp
      have HR := Lib.hid hR'; clear hR hR' hst hst'
      go_enter Tryz.func35, Tryz.ntmps35
      go_wp2_with fail
      rw [HW.out]
      clear HW
      have q0 := Past.cell a0
      have q1 := Past.cell a1
      have t0 := Past.cell p0
      refine wp_region_past (by kernel_rfl) (by kernel_rfl) ?_
      repeat (go_big_quiet_step (fail))
      refine wpQuiet_nil ?_
      rintro _ ⟨z1, rfl⟩
      obtain ⟨W4, hb4⟩ := z1
      dsimp only
      clear q0 q1 t0 p0 p1 p2 a0 a1 a2
      go_wp2_with fail
      go_ret
      exact ⟨by rw [HR.out]; rfl, hb.trans (hb4.mono hb.size)⟩
    · have hd : decide (h < (sz.length : Int)) = true := by simp; omega
      obtain ⟨x, hx⟩ := at_of (k := h.toNat) hl (by omega)
      have hgx : bs.getD h.toNat noB = x := by rw [List.getD_eq_getElem?_getD, hx]; rfl
      obtain ⟨k3, h3, A3, n3, c3, d0, d1, d2, d3, hr⟩ := hst'.cells _ x hx
      have hR' : R = x.1 := by rw [← hR, som, thI, hl, hgx, decide_eq_true (p := h < (sz.length : Int)) (by omega)]; simp
      have HR := Lib.hid hR'; clear hR hR' hst hst' hgx hx hr d1 d2 d3
      obtain ⟨bx, tx⟩ := x
      dsimp only at d0 HR
      go_enter Tryz.func35, Tryz.ntmps35
      go_wp2_with fail
      rw [HW.out]
      clear HW
      have q0 := Past.cell a0
      have q1 := Past.cell a1
      have t0 := Past.cell p0
      have r0 := Past.cell d0
      refine wp_region_past (by kernel_rfl) (by kernel_rfl) ?_
      repeat (go_big_quiet_step (fail))
      refine wpQuiet_nil ?_
      rintro _ ⟨z1, rfl⟩
      obtain ⟨W4, hb4⟩ := z1
      dsimp only
      clear q0 q1 t0 r0 p0 p1 p2 a0 a1 a2 d0
      go_wp2_with fail
      go_ret
      exact ⟨by rw [HR.out]; rfl, hb.trans (hb4.mono hb.size)⟩
  · have hd : (k == 6) = false := by simpa using hk6
    have hR' : R = false := by rw [← hR, som, decide_eq_false hk6]; rfl
    have HR := Lib.hid hR'; clear hR hR' hst hst'
    go_enter Tryz.func35, Tryz.ntmps35
    go_wp2_with fail
    rw [HW.out]
    clear HW
    have q0 := Past.cell a0
    refine wp_region_past (by kernel_rfl) (by kernel_rfl) ?_
    repeat (go_big_quiet_step (fail))
    refine wpQuiet_nil ?_
    rintro _ ⟨z1, rfl⟩
    obtain ⟨W4, hb4⟩ := z1
    dsimp only
    clear q0 p0 p1 p2 a0 a1 a2
    go_wp2_with fail
    go_ret
    exact ⟨by rw [HR.out]; rfl, hb.trans (hb4.mono hb.size)⟩
end Go.Proofs.YtnnmnkgogiabiaaGreat

/-
  Contract of package unify's reduce. No statement is proved here.
-/
namespace Go.Proofs.YtnnmnkgogiabiaaGreat
open Go.ChangeShapes Go.WideShapes Go.ChangeAt Go.RowKit
set_option linter.unusedVariables false

/-- an answer: a term and an error -/
def UE (X : Nat → Prop) (sz : List Int) (Bk pu : Nat) (As : Option Addr) (cs : Nat) (w : World) (R : Res) (e : Ending) (w' : World) : Prop :=
  FrP pu w w' ∧ (∃ N', PB sz Bk pu As cs w' N') ∧ match R with
  | .error ec => e = .returned (.tuple #[.agg #[.int .i64 0, .int .i64 0, .slice none 0 0], .int .i64 ec]) ∧ ec ≠ 0
  | .ok (t, N) => ∃ k h A n c, e = .returned (.tuple #[.agg #[.int .i64 k, .int .i64 h, .slice A n c], .int .i64 0]) ∧ RX X w' t (.agg #[.int .i64 k, .int .i64 h, .slice A n c]) ∧ PB sz Bk pu As cs w' N
/-- what holds at the head of reduce's loop -/
structure RdI (X : Nat → Prop) (sz : List Int) (Bk pu : Nat) (As : Option Addr) (cs : Nat) (bs : List BT) (m : Int) (R : Res) (w wr : World) (t : T) (N f : Nat) (k h : Int) (A : Option Addr) (n c : Nat) : Prop where
  box : Box wr w.heap.size 24 #[.int .i64 k, .int .i64 h, .slice A n c]
  res : Box wr (w.heap.size + 1) 24 #[.int .i64 0, .int .i64 0, .slice none 0 0]
  rt : RX (YV X w.heap.size) wr t (.agg #[.int .i64 k, .int .i64 h, .slice A n c])
  ptr : PB sz Bk pu As cs wr N
  fr : FrP pu w wr
  ok : okU sz bs N
  wt : WT (kN N + m) t
  fu : 40001 ≤ f + N
  hi : N ≤ 40000
  eq : R = rdU bs m f t N
/-- how many nodes may still be reduced -/
def muU (pu : Nat) (w : World) : Nat := match w.cell? ⟨pu, 2, none⟩ with | some (.int _ x) => 40001 - x.toNat | _ => 0
theorem muU_eq {pu : Nat} {w : World} {N : Nat} (h : w.cell? ⟨pu, 2, none⟩ = some (.int .i64 N)) : muU pu w = 40001 - N := by
  simp [muU, h]
theorem rdU_big {bs : List BT} {m : Int} {f : Nat} {t : T} {N : Nat} (h : 40000 < N + 1) : rdU bs m f t N = .error 4 := by
  cases f with
  | zero => rw [rdU]
  | succ f => obtain ⟨k, g, xs⟩ := t; rw [rdU, if_pos h]
theorem rdU_stop {bs : List BT} {m : Int} {f : Nat} {k h : Int} {xs : List T} {N : Nat} (h1 : ¬ 40000 < N + 1) (hf : 40001 ≤ f + N) (h2 : som bs (.node k h xs) = false) : rdU bs m f (.node k h xs) N = .ok (.node k h xs, N + 1) := by
  obtain ⟨g, rfl⟩ : ∃ g, f = g + 1 := ⟨f - 1, by omega⟩
  rw [rdU, if_neg h1, if_neg (by rw [h2]; exact Bool.false_ne_true)]
theorem rdU_step {bs : List BT} {m : Int} {f : Nat} {k h : Int} {xs : List T} {N : Nat} (h1 : ¬ 40000 < N + 1) (hf : 40001 ≤ f + N) (h2 : som bs (.node k h xs) = true) :
    ∃ g, f = g + 1 ∧ rdU bs m f (.node k h xs) N = if apE (isT bs h) xs m = 0 then rdU bs m g (apT (isT bs h) xs m) (N + 1) else .error (apE (isT bs h) xs m) := by
  obtain ⟨g, rfl⟩ : ∃ g, f = g + 1 := ⟨f - 1, by omega⟩
  exact ⟨g, rfl, by rw [rdU, if_neg h1, if_pos h2]⟩
/-- a term on the way is light enough for Apply -/
theorem WT.lo {N : Nat} {m : Int} {t : T} (h : WT (kN N + m) t) (hN : N ≤ 40001) (hm : m ≤ 1000000) : LoT t := okT_mono (by unfold kN; omega) _ h.ok

/-- what a meta that is something is, under its Args -/
theorem red_wt {sz : List Int} {bs : List BT} {m : Int} {N : Nat} {g : Int} {xs : List T} (hb : okU sz bs N) (ht : WT (kN N + m) (.node 6 g xs)) (hm : 0 ≤ m) (hs : som bs (.node 6 g xs) = true) (he : apE (isT bs g) xs m = 0) : WT (kN (N + 1) + m) (apT (isT bs g) xs m) := by
  obtain ⟨_, h1, h2, h3⟩ := hb.is hs
  obtain ⟨h4, h5⟩ := h3 (ht.pos rfl)
  have hsz := hb.szs g.toNat
  have hp := kN_pos N
  refine ⟨(my_nd (apT_my he)).1, (my_nd (apT_my he)).2, ?_⟩
  refine apT_lv hm (by rw [kN_succ]; omega) (fun x hx => ?_) (lv_mono (by rw [kN_succ]; omega) _ h5.low)
  obtain ⟨j, hj⟩ := List.mem_iff_getElem?.1 hx
  have := (ht.arg hj).low
  rw [bd_bind (by omega) (by omega), Int.add_zero] at this
  exact lv_mono (by rw [kN_succ]; omega) _ this

set_option maxRecDepth 100000 in
set_option maxHeartbeats 8000000 in
theorem uReduceC {X : Nat → Prop} {sz : List Int} {Bk pu : Nat} {As : Option Addr} {cs : Nat} {bs : List BT} (m : Int) (f : Nat) (t : T) (N : Nat) (k h : Int) (A : Option Addr) (n c : Nat) (w : World) (hst : UM sz Bk pu As cs bs N w) (hok : okU sz bs N) (ht : WT (kN N + m) t) (hm : 0 ≤ m) (hm2 : m ≤ 100000) (hf : 40001 ≤ f + N) (hN : N ≤ 40000)
    (hX1 : ∀ b, UX Bk pu b → X b) (hX2 : ∀ b, X b → b < w.heap.size) (hr : RX X w t (.agg #[.int .i64 k, .int .i64 h, .slice A n c])) :
    Calls Tryz.prog 24 #[.pointer (some ⟨pu, 0, none⟩), .agg #[.int .i64 k, .int .i64 h, .slice A n c], .int .i64 m] w (UE X sz Bk pu As cs w (rdU bs m f t N)) := by
  obtain ⟨W, hW⟩ : ∃ W, (w.alloc (.cells #[.int .i64 k, .int .i64 h, .slice A n c] 24)).alloc (.cells #[.int .i64 0, .int .i64 0, .slice none 0 0] 24) = W := ⟨_, rfl⟩
  have hb : Below w.heap.size w W := by rw [← hW]; exact ((Below.refl _ _).alloc (Nat.le_refl _) _).alloc (by simp) _
  have x0 : Box W w.heap.size 24 #[.int .i64 k, .int .i64 h, .slice A n c] := by rw [← hW]; exact (Box.new _ _ _).alloc _
  have x1 : Box W (w.heap.size + 1) 24 #[.int .i64 0, .int .i64 0, .slice none 0 0] := by rw [← hW]; exact (Box.new (w.alloc _) _ _).at (by simp)
  have hlt := hst.lt
  have hr' : RX (YV X w.heap.size) W t (.agg #[.int .i64 k, .int .i64 h, .slice A n c]) := by
    refine RdF.moveX (fun b hb' hl => ⟨fun e => ?_, hb.block b hl⟩) _ _ hr
    rcases e with e | e | e
    · exact hb' e
    · omega
    · omega
  obtain ⟨R, hR⟩ : ∃ R, R = rdU bs m f t N := ⟨_, rfl⟩
  rw [← hR]
  have HI : Hid (RdI X sz Bk pu As cs bs m R w W t N f k h A n c) := Lib.hid ⟨x0, x1, hr', hst.ptr.keep hb hst.ptr.lt, Fr.below hb, hok, ht, hf, hN, hR⟩
  have HST := Lib.hid hst
  have HX1 := Lib.hid hX1; clear hX1
  have HX2 := Lib.hid hX2; clear hX2
  clear hr hr' hst hok ht hf hN x0 x1 hb hR
  have HW := Lib.hid hW; clear hW
  go_enter Tryz.func24, Tryz.ntmps24
  go_wp2_with fail
  rw [HW.out]
  clear HW
  go_loopw [7] (fun av wr => av = .int .i64 0 ∧ ∃ (t' : T) (N' f' : Nat) (k h : Int) (A : Option Addr) (n c : Nat), Hid (RdI X sz Bk pu As cs bs m R w wr t' N' f' k h A n c)) (fun _ wr => muU pu wr)
  case atStart => exact ⟨rfl, t, N, f, k, h, A, n, c, HI⟩
  case round =>
    clear HI
    obtain ⟨rfl, t', N', f', k', h', A', n', c', HI⟩ := hrel
    have hN := HI.out.hi
    obtain ⟨s, hs⟩ : ∃ s : Int, ((N' + 1 : Nat) : Int) = s := ⟨_, rfl⟩
    have hw1 : IntKind.i64.wrap ((N' : Int) + 1) = s := by rw [wrapEq, wrap_small (by omega) (by omega)]; omega
    obtain ⟨p0, p1, p2⟩ := HI.out.ptr.three
    have fp := HI.out.ptr.frozen 2
    have hsz := HI.out.fr.size
    have hcnt := HI.out.ptr.count (N' + 1)
    have HPB := Lib.hid hcnt.1
    have HFR := Lib.hid (HI.out.fr.trans hcnt.2 fun _ _ e => e)
    have HFR1 := Lib.hid hcnt.2
    have nX0 : w.heap.size ≠ pu := by omega
    have nX1 : w.heap.size + 1 ≠ pu := by omega
    have b0 := HI.out.box.fr hcnt.2 nX0
    have b1 := HI.out.res.fr hcnt.2 nX1
    clear hcnt
    rw [hs] at HPB HFR HFR1 b0 b1
    have HB0 := Lib.hid b0
    have HB1 := Lib.hid b1
    obtain ⟨c0, c1, c2⟩ := b0.three
    obtain ⟨r0, r1, r2⟩ := b1.three
    have g0 := b1.frozen 0
    have g1 := b1.frozen 1
    have g2 := b1.frozen 2
    have l1 := b1.lt
    clear b0 b1
    obtain ⟨q0, q1, q2⟩ := HPB.out.three
    rw [hs] at q2
    have HS := Lib.hid hs; clear hs
    by_cases hgt : 40000 < N' + 1
    · have d : decide ((40000 : Int) < s) = true := by have := HS.out; simp; omega
      have heq := Lib.hid (HI.out.eq.trans (rdU_big hgt))
      clear hgt
      go_wp2_with fail
      refine bodyPost_ret (v := .tuple #[.agg #[.int .i64 0, .int .i64 0, .slice none 0 0], .int .i64 4]) (by simp [results, Tryz.results24, go_sem, r0, r1, r2]) rfl ?_
      rw [heq.out]
      exact ⟨HFR.out.set3 (fun h => by omega) _ _ _, ⟨_, (heap_other3 _ _ _ _ _ _ (by omega)).trans HPB.out⟩, rfl, by decide⟩
    · have d : decide ((40000 : Int) < s) = false := by have := HS.out; simp; omega
      have HGT := Lib.hid hgt; clear hgt
      obtain ⟨kt, gt, xs⟩ := t'
      have hkt := RdF_node.1 HI.out.rt
      obtain ⟨Aq, nq, cq, eq, wfk, wfh, hl, hnc, hcm, hxs⟩ := hkt
      have eq' : k' = kt ∧ h' = gt ∧ A' = Aq ∧ n' = nq ∧ c' = cq := by simpa using eq
      obtain ⟨rfl, rfl, rfl, rfl, rfl⟩ := eq'
      clear eq
      have HXS := Lib.hid (And.intro hl (And.intro hnc hcm)); clear hl hnc hcm hxs wfk wfh
      go_wp2_with fail
      generalize wr.setCell ⟨pu, 2, none⟩ (.int .i64 s) = w0 at *
      have HRW : Hid (∀ w1, Below w0.heap.size w0 w1 → ∀ b, b < wr.heap.size → b ≠ pu → w1.heap[b]? = wr.heap[b]?) := Lib.hid fun w1 h1 b hl hx => (h1.block b (by have := HFR1.out.size; omega)).trans (HFR1.out.block b hl hx)
      refine (uSomethingC (N := N' + 1) (X := UX Bk pu) k' h' xs A' n' c' w0 (HST.out.after HFR.out HPB.out) HI.out.ok.len HI.out.ok.few (fun e => HI.out.wt.pos e)).mono ?_
      obtain ⟨S, hS⟩ : ∃ S, som bs (.node k' h' xs) = S := ⟨_, rfl⟩
      rw [hS]
      have HSO := Lib.hid hS; clear hS
      rintro e w1 ⟨rfl, hb1⟩
      clear p0 p1 p2 fp c0 c1 c2 r0 r1 r2 g0 g1 g2 l1 q0 q1 q2
      have bp := HPB.out.keep hb1 HPB.out.lt
      have bw0 := HB0.out.keep hb1 HB0.out.lt
      have bw1 := HB1.out.keep hb1 HB1.out.lt
      have HB0 := Lib.hid bw0
      have HB1 := Lib.hid bw1
      have HPB := Lib.hid bp
      have HFR := Lib.hid (HFR.out.then hb1)
      have hrt1 : RX (YV X w.heap.size) w1 (.node k' h' xs) (.agg #[.int .i64 k', .int .i64 h', .slice A' n' c']) := RdF.moveX (fun b hb' hl => ⟨hb', HRW.out w1 hb1 b hl fun e => hb' (.inl (HX1.out _ (.inr e)))⟩) _ _ HI.out.rt
      have HRT := Lib.hid hrt1; clear hrt1
      have s1 : w.heap.size + 1 < w1.heap.size := bw1.lt
      clear hb1 HRW HFR1
      cases S
      · have heq := Lib.hid (HI.out.eq.trans (rdU_stop HGT.out HI.out.fu HSO.out))
        obtain ⟨c0, c1, c2⟩ := bw0.three
        obtain ⟨r0, r1, r2⟩ := bw1.three
        have g0 := bw1.frozen 0
        have g1 := bw1.frozen 1
        have g2 := bw1.frozen 2
        clear bw0 bw1 bp
        go_wp2_with fail
        refine bodyPost_ret (v := .tuple #[.agg #[.int .i64 k', .int .i64 h', .slice A' n' c'], .int .i64 0]) (by simp [results, Tryz.results24, go_sem, r0, r1, r2]) rfl ?_
        rw [heq.out]
        refine ⟨HFR.out.set3 (fun h => by omega) _ _ _, ⟨_, (heap_other3 _ _ _ _ _ _ (by omega)).trans HPB.out⟩, k', h', A', n', c', rfl, ?_, ?_⟩
        · exact RdF.moveX (fun b hb' hl => ⟨fun e => hb' (.inl e), heap_other3 _ _ _ _ _ _ (fun e => hb' (.inr (.inr e)))⟩) _ _ HRT.out
        · have := HPB.out
          exact (heap_other3 _ _ _ _ _ _ (by omega)).trans this
      · obtain ⟨rfl, hjl, hj1, hj2⟩ := (HI.out.ok.mono (Nat.le_succ N')).is HSO.out
        obtain ⟨hj3, hj4⟩ := hj2 (HI.out.wt.pos rfl)
        obtain ⟨j, rfl⟩ : ∃ j : Nat, h' = j := ⟨h'.toNat, by have := HI.out.wt.pos rfl; omega⟩
        rw [Int.toNat_natCast] at hj3 hj4
        obtain ⟨kb, gb, Ab, nb, cb, d0, d1, d2, d3, hrb⟩ := (HST.out.after HFR.out HPB.out).cells j _ hj3
        dsimp only at hrb
        obtain ⟨g, hg, hstep⟩ := rdU_step HGT.out HI.out.fu HSO.out
        have HEQ := Lib.hid (HI.out.eq.trans hstep); clear hstep
        have HG := Lib.hid hg; clear hg
        have hjn : (j : Int) < sz.length := by have := HI.out.ok.len; omega
        have hj0 : (0 : Int) ≤ j := by omega
        have HAP : Hid (∀ W', Hid (Below w1.heap.size w1 W') → Calls Tryz.prog 36 #[.agg #[.int .i64 kb, .int .i64 gb, .slice Ab nb cb], .agg #[.slice A' n' c', .int .i64 m]] W' fun e w2 => ∃ k2 h2 A2 n2 c2, e = .returned (.tuple #[.agg #[.int .i64 k2, .int .i64 h2, .slice A2 n2 c2], .int .i64 (apE (isT bs j) xs m)]) ∧ RdF (fun b => W'.heap.size ≤ b) w2 (apT (isT bs j) xs m) (.agg #[.int .i64 k2, .int .i64 h2, .slice A2 n2 c2]) ∧ Hid (Below w1.heap.size w1 w2) ∧ Below W'.heap.size W' w2) := Lib.hid fun W' h' => by
          obtain ⟨hl, hnc, hcm⟩ := HXS.out
          refine (ApplyC (t := isT bs j) (L := xs) (sh := m) (Rd.keep h'.out _ _ (RdF.rd _ _ hrb)) hl hnc hcm (fun i t ht => ?_) (fun _ => ?_) (fun x hx _ => ?_)).mono ?_
          · obtain ⟨Aq, nq, cq, eq, _, _, _, _, _, hxs⟩ := RdF_node.1 HRT.out
            have eq' : A' = Aq ∧ n' = nq ∧ c' = cq := by simpa using eq
            obtain ⟨rfl, rfl, rfl⟩ := eq'
            exact RdAt.keep h'.out (rdFAt_rd (hxs i t ht))
          · have hz := HI.out.ok.szs j
            exact WT.lo (m := sz.getD j 0) (N := N' + 1) hj4 (by omega) (by omega)
          · obtain ⟨i, hi⟩ := List.mem_iff_getElem?.1 hx
            have := HI.out.wt.arg hi
            rw [bd_bind (by omega) (by omega), Int.add_zero] at this
            exact WT.lo (N := N') this (by omega) (by omega)
          · rintro e w2 ⟨k2, h2, A2, n2, c2, rfl, hrd, hb2⟩
            exact ⟨k2, h2, A2, n2, c2, rfl, hrd, Lib.hid (h'.out.trans (hb2.mono h'.out.size)), hb2⟩
        clear hrb hj1 hj2 hj3 hj4
        obtain ⟨p0, p1, p2⟩ := bp.three
        obtain ⟨c0, c1, c2⟩ := bw0.three
        have lp := bp.lt
        have l0 := bw0.lt
        have HK : Hid (∀ w', Hid (Below w1.heap.size w1 w') → ((w'.cell? ⟨pu, 0, none⟩ = some (.slice (some ⟨Bk, 0, none⟩) sz.length sz.length) ∧ w'.cell? ⟨w.heap.size, 1, none⟩ = some (.int .i64 j) ∧ w'.cell? ⟨w.heap.size, 2, none⟩ = some (.slice A' n' c') ∧ w'.cell? ⟨Bk, j * 4 + 1, none⟩ = some (.int .i64 kb) ∧ w'.cell? ⟨Bk, j * 4 + 2, none⟩ = some (.int .i64 gb) ∧ w'.cell? ⟨Bk, j * 4 + 3, none⟩ = some (.slice Ab nb cb)) ∧ Hid (Below w1.heap.size w1 w'))) := Lib.hid fun w' h' =>
          ⟨⟨(h'.out.cell lp).trans p0, (h'.out.cell l0).trans c1, (h'.out.cell l0).trans c2, (h'.out.cell (cell_lt d1)).trans d1, (h'.out.cell (cell_lt d2)).trans d2, (h'.out.cell (cell_lt d3)).trans d3⟩, h'⟩
        have hcu0 : Hid (Below w1.heap.size w1 w1.drew) := cur_drew
        obtain ⟨E, hE⟩ : ∃ E, apE (isT bs j) xs m = E := ⟨_, rfl⟩
        obtain ⟨U, hU⟩ : ∃ U, apT (isT bs j) xs m = U := ⟨_, rfl⟩
        rw [hE, hU] at HEQ
        rw [hE, hU] at HAP
        have HE := Lib.hid hE; clear hE
        have HU := Lib.hid hU; clear hU
        clear p0 p1 p2 c0 c1 c2 d0 d1 d2 d3 bp bw0 bw1
        go_wp2_with fail
        go_region_held3 (fun w' => (w'.cell? ⟨pu, 0, none⟩ = some (.slice (some ⟨Bk, 0, none⟩) sz.length sz.length) ∧ w'.cell? ⟨w.heap.size, 1, none⟩ = some (.int .i64 j) ∧ w'.cell? ⟨w.heap.size, 2, none⟩ = some (.slice A' n' c') ∧ w'.cell? ⟨Bk, j * 4 + 1, none⟩ = some (.int .i64 kb) ∧ w'.cell? ⟨Bk, j * 4 + 2, none⟩ = some (.int .i64 gb) ∧ w'.cell? ⟨Bk, j * 4 + 3, none⟩ = some (.slice Ab nb cb)) ∧ Hid (Below w1.heap.size w1 w'))
          (first | exact HK.out _ (by assumption) | exact HK.out _ (cur_alloc (by assumption) _) | exact HK.out _ (cur_set3 (by assumption) (by omega) _ _ _))
          (first
            | (go_at_call 36
               with_reducible refine Calls.mono (HAP.out _ ?hh) ?_
               case hh => first | assumption | exact cur_alloc (by assumption) _
               rintro e w2 ⟨k2, h2, A2, n2, c2, rfl, hrx, hcu, hb8⟩
               first | (have zP := Box.keepC (cs := #[.int .i64 0, .int .i64 0, .slice none 0 0]) (ty := 24) (by first | exact zP | exact zP.alloc _ | exact (zP.alloc _).alloc _ | exact Box.new _ _ _ | exact (Box.new _ _ _).alloc _ | exact Box.drewI (Box.new _ _ _) | exact Box.drewI ((Box.new _ _ _).alloc _)) hb8; (try (with_reducible replace zP := zP.at1)); have lzhb8 := zP.lt) | skip
               first | (obtain ⟨z0, z1, z2⟩ := zP.three; have fz0 := zP.frozen 0; have fz1 := zP.frozen 1; have fz2 := zP.frozen 2) | skip
               have hs2 := hcu.out.size
               have HRX := Lib.hid hrx; clear hrx hb8))
        all_goals first
          | (obtain ⟨Wf, hWf⟩ : ∃ Wf, w2.alloc (.cells #[.int .i64 k2, .int .i64 h2, .slice A2 n2 c2] 24) = Wf := ⟨_, rfl⟩
             obtain ⟨pI, hpe⟩ : ∃ p, p = w2.heap.size := ⟨_, rfl⟩
             have xI : Box Wf pI 24 #[.int .i64 k2, .int .i64 h2, .slice A2 n2 c2] := by rw [hpe, ← hWf]; exact Box.new _ _ _
             have hbF : Below w1.heap.size w1 Wf := by rw [← hWf]; exact (cur_alloc (by assumption) _).out
             have hIl : w1.heap.size ≤ pI := by omega
             have hrf : RdF (fun b => w1.heap.size ≤ b) Wf U (.agg #[.int .i64 k2, .int .i64 h2, .slice A2 n2 c2]) := by
               rw [← hWf]
               exact RdF.moveX (fun b hb' hl => ⟨by simp at hb'; omega, Below.heap_alloc _ _ _ hl⟩) _ _ HRX.out
             rw [hWf, ← hpe]
             clear hWf hpe)
          | (obtain ⟨Wf, hWf⟩ : ∃ Wf, ((w2.setCell ⟨w1.heap.size, 0, none⟩ (.int .i64 k2)).setCell ⟨w1.heap.size, 1, none⟩ (.int .i64 h2)).setCell ⟨w1.heap.size, 2, none⟩ (.slice A2 n2 c2) = Wf := ⟨_, rfl⟩
             obtain ⟨pI, hpe⟩ : ∃ p, p = w1.heap.size := ⟨_, rfl⟩
             have xI : Box Wf pI 24 #[.int .i64 k2, .int .i64 h2, .slice A2 n2 c2] := by rw [hpe, ← hWf]; exact zP.put3 _ _ _
             have hbF : Below w1.heap.size w1 Wf := by rw [← hWf]; exact (cur_set3 (by assumption) (by omega) _ _ _).out
             have hIl : w1.heap.size ≤ pI := by omega
             have hrf : RdF (fun b => w1.heap.size ≤ b) Wf U (.agg #[.int .i64 k2, .int .i64 h2, .slice A2 n2 c2]) := by
               rw [← hWf]
               exact RdF.moveX (fun b hb' hl => ⟨by simp at hb'; omega, heap_other3 _ _ _ _ _ _ (by simp at hb'; omega)⟩) _ _ HRX.out
             rw [hWf, ← hpe]
             clear hWf hpe)
        all_goals
          try clear zP z0 z1 z2 fz0 fz1 fz2
          clear HRX hcu hs2 HAP HK hcu0
          have bp := HPB.out.keep hbF HPB.out.lt
          have bw0 := HB0.out.keep hbF HB0.out.lt
          have bw1 := HB1.out.keep hbF HB1.out.lt
          have HPB := Lib.hid bp
          have HB0 := Lib.hid bw0
          have HB1 := Lib.hid bw1
          have HFR := Lib.hid (HFR.out.then hbF)
          have hsF := hbF.size
          have HRF := Lib.hid hrf; clear hrf
          by_cases he0 : E = 0
          · have hd : (E != 0) = false := by simpa using he0
            have heq := Lib.hid (HEQ.out.trans (if_pos he0)); clear HEQ
            have HMY := Lib.hid (show myB U = true by rw [← HU.out]; exact apT_my (by rw [HE.out]; exact he0))
            have HE0 := Lib.hid he0; clear he0
            obtain ⟨y0, y1, y2⟩ := bw0.three
            obtain ⟨i0, i1, i2⟩ := xI.three
            have f0 := bw0.frozen 0
            have f1 := bw0.frozen 1
            have f2 := bw0.frozen 2
            have lb0 := bw0.lt
            have q0 := bp.three
            clear bw0 bw1 bp
            go_wp2_with fail
            go_roundw
            case rel =>
              refine ⟨rfl, U, N' + 1, g, k2, h2, A2, n2, c2, Lib.hid ⟨HB0.out.put3 _ _ _, (heap_other3 _ _ _ _ _ _ (by omega)).trans HB1.out, ?_, ?_, HFR.out.set3 (fun h => by omega) _ _ _, HI.out.ok.mono (by omega), ?_, by have := HG.out; have := HI.out.fu; omega, by have := HGT.out; omega, heq.out⟩⟩
              · refine RdF.moveX (fun b hb' hl => ⟨fun e => ?_, heap_other3 _ _ _ _ _ _ (by omega)⟩) _ _ HRF.out
                rcases e with e | e | e
                · have := HX2.out b e; omega
                · omega
                · omega
              · have := HPB.out
                rw [← HS.out] at *
                exact (heap_other3 _ _ _ _ _ _ (by omega)).trans this
              · have := red_wt HI.out.ok HI.out.wt hm HSO.out (by rw [HE.out]; exact HE0.out)
                rw [HU.out] at this
                exact this
            case measure =>
              have e1 : muU pu wr = 40001 - N' := muU_eq (HI.out.ptr.cell 2)
              have e2 : Box (((Wf.setCell ⟨w.heap.size, 0, none⟩ (.int .i64 k2)).setCell ⟨w.heap.size, 1, none⟩ (.int .i64 h2)).setCell ⟨w.heap.size, 2, none⟩ (.slice A2 n2 c2)) pu 42 #[.slice (some ⟨Bk, 0, none⟩) sz.length sz.length, .slice As sz.length cs, .int .i64 ((N' + 1 : Nat) : Int)] := (heap_other3 _ _ _ _ _ _ (by omega)).trans HPB.out
              have e3 := muU_eq (N := N' + 1) (e2.cell 2)
              rw [e1, e3]
              omega
          · have hd : (E != 0) = true := by simpa using he0
            have heq := Lib.hid (HEQ.out.trans (if_neg he0)); clear HEQ
            obtain ⟨r0, r1, r2⟩ := bw1.three
            have g0 := bw1.frozen 0
            have g1 := bw1.frozen 1
            have g2 := bw1.frozen 2
            clear bw0 bw1 bp
            go_wp2_with fail
            refine bodyPost_ret (v := .tuple #[.agg #[.int .i64 0, .int .i64 0, .slice none 0 0], .int .i64 E]) (by simp [results, Tryz.results24, go_sem, r0, r1, r2]) rfl ?_
            rw [heq.out]
            exact ⟨HFR.out.set3 (fun h => by omega) _ _ _, ⟨_, (heap_other3 _ _ _ _ _ _ (by omega)).trans HPB.out⟩, rfl, he0⟩
end Go.Proofs.YtnnmnkgogiabiaaGreat

/-
  Package unify's closures, and what resolve and resolveAll tell. No statement is proved here.
-/
namespace Go.Proofs.YtnnmnkgogiabiaaGreat
open Go.ChangeShapes Go.WideShapes Go.ChangeAt Go.RowKit
set_option linter.unusedVariables false

/-- resolve's answer: a term of new blocks, and an error -/
def UR (sz : List Int) (Bk pu : Nat) (As : Option Addr) (cs : Nat) (w : World) (R : Res) (e : Ending) (w' : World) : Prop :=
  FrP pu w w' ∧ (∃ N', PB sz Bk pu As cs w' N') ∧ match R with
  | .error ec => e = .returned (.tuple #[.agg #[.int .i64 0, .int .i64 0, .slice none 0 0], .int .i64 ec]) ∧ ec ≠ 0
  | .ok (t, N) => ∃ k h A n c, e = .returned (.tuple #[.agg #[.int .i64 k, .int .i64 h, .slice A n c], .int .i64 0]) ∧ RdF (fun b => w.heap.size ≤ b) w' t (.agg #[.int .i64 k, .int .i64 h, .slice A n c]) ∧ PB sz Bk pu As cs w' N
/-- resolveAll's -/
def UL (sz : List Int) (Bk pu : Nat) (As : Option Addr) (cs : Nat) (w : World) (R : Except Int (List T × Nat)) (e : Ending) (w' : World) : Prop :=
  FrP pu w w' ∧ (∃ N', PB sz Bk pu As cs w' N') ∧ match R with
  | .error ec => e = .returned (.tuple #[.slice none 0 0, .int .i64 ec]) ∧ ec ≠ 0
  | .ok (ys, N) => ∃ A n c, e = .returned (.tuple #[.slice A n c, .int .i64 0]) ∧ RXL (fun b => b < w.heap.size) w' ys A n c ∧ PB sz Bk pu As cs w' N
/-- what one of them tells, a term in blocks from B on -/
def QR (sz : List Int) (Bk pu : Nat) (As : Option Addr) (cs : Nat) (R : Res) (B : Nat) (w' : World) (k h : Int) (A : Option Addr) (n c : Nat) (ec : Int) : Prop :=
  (∃ t N, R = .ok (t, N) ∧ ec = 0 ∧ RdF (fun b => B ≤ b) w' t (.agg #[.int .i64 k, .int .i64 h, .slice A n c]) ∧ PB sz Bk pu As cs w' N) ∨ (R = .error ec ∧ ec ≠ 0 ∧ ∃ N, PB sz Bk pu As cs w' N)
theorem QR.move {sz : List Int} {Bk pu : Nat} {As : Option Addr} {cs : Nat} {R : Res} {B B' : Nat} {w w' : World} {k h : Int} {A : Option Addr} {n c : Nat} {ec : Int} (q : QR sz Bk pu As cs R B w k h A n c ec) (hB : B' ≤ B) (hm : ∀ b, b < w.heap.size → (B ≤ b ∨ b = pu) → w'.heap[b]? = w.heap[b]?) : QR sz Bk pu As cs R B' w' k h A n c ec := by
  rcases q with ⟨t, N, h1, h2, h3, h4⟩ | ⟨h1, h2, N, h4⟩
  · exact .inl ⟨t, N, h1, h2, RdF.moveX (fun b hb hl => ⟨by omega, hm b hl (.inl hb)⟩) _ _ h3, (hm pu h4.lt (.inr rfl)).trans h4⟩
  · exact .inr ⟨h1, h2, N, (hm pu h4.lt (.inr rfl)).trans h4⟩
theorem QR.alloc {sz : List Int} {Bk pu : Nat} {As : Option Addr} {cs : Nat} {R : Res} {B B' : Nat} {w : World} {k h : Int} {A : Option Addr} {n c : Nat} {ec : Int} (q : QR sz Bk pu As cs R B w k h A n c ec) (hB : B' ≤ B) (o : Obj) : QR sz Bk pu As cs R B' (w.alloc o) k h A n c ec :=
  q.move hB fun b hl _ => Below.heap_alloc _ _ _ hl
theorem QR.set3 {sz : List Int} {Bk pu : Nat} {As : Option Addr} {cs : Nat} {R : Res} {B B' : Nat} {w : World} {k h : Int} {A : Option Addr} {n c : Nat} {ec : Int} (q : QR sz Bk pu As cs R B w k h A n c ec) (hB : B' ≤ B) {p : Nat} (hp : p < B) (hpu : p ≠ pu) (u0 u1 u2 : Value) : QR sz Bk pu As cs R B' (((w.setCell ⟨p, 0, none⟩ u0).setCell ⟨p, 1, none⟩ u1).setCell ⟨p, 2, none⟩ u2) k h A n c ec :=
  q.move hB fun b _ hb => heap_other3 _ _ _ _ _ _ (by omega)
/-- all of it in one -/
theorem UR.uni {sz : List Int} {Bk pu : Nat} {As : Option Addr} {cs : Nat} {w : World} {R : Res} {e : Ending} {w' : World} (h : UR sz Bk pu As cs w R e w') :
    ∃ k g A n c ec, e = .returned (.tuple #[.agg #[.int .i64 k, .int .i64 g, .slice A n c], .int .i64 ec]) ∧ FrP pu w w' ∧ QR sz Bk pu As cs R w.heap.size w' k g A n c ec := by
  obtain ⟨hf, hp0, h⟩ := h
  cases R with
  | error ec => obtain ⟨rfl, hne⟩ := h; exact ⟨0, 0, none, 0, 0, ec, rfl, hf, .inr ⟨rfl, hne, hp0⟩⟩
  | ok p => obtain ⟨t, N⟩ := p; obtain ⟨k, g, A, n, c, rfl, hr, hp⟩ := h; exact ⟨k, g, A, n, c, 0, rfl, hf, .inl ⟨t, N, rfl, rfl, hr, hp⟩⟩
theorem UL.uni {sz : List Int} {Bk pu : Nat} {As : Option Addr} {cs : Nat} {w : World} {R : Except Int (List T × Nat)} {e : Ending} {w' : World} (h : UL sz Bk pu As cs w R e w') :
    ∃ A n c ec, e = .returned (.tuple #[.slice A n c, .int .i64 ec]) ∧ FrP pu w w' ∧ ((∃ ys N, R = .ok (ys, N) ∧ ec = 0 ∧ RXL (fun b => b < w.heap.size) w' ys A n c ∧ PB sz Bk pu As cs w' N) ∨ (R = .error ec ∧ ec ≠ 0)) := by
  obtain ⟨hf, hp0, h⟩ := h
  cases R with
  | error ec => obtain ⟨rfl, hne⟩ := h; exact ⟨none, 0, 0, ec, rfl, hf, .inr ⟨rfl, hne⟩⟩
  | ok p => obtain ⟨ys, N⟩ := p; obtain ⟨A, n, c, rfl, hr, hp⟩ := h; exact ⟨A, n, c, 0, rfl, hf, .inl ⟨ys, N, rfl, rfl, hr, hp⟩⟩
/-- what a world behind is that the count alone has turned in -/
theorem cur_fr {pu : Nat} {W w : World} (h : Hid (Below W.heap.size W w)) : Hid (FrP pu W w) := Lib.hid (Fr.below h.out)
theorem cur_frB {pu : Nat} {W w w' : World} (h : Hid (FrP pu W w)) (k : Below w.heap.size w w') : Hid (FrP pu W w') := Lib.hid (h.out.then k)
theorem cur_frA {pu : Nat} {W w : World} (h : Hid (FrP pu W w)) (o : Obj) : Hid (FrP pu W (w.alloc o)) := Lib.hid (h.out.then ((Below.refl _ _).alloc (Nat.le_refl _) _))
theorem cur_fr3 {pu : Nat} {W w : World} (h : Hid (FrP pu W w)) {p : Nat} (hp : W.heap.size ≤ p) (u0 u1 u2 : Value) : Hid (FrP pu W (((w.setCell ⟨p, 0, none⟩ u0).setCell ⟨p, 1, none⟩ u1).setCell ⟨p, 2, none⟩ u2)) := Lib.hid (h.out.set3 (fun e => by omega) _ _ _)
/-- what is there already, and then the rest -/
def cnU (ys : List T) : Except Int (List T × Nat) → Except Int (List T × Nat)
  | .error e => .error e
  | .ok (zs, N) => .ok (ys ++ zs, N)
theorem cnU_nil (R : Except Int (List T × Nat)) : cnU [] R = R := by
  cases R with
  | error e => rfl
  | ok p => rfl
theorem cnU_cons (ys : List T) (y : T) (R : Except Int (List T × Nat)) : cnU ys (match R with | .error e => .error e | .ok (zs, N) => .ok (y :: zs, N)) = cnU (ys ++ [y]) R := by
  cases R with
  | error e => rfl
  | ok p => obtain ⟨zs, N⟩ := p; simp [cnU]
/-- what holds at the head of resolveAll's loop -/
structure RaU (sz : List Int) (Bk pu : Nat) (As : Option Addr) (cs : Nat) (bs : List BT) (A : T → Int → Nat → Res) (k : Int) (nn : Nat) (m : Int) (xs : List T) (N0 : Nat) (w : World) (j : Nat) (wr : World) (Av : Option Addr) (cv : Nat) (csv : List Value) (ys : List T) (N : Nat) : Prop where
  row : GRow (fun b => b < w.heap.size) wr w.heap.size (.slice Av j cv) j csv ys
  fr : FrP pu w wr
  ptr : PB sz Bk pu As cs wr N
  ok : okU sz bs N
  hi : N ≤ 40000
  lo : N0 ≤ N
  eq : rsL A k nn m xs 0 N0 = cnU ys (rsL A k nn m (xs.drop j) j N)

set_option maxRecDepth 100000 in
set_option maxHeartbeats 4000000 in
theorem uClo1C (k h : Int) (A : Option Addr) (n c : Nat) (hc : n ≤ c) (hm : c ≤ maxLen) (m : Int) (hm0 : 0 ≤ m) (hm1 : m ≤ 100000) (i : Nat) (hi : i < n) (pM pT : Nat) (w : World) (xM : Box w pM 3 #[.int .i64 m]) (xT : Box w pT 24 #[.int .i64 k, .int .i64 h, .slice A n c]) :
    Calls Tryz.prog 41 #[.int .i64 i, .pointer (some ⟨pM, 0, none⟩), .pointer (some ⟨pT, 0, none⟩)] w fun e w' => e = .returned (.int .i64 (m + bd k n i)) ∧ Below w.heap.size w w' := by
  have HBD := Lib.hid fun W' => boundC k h A n c hc hm i (by omega) W'
  have hbd := bd_cases k n i
  have hsum : IntKind.i64.wrap (m + bd k n i) = m + bd k n i := by rw [wrapEq, wrap_small (by omega) (by omega)]
  obtain ⟨b0, b1, b2⟩ := xT.three
  have d0 := (xM.one).1
  have hcur : Below w.heap.size w w.drew := (Below.refl _ w).drew
  clear hbd
  go_enter Tryz.func41, Tryz.ntmps41
  go_wp2_with fail
  go_region_held3 (fun w' => w'.cell? ⟨pM, 0, none⟩ = some (.int .i64 m) ∧ w'.cell? ⟨pT, 0, none⟩ = some (.int .i64 k) ∧ w'.cell? ⟨pT, 1, none⟩ = some (.int .i64 h) ∧ w'.cell? ⟨pT, 2, none⟩ = some (.slice A n c))
    (first | exact ⟨d0, b0, b1, b2⟩ | exact ⟨qM.one.1, qT.three.1, qT.three.2.1, qT.three.2.2⟩)
    (first
      | (go_at_call 37
         refine (HBD.out _).mono ?_
         rintro e w1 ⟨rfl, hb1⟩
         replace hcur := hcur.trans (hb1.mono hcur.size)
         have qT := xT.keep hcur xT.lt
         have qM := xM.keep hcur xM.lt
         clear hb1))
  go_wp2_with fail
  go_ret
  exact ⟨rfl, hcur⟩
set_option maxRecDepth 100000 in
set_option maxHeartbeats 4000000 in
theorem uClo2C (m : Int) (x : Value) (pM : Nat) (w : World) (xM : Box w pM 3 #[.int .i64 m]) :
    Calls Tryz.prog 52 #[x, .pointer (some ⟨pM, 0, none⟩)] w fun e w' => e = .returned (.int .i64 m) ∧ Below w.heap.size w w' := by
  have d0 := (xM.one).1
  go_enter Tryz.func52, Tryz.ntmps52
  go_wp2_with fail
  go_ret
  exact ⟨rfl, Below.refl _ _⟩
set_option maxRecDepth 100000 in
set_option maxHeartbeats 4000000 in
theorem uClo3C (m : Int) (x : Value) (pM : Nat) (w : World) (xM : Box w pM 3 #[.int .i64 m]) :
    Calls Tryz.prog 57 #[x, .pointer (some ⟨pM, 0, none⟩)] w fun e w' => e = .returned (.int .i64 m) ∧ Below w.heap.size w w' := by
  have d0 := (xM.one).1
  go_enter Tryz.func57, Tryz.ntmps57
  go_wp2_with fail
  go_ret
  exact ⟨rfl, Below.refl _ _⟩

end Go.Proofs.YtnnmnkgogiabiaaGreat

/-
  Contract of package unify's resolveAll, for each of its closures. No statement is proved here.
-/
namespace Go.Proofs.YtnnmnkgogiabiaaGreat
open Go.ChangeShapes Go.WideShapes Go.ChangeAt Go.RowKit
set_option linter.unusedVariables false

/-- what resolve tells, with a fuel -/
def ResT (sz : List Int) (Bk pu : Nat) (As : Option Addr) (cs : Nat) (bs : List BT) (f : Nat) : Prop :=
  ∀ (t : T) (m : Int) (N : Nat) (k h : Int) (A : Option Addr) (n c : Nat) (w : World), UM sz Bk pu As cs bs N w → okU sz bs N → WT (kN N + m) t → 0 ≤ m → m + f ≤ 100000 → 40001 ≤ f + N → N ≤ 40000 → RX (UX Bk pu) w t (.agg #[.int .i64 k, .int .i64 h, .slice A n c]) →
    Calls Tryz.prog 27 #[.pointer (some ⟨pu, 0, none⟩), .agg #[.int .i64 k, .int .i64 h, .slice A n c], .int .i64 m] w (UR sz Bk pu As cs w (rsU bs f t m N))
theorem rdFAt_ux {Bk pu : Nat} {w w' : World} {A : Option Addr} {i : Nat} {t : T} (f : FrP pu w w') (h : RdFAt (fun b => ¬ UX Bk pu b) w A i t) : RdFAt (fun b => ¬ UX Bk pu b) w' A i t :=
  RdFAt.moveX (fun b hb hl => ⟨hb, f.block b hl fun e => hb (.inr e)⟩) h

set_option maxRecDepth 100000 in
set_option maxHeartbeats 8000000 in
theorem uAll1C {sz : List Int} {Bk pu : Nat} {As : Option Addr} {cs : Nat} {bs : List BT} {f : Nat} {k m : Int} {nn : Nat} {xs : List T} {N0 : Nat} {A : Option Addr} {n c : Nat} {w : World} {p1 p2 : Value} (hst : UM sz Bk pu As cs bs N0 w) (hok : okU sz bs N0) (hx : RXL (UX Bk pu) w xs A n c)
    (hwt : ∀ j x, xs[j]? = some x → WT (kN N0 + m + bd k nn j) x) (hm : 0 ≤ m) (hm2 : m + f + 1 ≤ 100000) (hf : 40001 ≤ f + N0) (hN : N0 ≤ 40000) (hn40 : n ≤ 100000)
    (IH : ResT sz Bk pu As cs bs f)
    (HG : ∀ (i : Nat) (W : World), i < n → FrP pu w W → Calls Tryz.prog 41 #[.int .i64 i, p1, p2] W fun e w' => e = .returned (.int .i64 (m + bd k nn i)) ∧ Below W.heap.size W w') :
    Calls Tryz.prog 40 #[.pointer (some ⟨pu, 0, none⟩), .slice A n c, .func (.func 41) #[] #[p1, p2]] w (UL sz Bk pu As cs w (rsL (rsU bs f) k nn m xs 0 N0)) := by
  obtain ⟨hxl, hxc, hxm, hxa⟩ := hx
  have hMM := hxm
  unfold maxLen at hxm
  have HN := Lib.hid hxl; clear hxl
  have HX := Lib.hid hxa; clear hxa
  have HST := Lib.hid hst
  have HWT := Lib.hid hwt; clear hwt
  have HIH := Lib.hid IH; clear IH
  have HGG := Lib.hid HG; clear HG
  obtain ⟨i0, hi, hz0, hz1, hz2⟩ := info_parts infoTerm
  have hmk : ∀ W : World, (Instr.makeSlice 22 (.int .i64 0) (.int .i64 (n : Int))).run Tryz.prog W = .ok (.slice (some ⟨W.heap.size, 0, none⟩) 0 n) (W.alloc (.cells (madeCells #[.int .i64 0, .int .i64 0, .slice none 0 0] (n * 3)) 24)) := by
    intro W
    have := run_make W 22 24 i0 _ Tryz.underlying22 hi hz0 .i64 .i64 (0 : Int) (n : Int) (by omega) (by omega) (by rw [hz2]; omega) (by omega)
    rw [hz1] at this
    simpa [Value.cells] using this
  clear hi hz0 hz1 hz2
  by_cases hn0 : n = 0
  · subst hn0
    have hxs : xs = [] := List.length_eq_zero_iff.1 HN.out
    go_enter Tryz.func40, Tryz.ntmps40
    go_wp2_with fail
    go_ret2
    rw [hxs, rsL]
    exact ⟨Fr.refl _ _, ⟨_, HST.out.ptr⟩, none, 0, 0, rfl, ⟨rfl, Nat.le_refl _, Nat.zero_le _, fun i t ht => by simp at ht⟩, HST.out.ptr⟩
  · have e0 : ((n : Int) == 0) = false := by rw [beq_eq_false_iff_ne]; omega
    go_enter Tryz.func40, Tryz.ntmps40
    go_wp2_with fail
    have hcs := size_madeCells #[.int .i64 0, .int .i64 0, .slice none 0 0] (n * 3)
    generalize madeCells #[.int .i64 0, .int .i64 0, .slice none 0 0] (n * 3) = cs0 at *
    have hb0 : Below w.heap.size w (w.alloc (.cells cs0 24)) := (Below.refl _ w).alloc (Nat.le_refl _) _
    have HI : Hid (RaU sz Bk pu As cs bs (rsU bs f) k nn m xs N0 w 0 (w.alloc (.cells cs0 24)) (some ⟨w.heap.size, 0, none⟩) n [] [] N0) := Lib.hid
      ⟨⟨World.ownsRow_made w cs0 n (Nat.le_refl _) (by omega) (by rw [hcs]), rfl, fun i t ht => by simp at ht⟩, Fr.below hb0, hst.ptr.keep hb0 hst.ptr.lt, hok, hN, Nat.le_refl _, by rw [List.drop_zero, cnU_nil]⟩
    clear hcs hmk hb0 hst hok hN
    go_loopw [8, 21] (fun v i wr => ∃ (j : Nat) (Av : Option Addr) (cv : Nat) (csv : List Value) (ys : List T) (N : Nat), j ≤ n ∧ i = .int .i64 j ∧ v = .slice Av j cv ∧ Hid (RaU sz Bk pu As cs bs (rsU bs f) k nn m xs N0 w j wr Av cv csv ys N)) (fun _ i _ => n - (Go.RowKit.intOf i).toNat)
    case atStart => exact ⟨0, _, _, [], [], N0, Nat.zero_le _, rfl, rfl, HI⟩
    case round =>
      clear HI
      obtain ⟨j, Av, cv, csv, ys, N, hj, rfl, rfl, HI⟩ := hrel
      by_cases hlt : j < n
      · obtain ⟨t, ht⟩ := at_of HN.out hlt
        obtain ⟨b, o, k2, h2, A2, n2, c2', rfl, c0', c1', c2'', hr⟩ := (rdFAt_ux HI.out.fr (HX.out j t ht)).full
        have HR := Lib.hid hr; clear hr
        have HT := Lib.hid ht; clear ht
        have heq := HI.out.eq
        rw [drop_at HT.out, rsL] at heq
        have HEQ := Lib.hid heq; clear heq
        have hi0 : (0 : Int) ≤ j := by omega
        have hi1 : (j : Int) < n := by omega
        go_wp2_with fail
        have hbA : Below wr.heap.size wr (wr.alloc (.cells #[.int .i64 k2, .int .i64 h2, .slice A2 n2 c2'] 24)) := (Below.refl _ wr).alloc (Nat.le_refl _) _
        have x10 := Box.new wr 24 #[.int .i64 k2, .int .i64 h2, .slice A2 n2 c2']
        have s10 : wr.heap.size < (wr.alloc (.cells #[.int .i64 k2, .int .i64 h2, .slice A2 n2 c2'] 24)).heap.size := by simp
        generalize wr.alloc (.cells #[.int .i64 k2, .int .i64 h2, .slice A2 n2 c2'] 24) = Wa at *
        clear c0' c1' c2''
        have HFA := Lib.hid (HI.out.fr.then hbA)
        have HPA := Lib.hid (HI.out.ptr.keep hbA HI.out.ptr.lt)
        have hRA := HR.out
        have HRA : Hid (RX (UX Bk pu) Wa t (.agg #[.int .i64 k2, .int .i64 h2, .slice A2 n2 c2'])) := Lib.hid (RX.fr hRA (Fr.below hbA))
        clear hRA HR
        have hpl : pu < wr.heap.size := HI.out.ptr.lt
        have hn10 : wr.heap.size ≠ pu := by omega
        have HBA := Lib.hid hbA; clear hbA
        have hbd := bd_cases k nn j
        obtain ⟨M, hM⟩ : ∃ M, m + bd k nn j = M := ⟨_, rfl⟩
        have hM0 : 0 ≤ M := by omega
        have hM2 : M + f ≤ 100000 := by omega
        have HC1 : Hid (∀ W', Hid (Below Wa.heap.size Wa W') → Calls Tryz.prog 41 #[.int .i64 j, p1, p2] W' fun e w' => e = .returned (.int .i64 M) ∧ Hid (Below Wa.heap.size Wa w') ∧ Below W'.heap.size W' w') := Lib.hid fun W' h' => by
          refine (HGG.out j W' hlt (HFA.out.then h'.out)).mono ?_
          rintro e w' ⟨rfl, hb⟩
          exact ⟨by rw [hM], cur_trans h' hb, hb⟩
        have HC2 : Hid (∀ W', Hid (Below Wa.heap.size Wa W') → Calls Tryz.prog 27 #[.pointer (some ⟨pu, 0, none⟩), .agg #[.int .i64 k2, .int .i64 h2, .slice A2 n2 c2'], .int .i64 M] W' fun e w' => ∃ k3 h3 A3 n3 c3 ec, e = .returned (.tuple #[.agg #[.int .i64 k3, .int .i64 h3, .slice A3 n3 c3], .int .i64 ec]) ∧ Hid (FrP pu Wa w') ∧ Hid (FrP pu W' w') ∧ Hid (QR sz Bk pu As cs (rsU bs f t M N) W'.heap.size w' k3 h3 A3 n3 c3 ec)) := Lib.hid fun W' h' => by
          refine (HIH.out t M N k2 h2 A2 n2 c2' W' (HST.out.after (HFA.out.then h'.out) (HPA.out.keep h'.out HPA.out.lt)) HI.out.ok ?_ hM0 hM2 (by have := HI.out.lo; omega) HI.out.hi (RX.fr HRA.out (Fr.below h'.out))).mono ?_
          · have := HWT.out j t HT.out
            rw [← hM]
            exact this.mono (by have := kN_mono HI.out.lo; omega)
          · intro e w' hE
            obtain ⟨k3, h3, A3, n3, c3, ec, rfl, hfr, hq⟩ := hE.uni
            exact ⟨k3, h3, A3, n3, c3, ec, rfl, Lib.hid ((Fr.below h'.out).trans hfr fun _ _ e => e), Lib.hid hfr, Lib.hid hq⟩
        have HM := Lib.hid hM; clear hM hbd
        have HK : Hid (∀ w', Hid (FrP pu Wa w') → ((w'.cell? ⟨wr.heap.size, 0, none⟩ = some (.int .i64 k2) ∧ w'.cell? ⟨wr.heap.size, 1, none⟩ = some (.int .i64 h2) ∧ w'.cell? ⟨wr.heap.size, 2, none⟩ = some (.slice A2 n2 c2')) ∧ Hid (FrP pu Wa w'))) := Lib.hid fun w' h' => ⟨(x10.fr h'.out hn10).three, h'⟩
        have hcu : Hid (Below Wa.heap.size Wa Wa.drew) := cur_drew
        have hcf : Hid (FrP pu Wa Wa.drew) := cur_fr hcu
        go_wp2_with fail
        go_region_held3 (fun w' => (w'.cell? ⟨wr.heap.size, 0, none⟩ = some (.int .i64 k2) ∧ w'.cell? ⟨wr.heap.size, 1, none⟩ = some (.int .i64 h2) ∧ w'.cell? ⟨wr.heap.size, 2, none⟩ = some (.slice A2 n2 c2')) ∧ Hid (FrP pu Wa w'))
          (first | exact HK.out _ (by assumption) | exact HK.out _ (cur_frA (by assumption) _) | exact HK.out _ (cur_fr3 (by assumption) (by omega) _ _ _))
          (first
            | (go_at_call 41
               with_reducible refine Calls.mono (HC1.out _ ?hh) ?_
               case hh => first | assumption | exact cur_alloc (by assumption) _
               rintro e w1 ⟨rfl, hcu, hb8⟩
               have hcf : Hid (FrP pu Wa w1) := cur_fr hcu
               have s1 := hcu.out.size
               first | (have zP := Box.keepC (cs := #[.int .i64 0, .int .i64 0, .slice none 0 0]) (ty := 24) (by first | exact zP | exact zP.alloc _ | exact Box.new _ _ _ | exact (Box.new _ _ _).alloc _ | exact Box.drewI (Box.new _ _ _)) hb8; have lz1 := zP.lt) | skip
               clear hb8)
            | (go_at_call 27
               with_reducible refine Calls.mono (HC2.out _ ?hh) ?_
               case hh => first | assumption | exact cur_alloc (by assumption) _
               rintro e w2 ⟨k3, h3, A3, n3, c3, ec, rfl, hcf, hfr, hQ⟩
               first | (have zP := Box.fr (cs := #[.int .i64 0, .int .i64 0, .slice none 0 0]) (ty := 24) (by first | exact zP | exact zP.alloc _ | exact Box.new _ _ _ | exact (Box.new _ _ _).alloc _ | exact Box.drewI (Box.new _ _ _)) hfr.out (by omega); have lz2 := zP.lt) | skip
               first | (obtain ⟨z0, z1, z2⟩ := zP.three; have fz0 := zP.frozen 0; have fz1 := zP.frozen 1; have fz2 := zP.frozen 2) | skip
               have s2 := hcf.out.size
               have s3 := hfr.out.size
               clear hfr))
        all_goals first
          | (obtain ⟨Wf, hWf⟩ : ∃ Wf, w2.alloc (.cells #[.int .i64 k3, .int .i64 h3, .slice A3 n3 c3] 24) = Wf := ⟨_, rfl⟩
             obtain ⟨pI, hpe⟩ : ∃ p, p = w2.heap.size := ⟨_, rfl⟩
             have xI : Box Wf pI 24 #[.int .i64 k3, .int .i64 h3, .slice A3 n3 c3] := by rw [hpe, ← hWf]; exact Box.new _ _ _
             have HF2 : Hid (FrP pu Wa Wf) := by rw [← hWf]; exact cur_frA (by assumption) _
             have HQ : Hid (QR sz Bk pu As cs (rsU bs f t M N) Wa.heap.size Wf k3 h3 A3 n3 c3 ec) := by rw [← hWf]; exact Lib.hid (hQ.out.alloc (by omega) _)
             rw [hWf, ← hpe]
             clear hWf hpe)
          | (obtain ⟨Wf, hWf⟩ : ∃ Wf, ((w2.setCell ⟨w1.heap.size, 0, none⟩ (.int .i64 k3)).setCell ⟨w1.heap.size, 1, none⟩ (.int .i64 h3)).setCell ⟨w1.heap.size, 2, none⟩ (.slice A3 n3 c3) = Wf := ⟨_, rfl⟩
             obtain ⟨pI, hpe⟩ : ∃ p, p = w1.heap.size := ⟨_, rfl⟩
             have xI : Box Wf pI 24 #[.int .i64 k3, .int .i64 h3, .slice A3 n3 c3] := by rw [hpe, ← hWf]; exact zP.put3 _ _ _
             have HF2 : Hid (FrP pu Wa Wf) := by rw [← hWf]; exact cur_fr3 (by assumption) (by omega) _ _ _
             have HQ : Hid (QR sz Bk pu As cs (rsU bs f t M N) Wa.heap.size Wf k3 h3 A3 n3 c3 ec) := by rw [← hWf]; exact Lib.hid (hQ.out.set3 (by simp; omega) (by simp) (by omega) _ _ _)
             rw [hWf, ← hpe]
             clear hWf hpe)
          | (obtain ⟨Wf, hWf⟩ : ∃ Wf, ((w2.setCell ⟨Wa.heap.size, 0, none⟩ (.int .i64 k3)).setCell ⟨Wa.heap.size, 1, none⟩ (.int .i64 h3)).setCell ⟨Wa.heap.size, 2, none⟩ (.slice A3 n3 c3) = Wf := ⟨_, rfl⟩
             obtain ⟨pI, hpe⟩ : ∃ p, p = Wa.heap.size := ⟨_, rfl⟩
             have xI : Box Wf pI 24 #[.int .i64 k3, .int .i64 h3, .slice A3 n3 c3] := by rw [hpe, ← hWf]; exact zP.put3 _ _ _
             have HF2 : Hid (FrP pu Wa Wf) := by rw [← hWf]; exact cur_fr3 (by assumption) (by omega) _ _ _
             have HQ : Hid (QR sz Bk pu As cs (rsU bs f t M N) Wa.heap.size Wf k3 h3 A3 n3 c3 ec) := by rw [← hWf]; exact Lib.hid (hQ.out.set3 (by omega) (by omega) (by omega) _ _ _)
             rw [hWf, ← hpe]
             clear hWf hpe)
        all_goals
          (try clear zP z0 z1 z2 fz0 fz1 fz2)
          clear hQ hcf hcu s1 s2 s3 HC1 HC2 HK
          have hfW : FrP pu wr Wf := (Fr.below HBA.out).trans HF2.out fun _ _ e => e
          have HFW := Lib.hid (HI.out.fr.trans hfW fun _ _ e => e)
          have hrow := HI.out.row.move (w' := Wf) (fun b hl hx => hfW.block b hl (fun e => hx (by have := HST.out.lt; show b < w.heap.size; omega))) (fun g hg => by have := (HI.out.row.lt hg).1; show ¬ g < w.heap.size; omega)
          have HROW := Lib.hid hrow; clear hrow
          have sF := HF2.out.size
          have sB := HBA.out.size
          have sW := HI.out.fr.size
          clear hfW
          by_cases he0 : ec = 0
          · have hd : (ec != 0) = false := by simpa using he0
            have hq : ∃ t' N', rsU bs f t M N = .ok (t', N') ∧ RdF (fun b => Wa.heap.size ≤ b) Wf t' (.agg #[.int .i64 k3, .int .i64 h3, .slice A3 n3 c3]) ∧ PB sz Bk pu As cs Wf N' := by
              rcases HQ.out with ⟨t', N', h1, h2, h3, h4⟩ | ⟨h1, h2⟩
              · exact ⟨t', N', h1, h3, h4⟩
              · exact absurd he0 h2.1
            obtain ⟨t', N', hres, hrd, hpb⟩ := hq
            have heq := HEQ.out
            rw [HM.out, hres] at heq
            have heq2 := heq.trans (cnU_cons ys t' (rsL (rsU bs f) k nn m (xs.drop (j + 1)) (j + 1) N'))
            clear heq
            have hgood := rsU_good f t M N t' N' hM0 HI.out.ok (by have := HWT.out j t HT.out; rw [← HM.out]; exact this.mono (by have := kN_mono HI.out.lo; omega)) hres
            obtain ⟨gd1, gd2, _⟩ := hgood
            obtain ⟨g, cap, w4, hrun, hrow4, hold, hb4⟩ := HROW.out.push (t := t') (k := k3) (h := h3) (A := A3) (m := n3) (c := c3) (RdF.moveX (fun b hb _ => by have hb : Wa.heap.size ≤ b := hb; exact ⟨⟨by omega, fun e => by have := (HI.out.row.lt e.symm).2; omega⟩, rfl⟩) _ _ hrd) (by omega) (by omega)
            have HJ : Hid (RaU sz Bk pu As cs bs (rsU bs f) k nn m xs N0 w (j + 1) w4 (some ⟨g, 0, none⟩) cap (csv ++ [.int .i64 k3, .int .i64 h3, .slice A3 n3 c3]) (ys ++ [t']) N') := Lib.hid
              ⟨hrow4, HFW.out.trans (Fr.of (X := fun b => w.heap.size ≤ b) hb4 fun k _ hk => by omega) (fun i hi hx => by omega), hpb.keep hb4 (by have := HST.out.lt; omega), HI.out.ok.mono (by omega), gd2, by have := HI.out.lo; omega, heq2⟩
            obtain ⟨i0, i1, i2⟩ := xI.three
            clear hrow4 hold hb4 hrd hpb heq2 hres gd1 gd2 HQ HROW x10
            go_wp2_with (at_builtin; refine Lib.wpList_append_run _ rfl _ _ _ _ rfl _ _ rfl rfl _ _ hrun ?_)
            go_roundw
            case rel => exact ⟨j + 1, some ⟨g, 0, none⟩, cap, _, _, N', by omega, by go_num, rfl, HJ⟩
            case measure => simp [Go.RowKit.intOf]; omega
          · have hd : (ec != 0) = true := by simpa using he0
            have hq : rsU bs f t M N = .error ec ∧ ∃ N, PB sz Bk pu As cs Wf N := by
              rcases HQ.out with ⟨t', N', h1, h2, h3, h4⟩ | ⟨h1, h2, h3⟩
              · exact absurd h2 he0
              · exact ⟨h1, h3⟩
            obtain ⟨hq, hpp⟩ := hq
            have HPP := Lib.hid hpp; clear hpp
            have heq := HEQ.out
            rw [HM.out, hq] at heq
            have HE2 := Lib.hid heq
            clear heq hq HQ HROW x10 xI
            go_wp2_with fail
            go_ret2
            rw [HE2.out]
            exact ⟨HFW.out, HPP.out, rfl, he0⟩
      · have heq := HI.out.eq
        rw [drop_all HN.out (by omega), rsL] at heq
        have HE2 := Lib.hid heq; clear heq
        obtain rfl : j = n := by omega
        go_wp2_with fail
        go_ret2
        rw [HE2.out]
        refine ⟨HI.out.fr, ⟨_, HI.out.ptr⟩, Av, j, cv, by simp, ?_, HI.out.ptr⟩
        simpa using HI.out.row.rxl fun b hb => hb

set_option maxRecDepth 100000 in
set_option maxHeartbeats 8000000 in
theorem uAll2C {sz : List Int} {Bk pu : Nat} {As : Option Addr} {cs : Nat} {bs : List BT} {f : Nat} {k m : Int} {nn : Nat} {xs : List T} {N0 : Nat} {A : Option Addr} {n c : Nat} {w : World} {p1 : Value} (hst : UM sz Bk pu As cs bs N0 w) (hok : okU sz bs N0) (hx : RXL (UX Bk pu) w xs A n c)
    (hwt : ∀ j x, xs[j]? = some x → WT (kN N0 + m + bd k nn j) x) (hm : 0 ≤ m) (hm2 : m + f + 1 ≤ 100000) (hf : 40001 ≤ f + N0) (hN : N0 ≤ 40000) (hn40 : n ≤ 100000)
    (IH : ResT sz Bk pu As cs bs f)
    (HG : ∀ (i : Nat) (W : World), i < n → FrP pu w W → Calls Tryz.prog 52 #[.int .i64 i, p1] W fun e w' => e = .returned (.int .i64 (m + bd k nn i)) ∧ Below W.heap.size W w') :
    Calls Tryz.prog 40 #[.pointer (some ⟨pu, 0, none⟩), .slice A n c, .func (.func 52) #[] #[p1]] w (UL sz Bk pu As cs w (rsL (rsU bs f) k nn m xs 0 N0)) := by
  obtain ⟨hxl, hxc, hxm, hxa⟩ := hx
  have hMM := hxm
  unfold maxLen at hxm
  have HN := Lib.hid hxl; clear hxl
  have HX := Lib.hid hxa; clear hxa
  have HST := Lib.hid hst
  have HWT := Lib.hid hwt; clear hwt
  have HIH := Lib.hid IH; clear IH
  have HGG := Lib.hid HG; clear HG
  obtain ⟨i0, hi, hz0, hz1, hz2⟩ := info_parts infoTerm
  have hmk : ∀ W : World, (Instr.makeSlice 22 (.int .i64 0) (.int .i64 (n : Int))).run Tryz.prog W = .ok (.slice (some ⟨W.heap.size, 0, none⟩) 0 n) (W.alloc (.cells (madeCells #[.int .i64 0, .int .i64 0, .slice none 0 0] (n * 3)) 24)) := by
    intro W
    have := run_make W 22 24 i0 _ Tryz.underlying22 hi hz0 .i64 .i64 (0 : Int) (n : Int) (by omega) (by omega) (by rw [hz2]; omega) (by omega)
    rw [hz1] at this
    simpa [Value.cells] using this
  clear hi hz0 hz1 hz2
  by_cases hn0 : n = 0
  · subst hn0
    have hxs : xs = [] := List.length_eq_zero_iff.1 HN.out
    go_enter Tryz.func40, Tryz.ntmps40
    go_wp2_with fail
    go_ret2
    rw [hxs, rsL]
    exact ⟨Fr.refl _ _, ⟨_, HST.out.ptr⟩, none, 0, 0, rfl, ⟨rfl, Nat.le_refl _, Nat.zero_le _, fun i t ht => by simp at ht⟩, HST.out.ptr⟩
  · have e0 : ((n : Int) == 0) = false := by rw [beq_eq_false_iff_ne]; omega
    go_enter Tryz.func40, Tryz.ntmps40
    go_wp2_with fail
    have hcs := size_madeCells #[.int .i64 0, .int .i64 0, .slice none 0 0] (n * 3)
    generalize madeCells #[.int .i64 0, .int .i64 0, .slice none 0 0] (n * 3) = cs0 at *
    have hb0 : Below w.heap.size w (w.alloc (.cells cs0 24)) := (Below.refl _ w).alloc (Nat.le_refl _) _
    have HI : Hid (RaU sz Bk pu As cs bs (rsU bs f) k nn m xs N0 w 0 (w.alloc (.cells cs0 24)) (some ⟨w.heap.size, 0, none⟩) n [] [] N0) := Lib.hid
      ⟨⟨World.ownsRow_made w cs0 n (Nat.le_refl _) (by omega) (by rw [hcs]), rfl, fun i t ht => by simp at ht⟩, Fr.below hb0, hst.ptr.keep hb0 hst.ptr.lt, hok, hN, Nat.le_refl _, by rw [List.drop_zero, cnU_nil]⟩
    clear hcs hmk hb0 hst hok hN
    go_loopw [8, 21] (fun v i wr => ∃ (j : Nat) (Av : Option Addr) (cv : Nat) (csv : List Value) (ys : List T) (N : Nat), j ≤ n ∧ i = .int .i64 j ∧ v = .slice Av j cv ∧ Hid (RaU sz Bk pu As cs bs (rsU bs f) k nn m xs N0 w j wr Av cv csv ys N)) (fun _ i _ => n - (Go.RowKit.intOf i).toNat)
    case atStart => exact ⟨0, _, _, [], [], N0, Nat.zero_le _, rfl, rfl, HI⟩
    case round =>
      clear HI
      obtain ⟨j, Av, cv, csv, ys, N, hj, rfl, rfl, HI⟩ := hrel
      by_cases hlt : j < n
      · obtain ⟨t, ht⟩ := at_of HN.out hlt
        obtain ⟨b, o, k2, h2, A2, n2, c2', rfl, c0', c1', c2'', hr⟩ := (rdFAt_ux HI.out.fr (HX.out j t ht)).full
        have HR := Lib.hid hr; clear hr
        have HT := Lib.hid ht; clear ht
        have heq := HI.out.eq
        rw [drop_at HT.out, rsL] at heq
        have HEQ := Lib.hid heq; clear heq
        have hi0 : (0 : Int) ≤ j := by omega
        have hi1 : (j : Int) < n := by omega
        go_wp2_with fail
        have hbA : Below wr.heap.size wr (wr.alloc (.cells #[.int .i64 k2, .int .i64 h2, .slice A2 n2 c2'] 24)) := (Below.refl _ wr).alloc (Nat.le_refl _) _
        have x10 := Box.new wr 24 #[.int .i64 k2, .int .i64 h2, .slice A2 n2 c2']
        have s10 : wr.heap.size < (wr.alloc (.cells #[.int .i64 k2, .int .i64 h2, .slice A2 n2 c2'] 24)).heap.size := by simp
        generalize wr.alloc (.cells #[.int .i64 k2, .int .i64 h2, .slice A2 n2 c2'] 24) = Wa at *
        clear c0' c1' c2''
        have HFA := Lib.hid (HI.out.fr.then hbA)
        have HPA := Lib.hid (HI.out.ptr.keep hbA HI.out.ptr.lt)
        have hRA := HR.out
        have HRA : Hid (RX (UX Bk pu) Wa t (.agg #[.int .i64 k2, .int .i64 h2, .slice A2 n2 c2'])) := Lib.hid (RX.fr hRA (Fr.below hbA))
        clear hRA HR
        have hpl : pu < wr.heap.size := HI.out.ptr.lt
        have hn10 : wr.heap.size ≠ pu := by omega
        have HBA := Lib.hid hbA; clear hbA
        have hbd := bd_cases k nn j
        obtain ⟨M, hM⟩ : ∃ M, m + bd k nn j = M := ⟨_, rfl⟩
        have hM0 : 0 ≤ M := by omega
        have hM2 : M + f ≤ 100000 := by omega
        have HC1 : Hid (∀ W', Hid (Below Wa.heap.size Wa W') → Calls Tryz.prog 52 #[.int .i64 j, p1] W' fun e w' => e = .returned (.int .i64 M) ∧ Hid (Below Wa.heap.size Wa w') ∧ Below W'.heap.size W' w') := Lib.hid fun W' h' => by
          refine (HGG.out j W' hlt (HFA.out.then h'.out)).mono ?_
          rintro e w' ⟨rfl, hb⟩
          exact ⟨by rw [hM], cur_trans h' hb, hb⟩
        have HC2 : Hid (∀ W', Hid (Below Wa.heap.size Wa W') → Calls Tryz.prog 27 #[.pointer (some ⟨pu, 0, none⟩), .agg #[.int .i64 k2, .int .i64 h2, .slice A2 n2 c2'], .int .i64 M] W' fun e w' => ∃ k3 h3 A3 n3 c3 ec, e = .returned (.tuple #[.agg #[.int .i64 k3, .int .i64 h3, .slice A3 n3 c3], .int .i64 ec]) ∧ Hid (FrP pu Wa w') ∧ Hid (FrP pu W' w') ∧ Hid (QR sz Bk pu As cs (rsU bs f t M N) W'.heap.size w' k3 h3 A3 n3 c3 ec)) := Lib.hid fun W' h' => by
          refine (HIH.out t M N k2 h2 A2 n2 c2' W' (HST.out.after (HFA.out.then h'.out) (HPA.out.keep h'.out HPA.out.lt)) HI.out.ok ?_ hM0 hM2 (by have := HI.out.lo; omega) HI.out.hi (RX.fr HRA.out (Fr.below h'.out))).mono ?_
          · have := HWT.out j t HT.out
            rw [← hM]
            exact this.mono (by have := kN_mono HI.out.lo; omega)
          · intro e w' hE
            obtain ⟨k3, h3, A3, n3, c3, ec, rfl, hfr, hq⟩ := hE.uni
            exact ⟨k3, h3, A3, n3, c3, ec, rfl, Lib.hid ((Fr.below h'.out).trans hfr fun _ _ e => e), Lib.hid hfr, Lib.hid hq⟩
        have HM := Lib.hid hM; clear hM hbd
        have HK : Hid (∀ w', Hid (FrP pu Wa w') → ((w'.cell? ⟨wr.heap.size, 0, none⟩ = some (.int .i64 k2) ∧ w'.cell? ⟨wr.heap.size, 1, none⟩ = some (.int .i64 h2) ∧ w'.cell? ⟨wr.heap.size, 2, none⟩ = some (.slice A2 n2 c2')) ∧ Hid (FrP pu Wa w'))) := Lib.hid fun w' h' => ⟨(x10.fr h'.out hn10).three, h'⟩
        have hcu : Hid (Below Wa.heap.size Wa Wa.drew) := cur_drew
        have hcf : Hid (FrP pu Wa Wa.drew) := cur_fr hcu
        go_wp2_with fail
        go_region_held3 (fun w' => (w'.cell? ⟨wr.heap.size, 0, none⟩ = some (.int .i64 k2) ∧ w'.cell? ⟨wr.heap.size, 1, none⟩ = some (.int .i64 h2) ∧ w'.cell? ⟨wr.heap.size, 2, none⟩ = some (.slice A2 n2 c2')) ∧ Hid (FrP pu Wa w'))
          (first | exact HK.out _ (by assumption) | exact HK.out _ (cur_frA (by assumption) _) | exact HK.out _ (cur_fr3 (by assumption) (by omega) _ _ _))
          (first
            | (go_at_call 52
               with_reducible refine Calls.mono (HC1.out _ ?hh) ?_
               case hh => first | assumption | exact cur_alloc (by assumption) _
               rintro e w1 ⟨rfl, hcu, hb8⟩
               have hcf : Hid (FrP pu Wa w1) := cur_fr hcu
               have s1 := hcu.out.size
               first | (have zP := Box.keepC (cs := #[.int .i64 0, .int .i64 0, .slice none 0 0]) (ty := 24) (by first | exact zP | exact zP.alloc _ | exact Box.new _ _ _ | exact (Box.new _ _ _).alloc _ | exact Box.drewI (Box.new _ _ _)) hb8; have lz1 := zP.lt) | skip
               clear hb8)
            | (go_at_call 27
               with_reducible refine Calls.mono (HC2.out _ ?hh) ?_
               case hh => first | assumption | exact cur_alloc (by assumption) _
               rintro e w2 ⟨k3, h3, A3, n3, c3, ec, rfl, hcf, hfr, hQ⟩
               first | (have zP := Box.fr (cs := #[.int .i64 0, .int .i64 0, .slice none 0 0]) (ty := 24) (by first | exact zP | exact zP.alloc _ | exact Box.new _ _ _ | exact (Box.new _ _ _).alloc _ | exact Box.drewI (Box.new _ _ _)) hfr.out (by omega); have lz2 := zP.lt) | skip
               first | (obtain ⟨z0, z1, z2⟩ := zP.three; have fz0 := zP.frozen 0; have fz1 := zP.frozen 1; have fz2 := zP.frozen 2) | skip
               have s2 := hcf.out.size
               have s3 := hfr.out.size
               clear hfr))
        all_goals first
          | (obtain ⟨Wf, hWf⟩ : ∃ Wf, w2.alloc (.cells #[.int .i64 k3, .int .i64 h3, .slice A3 n3 c3] 24) = Wf := ⟨_, rfl⟩
             obtain ⟨pI, hpe⟩ : ∃ p, p = w2.heap.size := ⟨_, rfl⟩
             have xI : Box Wf pI 24 #[.int .i64 k3, .int .i64 h3, .slice A3 n3 c3] := by rw [hpe, ← hWf]; exact Box.new _ _ _
             have HF2 : Hid (FrP pu Wa Wf) := by rw [← hWf]; exact cur_frA (by assumption) _
             have HQ : Hid (QR sz Bk pu As cs (rsU bs f t M N) Wa.heap.size Wf k3 h3 A3 n3 c3 ec) := by rw [← hWf]; exact Lib.hid (hQ.out.alloc (by omega) _)
             rw [hWf, ← hpe]
             clear hWf hpe)
          | (obtain ⟨Wf, hWf⟩ : ∃ Wf, ((w2.setCell ⟨w1.heap.size, 0, none⟩ (.int .i64 k3)).setCell ⟨w1.heap.size, 1, none⟩ (.int .i64 h3)).setCell ⟨w1.heap.size, 2, none⟩ (.slice A3 n3 c3) = Wf := ⟨_, rfl⟩
             obtain ⟨pI, hpe⟩ : ∃ p, p = w1.heap.size := ⟨_, rfl⟩
             have xI : Box Wf pI 24 #[.int .i64 k3, .int .i64 h3, .slice A3 n3 c3] := by rw [hpe, ← hWf]; exact zP.put3 _ _ _
             have HF2 : Hid (FrP pu Wa Wf) := by rw [← hWf]; exact cur_fr3 (by assumption) (by omega) _ _ _
             have HQ : Hid (QR sz Bk pu As cs (rsU bs f t M N) Wa.heap.size Wf k3 h3 A3 n3 c3 ec) := by rw [← hWf]; exact Lib.hid (hQ.out.set3 (by simp; omega) (by simp) (by omega) _ _ _)
             rw [hWf, ← hpe]
             clear hWf hpe)
          | (obtain ⟨Wf, hWf⟩ : ∃ Wf, ((w2.setCell ⟨Wa.heap.size, 0, none⟩ (.int .i64 k3)).setCell ⟨Wa.heap.size, 1, none⟩ (.int .i64 h3)).setCell ⟨Wa.heap.size, 2, none⟩ (.slice A3 n3 c3) = Wf := ⟨_, rfl⟩
             obtain ⟨pI, hpe⟩ : ∃ p, p = Wa.heap.size := ⟨_, rfl⟩
             have xI : Box Wf pI 24 #[.int .i64 k3, .int .i64 h3, .slice A3 n3 c3] := by rw [hpe, ← hWf]; exact zP.put3 _ _ _
             have HF2 : Hid (FrP pu Wa Wf) := by rw [← hWf]; exact cur_fr3 (by assumption) (by omega) _ _ _
             have HQ : Hid (QR sz Bk pu As cs (rsU bs f t M N) Wa.heap.size Wf k3 h3 A3 n3 c3 ec) := by rw [← hWf]; exact Lib.hid (hQ.out.set3 (by omega) (by omega) (by omega) _ _ _)
             rw [hWf, ← hpe]
             clear hWf hpe)
        all_goals
          (try clear zP z0 z1 z2 fz0 fz1 fz2)
          clear hQ hcf hcu s1 s2 s3 HC1 HC2 HK
          have hfW : FrP pu wr Wf := (Fr.below HBA.out).trans HF2.out fun _ _ e => e
          have HFW := Lib.hid (HI.out.fr.trans hfW fun _ _ e => e)
          have hrow := HI.out.row.move (w' := Wf) (fun b hl hx => hfW.block b hl (fun e => hx (by have := HST.out.lt; show b < w.heap.size; omega))) (fun g hg => by have := (HI.out.row.lt hg).1; show ¬ g < w.heap.size; omega)
          have HROW := Lib.hid hrow; clear hrow
          have sF := HF2.out.size
          have sB := HBA.out.size
          have sW := HI.out.fr.size
          clear hfW
          by_cases he0 : ec = 0
          · have hd : (ec != 0) = false := by simpa using he0
            have hq : ∃ t' N', rsU bs f t M N = .ok (t', N') ∧ RdF (fun b => Wa.heap.size ≤ b) Wf t' (.agg #[.int .i64 k3, .int .i64 h3, .slice A3 n3 c3]) ∧ PB sz Bk pu As cs Wf N' := by
              rcases HQ.out with ⟨t', N', h1, h2, h3, h4⟩ | ⟨h1, h2⟩
              · exact ⟨t', N', h1, h3, h4⟩
              · exact absurd he0 h2.1
            obtain ⟨t', N', hres, hrd, hpb⟩ := hq
            have heq := HEQ.out
            rw [HM.out, hres] at heq
            have heq2 := heq.trans (cnU_cons ys t' (rsL (rsU bs f) k nn m (xs.drop (j + 1)) (j + 1) N'))
            clear heq
            have hgood := rsU_good f t M N t' N' hM0 HI.out.ok (by have := HWT.out j t HT.out; rw [← HM.out]; exact this.mono (by have := kN_mono HI.out.lo; omega)) hres
            obtain ⟨gd1, gd2, _⟩ := hgood
            obtain ⟨g, cap, w4, hrun, hrow4, hold, hb4⟩ := HROW.out.push (t := t') (k := k3) (h := h3) (A := A3) (m := n3) (c := c3) (RdF.moveX (fun b hb _ => by have hb : Wa.heap.size ≤ b := hb; exact ⟨⟨by omega, fun e => by have := (HI.out.row.lt e.symm).2; omega⟩, rfl⟩) _ _ hrd) (by omega) (by omega)
            have HJ : Hid (RaU sz Bk pu As cs bs (rsU bs f) k nn m xs N0 w (j + 1) w4 (some ⟨g, 0, none⟩) cap (csv ++ [.int .i64 k3, .int .i64 h3, .slice A3 n3 c3]) (ys ++ [t']) N') := Lib.hid
              ⟨hrow4, HFW.out.trans (Fr.of (X := fun b => w.heap.size ≤ b) hb4 fun k _ hk => by omega) (fun i hi hx => by omega), hpb.keep hb4 (by have := HST.out.lt; omega), HI.out.ok.mono (by omega), gd2, by have := HI.out.lo; omega, heq2⟩
            obtain ⟨i0, i1, i2⟩ := xI.three
            clear hrow4 hold hb4 hrd hpb heq2 hres gd1 gd2 HQ HROW x10
            go_wp2_with (at_builtin; refine Lib.wpList_append_run _ rfl _ _ _ _ rfl _ _ rfl rfl _ _ hrun ?_)
            go_roundw
            case rel => exact ⟨j + 1, some ⟨g, 0, none⟩, cap, _, _, N', by omega, by go_num, rfl, HJ⟩
            case measure => simp [Go.RowKit.intOf]; omega
          · have hd : (ec != 0) = true := by simpa using he0
            have hq : rsU bs f t M N = .error ec ∧ ∃ N, PB sz Bk pu As cs Wf N := by
              rcases HQ.out with ⟨t', N', h1, h2, h3, h4⟩ | ⟨h1, h2, h3⟩
              · exact absurd h2 he0
              · exact ⟨h1, h3⟩
            obtain ⟨hq, hpp⟩ := hq
            have HPP := Lib.hid hpp; clear hpp
            have heq := HEQ.out
            rw [HM.out, hq] at heq
            have HE2 := Lib.hid heq
            clear heq hq HQ HROW x10 xI
            go_wp2_with fail
            go_ret2
            rw [HE2.out]
            exact ⟨HFW.out, HPP.out, rfl, he0⟩
      · have heq := HI.out.eq
        rw [drop_all HN.out (by omega), rsL] at heq
        have HE2 := Lib.hid heq; clear heq
        obtain rfl : j = n := by omega
        go_wp2_with fail
        go_ret2
        rw [HE2.out]
        refine ⟨HI.out.fr, ⟨_, HI.out.ptr⟩, Av, j, cv, by simp, ?_, HI.out.ptr⟩
        simpa using HI.out.row.rxl fun b hb => hb

set_option maxRecDepth 100000 in
set_option maxHeartbeats 8000000 in
theorem uAll3C {sz : List Int} {Bk pu : Nat} {As : Option Addr} {cs : Nat} {bs : List BT} {f : Nat} {k m : Int} {nn : Nat} {xs : List T} {N0 : Nat} {A : Option Addr} {n c : Nat} {w : World} {p1 : Value} (hst : UM sz Bk pu As cs bs N0 w) (hok : okU sz bs N0) (hx : RXL (UX Bk pu) w xs A n c)
    (hwt : ∀ j x, xs[j]? = some x → WT (kN N0 + m + bd k nn j) x) (hm : 0 ≤ m) (hm2 : m + f + 1 ≤ 100000) (hf : 40001 ≤ f + N0) (hN : N0 ≤ 40000) (hn40 : n ≤ 100000)
    (IH : ResT sz Bk pu As cs bs f)
    (HG : ∀ (i : Nat) (W : World), i < n → FrP pu w W → Calls Tryz.prog 57 #[.int .i64 i, p1] W fun e w' => e = .returned (.int .i64 (m + bd k nn i)) ∧ Below W.heap.size W w') :
    Calls Tryz.prog 40 #[.pointer (some ⟨pu, 0, none⟩), .slice A n c, .func (.func 57) #[] #[p1]] w (UL sz Bk pu As cs w (rsL (rsU bs f) k nn m xs 0 N0)) := by
  obtain ⟨hxl, hxc, hxm, hxa⟩ := hx
  have hMM := hxm
  unfold maxLen at hxm
  have HN := Lib.hid hxl; clear hxl
  have HX := Lib.hid hxa; clear hxa
  have HST := Lib.hid hst
  have HWT := Lib.hid hwt; clear hwt
  have HIH := Lib.hid IH; clear IH
  have HGG := Lib.hid HG; clear HG
  obtain ⟨i0, hi, hz0, hz1, hz2⟩ := info_parts infoTerm
  have hmk : ∀ W : World, (Instr.makeSlice 22 (.int .i64 0) (.int .i64 (n : Int))).run Tryz.prog W = .ok (.slice (some ⟨W.heap.size, 0, none⟩) 0 n) (W.alloc (.cells (madeCells #[.int .i64 0, .int .i64 0, .slice none 0 0] (n * 3)) 24)) := by
    intro W
    have := run_make W 22 24 i0 _ Tryz.underlying22 hi hz0 .i64 .i64 (0 : Int) (n : Int) (by omega) (by omega) (by rw [hz2]; omega) (by omega)
    rw [hz1] at this
    simpa [Value.cells] using this
  clear hi hz0 hz1 hz2
  by_cases hn0 : n = 0
  · subst hn0
    have hxs : xs = [] := List.length_eq_zero_iff.1 HN.out
    go_enter Tryz.func40, Tryz.ntmps40
    go_wp2_with fail
    go_ret2
    rw [hxs, rsL]
    exact ⟨Fr.refl _ _, ⟨_, HST.out.ptr⟩, none, 0, 0, rfl, ⟨rfl, Nat.le_refl _, Nat.zero_le _, fun i t ht => by simp at ht⟩, HST.out.ptr⟩
  · have e0 : ((n : Int) == 0) = false := by rw [beq_eq_false_iff_ne]; omega
    go_enter Tryz.func40, Tryz.ntmps40
    go_wp2_with fail
    have hcs := size_madeCells #[.int .i64 0, .int .i64 0, .slice none 0 0] (n * 3)
    generalize madeCells #[.int .i64 0, .int .i64 0, .slice none 0 0] (n * 3) = cs0 at *
    have hb0 : Below w.heap.size w (w.alloc (.cells cs0 24)) := (Below.refl _ w).alloc (Nat.le_refl _) _
    have HI : Hid (RaU sz Bk pu As cs bs (rsU bs f) k nn m xs N0 w 0 (w.alloc (.cells cs0 24)) (some ⟨w.heap.size, 0, none⟩) n [] [] N0) := Lib.hid
      ⟨⟨World.ownsRow_made w cs0 n (Nat.le_refl _) (by omega) (by rw [hcs]), rfl, fun i t ht => by simp at ht⟩, Fr.below hb0, hst.ptr.keep hb0 hst.ptr.lt, hok, hN, Nat.le_refl _, by rw [List.drop_zero, cnU_nil]⟩
    clear hcs hmk hb0 hst hok hN
    go_loopw [8, 21] (fun v i wr => ∃ (j : Nat) (Av : Option Addr) (cv : Nat) (csv : List Value) (ys : List T) (N : Nat), j ≤ n ∧ i = .int .i64 j ∧ v = .slice Av j cv ∧ Hid (RaU sz Bk pu As cs bs (rsU bs f) k nn m xs N0 w j wr Av cv csv ys N)) (fun _ i _ => n - (Go.RowKit.intOf i).toNat)
    case atStart => exact ⟨0, _, _, [], [], N0, Nat.zero_le _, rfl, rfl, HI⟩
    case round =>
      clear HI
      obtain ⟨j, Av, cv, csv, ys, N, hj, rfl, rfl, HI⟩ := hrel
      by_cases hlt : j < n
      · obtain ⟨t, ht⟩ := at_of HN.out hlt
        obtain ⟨b, o, k2, h2, A2, n2, c2', rfl, c0', c1', c2'', hr⟩ := (rdFAt_ux HI.out.fr (HX.out j t ht)).full
        have HR := Lib.hid hr; clear hr
        have HT := Lib.hid ht; clear ht
        have heq := HI.out.eq
        rw [drop_at HT.out, rsL] at heq
        have HEQ := Lib.hid heq; clear heq
        have hi0 : (0 : Int) ≤ j := by omega
        have hi1 : (j : Int) < n := by omega
        go_wp2_with fail
        have hbA : Below wr.heap.size wr (wr.alloc (.cells #[.int .i64 k2, .int .i64 h2, .slice A2 n2 c2'] 24)) := (Below.refl _ wr).alloc (Nat.le_refl _) _
        have x10 := Box.new wr 24 #[.int .i64 k2, .int .i64 h2, .slice A2 n2 c2']
        have s10 : wr.heap.size < (wr.alloc (.cells #[.int .i64 k2, .int .i64 h2, .slice A2 n2 c2'] 24)).heap.size := by simp
        generalize wr.alloc (.cells #[.int .i64 k2, .int .i64 h2, .slice A2 n2 c2'] 24) = Wa at *
        clear c0' c1' c2''
        have HFA := Lib.hid (HI.out.fr.then hbA)
        have HPA := Lib.hid (HI.out.ptr.keep hbA HI.out.ptr.lt)
        have hRA := HR.out
        have HRA : Hid (RX (UX Bk pu) Wa t (.agg #[.int .i64 k2, .int .i64 h2, .slice A2 n2 c2'])) := Lib.hid (RX.fr hRA (Fr.below hbA))
        clear hRA HR
        have hpl : pu < wr.heap.size := HI.out.ptr.lt
        have hn10 : wr.heap.size ≠ pu := by omega
        have HBA := Lib.hid hbA; clear hbA
        have hbd := bd_cases k nn j
        obtain ⟨M, hM⟩ : ∃ M, m + bd k nn j = M := ⟨_, rfl⟩
        have hM0 : 0 ≤ M := by omega
        have hM2 : M + f ≤ 100000 := by omega
        have HC1 : Hid (∀ W', Hid (Below Wa.heap.size Wa W') → Calls Tryz.prog 57 #[.int .i64 j, p1] W' fun e w' => e = .returned (.int .i64 M) ∧ Hid (Below Wa.heap.size Wa w') ∧ Below W'.heap.size W' w') := Lib.hid fun W' h' => by
          refine (HGG.out j W' hlt (HFA.out.then h'.out)).mono ?_
          rintro e w' ⟨rfl, hb⟩
          exact ⟨by rw [hM], cur_trans h' hb, hb⟩
        have HC2 : Hid (∀ W', Hid (Below Wa.heap.size Wa W') → Calls Tryz.prog 27 #[.pointer (some ⟨pu, 0, none⟩), .agg #[.int .i64 k2, .int .i64 h2, .slice A2 n2 c2'], .int .i64 M] W' fun e w' => ∃ k3 h3 A3 n3 c3 ec, e = .returned (.tuple #[.agg #[.int .i64 k3, .int .i64 h3, .slice A3 n3 c3], .int .i64 ec]) ∧ Hid (FrP pu Wa w') ∧ Hid (FrP pu W' w') ∧ Hid (QR sz Bk pu As cs (rsU bs f t M N) W'.heap.size w' k3 h3 A3 n3 c3 ec)) := Lib.hid fun W' h' => by
          refine (HIH.out t M N k2 h2 A2 n2 c2' W' (HST.out.after (HFA.out.then h'.out) (HPA.out.keep h'.out HPA.out.lt)) HI.out.ok ?_ hM0 hM2 (by have := HI.out.lo; omega) HI.out.hi (RX.fr HRA.out (Fr.below h'.out))).mono ?_
          · have := HWT.out j t HT.out
            rw [← hM]
            exact this.mono (by have := kN_mono HI.out.lo; omega)
          · intro e w' hE
            obtain ⟨k3, h3, A3, n3, c3, ec, rfl, hfr, hq⟩ := hE.uni
            exact ⟨k3, h3, A3, n3, c3, ec, rfl, Lib.hid ((Fr.below h'.out).trans hfr fun _ _ e => e), Lib.hid hfr, Lib.hid hq⟩
        have HM := Lib.hid hM; clear hM hbd
        have HK : Hid (∀ w', Hid (FrP pu Wa w') → ((w'.cell? ⟨wr.heap.size, 0, none⟩ = some (.int .i64 k2) ∧ w'.cell? ⟨wr.heap.size, 1, none⟩ = some (.int .i64 h2) ∧ w'.cell? ⟨wr.heap.size, 2, none⟩ = some (.slice A2 n2 c2')) ∧ Hid (FrP pu Wa w'))) := Lib.hid fun w' h' => ⟨(x10.fr h'.out hn10).three, h'⟩
        have hcu : Hid (Below Wa.heap.size Wa Wa.drew) := cur_drew
        have hcf : Hid (FrP pu Wa Wa.drew) := cur_fr hcu
        go_wp2_with fail
        go_region_held3 (fun w' => (w'.cell? ⟨wr.heap.size, 0, none⟩ = some (.int .i64 k2) ∧ w'.cell? ⟨wr.heap.size, 1, none⟩ = some (.int .i64 h2) ∧ w'.cell? ⟨wr.heap.size, 2, none⟩ = some (.slice A2 n2 c2')) ∧ Hid (FrP pu Wa w'))
          (first | exact HK.out _ (by assumption) | exact HK.out _ (cur_frA (by assumption) _) | exact HK.out _ (cur_fr3 (by assumption) (by omega) _ _ _))
          (first
            | (go_at_call 57
               with_reducible refine Calls.mono (HC1.out _ ?hh) ?_
               case hh => first | assumption | exact cur_alloc (by assumption) _
               rintro e w1 ⟨rfl, hcu, hb8⟩
               have hcf : Hid (FrP pu Wa w1) := cur_fr hcu
               have s1 := hcu.out.size
               first | (have zP := Box.keepC (cs := #[.int .i64 0, .int .i64 0, .slice none 0 0]) (ty := 24) (by first | exact zP | exact zP.alloc _ | exact Box.new _ _ _ | exact (Box.new _ _ _).alloc _ | exact Box.drewI (Box.new _ _ _)) hb8; have lz1 := zP.lt) | skip
               clear hb8)
            | (go_at_call 27
               with_reducible refine Calls.mono (HC2.out _ ?hh) ?_
               case hh => first | assumption | exact cur_alloc (by assumption) _
               rintro e w2 ⟨k3, h3, A3, n3, c3, ec, rfl, hcf, hfr, hQ⟩
               first | (have zP := Box.fr (cs := #[.int .i64 0, .int .i64 0, .slice none 0 0]) (ty := 24) (by first | exact zP | exact zP.alloc _ | exact Box.new _ _ _ | exact (Box.new _ _ _).alloc _ | exact Box.drewI (Box.new _ _ _)) hfr.out (by omega); have lz2 := zP.lt) | skip
               first | (obtain ⟨z0, z1, z2⟩ := zP.three; have fz0 := zP.frozen 0; have fz1 := zP.frozen 1; have fz2 := zP.frozen 2) | skip
               have s2 := hcf.out.size
               have s3 := hfr.out.size
               clear hfr))
        all_goals first
          | (obtain ⟨Wf, hWf⟩ : ∃ Wf, w2.alloc (.cells #[.int .i64 k3, .int .i64 h3, .slice A3 n3 c3] 24) = Wf := ⟨_, rfl⟩
             obtain ⟨pI, hpe⟩ : ∃ p, p = w2.heap.size := ⟨_, rfl⟩
             have xI : Box Wf pI 24 #[.int .i64 k3, .int .i64 h3, .slice A3 n3 c3] := by rw [hpe, ← hWf]; exact Box.new _ _ _
             have HF2 : Hid (FrP pu Wa Wf) := by rw [← hWf]; exact cur_frA (by assumption) _
             have HQ : Hid (QR sz Bk pu As cs (rsU bs f t M N) Wa.heap.size Wf k3 h3 A3 n3 c3 ec) := by rw [← hWf]; exact Lib.hid (hQ.out.alloc (by omega) _)
             rw [hWf, ← hpe]
             clear hWf hpe)
          | (obtain ⟨Wf, hWf⟩ : ∃ Wf, ((w2.setCell ⟨w1.heap.size, 0, none⟩ (.int .i64 k3)).setCell ⟨w1.heap.size, 1, none⟩ (.int .i64 h3)).setCell ⟨w1.heap.size, 2, none⟩ (.slice A3 n3 c3) = Wf := ⟨_, rfl⟩
             obtain ⟨pI, hpe⟩ : ∃ p, p = w1.heap.size := ⟨_, rfl⟩
             have xI : Box Wf pI 24 #[.int .i64 k3, .int .i64 h3, .slice A3 n3 c3] := by rw [hpe, ← hWf]; exact zP.put3 _ _ _
             have HF2 : Hid (FrP pu Wa Wf) := by rw [← hWf]; exact cur_fr3 (by assumption) (by omega) _ _ _
             have HQ : Hid (QR sz Bk pu As cs (rsU bs f t M N) Wa.heap.size Wf k3 h3 A3 n3 c3 ec) := by rw [← hWf]; exact Lib.hid (hQ.out.set3 (by simp; omega) (by simp) (by omega) _ _ _)
             rw [hWf, ← hpe]
             clear hWf hpe)
          | (obtain ⟨Wf, hWf⟩ : ∃ Wf, ((w2.setCell ⟨Wa.heap.size, 0, none⟩ (.int .i64 k3)).setCell ⟨Wa.heap.size, 1, none⟩ (.int .i64 h3)).setCell ⟨Wa.heap.size, 2, none⟩ (.slice A3 n3 c3) = Wf := ⟨_, rfl⟩
             obtain ⟨pI, hpe⟩ : ∃ p, p = Wa.heap.size := ⟨_, rfl⟩
             have xI : Box Wf pI 24 #[.int .i64 k3, .int .i64 h3, .slice A3 n3 c3] := by rw [hpe, ← hWf]; exact zP.put3 _ _ _
             have HF2 : Hid (FrP pu Wa Wf) := by rw [← hWf]; exact cur_fr3 (by assumption) (by omega) _ _ _
             have HQ : Hid (QR sz Bk pu As cs (rsU bs f t M N) Wa.heap.size Wf k3 h3 A3 n3 c3 ec) := by rw [← hWf]; exact Lib.hid (hQ.out.set3 (by omega) (by omega) (by omega) _ _ _)
             rw [hWf, ← hpe]
             clear hWf hpe)
        all_goals
          (try clear zP z0 z1 z2 fz0 fz1 fz2)
          clear hQ hcf hcu s1 s2 s3 HC1 HC2 HK
          have hfW : FrP pu wr Wf := (Fr.below HBA.out).trans HF2.out fun _ _ e => e
          have HFW := Lib.hid (HI.out.fr.trans hfW fun _ _ e => e)
          have hrow := HI.out.row.move (w' := Wf) (fun b hl hx => hfW.block b hl (fun e => hx (by have := HST.out.lt; show b < w.heap.size; omega))) (fun g hg => by have := (HI.out.row.lt hg).1; show ¬ g < w.heap.size; omega)
          have HROW := Lib.hid hrow; clear hrow
          have sF := HF2.out.size
          have sB := HBA.out.size
          have sW := HI.out.fr.size
          clear hfW
          by_cases he0 : ec = 0
          · have hd : (ec != 0) = false := by simpa using he0
            have hq : ∃ t' N', rsU bs f t M N = .ok (t', N') ∧ RdF (fun b => Wa.heap.size ≤ b) Wf t' (.agg #[.int .i64 k3, .int .i64 h3, .slice A3 n3 c3]) ∧ PB sz Bk pu As cs Wf N' := by
              rcases HQ.out with ⟨t', N', h1, h2, h3, h4⟩ | ⟨h1, h2⟩
              · exact ⟨t', N', h1, h3, h4⟩
              · exact absurd he0 h2.1
            obtain ⟨t', N', hres, hrd, hpb⟩ := hq
            have heq := HEQ.out
            rw [HM.out, hres] at heq
            have heq2 := heq.trans (cnU_cons ys t' (rsL (rsU bs f) k nn m (xs.drop (j + 1)) (j + 1) N'))
            clear heq
            have hgood := rsU_good f t M N t' N' hM0 HI.out.ok (by have := HWT.out j t HT.out; rw [← HM.out]; exact this.mono (by have := kN_mono HI.out.lo; omega)) hres
            obtain ⟨gd1, gd2, _⟩ := hgood
            obtain ⟨g, cap, w4, hrun, hrow4, hold, hb4⟩ := HROW.out.push (t := t') (k := k3) (h := h3) (A := A3) (m := n3) (c := c3) (RdF.moveX (fun b hb _ => by have hb : Wa.heap.size ≤ b := hb; exact ⟨⟨by omega, fun e => by have := (HI.out.row.lt e.symm).2; omega⟩, rfl⟩) _ _ hrd) (by omega) (by omega)
            have HJ : Hid (RaU sz Bk pu As cs bs (rsU bs f) k nn m xs N0 w (j + 1) w4 (some ⟨g, 0, none⟩) cap (csv ++ [.int .i64 k3, .int .i64 h3, .slice A3 n3 c3]) (ys ++ [t']) N') := Lib.hid
              ⟨hrow4, HFW.out.trans (Fr.of (X := fun b => w.heap.size ≤ b) hb4 fun k _ hk => by omega) (fun i hi hx => by omega), hpb.keep hb4 (by have := HST.out.lt; omega), HI.out.ok.mono (by omega), gd2, by have := HI.out.lo; omega, heq2⟩
            obtain ⟨i0, i1, i2⟩ := xI.three
            clear hrow4 hold hb4 hrd hpb heq2 hres gd1 gd2 HQ HROW x10
            go_wp2_with (at_builtin; refine Lib.wpList_append_run _ rfl _ _ _ _ rfl _ _ rfl rfl _ _ hrun ?_)
            go_roundw
            case rel => exact ⟨j + 1, some ⟨g, 0, none⟩, cap, _, _, N', by omega, by go_num, rfl, HJ⟩
            case measure => simp [Go.RowKit.intOf]; omega
          · have hd : (ec != 0) = true := by simpa using he0
            have hq : rsU bs f t M N = .error ec ∧ ∃ N, PB sz Bk pu As cs Wf N := by
              rcases HQ.out with ⟨t', N', h1, h2, h3, h4⟩ | ⟨h1, h2, h3⟩
              · exact absurd h2 he0
              · exact ⟨h1, h3⟩
            obtain ⟨hq, hpp⟩ := hq
            have HPP := Lib.hid hpp; clear hpp
            have heq := HEQ.out
            rw [HM.out, hq] at heq
            have HE2 := Lib.hid heq
            clear heq hq HQ HROW x10 xI
            go_wp2_with fail
            go_ret2
            rw [HE2.out]
            exact ⟨HFW.out, HPP.out, rfl, he0⟩
      · have heq := HI.out.eq
        rw [drop_all HN.out (by omega), rsL] at heq
        have HE2 := Lib.hid heq; clear heq
        obtain rfl : j = n := by omega
        go_wp2_with fail
        go_ret2
        rw [HE2.out]
        refine ⟨HI.out.fr, ⟨_, HI.out.ptr⟩, Av, j, cv, by simp, ?_, HI.out.ptr⟩
        simpa using HI.out.row.rxl fun b hb => hb

end Go.Proofs.YtnnmnkgogiabiaaGreat

/-
  Contract of package unify's resolve, and so of resolveAll. No statement is proved here.
-/
namespace Go.Proofs.YtnnmnkgogiabiaaGreat
open Go.ChangeShapes Go.WideShapes Go.ChangeAt Go.RowKit
set_option linter.unusedVariables false

theorem UE.uni {X : Nat → Prop} {sz : List Int} {Bk pu : Nat} {As : Option Addr} {cs : Nat} {w : World} {R : Res} {e : Ending} {w' : World} (h : UE X sz Bk pu As cs w R e w') :
    ∃ k g A n c ec, e = .returned (.tuple #[.agg #[.int .i64 k, .int .i64 g, .slice A n c], .int .i64 ec]) ∧ FrP pu w w' ∧ ((∃ t N, R = .ok (t, N) ∧ ec = 0 ∧ RX X w' t (.agg #[.int .i64 k, .int .i64 g, .slice A n c]) ∧ PB sz Bk pu As cs w' N) ∨ (R = .error ec ∧ ec ≠ 0)) := by
  obtain ⟨hf, _, h⟩ := h
  cases R with
  | error ec => obtain ⟨rfl, hne⟩ := h; exact ⟨0, 0, none, 0, 0, ec, rfl, hf, .inr ⟨rfl, hne⟩⟩
  | ok p => obtain ⟨t, N⟩ := p; obtain ⟨k, g, A, n, c, rfl, hr, hp⟩ := h; exact ⟨k, g, A, n, c, 0, rfl, hf, .inl ⟨t, N, rfl, rfl, hr, hp⟩⟩
/-- the written blocks, and the new ones of a world -/
def XN (Bk pu : Nat) (w W : World) (b : Nat) : Prop := UX Bk pu b ∨ w.heap.size ≤ b ∧ b < W.heap.size
theorem rsU_e1 {bs : List BT} {f : Nat} {t : T} {m : Int} {N : Nat} {ec : Int} (h : rdU bs m (f + 1) t N = .error ec) : rsU bs (f + 1) t m N = .error ec := by rw [rsU, h]
theorem rsU_e2 {bs : List BT} {f : Nat} {t : T} {m : Int} {N : Nat} {k h : Int} {xs : List T} {N1 : Nat} {ec : Int} (h1 : rdU bs m (f + 1) t N = .ok (.node k h xs, N1)) (h2 : rsL (rsU bs f) k xs.length m xs 0 N1 = .error ec) : rsU bs (f + 1) t m N = .error ec := by rw [rsU, h1]; simp only [h2]
theorem rsU_ok {bs : List BT} {f : Nat} {t : T} {m : Int} {N : Nat} {k h : Int} {xs ys : List T} {N1 N2 : Nat} (h1 : rdU bs m (f + 1) t N = .ok (.node k h xs, N1)) (h2 : rsL (rsU bs f) k xs.length m xs 0 N1 = .ok (ys, N2)) : rsU bs (f + 1) t m N = .ok (.node k h ys, N2) := by rw [rsU, h1]; simp only [h2]

set_option maxRecDepth 100000 in
set_option maxHeartbeats 8000000 in
theorem uResolveC {sz : List Int} {Bk pu : Nat} {As : Option Addr} {cs : Nat} {bs : List BT} : ∀ (f : Nat), ResT sz Bk pu As cs bs f := by
  intro f
  induction f with
  | zero => intro t m N k h A n c w _ _ _ _ _ h1 h2 _; omega
  | succ f ih =>
    intro t m N k h A n c w hst hok hwt hm hm2 hf hN hr
    obtain ⟨W, hW⟩ : ∃ W, ((w.alloc (.cells #[.int .i64 k, .int .i64 h, .slice A n c] 24)).alloc (.cells #[.int .i64 m] 3)).alloc (.cells #[.int .i64 0, .int .i64 0, .slice none 0 0] 24) = W := ⟨_, rfl⟩
    have hb : Below w.heap.size w W := by rw [← hW]; exact (((Below.refl _ _).alloc (Nat.le_refl _) _).alloc (by simp) _).alloc (by simp; omega) _
    have x0 : Box W w.heap.size 24 #[.int .i64 k, .int .i64 h, .slice A n c] := by rw [← hW]; exact ((Box.new _ _ _).alloc _).alloc _
    have x1 : Box W (w.heap.size + 1) 3 #[.int .i64 m] := by rw [← hW]; exact ((Box.new (w.alloc _) _ _).at (by simp)).alloc _
    have x2 : Box W (w.heap.size + 1 + 1) 24 #[.int .i64 0, .int .i64 0, .slice none 0 0] := by rw [← hW]; exact (Box.new ((w.alloc _).alloc _) _ _).at (by simp)
    have hlt := hst.lt
    have hr' : RX (XN Bk pu w W) W t (.agg #[.int .i64 k, .int .i64 h, .slice A n c]) := RdF.moveX (fun b hb' hl => ⟨fun e => by
      rcases e with e | e
      · exact hb' e
      · omega, hb.block b hl⟩) _ _ hr
    have HRC := Lib.hid (uReduceC (X := XN Bk pu w W) m (f + 1) t N k h A n c W (hst.keep hb) hok hwt hm (by omega) hf hN (fun b e => .inl e) (fun b e => by
      have := hb.size
      rcases e with (e | e) | e <;> omega) hr')
    obtain ⟨R, hR⟩ : ∃ R, rdU bs m (f + 1) t N = R := ⟨_, rfl⟩
    rw [hR] at HRC
    have HST := Lib.hid hst
    have HOK := Lib.hid hok
    have HWT := Lib.hid hwt
    have HIH := Lib.hid ih
    have HB := Lib.hid hb
    clear hr hr' hst hok hwt ih
    have HW := Lib.hid hW; clear hW
    go_enter Tryz.func27, Tryz.ntmps27
    go_wp2_with fail
    rw [HW.out]
    clear HW
    obtain ⟨c0, c1, c2⟩ := x0.three
    refine HRC.out.mono ?_
    intro e w1 hE
    have HPP := Lib.hid hE.2.1
    obtain ⟨k1, h1, A1, n1, cc1, ec, rfl, hfr, hq⟩ := hE.uni
    clear c0 c1 c2 hE
    have s0 := hb.size
    have l2 := x2.lt
    have y0 := x0.fr hfr (by omega)
    have y1 := x1.fr hfr (by omega)
    have y2 := x2.fr hfr (by omega)
    have s1 := hfr.size
    have f0 := y0.frozen 0
    have f1 := y0.frozen 1
    have f2 := y0.frozen 2
    obtain ⟨c0, c1, c2⟩ := y0.three
    have HY1 := Lib.hid y1
    have HFR := Lib.hid ((Fr.below (X := fun b => b = pu) hb).trans hfr fun _ _ e => e)
    clear hfr hb
    by_cases he0 : ec = 0
    · obtain ⟨t1, N1, hRo, hrx, hpb⟩ : ∃ t1 N1, R = .ok (t1, N1) ∧ RX (XN Bk pu w W) w1 t1 (.agg #[.int .i64 k1, .int .i64 h1, .slice A1 n1 cc1]) ∧ PB sz Bk pu As cs w1 N1 := by
        rcases hq with ⟨t1, N1, e1, e2, e3, e4⟩ | ⟨e1, e2⟩
        · exact ⟨t1, N1, e1, e3, e4⟩
        · exact absurd he0 e2
      subst he0
      rw [hRo] at hR
      obtain ⟨g1, g2, g3, _⟩ := rdU_good hm _ _ _ _ _ HOK.out HWT.out hR
      obtain ⟨kt, gt, xs⟩ := t1
      obtain ⟨Aq, nq, cq, eq, wfk, wfh, hl, hnc, hcm, hxs⟩ := RdF_node.1 hrx
      have eq' : k1 = kt ∧ h1 = gt ∧ A1 = Aq ∧ n1 = nq ∧ cc1 = cq := by simpa using eq
      obtain ⟨rfl, rfl, rfl, rfl, rfl⟩ := eq'
      clear eq hq hRo
      have hln := g3.len
      obtain ⟨Wb, hWb⟩ : ∃ Wb, ((w1.setCell ⟨w.heap.size, 0, none⟩ (.int .i64 k1)).setCell ⟨w.heap.size, 1, none⟩ (.int .i64 h1)).setCell ⟨w.heap.size, 2, none⟩ (.slice A1 n1 cc1) = Wb := ⟨_, rfl⟩
      have hset : ∀ b, b ≠ w.heap.size → Wb.heap[b]? = w1.heap[b]? := fun b hb => by rw [← hWb]; exact heap_other3 _ _ _ _ _ _ hb
      have z0 : Box Wb w.heap.size 24 #[.int .i64 k1, .int .i64 h1, .slice A1 n1 cc1] := by rw [← hWb]; exact y0.put3 _ _ _
      have z1 : Box Wb (w.heap.size + 1) 3 #[.int .i64 m] := (hset _ (by omega)).trans y1
      have z2 : Box Wb (w.heap.size + 1 + 1) 24 #[.int .i64 0, .int .i64 0, .slice none 0 0] := (hset _ (by omega)).trans y2
      have hfb : FrP pu w Wb := by rw [← hWb]; exact HFR.out.set3 (fun h => by omega) _ _ _
      have hpb2 : PB sz Bk pu As cs Wb N1 := (hset _ (by omega)).trans hpb
      have sWb : Wb.heap.size = w1.heap.size := by rw [← hWb]; simp
      have hxl : RXL (UX Bk pu) Wb xs A1 n1 cc1 := ⟨hl, hnc, hcm, fun i t ht => RdFAt.moveX (fun b hb _ => ⟨fun e => hb (.inl e), hset b (fun e => hb (.inr ⟨by omega, by omega⟩))⟩) (hxs i t ht)⟩
      have HAL := Lib.hid (uAll1C (f := f) (k := k1) (m := m) (nn := n1) (p1 := .pointer (some ⟨w.heap.size + 1, 0, none⟩)) (p2 := .pointer (some ⟨w.heap.size, 0, none⟩)) (HST.out.after hfb hpb2) (HOK.out.mono (by omega)) hxl (fun j x hj => by have := g3.arg hj; rw [hl] at this; exact this) hm (by omega) (by omega) g2 (by omega) HIH.out (fun i W' hi hf' => by
        exact uClo1C k1 h1 A1 n1 cc1 hnc hcm m hm (by omega) i hi _ _ W' (z1.fr hf' (by omega)) (z0.fr hf' (by omega))))
      have hR2 := hR
      rw [← hl] at HAL
      obtain ⟨L, hL⟩ : ∃ L, rsL (rsU bs f) k1 xs.length m xs 0 N1 = L := ⟨_, rfl⟩
      rw [hL] at HAL
      have HL := Lib.hid hL; clear hL
      have HR := Lib.hid hR; clear hR hR2
      have HWF := Lib.hid (And.intro wfk wfh); clear wfk wfh
      have HZ2 := Lib.hid z2
      have HFB := Lib.hid hfb
      clear HY1 HFR hxs hrx g3 hpb hpb2 hfb hxl y1 y2 z1 z2 hset
      obtain ⟨d0, d1, d2⟩ := z0.three
      rw [hl] at HAL
      go_wp2_with fail
      clear hWb c0 c1 c2 f0 f1 f2 y0
      refine HAL.out.mono ?_
      intro e w2 hE
      have HPP := Lib.hid hE.2.1
      obtain ⟨A2, n2, cc2, ec, rfl, hfr2, hq⟩ := hE.uni
      clear d0 d1 d2 hE
      have u0 := z0.fr hfr2 (by omega)
      have u2 := HZ2.out.fr hfr2 (by omega)
      have s3 := hfr2.size
      have r0 := u2.frozen 0
      have r1 := u2.frozen 1
      have r2 := u2.frozen 2
      have l3 := u2.lt
      obtain ⟨d0, d1, d2⟩ := u0.three
      obtain ⟨q0, q1, q2⟩ := u2.three
      have HFF := Lib.hid (HFB.out.trans hfr2 fun _ _ e => e)
      clear hfr2 u0 z0
      by_cases he0 : ec = 0
      · obtain ⟨ys, N2, hLo, hrl, hpb⟩ : ∃ ys N2, L = .ok (ys, N2) ∧ RXL (fun b => b < Wb.heap.size) w2 ys A2 n2 cc2 ∧ PB sz Bk pu As cs w2 N2 := by
          rcases hq with ⟨ys, N2, e1, e2, e3, e4⟩ | ⟨e1, e2⟩
          · exact ⟨ys, N2, e1, e3, e4⟩
          · exact absurd he0 e2
        subst he0
        have hres := rsU_ok HR.out (HL.out.trans hLo)
        have HRS := Lib.hid hres
        have HRL := Lib.hid hrl
        have HPB := Lib.hid hpb
        clear hq hLo hres hrl hpb
        go_wp2_with fail
        refine bodyPost_ret (v := .tuple #[.agg #[.int .i64 k1, .int .i64 h1, .slice A2 n2 cc2], .int .i64 0]) (by simp [results, Tryz.results27, go_sem, q0, q1, q2]) rfl ?_
        rw [HRS.out]
        refine ⟨HFF.out.set3 (fun h => by omega) _ _ _, ⟨_, (heap_other3 _ _ _ _ _ _ (by omega)).trans HPB.out⟩, k1, h1, A2, n2, cc2, rfl, RdF_node.2 ⟨A2, n2, cc2, rfl, HWF.out.1, HWF.out.2, HRL.out.len, HRL.out.le, HRL.out.cap, fun i t ht => RdFAt.moveX (fun b hb _ => ?_) (HRL.out.at_ i t ht)⟩, ?_⟩
        · have hb : ¬ b < Wb.heap.size := hb
          exact ⟨by omega, heap_other3 _ _ _ _ _ _ (by omega)⟩
        · exact (heap_other3 _ _ _ _ _ _ (by omega)).trans HPB.out
      · have hLo : L = .error ec := by
          rcases hq with ⟨ys, N2, e1, e2, e3, e4⟩ | ⟨e1, e2⟩
          · exact absurd e2 he0
          · exact e1
        have hd : (ec != 0) = true := by simpa using he0
        have HRS := Lib.hid (rsU_e2 HR.out (HL.out.trans hLo))
        clear hq hLo
        go_wp2_with fail
        refine bodyPost_ret (v := .tuple #[.agg #[.int .i64 0, .int .i64 0, .slice none 0 0], .int .i64 ec]) (by simp [results, Tryz.results27, go_sem, q0, q1, q2]) rfl ?_
        rw [HRS.out]
        obtain ⟨N3, hp3⟩ := HPP.out
        exact ⟨HFF.out.set3 (fun h => by omega) _ _ _, ⟨N3, (heap_other3 _ _ _ _ _ _ (by omega)).trans hp3⟩, rfl, he0⟩
    · have hRo : R = .error ec := by
        rcases hq with ⟨ys, N2, e1, e2, e3, e4⟩ | ⟨e1, e2⟩
        · exact absurd e2 he0
        · exact e1
      have hd : (ec != 0) = true := by simpa using he0
      have HRS := Lib.hid (rsU_e1 (hR.trans hRo))
      obtain ⟨q0, q1, q2⟩ := y2.three
      have r0 := y2.frozen 0
      have r1 := y2.frozen 1
      have r2 := y2.frozen 2
      have l3 := y2.lt
      clear hq hRo hR
      go_wp2_with fail
      refine bodyPost_ret (v := .tuple #[.agg #[.int .i64 0, .int .i64 0, .slice none 0 0], .int .i64 ec]) (by simp [results, Tryz.results27, go_sem, q0, q1, q2]) rfl ?_
      rw [HRS.out]
      obtain ⟨N3, hp3⟩ := HPP.out
      exact ⟨(HFR.out.set3 (fun h => by omega) _ _ _).set3 (fun h => by omega) _ _ _, ⟨N3, (heap_other3 _ _ _ _ _ _ (by omega)).trans ((heap_other3 _ _ _ _ _ _ (by omega)).trans hp3)⟩, rfl, he0⟩
end Go.Proofs.YtnnmnkgogiabiaaGreat

/-
  Contracts: slices.Contains of numbers, noContext and slices.ContainsFunc with it; which errors may come; package unify's compare. No statement is proved here.
-/
namespace Go.Proofs.YtnnmnkgogiabiaaGreat
open Go.ChangeShapes Go.WideShapes Go.ChangeAt Go.RowKit
set_option linter.unusedVariables false

/-- numbers in memory -/
abbrev Nu (w : World) (zs : List Int) (A : Option Addr) : Prop := ∀ i z, zs[i]? = some z → ∃ b o, A = some ⟨b, o, none⟩ ∧ w.cell? ⟨b, o + i, none⟩ = some (.int .i64 z)
theorem Nu.keep {w w' : World} {zs : List Int} {A : Option Addr} (h : Nu w zs A) (hk : Below w.heap.size w w') : Nu w' zs A := fun i z hz => by
  obtain ⟨b, o, e, hc⟩ := h i z hz
  exact ⟨b, o, e, (hk.cell (cell_lt hc)).trans hc⟩

set_option maxHeartbeats 4000000 in
theorem uIndexC (zs : List Int) (A : Option Addr) (n c : Nat) (x : Int) (w : World) (hn : zs.length = n) (hc : n ≤ c) (hm : c ≤ maxLen) (hx : Nu w zs A) :
    Calls Tryz.prog 75 #[.slice A n c, .int .i64 x] w fun e w' => ∃ i : Int, e = .returned (.int .i64 i) ∧ decide (0 ≤ i) = decide (x ∈ zs) ∧ Below w.heap.size w w' := by
  unfold maxLen at hm
  have HN := Lib.hid hn; clear hn
  have HX := Lib.hid hx; clear hx
  go_enter Tryz.func75, Tryz.ntmps75
  go_wp2_with fail
  go_loopw [8] (fun i wr => ∃ (j : Nat), j ≤ n ∧ i = .int .i64 j ∧ Hid (decide (x ∈ zs.drop j) = decide (x ∈ zs)) ∧ Below w.heap.size w wr) (fun i _ => n - (Go.RowKit.intOf i).toNat)
  case atStart => exact ⟨0, Nat.zero_le _, rfl, Lib.hid (by simp), Below.refl _ _⟩
  case round =>
    obtain ⟨j, hj, rfl, HS, hb⟩ := hrel
    by_cases hlt : j < n
    · obtain ⟨z, ht⟩ : ∃ z, zs[j]? = some z := ⟨_, List.getElem?_eq_getElem (by rw [HN.out]; exact hlt)⟩
      obtain ⟨b, o, rfl, c0⟩ := HX.out.keep hb j z ht
      have hi0 : (0 : Int) ≤ j := by omega
      have hi1 : (j : Int) < n := by omega
      have HS' := HS.out
      rw [drop_at ht] at HS'
      have HS := Lib.hid HS'; clear HS' ht
      by_cases hz : x = z
      · subst hz
        have hd : (x == x) = true := by simp
        go_wp2_with fail
        go_ret
        exact ⟨_, rfl, by rw [← HS.out]; simp, hb⟩
      · have hd : (x == z) = false := by simpa using hz
        have HZ := Lib.hid hz; clear hz
        go_wp2_with fail
        go_roundw
        case rel => exact ⟨j + 1, by omega, by go_num, Lib.hid (by rw [← HS.out]; simp [HZ.out]), hb⟩
        case measure => simp [Go.RowKit.intOf]; omega
    · go_wp2_with fail
      go_ret
      exact ⟨_, rfl, by have := HS.out; rw [drop_all HN.out (by omega)] at this; rw [← this]; simp, hb⟩
set_option maxHeartbeats 4000000 in
theorem uContainsC (zs : List Int) (A : Option Addr) (n c : Nat) (x : Int) (w : World) (hn : zs.length = n) (hc : n ≤ c) (hm : c ≤ maxLen) (hx : Nu w zs A) :
    Calls Tryz.prog 55 #[.slice A n c, .int .i64 x] w fun e w' => e = .returned (.bool (decide (x ∈ zs))) ∧ Below w.heap.size w w' := by
  have HI := Lib.hid (uIndexC zs A n c x w hn hc hm hx)
  clear hx hn hc hm
  generalize decide (x ∈ zs) = r at *
  go_enter Tryz.func55, Tryz.ntmps55
  go_wp2_with fail
  refine HI.out.mono ?_
  rintro e w1 ⟨i, rfl, hi, hb1⟩
  go_wp2_with fail
  go_ret
  exact ⟨ret_bool (by first | exact hi | rfl | simp), hb1⟩
/-- no context has so many entries -/
def noC (x : Int) : Bool := decide (x < 0) || decide (1000 < x)
set_option maxHeartbeats 4000000 in
theorem uNoContextC (x : Int) (w : World) : Calls Tryz.prog 12 #[.int .i64 x] w fun e w' => e = .returned (.bool (noC x)) ∧ Below w.heap.size w w' := by
  by_cases h0 : x < 0
  · have d0 : decide (x < 0) = true := by simpa using h0
    have hr : noC x = true := by rw [noC, d0]; rfl
    rw [hr]
    clear hr h0
    go_enter Tryz.func12, Tryz.ntmps12
    go_wp2_with fail
    go_ret
    exact ⟨rfl, Below.refl _ _⟩
  · have d0 : decide (x < 0) = false := by simpa using h0
    have hr : noC x = decide (1000 < x) := by rw [noC, d0]; rfl
    rw [hr]
    clear hr h0
    go_enter Tryz.func12, Tryz.ntmps12
    go_wp2_with fail
    go_ret
    exact ⟨rfl, Below.refl _ _⟩
set_option maxHeartbeats 4000000 in
theorem uIndexFC (zs : List Int) (A : Option Addr) (n c : Nat) (w : World) (hn : zs.length = n) (hc : n ≤ c) (hm : c ≤ maxLen) (hx : Nu w zs A) :
    Calls Tryz.prog 21 #[.slice A n c, .func (.func 12) #[] #[]] w fun e w' => ∃ i : Int, e = .returned (.int .i64 i) ∧ decide (0 ≤ i) = zs.any noC ∧ Below w.heap.size w w' := by
  unfold maxLen at hm
  have HN := Lib.hid hn; clear hn
  have HX := Lib.hid hx; clear hx
  go_enter Tryz.func21, Tryz.ntmps21
  go_wp2_with fail
  go_loopw [8] (fun i wr => ∃ (j : Nat), j ≤ n ∧ i = .int .i64 j ∧ Hid ((zs.drop j).any noC = zs.any noC) ∧ Below w.heap.size w wr) (fun i _ => n - (Go.RowKit.intOf i).toNat)
  case atStart => exact ⟨0, Nat.zero_le _, rfl, Lib.hid (by simp), Below.refl _ _⟩
  case round =>
    obtain ⟨j, hj, rfl, HS, hb⟩ := hrel
    by_cases hlt : j < n
    · obtain ⟨z, ht⟩ : ∃ z, zs[j]? = some z := ⟨_, List.getElem?_eq_getElem (by rw [HN.out]; exact hlt)⟩
      obtain ⟨b, o, rfl, c0⟩ := HX.out.keep hb j z ht
      have hi0 : (0 : Int) ≤ j := by omega
      have hi1 : (j : Int) < n := by omega
      have HS' := HS.out
      rw [drop_at ht, List.any_cons] at HS'
      have HS := Lib.hid HS'; clear HS' ht
      have HM := Lib.hid (uNoContextC z wr)
      generalize noC z = r at *
      go_wp2_with fail
      clear c0
      refine HM.out.mono ?_
      rintro e w1 ⟨rfl, hb1⟩
      have hbw : Below w.heap.size w w1 := hb.trans (hb1.mono hb.size)
      clear hb1 HM
      cases r
      · go_wp2_with fail
        go_roundw
        case rel => exact ⟨j + 1, by omega, by go_num, Lib.hid (by simpa using HS.out), hbw⟩
        case measure => simp [Go.RowKit.intOf]; omega
      · go_wp2_with fail
        go_ret
        exact ⟨_, rfl, by rw [← HS.out]; simp, hbw⟩
    · go_wp2_with fail
      go_ret
      exact ⟨_, rfl, by have := HS.out; rw [drop_all HN.out (by omega)] at this; rw [← this]; simp, hb⟩
set_option maxHeartbeats 4000000 in
theorem uContainsFC (zs : List Int) (A : Option Addr) (n c : Nat) (w : World) (hn : zs.length = n) (hc : n ≤ c) (hm : c ≤ maxLen) (hx : Nu w zs A) :
    Calls Tryz.prog 13 #[.slice A n c, .func (.func 12) #[] #[]] w fun e w' => e = .returned (.bool (zs.any noC)) ∧ Below w.heap.size w w' := by
  have HI := Lib.hid (uIndexFC zs A n c w hn hc hm hx)
  clear hx hn hc hm
  generalize zs.any noC = r at *
  go_enter Tryz.func13, Tryz.ntmps13
  go_wp2_with fail
  refine HI.out.mono ?_
  rintro e w1 ⟨i, rfl, hi, hb1⟩
  go_wp2_with fail
  go_ret
  exact ⟨ret_bool (by first | exact hi | rfl | simp), hb1⟩

/-! ### Which errors come -/
def Er4 (e : Int) : Prop := e = 1 ∨ e = 3 ∨ e = 4
theorem apL_er {A : Nat → T → Nat → Res} {k : Int} {m u : Nat} (hA : ∀ v x n e, A v x n = .error e → Er4 e) : ∀ (xs : List T) (i n : Nat) (e : Int), apL A k m u xs i n = .error e → Er4 e
  | [], _, _, _, h => by simp [apL] at h
  | x :: xs, i, n, e, h => by
    rw [apL] at h
    split at h
    · rename_i e' h'
      cases h
      exact hA _ _ _ _ h'
    · split at h
      · rename_i e' h'
        cases h
        exact apL_er hA xs _ _ _ h'
      · cases h
theorem spL_er {A : T → T → Nat → Res} (hA : ∀ a x n e, A a x n = .error e → Er4 e) : ∀ (bs : List T) (t : T) (n : Nat) (e : Int), spL A t bs n = .error e → Er4 e
  | [], _, _, _, h => by simp [spL] at h
  | a :: bs, .node k hd xs, n, e, h => by
    rw [spL] at h
    split at h
    · split at h
      · split at h
        · rename_i e' h'
          cases h
          exact hA _ _ _ _ h'
        · exact spL_er hA bs _ _ _ h
      · cases h; exact .inr (.inr rfl)
    · split at h
      · cases h
      · cases h; exact .inr (.inl rfl)
theorem ap_er : ∀ (f : Nat) (L : List T) (sh : Int) (u : Nat) (t : T) (n : Nat) (e : Int), ap f L sh u t n = .error e → Er4 e := by
  intro f
  induction f with
  | zero => intro L sh u t n e h; rw [ap] at h; cases h; exact .inr (.inr rfl)
  | succ f ih =>
    rintro L sh u ⟨k, hd, xs⟩ n e h
    rw [ap] at h
    split at h
    · cases h; exact .inr (.inr rfl)
    · split at h
      · rename_i e' h'
        cases h
        exact apL_er (fun v x n e h => ih _ _ _ _ _ _ h) _ _ _ _ h'
      · split at h
        · exact spL_er (fun a x n e h => ih _ _ _ _ _ _ h) _ _ _ _ h
        · cases h
theorem apE_er {t : T} {L : List T} {sh : Int} (h : apE t L sh ≠ 0) : Er4 (apE t L sh) := by
  unfold apE at h ⊢
  split
  · rename_i hc
    rw [if_pos hc] at h
    cases hr : apR t L sh with
    | error e => exact ap_er _ _ _ _ _ _ _ hr
    | ok p =>
      obtain ⟨t', n'⟩ := p
      rw [hr] at h
      simp only [anE] at h ⊢
      split
      · rename_i hm; simp [hm] at h
      · exact .inr (.inr rfl)
  · exact .inl rfl
theorem rdU_er {bs : List BT} {m : Int} : ∀ (f : Nat) (t : T) (N : Nat) (e : Int), rdU bs m f t N = .error e → Er4 e
  | 0, _, _, _, h => by rw [rdU] at h; cases h; exact .inr (.inr rfl)
  | f + 1, .node k hd xs, N, e, h => by
    rw [rdU] at h
    split at h
    · cases h; exact .inr (.inr rfl)
    · split at h
      · split at h
        · exact rdU_er f _ _ _ h
        · rename_i hne; cases h; exact apE_er hne
      · cases h
theorem rsL_er {A : T → Int → Nat → Res} {k : Int} {n : Nat} {m : Int} (hA : ∀ x m N e, A x m N = .error e → Er4 e) : ∀ (xs : List T) (i N : Nat) (e : Int), rsL A k n m xs i N = .error e → Er4 e
  | [], _, _, _, h => by rw [rsL] at h; cases h
  | x :: xs, i, N, e, h => by
    rw [rsL] at h
    split at h
    · rename_i e' h'; cases h; exact hA _ _ _ _ h'
    · split at h
      · rename_i e' h'; cases h; exact rsL_er hA xs _ _ _ h'
      · cases h
theorem rsU_er {bs : List BT} : ∀ (f : Nat) (t : T) (m : Int) (N : Nat) (e : Int), rsU bs f t m N = .error e → Er4 e
  | 0, _, _, _, _, h => by rw [rsU] at h; cases h; exact .inr (.inr rfl)
  | f + 1, t, m, N, e, h => by
    rw [rsU] at h
    split at h
    · rename_i e' h'; cases h; exact rdU_er _ _ _ _ h'
    · split at h
      · rename_i e' h'; cases h; exact rsL_er (fun x m N e he => rsU_er f x m N e he) _ _ _ _ h'
      · cases h
/-- an answer: an error, or whether it is outside, and what metas are then -/
def US (sz : List Int) (Bk pu : Nat) (As : Option Addr) (cs : Nat) (w : World) (R : Except Int USt) (e : Ending) (w' : World) : Prop :=
  Fr (UX Bk pu) w w' ∧ match R with
  | .error ec => e = .returned (.int .i64 ec) ∧ ec ≠ 0 ∧ ec ≠ 5
  | .ok (o, bs, N) => e = .returned (.int .i64 (if o = true then 5 else 0)) ∧ UM sz Bk pu As cs bs N w'
theorem Er4.ne {e : Int} (h : Er4 e) : e ≠ 0 ∧ e ≠ 5 := by rcases h with h | h | h <;> omega

theorem rsL_len {A : T → Int → Nat → Res} {k : Int} {n : Nat} {m : Int} : ∀ {xs : List T} {i N : Nat} {ys : List T} {N' : Nat}, rsL A k n m xs i N = .ok (ys, N') → ys.length = xs.length
  | [], i, N, ys, N', h => by rw [rsL] at h; cases h; rfl
  | x :: xs, i, N, ys, N', h => by
    rw [rsL] at h
    split at h
    · cases h
    · split at h
      · cases h
      · rename_i zs N2 h2; cases h; rw [List.length_cons, List.length_cons, rsL_len h2]
theorem rxl_at {X : Nat → Prop} {w : World} {ys : List T} {A : Option Addr} {n c i : Nat} {t : T} (h : RXL X w ys A n c) (ht : ys[i]? = some t) : ∃ b o k g A' n' c', A = some ⟨b, o, none⟩ ∧ w.cell? ⟨b, o + i * 3, none⟩ = some (.int .i64 k) ∧ w.cell? ⟨b, o + i * 3 + 1, none⟩ = some (.int .i64 g) ∧ w.cell? ⟨b, o + i * 3 + 2, none⟩ = some (.slice A' n' c') ∧ RX X w t (.agg #[.int .i64 k, .int .i64 g, .slice A' n' c']) := (h.at_ i t ht).full
end Go.Proofs.YtnnmnkgogiabiaaGreat

/-
  Contracts of package unify's compare and solve. No statement is proved here.
-/
namespace Go.Proofs.YtnnmnkgogiabiaaGreat
open Go.ChangeShapes Go.WideShapes Go.ChangeAt Go.RowKit
set_option linter.unusedVariables false

theorem bd_nil (i : Nat) : bd 0 0 i = 0 := bd_bind (by omega) (by omega)
theorem two_len {α : Type} {ys : List α} (h : ys.length = 2) : ∃ a b, ys = [a, b] := by
  match ys, h with
  | [a, b], _ => exact ⟨a, b, rfl⟩

set_option maxRecDepth 100000 in
set_option maxHeartbeats 8000000 in
theorem uCompareC {sz : List Int} {Bk pu : Nat} {As : Option Addr} {cs : Nat} {bs : List BT} (f : Nat) (a c : T) (m : Int) (N : Nat) (k h : Int) (A : Option Addr) (n cc : Nat) (k' h' : Int) (A' : Option Addr) (n' cc' : Nat) (w : World) (hst : UM sz Bk pu As cs bs N w) (hok : okU sz bs N) (ha : WT (kN N + m) a) (hc : WT (kN N + m) c) (hm : 0 ≤ m) (hm2 : m + f + 1 ≤ 100000) (hf : 40001 ≤ f + N) (hN : N ≤ 40000)
    (hra : RX (UX Bk pu) w a (.agg #[.int .i64 k, .int .i64 h, .slice A n cc])) (hrc : RX (UX Bk pu) w c (.agg #[.int .i64 k', .int .i64 h', .slice A' n' cc'])) :
    Calls Tryz.prog 39 #[.pointer (some ⟨pu, 0, none⟩), .agg #[.int .i64 k, .int .i64 h, .slice A n cc], .agg #[.int .i64 k', .int .i64 h', .slice A' n' cc'], .int .i64 m] w (US sz Bk pu As cs w (cmU bs f a c m N)) := by
  obtain ⟨W, hW⟩ : ∃ W, ((w.alloc (.cells #[.int .i64 k, .int .i64 h, .slice A n cc] 24)).alloc (.cells #[.int .i64 k', .int .i64 h', .slice A' n' cc'] 24)).alloc (.cells #[.int .i64 m] 3) = W := ⟨_, rfl⟩
  have hb : Below w.heap.size w W := by rw [← hW]; exact (((Below.refl _ _).alloc (Nat.le_refl _) _).alloc (by simp) _).alloc (by simp; omega) _
  have x0 : Box W w.heap.size 24 #[.int .i64 k, .int .i64 h, .slice A n cc] := by rw [← hW]; exact ((Box.new _ _ _).alloc _).alloc _
  have x1 : Box W (w.heap.size + 1) 24 #[.int .i64 k', .int .i64 h', .slice A' n' cc'] := by rw [← hW]; exact ((Box.new (w.alloc _) _ _).at (by simp)).alloc _
  have x2 : Box W (w.heap.size + 1 + 1) 3 #[.int .i64 m] := by rw [← hW]; exact (Box.new ((w.alloc _).alloc _) _ _).at (by simp)
  have hlt := hst.lt
  obtain ⟨L, hL⟩ : ∃ L, rsL (rsU bs f) 0 0 m [a, c] 0 N = L := ⟨_, rfl⟩
  obtain ⟨R, hR⟩ : ∃ R, cmU bs f a c m N = R := ⟨_, rfl⟩
  rw [hR]
  have HR := Lib.hid (hR.symm.trans (by rw [cmU, hL])); clear hR
  obtain ⟨W2, hW2⟩ : ∃ W2, W.alloc (.cells #[.int .i64 k, .int .i64 h, .slice A n cc, .int .i64 k', .int .i64 h', .slice A' n' cc'] 24) = W2 := ⟨_, rfl⟩
  have hb2 : Below W.heap.size W W2 := by rw [← hW2]; exact (Below.refl _ _).alloc (Nat.le_refl _) _
  have hWs : W.heap.size = w.heap.size + 1 + 1 + 1 := by rw [← hW]; simp
  have y : Box W2 (w.heap.size + 1 + 1 + 1) 24 #[.int .i64 k, .int .i64 h, .slice A n cc, .int .i64 k', .int .i64 h', .slice A' n' cc'] := by rw [← hW2]; exact (Box.new _ _ _).at hWs
  have hbw := hb.trans (hb2.mono hb.size)
  have s0 := hb.size
  have l2 := x2.lt
  have hxl : RXL (UX Bk pu) W2 [a, c] (some ⟨w.heap.size + 1 + 1 + 1, 0, none⟩) 2 2 := by
    refine ⟨rfl, Nat.le_refl _, by unfold maxLen; omega, fun i t ht => ?_⟩
    have nX : ¬ UX Bk pu (w.heap.size + 1 + 1 + 1) := fun e => by rcases e with e | e <;> omega
    match i, ht with
    | 0, ht =>
      cases ht
      exact ⟨w.heap.size + 1 + 1 + 1, 0, _, _, _, rfl, nX, y.cell 0, y.cell 1, y.cell 2, RX.fr hra (Fr.below hbw)⟩
    | 1, ht =>
      cases ht
      exact ⟨w.heap.size + 1 + 1 + 1, 0, _, _, _, rfl, nX, y.cell 3, y.cell 4, y.cell 5, RX.fr hrc (Fr.below hbw)⟩
    | i + 2, ht => simp at ht
  have HAL := Lib.hid (uAll3C (f := f) (k := 0) (m := m) (nn := 0) (p1 := .pointer (some ⟨w.heap.size + 1 + 1, 0, none⟩)) (hst.keep hbw) hok hxl (fun j x hj => by
    rw [bd_nil, Int.add_zero]
    have := List.mem_of_getElem? hj
    simp at this
    rcases this with rfl | rfl
    · exact ha
    · exact hc) hm (by omega) (by omega) hN (by omega) (uResolveC f) (fun i W' hi hf' => by
      rw [bd_nil, Int.add_zero]
      exact uClo3C m _ _ W' ((x2.keep hb2 x2.lt).fr hf' (by omega))))
  rw [hL] at HAL
  have HL := Lib.hid hL; clear hL
  have HST := Lib.hid hst
  have HB := Lib.hid hbw
  clear hra hrc hst hok ha hc hxl hb hbw hb2
  have HW := Lib.hid hW; clear hW
  have HW2 := Lib.hid hW2; clear hW2
  clear y s0 l2 hWs
  go_enter Tryz.func39, Tryz.ntmps39
  go_wp2_with fail
  rw [HW.out]
  clear HW
  obtain ⟨c0, c1, c2⟩ := x0.three
  obtain ⟨d0, d1, d2⟩ := x1.three
  go_wp2_with fail
  rw [HW2.out]
  clear HW2 c0 c1 c2 d0 d1 d2
  refine HAL.out.mono ?_
  intro e w2 hE
  obtain ⟨A2, n2, cc2, ec, rfl, hfr2, hq⟩ := hE.uni
  have HFF := Lib.hid ((Fr.below (X := fun b => b = pu) HB.out).trans hfr2 fun _ _ e => e)
  clear hE hfr2
  by_cases he0 : ec = 0
  · obtain ⟨ys, N2, hLo, hrl, hpb⟩ : ∃ ys N2, L = .ok (ys, N2) ∧ RXL (fun b => b < W2.heap.size) w2 ys A2 n2 cc2 ∧ PB sz Bk pu As cs w2 N2 := by
      rcases hq with ⟨ys, N2, e1, e2, e3, e4⟩ | ⟨e1, e2⟩
      · exact ⟨ys, N2, e1, e3, e4⟩
      · exact absurd he0 e2
    subst he0
    have hlen : ys.length = 2 := rsL_len (HL.out.trans hLo)
    obtain ⟨y0, y1, rfl⟩ := two_len hlen
    obtain rfl : n2 = 2 := hrl.len.symm
    have hcc := hrl.le
    have hccm := hrl.cap
    unfold maxLen at hccm
    obtain ⟨b, o, k1, h1, A3, n3, c3, rfl, a0, a1, a2, hr1⟩ := rxl_at hrl (i := 0) rfl
    obtain ⟨b', o', k2, h2, A4, n4, c4, eA, b0, b1, b2, hr2⟩ := rxl_at hrl (i := 1) rfl
    cases eA
    simp only [Nat.zero_mul, Nat.add_zero] at a0 a1 a2
    have hR2 := HR.out
    rw [hLo] at hR2
    have hR3 : R = .ok (!samB y0 y1, bs, N2) := hR2
    have HR3 := Lib.hid hR3
    have HSM := Lib.hid fun W' (h' : Below w2.heap.size w2 W') => termSame y0 y1 _ _ W' (Rd.keep h' _ _ (RdF.rd _ _ hr1)) (Rd.keep h' _ _ (RdF.rd _ _ hr2))
    have HPB := Lib.hid hpb
    clear hR2 hR3 hrl hr1 hr2 hpb hq hLo HR HL hlen
    generalize samB y0 y1 = S at *
    have q0 := Past.cell a0
    have q1 := Past.cell a1
    have q2 := Past.cell a2
    have t0 := Past.cell b0
    have t1 := Past.cell b1
    have t2 := Past.cell b2
    go_wp2_with fail
    refine wp_region_past (by kernel_rfl) (by kernel_rfl) ?_
    repeat (go_big_quiet_step ((exact calls_past (HSM.out _ (Past.h _)))))
    refine wpQuiet_nil ?_
    rintro _ ⟨z1, rfl⟩
    obtain ⟨W4, hb4⟩ := z1
    dsimp only
    clear q0 q1 q2 t0 t1 t2 a0 a1 a2 b0 b1 b2 HSM
    have hst4 := HST.out.after (HFF.out.then hb4) (HPB.out.keep hb4 HPB.out.lt)
    have HST4 := Lib.hid hst4; clear hst4
    have HF4 := Lib.hid (HFF.out.then hb4); clear hb4
    cases S
    · go_wp2_with fail
      go_ret
      rw [HR3.out]
      exact ⟨FrP.ux HF4.out, rfl, HST4.out⟩
    · go_wp2_with fail
      go_ret
      rw [HR3.out]
      exact ⟨FrP.ux HF4.out, rfl, HST4.out⟩
  · have hLo : L = .error ec := by
      rcases hq with ⟨ys, N2, e1, e2, e3, e4⟩ | ⟨e1, e2⟩
      · exact absurd e2 he0
      · exact e1
    have hd : (ec != 0) = true := by simpa using he0
    have hne := (rsL_er (fun x m N e he => rsU_er f x m N e he) _ _ _ _ (HL.out.trans hLo)).ne
    have hR2 := HR.out
    rw [hLo] at hR2
    have HR3 := Lib.hid (show R = .error ec from hR2)
    have HNE := Lib.hid hne
    clear hR2 hq hLo HR HL hne
    go_wp2_with fail
    go_ret
    rw [HR3.out]
    exact ⟨FrP.ux HFF.out, rfl, HNE.out.1, HNE.out.2⟩
end Go.Proofs.YtnnmnkgogiabiaaGreat

/-
  Contract of package unify's solve. No statement is proved here.
-/
namespace Go.Proofs.YtnnmnkgogiabiaaGreat
open Go.ChangeShapes Go.WideShapes Go.ChangeAt Go.RowKit
set_option linter.unusedVariables false

/-- a meta has become something -/
theorem UM.put {sz : List Int} {Bk pu : Nat} {As : Option Addr} {cs : Nat} {bs : List BT} {N : Nat} {w w' : World} {j : Nat} {u : T} {k h : Int} {A : Option Addr} {n c : Nat}
    (hs : UM sz Bk pu As cs bs N w) (hl : bs.length = sz.length) (hj : j < sz.length) (hr : RX (UX Bk pu) w u (.agg #[.int .i64 k, .int .i64 h, .slice A n c]))
    (hw : w' = (((w.setCell ⟨Bk, j * 4, none⟩ (.bool true)).setCell ⟨Bk, j * 4 + 1, none⟩ (.int .i64 k)).setCell ⟨Bk, j * 4 + 2, none⟩ (.int .i64 h)).setCell ⟨Bk, j * 4 + 3, none⟩ (.slice A n c)) :
    UM sz Bk pu As cs (bs.set j (true, u)) N w' ∧ Fr (UX Bk pu) w w' := by
  have hset : ∀ g, g ≠ Bk → w'.heap[g]? = w.heap[g]? := fun g hg => by
    rw [hw, Below.heap_setCell _ _ _ _ hg, Below.heap_setCell _ _ _ _ hg, Below.heap_setCell _ _ _ _ hg, Below.heap_setCell _ _ _ _ hg]
  have hfr : Fr (UX Bk pu) w w' := ⟨by rw [hw]; rfl, by rw [hw]; rfl, by rw [hw]; rfl, by rw [hw]; simp [World.setCell], fun b _ hb => hset b fun e => hb (.inl e)⟩
  obtain ⟨cs', hb, hsz, hc⟩ := hs.row
  refine ⟨⟨(hset _ fun e => hs.ne e.symm).trans hs.ptr, ⟨((((cs'.setIfInBounds (j * 4) (.bool true)).setIfInBounds (j * 4 + 1) (.int .i64 k)).setIfInBounds (j * 4 + 2) (.int .i64 h)).setIfInBounds (j * 4 + 3) (.slice A n c)), ?_, by simp [hsz], ?_⟩, hs.ne, hs.sizes.fr hfr⟩, hfr⟩
  · rw [hw]
    exact (((hb.setAt _ _).setAt _ _).setAt _ _).setAt _ _
  · intro i x hx
    by_cases hij : i = j
    · subst hij
      rw [List.getElem?_set_self (by rw [hl]; exact hj)] at hx
      cases hx
      refine ⟨k, h, A, n, c, ?_, ?_, ?_, ?_, RX.fr hr hfr⟩
      all_goals simp only [Array.getElem?_setIfInBounds]
      · rw [if_neg (by omega), if_neg (by omega), if_neg (by omega), if_pos trivial, if_pos (by omega)]
      · rw [if_neg (by omega), if_neg (by omega), if_pos trivial, if_pos (by simp; omega)]
      · rw [if_neg (by omega), if_pos trivial, if_pos (by simp; omega)]
      · rw [if_pos trivial, if_pos (by simp; omega)]
    · rw [List.getElem?_set_ne (fun e => hij e.symm)] at hx
      obtain ⟨k', h', A', n', c', e0, e1, e2, e3, hr'⟩ := hc i x hx
      refine ⟨k', h', A', n', c', ?_, ?_, ?_, ?_, RX.fr hr' hfr⟩
      all_goals simp only [Array.getElem?_setIfInBounds]
      · rw [if_neg (by omega), if_neg (by omega), if_neg (by omega), if_neg (by omega)]; exact e0
      · rw [if_neg (by omega), if_neg (by omega), if_neg (by omega), if_neg (by omega)]; exact e1
      · rw [if_neg (by omega), if_neg (by omega), if_neg (by omega), if_neg (by omega)]; exact e2
      · rw [if_neg (by omega), if_neg (by omega), if_neg (by omega), if_neg (by omega)]; exact e3
theorem ivR_er {t : T} {vs : List Int} {n e : Int} (h : ivR t vs n = .error e) : e = 1 ∨ e = 7 := by
  rw [ivR] at h
  split at h
  · cases hr : rn (igW vs n) t 0 with
    | none => rw [hr] at h; cases h; exact .inr rfl
    | some u => rw [hr] at h; cases h
  · cases h; exact .inl rfl
/-- what solve comes to, step by step -/
theorem svU_scope {sz : List Int} {bs : List BT} {f : Nat} {h : Int} {xs : List T} {t : T} {m : Int} {N : Nat} (hc : (bs.length : Int) ≤ h ∨ (xs.length : Int) ≠ sz.getD h.toNat 0) : svU sz bs f h xs t m N = .error 2 := by rw [svU, if_pos hc]
theorem svU_e1 {sz : List Int} {bs : List BT} {f : Nat} {h : Int} {xs : List T} {t : T} {m : Int} {N : Nat} {ec : Int} (hc : ¬ ((bs.length : Int) ≤ h ∨ (xs.length : Int) ≠ sz.getD h.toNat 0)) (h1 : rsU bs f t m N = .error ec) : svU sz bs f h xs t m N = .error ec := by rw [svU, if_neg hc, h1]
theorem svU_e2 {sz : List Int} {bs : List BT} {f : Nat} {h : Int} {xs : List T} {t t' : T} {m : Int} {N N1 : Nat} {ec : Int} (hc : ¬ ((bs.length : Int) ≤ h ∨ (xs.length : Int) ≠ sz.getD h.toNat 0)) (h1 : rsU bs f t m N = .ok (t', N1)) (h2 : rsL (rsU bs f) 0 0 m xs 0 N1 = .error ec) : svU sz bs f h xs t m N = .error ec := by
  rw [svU, if_neg hc, h1]; simp only [h2]
/-- behind both -/
def svT (bs : List BT) (h : Int) (t' : T) (ys : List T) (m : Int) (N : Nat) : Except Int USt :=
  match ptn m [] ys with
  | none => .ok (true, bs, N)
  | some vs =>
    if h ∈ mtO t' then .ok (true, bs, N)
    else match ivR t' vs m with
    | .ok u => .ok (false, bs.set h.toNat (true, u), N)
    | .error e => if e = 7 then (if (mtO t').length = 0 then .error 6 else .ok (true, bs, N)) else .error 4
theorem svU_ok {sz : List Int} {bs : List BT} {f : Nat} {h : Int} {xs ys : List T} {t t' : T} {m : Int} {N N1 N2 : Nat} (hc : ¬ ((bs.length : Int) ≤ h ∨ (xs.length : Int) ≠ sz.getD h.toNat 0)) (h1 : rsU bs f t m N = .ok (t', N1)) (h2 : rsL (rsU bs f) 0 0 m xs 0 N1 = .ok (ys, N2)) : svU sz bs f h xs t m N = svT bs h t' ys m N2 := by
  rw [svU, if_neg hc, h1]; simp only [h2]; rfl

set_option maxRecDepth 100000 in
set_option maxHeartbeats 8000000 in
theorem uSolveC {sz : List Int} {Bk pu : Nat} {As : Option Addr} {cs : Nat} {bs : List BT} (f : Nat) (j : Nat) (xs : List T) (t : T) (m : Int) (N : Nat) (A : Option Addr) (n cc : Nat) (k' h' : Int) (A' : Option Addr) (n' cc' : Nat) (w : World) (hst : UM sz Bk pu As cs bs N w) (hok : okU sz bs N) (hx : WT (kN N + m) (.node 6 j xs)) (ht : WT (kN N + m) t) (hm : 0 ≤ m) (hm2 : m + f + 1 ≤ 100000) (hf : 40001 ≤ f + N) (hN : N ≤ 40000)
    (hra : RX (UX Bk pu) w (.node 6 j xs) (.agg #[.int .i64 6, .int .i64 j, .slice A n cc])) (hrc : RX (UX Bk pu) w t (.agg #[.int .i64 k', .int .i64 h', .slice A' n' cc'])) :
    Calls Tryz.prog 38 #[.pointer (some ⟨pu, 0, none⟩), .agg #[.int .i64 6, .int .i64 j, .slice A n cc], .agg #[.int .i64 k', .int .i64 h', .slice A' n' cc'], .int .i64 m] w (US sz Bk pu As cs w (svU sz bs f j xs t m N)) := by
  obtain ⟨W, hW⟩ : ∃ W, ((w.alloc (.cells #[.int .i64 6, .int .i64 j, .slice A n cc] 24)).alloc (.cells #[.int .i64 k', .int .i64 h', .slice A' n' cc'] 24)).alloc (.cells #[.int .i64 m] 3) = W := ⟨_, rfl⟩
  have hb : Below w.heap.size w W := by rw [← hW]; exact (((Below.refl _ _).alloc (Nat.le_refl _) _).alloc (by simp) _).alloc (by simp; omega) _
  have x0 : Box W w.heap.size 24 #[.int .i64 6, .int .i64 j, .slice A n cc] := by rw [← hW]; exact ((Box.new _ _ _).alloc _).alloc _
  have x1 : Box W (w.heap.size + 1) 24 #[.int .i64 k', .int .i64 h', .slice A' n' cc'] := by rw [← hW]; exact ((Box.new (w.alloc _) _ _).at (by simp)).alloc _
  have x2 : Box W (w.heap.size + 1 + 1) 3 #[.int .i64 m] := by rw [← hW]; exact (Box.new ((w.alloc _).alloc _) _ _).at (by simp)
  have hlt := hst.lt
  obtain ⟨R, hR⟩ : ∃ R, svU sz bs f j xs t m N = R := ⟨_, rfl⟩
  rw [hR]
  have HR := Lib.hid hR.symm; clear hR
  obtain ⟨Aq, nq, cq, eq, _, _, hl, hnc, hcm, hxs⟩ := RdF_node.1 hra
  have eq' : A = Aq ∧ n = nq ∧ cc = cq := by simpa using eq
  obtain ⟨rfl, rfl, rfl⟩ := eq'
  clear eq
  have hcm' := hcm
  unfold maxLen at hcm'
  have hxl : RXL (UX Bk pu) w xs A n cc := ⟨hl, hnc, hcm, hxs⟩
  have hst' := hst.keep hb
  obtain ⟨p0, p1, p2⟩ := hst'.ptr.three
  obtain ⟨a0, a1, a2⟩ := x0.three
  have hln := hx.len
  have hbl := hok.len
  have HST := Lib.hid hst
  have HOK := Lib.hid hok
  have HX := Lib.hid hx
  have HT := Lib.hid ht
  have HB := Lib.hid hb
  have HXL := Lib.hid hxl
  have HRC := Lib.hid hrc
  have HX0 := Lib.hid x0
  have HX1 := Lib.hid x1
  have HX2 := Lib.hid x2
  have hj0 : (0 : Int) ≤ j := by omega
  clear hra hrc hst hok hx ht hxl hxs hb x0 x1 x2
  have HW := Lib.hid hW; clear hW
  have q0 := Past.cell a0
  have q1 := Past.cell a1
  have q2 := Past.cell a2
  have t0 := Past.cell p0
  have t1 := Past.cell p1
  go_enter Tryz.func38, Tryz.ntmps38
  go_wp2_with fail
  rw [HW.out]
  clear HW
  by_cases hc1 : (sz.length : Int) ≤ j
  · have hd : decide ((sz.length : Int) ≤ j) = true := by simpa using hc1
    have HR2 := Lib.hid (HR.out.trans (svU_scope (.inl (by rw [hbl]; exact hc1))))
    clear hst'
    refine wp_region_past (by kernel_rfl) (by kernel_rfl) ?_
    repeat (go_big_quiet_step (fail))
    refine wpQuiet_nil ?_
    rintro _ ⟨z1, rfl⟩
    obtain ⟨W4, hb4⟩ := z1
    dsimp only
    clear q0 q1 q2 t0 t1 a0 a1 a2 p0 p1 p2
    have HB4 := Lib.hid (HB.out.trans (hb4.mono HB.out.size)); clear hb4
    go_wp2_with fail
    go_ret
    rw [HR2.out]
    exact ⟨Fr.below HB4.out, rfl, by decide, by decide⟩
  · have hd : decide ((sz.length : Int) ≤ j) = false := by simpa using hc1
    obtain ⟨z, hz⟩ : ∃ z, sz[j]? = some z := ⟨_, List.getElem?_eq_getElem (by omega)⟩
    have hzD : sz.getD j 0 = z := by rw [List.getD_eq_getElem?_getD, hz]; rfl
    obtain ⟨bS, oS, rfl, nXS, s0⟩ := hst'.sizes j z hz
    have r0 := Past.cell s0
    have hjlt : (j : Int) < sz.length := by omega
    by_cases hc2 : (n : Int) ≠ z
    · have hd2 : ((n : Int) != z) = true := by simpa using hc2
      have HR2 := Lib.hid (HR.out.trans (svU_scope (.inr (by rw [Int.toNat_natCast, hzD, hl]; exact hc2))))
      clear hst' hc2
      refine wp_region_past (by kernel_rfl) (by kernel_rfl) ?_
      repeat (go_big_quiet_step (fail))
      refine wpQuiet_nil ?_
      rintro _ ⟨z1, rfl⟩
      obtain ⟨W4, hb4⟩ := z1
      dsimp only
      clear q0 q1 q2 t0 t1 a0 a1 a2 p0 p1 p2 r0 s0
      have HB4 := Lib.hid (HB.out.trans (hb4.mono HB.out.size)); clear hb4
      go_wp2_with fail
      go_ret
      rw [HR2.out]
      exact ⟨Fr.below HB4.out, rfl, by decide, by decide⟩
    · have hd2 : ((n : Int) != z) = false := by simpa using hc2
      have HCC : Hid (¬ ((bs.length : Int) ≤ (j : Int) ∨ (xs.length : Int) ≠ sz.getD (j : Int).toNat 0)) := Lib.hid (by rw [Int.toNat_natCast, hzD, hl, hbl]; omega)
      clear hst' hc2 hz hzD
      refine wp_region_past (by kernel_rfl) (by kernel_rfl) ?_
      repeat (go_big_quiet_step (fail))
      refine wpQuiet_nil ?_
      rintro _ ⟨z1, rfl⟩
      obtain ⟨W4, hb4⟩ := z1
      dsimp only
      clear q0 q1 q2 t0 t1 a0 a1 a2 p0 p1 p2 r0 s0 hd hd2
      have HB4 := Lib.hid (HB.out.trans (hb4.mono HB.out.size))
      have x0 := HX0.out.keep hb4 HX0.out.lt
      have x1 := HX1.out.keep hb4 HX1.out.lt
      have x2 := HX2.out.keep hb4 HX2.out.lt
      clear hb4 HX0 HX1 HX2
      obtain ⟨L, hL⟩ : ∃ L, rsU bs f t m N = L := ⟨_, rfl⟩
      have HRS := uResolveC (bs := bs) f t m N k' h' A' n' cc' W4 (HST.out.keep HB4.out) HOK.out HT.out hm (by omega) hf hN (RX.fr HRC.out (Fr.below HB4.out))
      rw [hL] at HRS
      have HRS := Lib.hid HRS
      have HL := Lib.hid hL; clear hL
      obtain ⟨d0, d1, d2⟩ := x1.three
      have e0 := x2.one.1
      have HX0 := Lib.hid x0
      have HX1 := Lib.hid x1
      have HX2 := Lib.hid x2
      have f0 := x1.frozen 0
      have f1 := x1.frozen 1
      have f2 := x1.frozen 2
      clear x0 x1 x2
      go_wp2_with fail
      refine HRS.out.mono ?_
      intro e w1 hE
      obtain ⟨k1, h1, A1, n1, c1, ec, rfl, hfr, hq⟩ := hE.uni
      have n0 : w.heap.size ≠ pu := by omega
      have n1' : w.heap.size + 1 ≠ pu := by omega
      have n2' : w.heap.size + 1 + 1 ≠ pu := by omega
      have y0 := HX0.out.fr hfr n0
      have y1 := HX1.out.fr hfr n1'
      have y2 := HX2.out.fr hfr n2'
      have HFR := Lib.hid ((Fr.below (X := fun b => b = pu) HB4.out).trans hfr fun _ _ e => e)
      have s4 := HX2.out.lt
      have s41 := HX1.out.lt
      clear hE hfr HX0 HX1 HX2 d0 d1 d2 e0 f0 f1 f2 n0 n1' n2'
      obtain ⟨d0, d1, d2⟩ := y1.three
      have f0 := y1.frozen 0
      have f1 := y1.frozen 1
      have f2 := y1.frozen 2
      by_cases he0 : ec = 0
      · obtain ⟨t', N1, hLo, hrd, hpb⟩ : ∃ t' N1, L = .ok (t', N1) ∧ RdF (fun b => W4.heap.size ≤ b) w1 t' (.agg #[.int .i64 k1, .int .i64 h1, .slice A1 n1 c1]) ∧ PB sz Bk pu (some ⟨bS, oS, none⟩) cs w1 N1 := by
          rcases hq with ⟨ys, N2, e1, e2, e3, e4⟩ | ⟨e1, e2⟩
          · exact ⟨ys, N2, e1, e3, e4⟩
          · exact absurd he0 e2.1
        subst he0
        have hL2 := HL.out.trans hLo
        obtain ⟨g1, g2, g3, g4, g5⟩ := rsU_good f t m N t' N1 hm HOK.out HT.out hL2
        have HL2 := Lib.hid hL2
        clear hq hLo HL hL2
        obtain ⟨Wb, hWb⟩ : ∃ Wb, ((w1.setCell ⟨w.heap.size + 1, 0, none⟩ (.int .i64 k1)).setCell ⟨w.heap.size + 1, 1, none⟩ (.int .i64 h1)).setCell ⟨w.heap.size + 1, 2, none⟩ (.slice A1 n1 c1) = Wb := ⟨_, rfl⟩
        have hset : ∀ b, b ≠ w.heap.size + 1 → Wb.heap[b]? = w1.heap[b]? := fun b hb => by rw [← hWb]; exact heap_other3 _ _ _ _ _ _ hb
        have z0 : Box Wb w.heap.size 24 #[.int .i64 6, .int .i64 j, .slice A n cc] := (hset _ (by omega)).trans y0
        have z1 : Box Wb (w.heap.size + 1) 24 #[.int .i64 k1, .int .i64 h1, .slice A1 n1 c1] := by rw [← hWb]; exact y1.put3 _ _ _
        have z2 : Box Wb (w.heap.size + 1 + 1) 3 #[.int .i64 m] := (hset _ (by omega)).trans y2
        have hfb : FrP pu w Wb := by rw [← hWb]; exact HFR.out.set3 (fun h => by omega) _ _ _
        have hpb2 : PB sz Bk pu (some ⟨bS, oS, none⟩) cs Wb N1 := (hset _ (by omega)).trans hpb
        have hrd2 : RdF (fun b => W4.heap.size ≤ b) Wb t' (.agg #[.int .i64 k1, .int .i64 h1, .slice A1 n1 c1]) := RdF.moveX (fun b hb _ => by have hb : W4.heap.size ≤ b := hb; exact ⟨hb, hset b (by omega)⟩) _ _ hrd
        have HAL := Lib.hid (uAll2C (f := f) (k := 0) (m := m) (nn := 0) (p1 := .pointer (some ⟨w.heap.size + 1 + 1, 0, none⟩)) (HST.out.after hfb hpb2) (HOK.out.mono (by omega)) (HXL.out.fr (FrP.ux hfb)) (fun i x hi => by
          have := HX.out.arg hi
          rw [bd_bind (by omega) (by omega)] at this
          rw [bd_nil]
          exact this.mono (by have := kN_mono (show N ≤ N1 by omega); omega)) hm (by omega) (by omega) g2 (by omega) (uResolveC f) (fun i W' hi hf' => by
          rw [bd_nil, Int.add_zero]
          exact uClo2C m _ _ W' (z2.fr hf' (by omega))))
        obtain ⟨L2, hL2⟩ : ∃ L2, rsL (rsU bs f) 0 0 m xs 0 N1 = L2 := ⟨_, rfl⟩
        rw [hL2] at HAL
        have HLL := Lib.hid hL2; clear hL2
        obtain ⟨b0, b1, b2⟩ := z0.three
        have HZ0 := Lib.hid z0
        have HZ1 := Lib.hid z1
        have HZ2 := Lib.hid z2
        have HRD := Lib.hid hrd2
        have HFB := Lib.hid hfb
        clear hrd hrd2 hpb hpb2 hfb hset y0 y1 y2 z0 z1 z2
        have HG := Lib.hid (And.intro g3 (And.intro (show nd t' ≤ 40000 by omega) g5))
        have HN1 := Lib.hid (And.intro g1 g2)
        clear g1 g2 g3 g4 g5
        go_wp2_with fail
        clear hWb b0 b1 b2 d0 d1 d2 f0 f1 f2
        refine HAL.out.mono ?_
        intro e w2 hE
        obtain ⟨A2, n2, c2, ec, rfl, hfr2, hq⟩ := hE.uni
        have u0 := HZ0.out.fr hfr2 (by omega)
        have u1 := HZ1.out.fr hfr2 (by omega)
        have u2 := HZ2.out.fr hfr2 (by omega)
        have HFF := Lib.hid (HFB.out.trans hfr2 fun _ _ e => e)
        have hRD := RdF.moveX (ok' := fun b => ¬ UX Bk pu b) (fun b hb hl => by
          have hb : W4.heap.size ≤ b := hb
          exact ⟨fun e => by rcases e with e | e <;> omega, hfr2.block b hl (by omega)⟩) _ _ HRD.out
        have HRX := Lib.hid hRD
        clear hE hfr2 HZ0 HZ1 HZ2 HRD hRD HFB
        by_cases he0 : ec = 0
        · obtain ⟨ys, N2, hLo, hrl, hpb⟩ : ∃ ys N2, L2 = .ok (ys, N2) ∧ RXL (fun b => b < Wb.heap.size) w2 ys A2 n2 c2 ∧ PB sz Bk pu (some ⟨bS, oS, none⟩) cs w2 N2 := by
            rcases hq with ⟨ys, N2, e1, e2, e3, e4⟩ | ⟨e1, e2⟩
            · exact ⟨ys, N2, e1, e3, e4⟩
            · exact absurd he0 e2
          subst he0
          have hlen := rsL_len (HLL.out.trans hLo)
          have HR2 := Lib.hid (HR.out.trans (svU_ok HCC.out HL2.out (HLL.out.trans hLo)))
          have hum := HST.out.after HFF.out hpb
          have hn2 := hrl.len
          have HPT := Lib.hid (oPatternC ys A2 n2 c2 m w2 hrl.len hrl.le hrl.cap (by omega) (fun i t ht => rdFAt_rd (hrl.at_ i t ht)))
          obtain ⟨O, hO⟩ : ∃ O, ptn m [] ys = O := ⟨_, rfl⟩
          rw [hO] at HPT
          have HO := Lib.hid hO; clear hO
          have HUM := Lib.hid hum
          clear hq hLo HL2 HLL HR HCC hrl hpb hum
          have e0 := u2.one.1
          have HU0 := Lib.hid u0
          have HU1 := Lib.hid u1
          have HU2 := Lib.hid u2
          clear u0 u1 u2
          go_wp2_with fail
          refine HPT.out.mono ?_
          clear e0
          have hnd : nd t' ≤ 1048576 := by have := HG.out.2.1; omega
          rintro e w3 (⟨vs, v, hv, rfl, hns, hb3⟩ | ⟨hv, rfl, hb3⟩)
          · obtain ⟨Av, cv, rfl, hvl, hvc, hvx⟩ := hns
            have hR3 : R = if (j : Int) ∈ mtO t' then .ok (true, bs, N2) else match ivR t' vs m with
              | .ok u => .ok (false, bs.set j (true, u), N2)
              | .error e => if e = 7 then (if (mtO t').length = 0 then .error 6 else .ok (true, bs, N2)) else .error 4 := by
              have := HR2.out
              rw [svT, HO.out, hv] at this
              simpa using this
            have HR3 := Lib.hid hR3; clear hR3
            have HVX := Lib.hid (show Nu w3 vs Av from hvx)
            have u0 := HU0.out.keep hb3 HU0.out.lt
            have u1 := HU1.out.keep hb3 HU1.out.lt
            have u2 := HU2.out.keep hb3 HU2.out.lt
            have hum := HUM.out.keep hb3
            have hrx := RX.fr HRX.out (Fr.below (X := UX Bk pu) hb3)
            have HME := Lib.hid (oMetasC t' _ w3 hrx.rd hnd)
            have HF3 := Lib.hid ((FrP.ux (Bk := Bk) HFF.out).then hb3)
            obtain ⟨d0, d1, d2⟩ := u1.three
            have HU0 := Lib.hid u0
            have HU1 := Lib.hid u1
            have HU2 := Lib.hid u2
            have HUM := Lib.hid hum
            have HRX := Lib.hid hrx
            clear hb3 hvx hv u0 u1 u2 hum hrx HPT HO HR2
            go_wp2_with fail
            refine HME.out.mono ?_
            rintro e w4 ⟨um, rfl, hms, hb4⟩
            rw [mtO_eq] at hms
            obtain ⟨Am, cm, rfl, hml, hmc, hmx⟩ := hms
            clear d0 d1 d2 HME
            have u0 := HU0.out.keep hb4 HU0.out.lt
            have u1 := HU1.out.keep hb4 HU1.out.lt
            have u2 := HU2.out.keep hb4 HU2.out.lt
            have HUM := Lib.hid (HUM.out.keep hb4)
            have HRX := Lib.hid (RX.fr HRX.out (Fr.below (X := UX Bk pu) hb4))
            have HF4 := Lib.hid (HF3.out.then hb4)
            have HVX := Lib.hid (HVX.out.keep hb4)
            have HCO := Lib.hid (uContainsC (mtO t') Am _ cm j w4 rfl hml hmc hmx)
            obtain ⟨a0, a1, a2⟩ := u0.three
            have HU0 := Lib.hid u0
            have HU1 := Lib.hid u1
            have HU2 := Lib.hid u2
            clear hb4 hmx u0 u1 u2 HF3
            obtain ⟨M, hM⟩ : ∃ M, mtO t' = M := ⟨_, rfl⟩
            rw [hM] at HCO hml ⊢
            rw [hM] at HR3
            have hmc' := hmc
            unfold maxLen at hmc'
            obtain ⟨B, hB⟩ : ∃ B, decide ((j : Int) ∈ M) = B := ⟨_, rfl⟩
            rw [hB] at HCO
            go_wp2_with fail
            refine HCO.out.mono ?_
            rintro e w5 ⟨rfl, hb5⟩
            clear a0 a1 a2 HCO
            have u0 := HU0.out.keep hb5 HU0.out.lt
            have u1 := HU1.out.keep hb5 HU1.out.lt
            have u2 := HU2.out.keep hb5 HU2.out.lt
            have HUM := Lib.hid (HUM.out.keep hb5)
            have HRX := Lib.hid (RX.fr HRX.out (Fr.below (X := UX Bk pu) hb5))
            have HF5 := Lib.hid (HF4.out.then hb5)
            have HVX := Lib.hid (HVX.out.keep hb5)
            clear hb5 HF4
            cases B with
            | true =>
              have HR4 := Lib.hid (HR3.out.trans (if_pos (of_decide_eq_true hB)))
              clear hB u0 u1 u2 HR3
              go_wp2_with fail
              go_ret
              rw [HR4.out]
              exact ⟨HF5.out, rfl, HUM.out⟩
            | false =>
              have HR4 := Lib.hid (HR3.out.trans (if_neg (of_decide_eq_false hB)))
              have HIV := Lib.hid (InvertC t' vs Av vs.length cv m _ w5 HRX.out.rd hnd rfl hvl hvc HVX.out)
              clear hB HR3
              obtain ⟨d0, d1, d2⟩ := u1.three
              have e0 := u2.one.1
              have HU0 := Lib.hid u0
              clear u0 u1 u2
              go_wp2_with fail
              refine HIV.out.mono ?_
              rintro e w6 ⟨k6, h6, A6, n6, c6, rfl, hr6, hb6⟩
              clear d0 d1 d2 e0 HIV
              obtain ⟨Wc, hWc⟩ : ∃ Wc, w6.alloc (.cells #[.int .i64 k6, .int .i64 h6, .slice A6 n6 c6] 24) = Wc := ⟨_, rfl⟩
              have hbc : Below w6.heap.size w6 Wc := by rw [← hWc]; exact (Below.refl _ _).alloc (Nat.le_refl _) _
              have v14 : Box Wc w6.heap.size 24 #[.int .i64 k6, .int .i64 h6, .slice A6 n6 c6] := by rw [← hWc]; exact Box.new _ _ _
              have hb56 := hb6.trans (hbc.mono hb6.size)
              have v0 := HU0.out.keep hb56 HU0.out.lt
              have HUM6 := Lib.hid (HUM.out.keep hb56)
              have HF6 := Lib.hid (HF5.out.then hb56)
              have lU := HUM.out.lt
              have HR6 := Lib.hid (RdF.moveX (ok' := fun b => ¬ UX Bk pu b) (fun b hb hl => by
                have hb : w5.heap.size ≤ b := hb
                exact ⟨fun e => by rcases e with e | e <;> omega, hbc.block b hl⟩) _ _ hr6)
              clear hbc hb6 hb56 hr6 HU0 HUM HF5
              cases hI : ivR t' vs m with
              | ok u =>
                have HR5 : Hid (R = .ok (false, bs.set j (true, u), N2)) := Lib.hid (by have := HR4.out; rw [hI] at this; exact this)
                rw [hI] at HR6
                simp only [ivE]
                clear HR4 hI
                obtain ⟨p0, p1, p2⟩ := HUM6.out.ptr.three
                obtain ⟨a0, a1, a2⟩ := v0.three
                obtain ⟨d0, d1, d2⟩ := v14.three
                have q1 := Past.cell a1
                have t0 := Past.cell p0
                have r0 := Past.cell d0
                have r1 := Past.cell d1
                have r2 := Past.cell d2
                have HBL := Lib.hid hbl
                go_wp2_with fail
                clear hWc
                refine wp_region_class_tail (C := fun w' => ∃ z : Past Wc, w' = z.wd) 9 (by kernel_rfl) (by kernel_rfl) ⟨⟨Wc.drew, (Below.refl _ _).drew⟩, rfl⟩ ?_
                simp only [List.take_succ_cons, List.take_zero, List.drop_succ_cons, List.drop_zero]
                repeat (go_big_quiet_step (fail))
                refine wpQuiet_nil ?_
                rintro _ ⟨z2, rfl⟩
                obtain ⟨W5, hbq⟩ := z2
                dsimp only
                clear q1 t0 r0 r1 r2 a0 a1 a2 p0 p1 p2 d0 d1 d2 v0 v14
                have hum5 := HUM6.out.keep hbq
                have HF7 := Lib.hid (HF6.out.then hbq)
                have HR7 := Lib.hid (RX.fr HR6.out (Fr.below (X := UX Bk pu) hbq))
                obtain ⟨csr, hrow, hsz, hcs⟩ := hum5.row
                have HUM7 := Lib.hid hum5
                clear hcs hbq hum5
                obtain ⟨u0, hu0⟩ := hrow.there (i := j * 4) (by omega)
                obtain ⟨u1, hu1⟩ := hrow.there (i := j * 4 + 1) (by omega)
                obtain ⟨u2, hu2⟩ := hrow.there (i := j * 4 + 2) (by omega)
                obtain ⟨u3, hu3⟩ := hrow.there (i := j * 4 + 3) (by omega)
                have f0 := hrow.frozen (j * 4)
                have f1 := hrow.frozen (j * 4 + 1)
                have f2 := hrow.frozen (j * 4 + 2)
                have f3 := hrow.frozen (j * 4 + 3)
                clear hrow hsz HUM6 HR6 HF6
                go_wp2_with fail
                go_ret
                rw [HR5.out]
                obtain ⟨h1, h2⟩ := HUM7.out.put (j := j) (u := u) HBL.out (by omega) HR7.out rfl
                exact ⟨HF7.out.trans h2 fun _ _ e => e, rfl, h1⟩
              | error ei =>
                have hR4 := HR4.out
                rw [hI] at hR4
                rcases ivR_er hI with rfl | rfl
                · have HR5 : Hid (R = .error 4) := Lib.hid hR4
                  simp only [ivE]
                  clear hR4 HR4 hI v0 v14 HR6
                  go_wp2_with fail
                  go_ret
                  rw [HR5.out]
                  exact ⟨HF6.out, rfl, by decide, by decide⟩
                · have hR5 : R = if M.length = 0 then .error 6 else .ok (true, bs, N2) := hR4
                  have HR5 := Lib.hid hR5
                  simp only [ivE]
                  clear hR4 hR5 HR4 hI v0 v14 HR6
                  by_cases hm0 : M.length = 0
                  · have hd : decide ((0 : Int) < (M.length : Int)) = false := decide_eq_false (by omega)
                    have hd2 : decide (0 < M.length) = false := decide_eq_false (by omega)
                    have hd3 : ¬ 0 < M.length := by omega
                    have HR7 := Lib.hid (HR5.out.trans (if_pos hm0))
                    clear hm0 HR5
                    go_wp2_with fail
                    go_ret
                    rw [HR7.out]
                    exact ⟨HF6.out, rfl, by decide, by decide⟩
                  · have hd : decide ((0 : Int) < (M.length : Int)) = true := decide_eq_true (by omega)
                    have hd2 : decide (0 < M.length) = true := decide_eq_true (by omega)
                    have hd3 : 0 < M.length := by omega
                    have HR7 := Lib.hid (HR5.out.trans (if_neg hm0))
                    clear hm0 HR5
                    go_wp2_with fail
                    go_ret
                    rw [HR7.out]
                    exact ⟨HF6.out, rfl, HUM6.out⟩
          · have hR3 : R = .ok (true, bs, N2) := by
              have := HR2.out
              rw [svT, HO.out, hv] at this
              exact this
            have HR3 := Lib.hid hR3; clear hR3
            have u1 := HU1.out.keep hb3 HU1.out.lt
            have hum := HUM.out.keep hb3
            have HME := Lib.hid (oMetasC t' _ w3 (RX.fr HRX.out (Fr.below (X := UX Bk pu) hb3)).rd hnd)
            have HF3 := Lib.hid ((FrP.ux (Bk := Bk) HFF.out).then hb3)
            obtain ⟨d0, d1, d2⟩ := u1.three
            have HUM := Lib.hid hum
            clear hb3 hv u1 hum HPT HO HR2 HU0 HU1 HU2 HRX
            go_wp2_with fail
            refine HME.out.mono ?_
            rintro e w4 ⟨um, rfl, hms, hb4⟩
            have HUM := Lib.hid (HUM.out.keep hb4)
            have HF4 := Lib.hid (HF3.out.then hb4)
            clear d0 d1 d2 HME hms hb4 HF3
            go_wp2_with fail
            go_ret
            rw [HR3.out]
            exact ⟨HF4.out, rfl, HUM.out⟩
        · have hLo : L2 = .error ec := by
            rcases hq with ⟨ys, N2, e1, e2, e3, e4⟩ | ⟨e1, e2⟩
            · exact absurd e2 he0
            · exact e1
          have hd : (ec != 0) = true := by simpa using he0
          have HR2 := Lib.hid (HR.out.trans (svU_e2 HCC.out HL2.out (HLL.out.trans hLo)))
          have HNE := Lib.hid (rsL_er (fun x m N e he => rsU_er f x m N e he) _ _ _ _ (HLL.out.trans hLo)).ne
          clear hq hLo u0 u1 u2
          go_wp2_with fail
          go_ret
          rw [HR2.out]
          exact ⟨FrP.ux HFF.out, rfl, HNE.out.1, HNE.out.2⟩
      · have hLo : L = .error ec := by
          rcases hq with ⟨ys, N2, e1, e2, e3, e4⟩ | ⟨e1, e2⟩
          · exact absurd e2 he0
          · exact e1
        have hd : (ec != 0) = true := by simpa using he0
        have HR2 := Lib.hid (HR.out.trans (svU_e1 HCC.out (HL.out.trans hLo)))
        have HNE := Lib.hid (rsU_er _ _ _ _ _ (HL.out.trans hLo)).ne
        have HF3 := Lib.hid (HFR.out.set3 (a := w.heap.size + 1) (fun h => by omega) (.int .i64 k1) (.int .i64 h1) (.slice A1 n1 c1))
        clear hq hLo y0 y1 y2 HL
        go_wp2_with fail
        go_ret
        rw [HR2.out]
        exact ⟨FrP.ux HF3.out, rfl, HNE.out.1, HNE.out.2⟩
end Go.Proofs.YtnnmnkgogiabiaaGreat

/-
  Contract of package unify's metas. No statement is proved here.
-/
namespace Go.Proofs.YtnnmnkgogiabiaaGreat
open Go.ChangeShapes Go.WideShapes Go.ChangeAt Go.RowKit
set_option linter.unusedVariables false

theorem US.uni {sz : List Int} {Bk pu : Nat} {As : Option Addr} {cs : Nat} {w : World} {R : Except Int USt} {e : Ending} {w' : World} (h : US sz Bk pu As cs w R e w') :
    ∃ ec, e = .returned (.int .i64 ec) ∧ Fr (UX Bk pu) w w' ∧ ((∃ o bs N, R = .ok (o, bs, N) ∧ ec = (if o = true then 5 else 0) ∧ UM sz Bk pu As cs bs N w') ∨ (R = .error ec ∧ ec ≠ 0 ∧ ec ≠ 5)) := by
  obtain ⟨hf, h⟩ := h
  cases R with
  | error ec => obtain ⟨rfl, h1, h2⟩ := h; exact ⟨ec, rfl, hf, .inr ⟨rfl, h1, h2⟩⟩
  | ok p => obtain ⟨o, bs, N⟩ := p; obtain ⟨rfl, hu⟩ := h; exact ⟨_, rfl, hf, .inl ⟨o, bs, N, rfl, rfl, hu⟩⟩
theorem US.of {sz : List Int} {Bk pu : Nat} {As : Option Addr} {cs : Nat} {w0 w w' : World} {R : Except Int USt} {ec : Int} (hf : Fr (UX Bk pu) w0 w') (hq : (∃ o bs N, R = .ok (o, bs, N) ∧ ec = (if o = true then 5 else 0) ∧ UM sz Bk pu As cs bs N w') ∨ (R = .error ec ∧ ec ≠ 0 ∧ ec ≠ 5)) : US sz Bk pu As cs w0 R (.returned (.int .i64 ec)) w' := by
  rcases hq with ⟨o, bs, N, rfl, rfl, h⟩ | ⟨rfl, h1, h2⟩
  · exact ⟨hf, rfl, h⟩
  · exact ⟨hf, rfl, h1, h2⟩
theorem meU_1 {sz : List Int} {bs : List BT} {f : Nat} {k h : Int} {xs : List T} {k' h' : Int} {ys : List T} {m : Int} {N : Nat} (hk : k ≠ 6) : meU sz bs f (.node k h xs) (.node k' h' ys) m N = svU sz bs f h' ys (.node k h xs) m N := by rw [meU, if_pos hk]
theorem meU_2 {sz : List Int} {bs : List BT} {f : Nat} {h : Int} {xs : List T} {ys : List T} {m : Int} {N : Nat} : meU sz bs f (.node 6 h xs) (.node 6 h ys) m N = cmU bs f (.node 6 h xs) (.node 6 h ys) m N := by rw [meU, if_neg (by omega), if_pos ⟨rfl, rfl⟩]
/-- behind the first one -/
def mtT (sz : List Int) (f : Nat) (h : Int) (xs : List T) (k' h' : Int) (ys : List T) (m : Int) : Except Int USt → Except Int USt
  | .error e => .error e
  | .ok (o, bs', N') => if o = true ∧ k' = 6 then svU sz bs' f h' ys (.node 6 h xs) m N' else .ok (o, bs', N')
theorem meU_3 {sz : List Int} {bs : List BT} {f : Nat} {h : Int} {xs : List T} {k' h' : Int} {ys : List T} {m : Int} {N : Nat} (hc : ¬ (k' = 6 ∧ h' = h)) : meU sz bs f (.node 6 h xs) (.node k' h' ys) m N = mtT sz f h xs k' h' ys m (svU sz bs f h xs (.node k' h' ys) m N) := by
  rw [meU, if_neg (by omega), if_neg hc]
  cases svU sz bs f h xs (.node k' h' ys) m N with
  | error e => rfl
  | ok p => obtain ⟨o, bs', N'⟩ := p; rfl
theorem mtT_no {sz : List Int} {f : Nat} {h : Int} {xs : List T} {k' h' : Int} {ys : List T} {m : Int} {o : Bool} {bs : List BT} {N : Nat} (hn : ¬ (o = true ∧ k' = 6)) : mtT sz f h xs k' h' ys m (.ok (o, bs, N)) = .ok (o, bs, N) := if_neg hn
theorem mtT_yes {sz : List Int} {f : Nat} {h : Int} {xs : List T} {k' h' : Int} {ys : List T} {m : Int} {bs : List BT} {N : Nat} (hk : k' = 6) : mtT sz f h xs k' h' ys m (.ok (true, bs, N)) = svU sz bs f h' ys (.node 6 h xs) m N := if_pos ⟨rfl, hk⟩

set_option maxRecDepth 100000 in
set_option maxHeartbeats 8000000 in
theorem uMetasC {sz : List Int} {Bk pu : Nat} {As : Option Addr} {cs : Nat} {bs : List BT} (f : Nat) (k h : Int) (xs : List T) (k' h' : Int) (ys : List T) (m : Int) (N : Nat) (A : Option Addr) (n cc : Nat) (A' : Option Addr) (n' cc' : Nat) (w : World) (hst : UM sz Bk pu As cs bs N w) (hok : okU sz bs N) (ha : WT (kN N + m) (.node k h xs)) (hc : WT (kN N + m) (.node k' h' ys)) (h6 : k = 6 ∨ k' = 6) (hm : 0 ≤ m) (hm2 : m + f + 1 ≤ 100000) (hf : 40001 ≤ f + N) (hN : N ≤ 40000)
    (hra : RX (UX Bk pu) w (.node k h xs) (.agg #[.int .i64 k, .int .i64 h, .slice A n cc])) (hrc : RX (UX Bk pu) w (.node k' h' ys) (.agg #[.int .i64 k', .int .i64 h', .slice A' n' cc'])) :
    Calls Tryz.prog 26 #[.pointer (some ⟨pu, 0, none⟩), .agg #[.int .i64 k, .int .i64 h, .slice A n cc], .agg #[.int .i64 k', .int .i64 h', .slice A' n' cc'], .int .i64 m] w (US sz Bk pu As cs w (meU sz bs f (.node k h xs) (.node k' h' ys) m N)) := by
  obtain ⟨W, hW⟩ : ∃ W, (w.alloc (.cells #[.int .i64 k, .int .i64 h, .slice A n cc] 24)).alloc (.cells #[.int .i64 k', .int .i64 h', .slice A' n' cc'] 24) = W := ⟨_, rfl⟩
  have hb : Below w.heap.size w W := by rw [← hW]; exact ((Below.refl _ _).alloc (Nat.le_refl _) _).alloc (by simp) _
  have x0 : Box W w.heap.size 24 #[.int .i64 k, .int .i64 h, .slice A n cc] := by rw [← hW]; exact (Box.new _ _ _).alloc _
  have x1 : Box W (w.heap.size + 1) 24 #[.int .i64 k', .int .i64 h', .slice A' n' cc'] := by rw [← hW]; exact (Box.new (w.alloc _) _ _).at (by simp)
  have hlt := hst.lt
  have hst1 := hst.keep hb
  have hra1 := RX.fr hra (Fr.below (X := UX Bk pu) hb)
  have hrc1 := RX.fr hrc (Fr.below (X := UX Bk pu) hb)
  have HB := Lib.hid hb
  have HX0 := Lib.hid x0
  have HX1 := Lib.hid x1
  obtain ⟨a0, a1, a2⟩ := x0.three
  obtain ⟨b0, b1, b2⟩ := x1.three
  clear hst hra hrc hb x0 x1
  have HW := Lib.hid hW; clear hW
  by_cases hk : k = 6
  · subst hk
    obtain ⟨j, rfl⟩ : ∃ j : Nat, h = j := ⟨h.toNat, by have := ha.pos rfl; omega⟩
    by_cases hcc : k' = 6 ∧ h' = j
    · obtain ⟨rfl, rfl⟩ := hcc
      rw [meU_2]
      have HC := Lib.hid (uCompareC f _ _ m N 6 j A n cc 6 j A' n' cc' W hst1 hok ha hc hm hm2 hf hN hra1 hrc1)
      generalize cmU bs f _ _ m N = R at *
      have hjj : ((j : Int) == (j : Int)) = true := by simp
      clear hst1 hok ha hc hra1 hrc1
      go_enter Tryz.func26, Tryz.ntmps26
      go_wp2_with fail
      rw [HW.out]
      clear HW
      go_wp2_with fail
      refine HC.out.mono ?_
      intro e w1 hE
      obtain ⟨ec, rfl, hfr, hq⟩ := hE.uni
      have HF := Lib.hid ((Fr.below (X := UX Bk pu) HB.out).trans hfr fun _ _ e => e)
      have HQ := Lib.hid hq
      clear hE hfr hq a0 a1 a2 b0 b1 b2
      go_wp2_with fail
      go_ret
      exact US.of (w := w) HF.out HQ.out
    · rw [meU_3 hcc]
      have HS1 := Lib.hid (uSolveC f j xs (.node k' h' ys) m N A n cc k' h' A' n' cc' W hst1 hok ha hc hm hm2 hf hN hra1 hrc1)
      obtain ⟨S, hS⟩ : ∃ S, svU sz bs f j xs (.node k' h' ys) m N = S := ⟨_, rfl⟩
      rw [hS] at HS1 ⊢
      have hgood := fun o bs' N' (e : S = .ok (o, bs', N')) => svU_good (o := o) (bs' := bs') (N' := N') hm hok ha hc (hS.trans e)
      have HG := Lib.hid hgood
      have HS2 : Hid (k' = 6 → ∀ w1 bs' N', Fr (UX Bk pu) W w1 → UM sz Bk pu As cs bs' N' w1 → okU sz bs' N' → N ≤ N' → N' ≤ 40000 → Calls Tryz.prog 38 #[.pointer (some ⟨pu, 0, none⟩), .agg #[.int .i64 k', .int .i64 h', .slice A' n' cc'], .agg #[.int .i64 6, .int .i64 j, .slice A n cc], .int .i64 m] w1 (US sz Bk pu As cs w1 (svU sz bs' f h' ys (.node 6 j xs) m N'))) := Lib.hid fun hk' w1 bs' N' hfr hum hok' h1 h2 => by
        subst hk'
        obtain ⟨j', rfl⟩ : ∃ j' : Nat, h' = j' := ⟨h'.toNat, by have := hc.pos rfl; omega⟩
        exact uSolveC f j' ys (.node 6 j xs) m N' A' n' cc' 6 j A n cc w1 hum hok' (hc.mono (by have := kN_mono h1; omega)) (ha.mono (by have := kN_mono h1; omega)) hm hm2 (by omega) h2 (RX.fr hrc1 hfr) (RX.fr hra1 hfr)
      clear hst1 hok ha hc hra1 hrc1 hS hgood
      obtain ⟨R, hR⟩ : ∃ R, mtT sz f j xs k' h' ys m S = R := ⟨_, rfl⟩
      rw [hR]
      have HR := Lib.hid hR; clear hR
      have hk6 : (k' == 6) = decide (k' = 6) := rfl
      by_cases hk' : k' = 6
      case' pos =>
        have hne : (h' == (j : Int)) = false := by simpa using fun e => hcc ⟨hk', e⟩
        have hd6 : (k' == 6) = true := by simpa using hk'
      case' neg => have hd6 : (k' == 6) = false := by simpa using hk'
      all_goals
        have HK' := Lib.hid hk'; clear hk' hk6 hcc
        go_enter Tryz.func26, Tryz.ntmps26
        go_wp2_with fail
        rw [HW.out]
        clear HW
        go_wp2_with fail
        refine HS1.out.mono ?_
        intro e w1 hE
        obtain ⟨ec, rfl, hfr, hq⟩ := hE.uni
        have y0 := HX0.out.fr hfr (fun e => by rcases e with e | e <;> omega)
        have y1 := HX1.out.fr hfr (fun e => by rcases e with e | e <;> omega)
        have HFW := Lib.hid hfr
        have HF := Lib.hid ((Fr.below (X := UX Bk pu) HB.out).trans hfr fun _ _ e => e)
        clear hE hfr a0 a1 a2 b0 b1 b2
        obtain ⟨a0, a1, a2⟩ := y0.three
        obtain ⟨b0, b1, b2⟩ := y1.three
        clear y0 y1
      rotate_left 1
      · by_cases h5 : ec = 5
        · subst h5
          obtain ⟨bs', N', hSo, hum⟩ : ∃ bs' N', S = .ok (true, bs', N') ∧ UM sz Bk pu As cs bs' N' w1 := by
            rcases hq with ⟨o, bs', N', e1, e2, e3⟩ | ⟨e1, e2, e3⟩
            · cases o
              · simp at e2
              · exact ⟨bs', N', e1, e3⟩
            · exact absurd rfl e3
          obtain ⟨g1, g2, g3⟩ := HG.out _ _ _ hSo
          have HS3 := Lib.hid (HS2.out HK'.out w1 bs' N' HFW.out hum g1 g2 g3)
          have hR2 : R = svU sz bs' f h' ys (.node 6 j xs) m N' := by
            rw [← HR.out, hSo]
            exact mtT_yes HK'.out
          rw [← hR2] at HS3
          clear hq hSo hum g1 g2 g3 hR2 HS2 HG
          go_wp2_with fail
          refine HS3.out.mono ?_
          intro e w2 hE
          obtain ⟨ec, rfl, hfr, hq⟩ := hE.uni
          have HF2 := Lib.hid (HF.out.trans hfr fun _ _ e => e)
          have HQ := Lib.hid hq
          clear hE hfr hq a0 a1 a2 b0 b1 b2
          go_wp2_with fail
          go_ret
          exact US.of (w := w) HF2.out HQ.out
        · have hd5 : (ec == 5) = false := by simpa using h5
          have hR2 : (∃ o bs N, R = .ok (o, bs, N) ∧ ec = (if o = true then 5 else 0) ∧ UM sz Bk pu As cs bs N w1) ∨ (R = .error ec ∧ ec ≠ 0 ∧ ec ≠ 5) := by
            rcases hq with ⟨o, bs', N', e1, e2, e3⟩ | ⟨e1, e2, e3⟩
            · cases o
              · exact .inl ⟨false, bs', N', by rw [← HR.out, e1]; exact mtT_no (fun e => Bool.false_ne_true e.1), e2, e3⟩
              · exact absurd (by simpa using e2) h5
            · exact .inr ⟨by rw [← HR.out, e1]; rfl, e2, e3⟩
          have HQ := Lib.hid hR2
          clear hq hR2 HS2 HG h5
          go_wp2_with fail
          go_ret
          exact US.of (w := w) HF.out HQ.out
      · have hR2 : (∃ o bs N, R = .ok (o, bs, N) ∧ ec = (if o = true then 5 else 0) ∧ UM sz Bk pu As cs bs N w1) ∨ (R = .error ec ∧ ec ≠ 0 ∧ ec ≠ 5) := by
          rcases hq with ⟨o, bs', N', e1, e2, e3⟩ | ⟨e1, e2, e3⟩
          · exact .inl ⟨o, bs', N', by rw [← HR.out, e1]; exact mtT_no (fun e => HK'.out e.2), e2, e3⟩
          · exact .inr ⟨by rw [← HR.out, e1]; rfl, e2, e3⟩
        have HQ := Lib.hid hR2
        clear hq hR2 HS2 HG
        by_cases h5 : ec = 5
        · have hd5 : (ec == 5) = true := by simpa using h5
          clear h5
          go_wp2_with fail
          go_ret
          exact US.of (w := w) HF.out HQ.out
        · have hd5 : (ec == 5) = false := by simpa using h5
          clear h5
          go_wp2_with fail
          go_ret
          exact US.of (w := w) HF.out HQ.out
  · obtain rfl : k' = 6 := by omega
    obtain ⟨j, rfl⟩ : ∃ j : Nat, h' = j := ⟨h'.toNat, by have := hc.pos rfl; omega⟩
    rw [meU_1 hk]
    have HC := Lib.hid (uSolveC f j ys (.node k h xs) m N A' n' cc' k h A n cc W hst1 hok hc ha hm hm2 hf hN hrc1 hra1)
    generalize svU sz bs f j ys _ m N = R at *
    have hd : (k != 6) = true := by simpa using hk
    clear hst1 hok ha hc hra1 hrc1 hk h6
    go_enter Tryz.func26, Tryz.ntmps26
    go_wp2_with fail
    rw [HW.out]
    clear HW
    go_wp2_with fail
    refine HC.out.mono ?_
    intro e w1 hE
    obtain ⟨ec, rfl, hfr, hq⟩ := hE.uni
    have HF := Lib.hid ((Fr.below (X := UX Bk pu) HB.out).trans hfr fun _ _ e => e)
    have HQ := Lib.hid hq
    clear hE hfr hq a0 a1 a2 b0 b1 b2
    go_wp2_with fail
    go_ret
    exact US.of (w := w) HF.out HQ.out
end Go.Proofs.YtnnmnkgogiabiaaGreat

/-
  Contracts of package unify's nodes and unify. No statement is proved here.
-/
namespace Go.Proofs.YtnnmnkgogiabiaaGreat
open Go.ChangeShapes Go.WideShapes Go.ChangeAt Go.RowKit
set_option linter.unusedVariables false

/-- what unify tells, with a fuel -/
def UnT (sz : List Int) (Bk pu : Nat) (As : Option Addr) (cs : Nat) (f : Nat) : Prop :=
  ∀ (a c : T) (m : Int) (bs : List BT) (N : Nat) (k h : Int) (A : Option Addr) (n cc : Nat) (k' h' : Int) (A' : Option Addr) (n' cc' : Nat) (w : World), UM sz Bk pu As cs bs N w → okU sz bs N → WT (kN N + m) a → WT (kN N + m) c → 0 ≤ m → m + f + 1 ≤ 100000 → 40001 ≤ f + N → N ≤ 40000 →
    RX (UX Bk pu) w a (.agg #[.int .i64 k, .int .i64 h, .slice A n cc]) → RX (UX Bk pu) w c (.agg #[.int .i64 k', .int .i64 h', .slice A' n' cc']) →
    Calls Tryz.prog 15 #[.pointer (some ⟨pu, 0, none⟩), .agg #[.int .i64 k, .int .i64 h, .slice A n cc], .agg #[.int .i64 k', .int .i64 h', .slice A' n' cc'], .int .i64 m] w (US sz Bk pu As cs w (uND sz f a c m bs N))
/-- what holds at the head of the loop -/
structure NdI (sz : List Int) (Bk pu : Nat) (As : Option Addr) (cs : Nat) (f : Nat) (k : Int) (n : Nat) (m : Int) (xs ys : List T) (N0 : Nat) (R : Except Int USt) (w : World) (j : Nat) (wr : World) (o : Bool) (bs : List BT) (N : Nat) : Prop where
  fr : Fr (UX Bk pu) w wr
  um : UM sz Bk pu As cs bs N wr
  ok : okU sz bs N
  hi : N ≤ 40000
  lo : N0 ≤ N
  eq : R = ndsU (uND sz f) k n m (xs.drop j) (ys.drop j) j o bs N
theorem ndsU_nil {A : T → T → Int → List BT → Nat → Except Int USt} {k : Int} {n : Nat} {m : Int} {ys : List T} {i : Nat} {o : Bool} {bs : List BT} {N : Nat} : ndsU A k n m [] ys i o bs N = .ok (o, bs, N) := by rw [ndsU]; simp
theorem rx_fr {X : Nat → Prop} {w w' : World} {A : Option Addr} {i : Nat} {t : T} (f : Fr X w w') (h : RdFAt (fun b => ¬ X b) w A i t) : RdFAt (fun b => ¬ X b) w' A i t := RdFAt.moveX (fun b hb hl => ⟨hb, f.block b hl hb⟩) h

set_option maxRecDepth 100000 in
set_option maxHeartbeats 8000000 in
theorem uNodesC {sz : List Int} {Bk pu : Nat} {As : Option Addr} {cs : Nat} {bs : List BT} {f : Nat} (IH : UnT sz Bk pu As cs f) (k h : Int) (xs : List T) (k' h' : Int) (ys : List T) (m : Int) (N : Nat) (A : Option Addr) (n cc : Nat) (A' : Option Addr) (n' cc' : Nat) (w : World) (hst : UM sz Bk pu As cs bs N w) (hok : okU sz bs N) (ha : WT (kN N + m) (.node k h xs)) (hc : WT (kN N + m) (.node k' h' ys)) (hm : 0 ≤ m) (hm2 : m + f + 2 ≤ 100000) (hf : 40001 ≤ f + N) (hN : N ≤ 40000)
    (hra : RX (UX Bk pu) w (.node k h xs) (.agg #[.int .i64 k, .int .i64 h, .slice A n cc])) (hrc : RX (UX Bk pu) w (.node k' h' ys) (.agg #[.int .i64 k', .int .i64 h', .slice A' n' cc'])) :
    Calls Tryz.prog 25 #[.pointer (some ⟨pu, 0, none⟩), .agg #[.int .i64 k, .int .i64 h, .slice A n cc], .agg #[.int .i64 k', .int .i64 h', .slice A' n' cc'], .int .i64 m] w (US sz Bk pu As cs w (if k = k' ∧ h = h' ∧ xs.length = ys.length then ndsU (uND sz f) k xs.length m xs ys 0 false bs N else .error 6)) := by
  obtain ⟨W, hW⟩ : ∃ W, (w.alloc (.cells #[.int .i64 k, .int .i64 h, .slice A n cc] 24)).alloc (.cells #[.int .i64 k', .int .i64 h', .slice A' n' cc'] 24) = W := ⟨_, rfl⟩
  have hb : Below w.heap.size w W := by rw [← hW]; exact ((Below.refl _ _).alloc (Nat.le_refl _) _).alloc (by simp) _
  have x0 : Box W w.heap.size 24 #[.int .i64 k, .int .i64 h, .slice A n cc] := by rw [← hW]; exact (Box.new _ _ _).alloc _
  have x1 : Box W (w.heap.size + 1) 24 #[.int .i64 k', .int .i64 h', .slice A' n' cc'] := by rw [← hW]; exact (Box.new (w.alloc _) _ _).at (by simp)
  have hlt := hst.lt
  obtain ⟨Aq, nq, cq, eq, _, _, hl, hnc, hcm, hxs⟩ := RdF_node.1 hra
  have eq' : A = Aq ∧ n = nq ∧ cc = cq := by simpa using eq
  obtain ⟨rfl, rfl, rfl⟩ := eq'
  clear eq
  obtain ⟨Aq, nq, cq, eq, _, _, hl', hnc', hcm', hys⟩ := RdF_node.1 hrc
  have eq' : A' = Aq ∧ n' = nq ∧ cc' = cq := by simpa using eq
  obtain ⟨rfl, rfl, rfl⟩ := eq'
  clear eq
  have hcm2 := hcm
  have hcm2' := hcm'
  unfold maxLen at hcm2 hcm2'
  have hln := ha.len
  have HB := Lib.hid hb
  have HXS := Lib.hid fun i t ht => hxs i t ht
  have HYS := Lib.hid fun i t ht => hys i t ht
  have HX0 := Lib.hid x0
  have HX1 := Lib.hid x1
  have HW := Lib.hid hW; clear hW
  obtain ⟨a0, a1, a2⟩ := x0.three
  obtain ⟨b0, b1, b2⟩ := x1.three
  have h6 : ∀ w', Fr (UX Bk pu) w w' → ¬ (k = k' ∧ h = h' ∧ n = n') → US sz Bk pu As cs w (if k = k' ∧ h = h' ∧ xs.length = ys.length then ndsU (uND sz f) k xs.length m xs ys 0 false bs N else .error 6) (.returned (.int .i64 6)) w' := fun w' hf hne => by
    rw [if_neg (by rw [hl, hl']; exact hne)]
    exact ⟨hf, rfl, by decide, by decide⟩
  have H6 := Lib.hid h6; clear h6
  by_cases hk : k = k'
  case neg =>
    have hd : (k != k') = true := by simpa using hk
    have HNE := Lib.hid (show ¬ (k = k' ∧ h = h' ∧ n = n') from fun e => hk e.1)
    generalize (if k = k' ∧ h = h' ∧ xs.length = ys.length then ndsU (uND sz f) k xs.length m xs ys 0 false bs N else .error 6) = R at *
    clear hk hst hok ha hc hra hrc hb x0 x1 hxs hys
    go_enter Tryz.func25, Tryz.ntmps25
    go_wp2_with fail
    rw [HW.out]
    clear HW
    go_wp2_with fail
    go_ret
    exact H6.out _ (Fr.below HB.out) HNE.out
  subst hk
  by_cases hh : h = h'
  case neg =>
    have hd : (h != h') = true := by simpa using hh
    have hd0 : (k != k) = false := by simp
    have HNE := Lib.hid (show ¬ (k = k ∧ h = h' ∧ n = n') from fun e => hh e.2.1)
    generalize (if k = k ∧ h = h' ∧ xs.length = ys.length then ndsU (uND sz f) k xs.length m xs ys 0 false bs N else .error 6) = R at *
    clear hh hst hok ha hc hra hrc hb x0 x1 hxs hys
    go_enter Tryz.func25, Tryz.ntmps25
    go_wp2_with fail
    rw [HW.out]
    clear HW
    go_wp2_with fail
    go_ret
    exact H6.out _ (Fr.below HB.out) HNE.out
  subst hh
  by_cases hn : n = n'
  case neg =>
    have hd : ((n : Int) != (n' : Int)) = true := by simp; omega
    have hd0 : (k != k) = false := by simp
    have hd1 : (h != h) = false := by simp
    have HNE := Lib.hid (show ¬ (k = k ∧ h = h ∧ n = n') from fun e => hn e.2.2)
    generalize (if k = k ∧ h = h ∧ xs.length = ys.length then ndsU (uND sz f) k xs.length m xs ys 0 false bs N else .error 6) = R at *
    clear hn hst hok ha hc hra hrc hb x0 x1 hxs hys
    go_enter Tryz.func25, Tryz.ntmps25
    go_wp2_with fail
    rw [HW.out]
    clear HW
    go_wp2_with fail
    go_ret
    exact H6.out _ (Fr.below HB.out) HNE.out
  subst hn
  rw [if_pos ⟨rfl, rfl, by rw [hl, hl']⟩]
  obtain ⟨R, hR⟩ : ∃ R, ndsU (uND sz f) k xs.length m xs ys 0 false bs N = R := ⟨_, rfl⟩
  rw [hR]
  rw [hl] at hR
  have HI : Hid (NdI sz Bk pu As cs f k n m xs ys N R W 0 W false bs N) := Lib.hid ⟨Fr.refl _ _, hst.keep hb, hok, hN, Nat.le_refl _, by rw [List.drop_zero, List.drop_zero]; exact hR.symm⟩
  have hd0 : (k != k) = false := by simp
  have hd1 : (h != h) = false := by simp
  have hd2 : ((n : Int) != (n : Int)) = false := by simp
  have HL := Lib.hid hl; have HL' := Lib.hid hl'
  have HA := Lib.hid (fun j x hj => ha.arg (j := j) (x := x) hj)
  have HC := Lib.hid (fun j x hj => hc.arg (j := j) (x := x) hj)
  rw [hl] at HA
  rw [hl'] at HC
  have HIH := Lib.hid IH; clear IH
  have HBD := Lib.hid fun (i : Nat) (hi : i < n) W' => boundC k h A n cc hnc hcm i (by unfold maxLen; omega) W'
  clear H6 hl hl' hst hok ha hc hra hrc hb x0 x1 hxs hys hR
  go_enter Tryz.func25, Tryz.ntmps25
  go_wp2_with fail
  rw [HW.out]
  clear HW
  go_wp2_with fail
  clear a0 a1 a2 b0 b1 b2 hd0 hd1 hd2
  go_loopw [9, 36] (fun v i wr => ∃ (j : Nat) (o : Bool) (bs' : List BT) (N' : Nat), j ≤ n ∧ i = .int .i64 j ∧ v = .int .i64 (if o = true then 5 else 0) ∧ Hid (NdI sz Bk pu As cs f k n m xs ys N R W j wr o bs' N')) (fun _ i _ => n - (Go.RowKit.intOf i).toNat)
  case atStart => exact ⟨0, false, bs, N, Nat.zero_le _, rfl, rfl, HI⟩
  case round =>
    clear HI
    obtain ⟨j, o, bs', N', hj, rfl, rfl, HI⟩ := hrel
    obtain ⟨V, hV⟩ : ∃ V : Int, (if o = true then (5 : Int) else 0) = V := ⟨_, rfl⟩
    rw [hV]
    have HV := Lib.hid hV; clear hV
    by_cases hlt : j < n
    · obtain ⟨x, hx⟩ := at_of HL.out hlt
      obtain ⟨y, hy⟩ := at_of HL'.out hlt
      have hfr := (Fr.below (X := UX Bk pu) HB.out).trans HI.out.fr fun _ _ e => e
      obtain ⟨b, p, k2, h2, A2, n2, c2, rfl, c0, c1, c2', hr⟩ := (rx_fr hfr (HXS.out j x hx)).full
      obtain ⟨b', p', k3, h3, A3, n3, c3, rfl, d0, d1, d2', hr'⟩ := (rx_fr hfr (HYS.out j y hy)).full
      have nXb : ¬ UX Bk pu b := by
        obtain ⟨b1, _, _, _, _, e, hb1, _⟩ := HXS.out j x hx
        cases e; exact hb1
      have nXb' : ¬ UX Bk pu b' := by
        obtain ⟨b1, _, _, _, _, e, hb1, _⟩ := HYS.out j y hy
        cases e; exact hb1
      have nX0 : ¬ UX Bk pu w.heap.size := fun e => by rcases e with e | e <;> omega
      have nX1 : ¬ UX Bk pu (w.heap.size + 1) := fun e => by rcases e with e | e <;> omega
      have x0 := HX0.out.fr HI.out.fr nX0
      have x1 := HX1.out.fr HI.out.fr nX1
      have hi0 : (0 : Int) ≤ j := by omega
      have hi1 : (j : Int) < n := by omega
      have heq := HI.out.eq
      rw [drop_at hx, drop_at hy, ndsU] at heq
      have HEQ := Lib.hid heq; clear heq
      have hbd := bd_cases k n j
      have hsum : IntKind.i64.wrap (m + bd k n j) = m + bd k n j := by rw [wrapEq, wrap_small (by omega) (by omega)]
      have hkm := kN_mono HI.out.lo
      have hwx : WT (kN N' + (m + bd k n j)) x := (HA.out j x hx).mono (by omega)
      have hwy : WT (kN N' + (m + bd k n j)) y := (HC.out j y hy).mono (by omega)
      have hlo := HI.out.lo
      have HU : Hid (∀ W', Hid (Below wr.heap.size wr W') → Calls Tryz.prog 15 #[.pointer (some ⟨pu, 0, none⟩), .agg #[.int .i64 k2, .int .i64 h2, .slice A2 n2 c2], .agg #[.int .i64 k3, .int .i64 h3, .slice A3 n3 c3], .int .i64 (m + bd k n j)] W' fun e w' => ∃ ec, e = .returned (.int .i64 ec) ∧ Hid (Fr (UX Bk pu) wr w') ∧ Hid ((∃ o bs N, uND sz f x y (m + bd k n j) bs' N' = .ok (o, bs, N) ∧ ec = (if o = true then 5 else 0) ∧ UM sz Bk pu As cs bs N w') ∨ (uND sz f x y (m + bd k n j) bs' N' = .error ec ∧ ec ≠ 0 ∧ ec ≠ 5))) := Lib.hid fun W' hW' => by
        refine (HIH.out x y (m + bd k n j) bs' N' k2 h2 A2 n2 c2 k3 h3 A3 n3 c3 W' (HI.out.um.keep hW'.out) HI.out.ok hwx hwy (by omega) (by omega) (by omega) HI.out.hi (RX.fr hr (Fr.below hW'.out)) (RX.fr hr' (Fr.below hW'.out))).mono ?_
        intro e w' hE
        obtain ⟨ec, rfl, hfr, hq⟩ := hE.uni
        exact ⟨ec, rfl, Lib.hid ((Fr.below hW'.out).trans hfr fun _ _ e => e), Lib.hid hq⟩
      have HGD := Lib.hid fun o2 bs2 N2 (e : uND sz f x y (m + bd k n j) bs' N' = .ok (o2, bs2, N2)) => uND_good f x y (m + bd k n j) bs' N' o2 bs2 N2 (by omega) HI.out.ok hwx hwy e
      have HK : Hid (∀ w', Hid (Fr (UX Bk pu) wr w') → (((w'.cell? ⟨w.heap.size, 0, none⟩ = some (.int .i64 k) ∧ w'.cell? ⟨w.heap.size, 1, none⟩ = some (.int .i64 h) ∧ w'.cell? ⟨w.heap.size, 2, none⟩ = some (.slice (some ⟨b, p, none⟩) n cc)) ∧ w'.cell? ⟨w.heap.size + 1, 2, none⟩ = some (.slice (some ⟨b', p', none⟩) n cc') ∧
          (w'.cell? ⟨b, p + j * 3, none⟩ = some (.int .i64 k2) ∧ w'.cell? ⟨b, p + j * 3 + 1, none⟩ = some (.int .i64 h2) ∧ w'.cell? ⟨b, p + j * 3 + 2, none⟩ = some (.slice A2 n2 c2)) ∧ w'.cell? ⟨b', p' + j * 3, none⟩ = some (.int .i64 k3) ∧ w'.cell? ⟨b', p' + j * 3 + 1, none⟩ = some (.int .i64 h3) ∧ w'.cell? ⟨b', p' + j * 3 + 2, none⟩ = some (.slice A3 n3 c3)) ∧ Hid (Fr (UX Bk pu) wr w'))) := Lib.hid fun w' h' => by
        have e : ∀ i, w'.cell? ⟨b, i, none⟩ = wr.cell? ⟨b, i, none⟩ := fun i => World.cell?_of_block (w := wr) (h'.out.block b (cell_lt c0) nXb)
        have e' : ∀ i, w'.cell? ⟨b', i, none⟩ = wr.cell? ⟨b', i, none⟩ := fun i => World.cell?_of_block (w := wr) (h'.out.block b' (cell_lt d0) nXb')
        exact ⟨⟨(x0.fr h'.out nX0).three, (x1.fr h'.out nX1).three.2.2, ⟨(e _).trans c0, (e _).trans c1, (e _).trans c2'⟩, (e' _).trans d0, (e' _).trans d1, (e' _).trans d2'⟩, h'⟩
      have hcu : Hid (Below wr.heap.size wr wr.drew) := cur_drew
      have hcf : Hid (Fr (UX Bk pu) wr wr.drew) := Lib.hid (Fr.below hcu.out)
      have HBJ := Lib.hid (HBD.out j hlt)
      clear hfr hr hr' c0 c1 c2' d0 d1 d2' hx hy hbd hwx hwy x0 x1 nX0 nX1 nXb nXb' hkm hlo
      go_wp2_with fail
      go_region_held3 (fun w' => ((w'.cell? ⟨w.heap.size, 0, none⟩ = some (.int .i64 k) ∧ w'.cell? ⟨w.heap.size, 1, none⟩ = some (.int .i64 h) ∧ w'.cell? ⟨w.heap.size, 2, none⟩ = some (.slice (some ⟨b, p, none⟩) n cc)) ∧ w'.cell? ⟨w.heap.size + 1, 2, none⟩ = some (.slice (some ⟨b', p', none⟩) n cc') ∧
          (w'.cell? ⟨b, p + j * 3, none⟩ = some (.int .i64 k2) ∧ w'.cell? ⟨b, p + j * 3 + 1, none⟩ = some (.int .i64 h2) ∧ w'.cell? ⟨b, p + j * 3 + 2, none⟩ = some (.slice A2 n2 c2)) ∧ w'.cell? ⟨b', p' + j * 3, none⟩ = some (.int .i64 k3) ∧ w'.cell? ⟨b', p' + j * 3 + 1, none⟩ = some (.int .i64 h3) ∧ w'.cell? ⟨b', p' + j * 3 + 2, none⟩ = some (.slice A3 n3 c3)) ∧ Hid (Fr (UX Bk pu) wr w'))
        (first | exact HK.out _ (by assumption))
        (first
          | (go_at_call 37
             refine (HBJ.out _).mono ?_
             rintro e w1 ⟨rfl, hb1⟩
             have hcu : Hid (Below wr.heap.size wr w1) := cur_trans (by assumption) hb1
             have hcf : Hid (Fr (UX Bk pu) wr w1) := Lib.hid (Fr.below hcu.out)
             clear hb1)
          | (go_at_call 15
             with_reducible refine Calls.mono (HU.out _ ?hh) ?_
             case hh => assumption
             rintro e w2 ⟨ec, rfl, hcf, hQ⟩))
      clear HU HK HBJ hsum
      have HF2 := Lib.hid (HI.out.fr.trans hcf.out fun _ _ e => e)
      clear hcf
      cases hres : uND sz f x y (m + bd k n j) bs' N' with
      | error e2 =>
        obtain ⟨rfl, hne0, hne5⟩ : e2 = ec ∧ ec ≠ 0 ∧ ec ≠ 5 := by
          rcases hQ.out with ⟨o2, bs2, N2, e1, _, _⟩ | ⟨e1, h1, h2⟩
          · rw [hres] at e1; cases e1
          · rw [hres] at e1; cases e1; exact ⟨rfl, h1, h2⟩
        have hR := HEQ.out
        rw [hres] at hR
        have HR := Lib.hid hR
        have g0 : (e2 != 0) = true := by simpa using hne0
        have g5 : (e2 != 5) = true := by simpa using hne5
        have HN0 := Lib.hid (And.intro hne0 hne5)
        clear hR hQ hres hne0 hne5 HEQ
        go_wp2_with fail
        go_ret
        rw [HR.out]
        exact ⟨(Fr.below HB.out).trans HF2.out fun _ _ e => e, rfl, HN0.out.1, HN0.out.2⟩
      | ok q =>
        obtain ⟨o2, bs2, N2⟩ := q
        obtain ⟨hec, hum⟩ : ec = (if o2 = true then 5 else 0) ∧ UM sz Bk pu As cs bs2 N2 w2 := by
          rcases hQ.out with ⟨o2, bs2, N2, e1, h1, h2⟩ | ⟨e1, h1, h2⟩
          · rw [hres] at e1; cases e1; exact ⟨h1, h2⟩
          · rw [hres] at e1; cases e1
        obtain ⟨gd1, gd2, gd3⟩ := HGD.out _ _ _ hres
        have hR := HEQ.out
        rw [hres] at hR
        have HJ : Hid (NdI sz Bk pu As cs f k n m xs ys N R W (j + 1) w2 (o || o2) bs2 N2) := Lib.hid ⟨HF2.out, hum, gd1, gd3, by have := HI.out.lo; omega, hR⟩
        clear hR hQ hres hum gd1 gd2 gd3 HEQ HGD
        cases o2
        · have hec : ec = 0 := hec
          have g0 : (ec != 0) = false := by simpa using hec
          have g5 : (ec == 5) = false := by rw [beq_eq_false_iff_ne]; omega
          clear hec
          go_wp2_with fail
          go_roundw
          case rel => exact ⟨j + 1, o, bs2, N2, by omega, by go_num, by rw [HV.out], by simpa using HJ⟩
          case measure => simp [Go.RowKit.intOf]; omega
        · have hec : ec = 5 := hec
          have g0 : (ec != 0) = true := by simp; omega
          have g5 : (ec == 5) = true := by simpa using hec
          have g6 : (ec != 5) = false := by simpa using hec
          have HEC := Lib.hid hec; clear hec
          go_wp2_with fail
          go_roundw
          case rel => exact ⟨j + 1, true, bs2, N2, by omega, by go_num, by rw [HEC.out]; rfl, by simpa using HJ⟩
          case measure => simp [Go.RowKit.intOf]; omega
    · have heq := HI.out.eq
      rw [drop_all HL.out (by omega), ndsU_nil] at heq
      have HR := Lib.hid heq; clear heq
      go_wp2_with fail
      go_ret
      rw [HR.out]
      exact ⟨(Fr.below HB.out).trans HI.out.fr fun _ _ e => e, by rw [HV.out]; rfl, HI.out.um⟩
end Go.Proofs.YtnnmnkgogiabiaaGreat

/-
  Contract of package unify's unify. No statement is proved here.
-/
namespace Go.Proofs.YtnnmnkgogiabiaaGreat
open Go.ChangeShapes Go.WideShapes Go.ChangeAt Go.RowKit
set_option linter.unusedVariables false

theorem uND_e1 {sz : List Int} {f : Nat} {a c : T} {m : Int} {bs : List BT} {N : Nat} {ec : Int} (h : rdU bs m (f + 1) a N = .error ec) : uND sz (f + 1) a c m bs N = .error ec := by rw [uND, h]
theorem uND_e2 {sz : List Int} {f : Nat} {a c : T} {m : Int} {bs : List BT} {N : Nat} {k h : Int} {xs : List T} {N1 : Nat} {ec : Int} (h1 : rdU bs m (f + 1) a N = .ok (.node k h xs, N1)) (h2 : rdU bs m (f + 1) c N1 = .error ec) : uND sz (f + 1) a c m bs N = .error ec := by rw [uND, h1]; simp only [h2]
theorem uND_ok {sz : List Int} {f : Nat} {a c : T} {m : Int} {bs : List BT} {N : Nat} {k h : Int} {xs : List T} {N1 : Nat} {k' h' : Int} {ys : List T} {N2 : Nat} (h1 : rdU bs m (f + 1) a N = .ok (.node k h xs, N1)) (h2 : rdU bs m (f + 1) c N1 = .ok (.node k' h' ys, N2)) :
    uND sz (f + 1) a c m bs N = if k = 6 ∨ k' = 6 then meU sz bs (f + 1) (.node k h xs) (.node k' h' ys) m N2 else if k = k' ∧ h = h' ∧ xs.length = ys.length then ndsU (uND sz f) k xs.length m xs ys 0 false bs N2 else .error 6 := by rw [uND, h1]; simp only [h2]
theorem rx_kind {X : Nat → Prop} {w : World} {k h k1 h1 : Int} {xs : List T} {A : Option Addr} {n c : Nat} (hr : RX X w (.node k h xs) (.agg #[.int .i64 k1, .int .i64 h1, .slice A n c])) : k1 = k ∧ h1 = h := by
  obtain ⟨Aq, nq, cq, eq, _⟩ := RdF_node.1 hr
  have eq' : k1 = k ∧ h1 = h ∧ A = Aq ∧ n = nq ∧ c = cq := by simpa using eq
  exact ⟨eq'.1, eq'.2.1⟩

set_option maxRecDepth 100000 in
set_option maxHeartbeats 8000000 in
theorem uUnC {sz : List Int} {Bk pu : Nat} {As : Option Addr} {cs : Nat} : ∀ (f : Nat), UnT sz Bk pu As cs f := by
  intro f
  induction f with
  | zero => intro a c m bs N k h A n cc k' h' A' n' cc' w _ _ _ _ _ _ h1 h2 _; omega
  | succ f ih =>
    intro a c m bs N k h A n cc k' h' A' n' cc' w hst hok ha hc hm hm2 hf hN hra hrc
    obtain ⟨W, hW⟩ : ∃ W, (w.alloc (.cells #[.int .i64 k, .int .i64 h, .slice A n cc] 24)).alloc (.cells #[.int .i64 k', .int .i64 h', .slice A' n' cc'] 24) = W := ⟨_, rfl⟩
    have hb : Below w.heap.size w W := by rw [← hW]; exact ((Below.refl _ _).alloc (Nat.le_refl _) _).alloc (by simp) _
    have x0 : Box W w.heap.size 24 #[.int .i64 k, .int .i64 h, .slice A n cc] := by rw [← hW]; exact (Box.new _ _ _).alloc _
    have x1 : Box W (w.heap.size + 1) 24 #[.int .i64 k', .int .i64 h', .slice A' n' cc'] := by rw [← hW]; exact (Box.new (w.alloc _) _ _).at (by simp)
    have hlt := hst.lt
    have toX : ∀ {t : T} {v : Value}, RX (UX Bk pu) w t v → RX (XN Bk pu w W) W t v := fun h => RdF.moveX (fun b hb' hl => ⟨fun e => by
      rcases e with e | e
      · exact hb' e
      · omega, hb.block b hl⟩) _ _ h
    have hX2 : ∀ w' : World, W.heap.size ≤ w'.heap.size → ∀ b, XN Bk pu w W b → b < w'.heap.size := fun w' hs b e => by
      have := hb.size
      rcases e with (e | e) | e <;> omega
    have HRA := Lib.hid (uReduceC (X := XN Bk pu w W) m (f + 1) a N k h A n cc W (hst.keep hb) hok ha hm (by omega) hf hN (fun b e => .inl e) (hX2 W (Nat.le_refl _)) (toX hra))
    have HRCX := Lib.hid (toX hrc)
    have HX2 := Lib.hid hX2
    obtain ⟨R1, hR1⟩ : ∃ R, rdU bs m (f + 1) a N = R := ⟨_, rfl⟩
    rw [hR1] at HRA
    obtain ⟨R, hR⟩ : ∃ R, uND sz (f + 1) a c m bs N = R := ⟨_, rfl⟩
    rw [hR]
    have HR := Lib.hid hR; clear hR
    have HST := Lib.hid hst
    have HOK := Lib.hid hok
    have HA := Lib.hid ha
    have HC := Lib.hid hc
    have HIH := Lib.hid ih
    have HB := Lib.hid hb
    have HX0 := Lib.hid x0
    have HX1 := Lib.hid x1
    clear hra hrc hst hok ha hc ih toX hX2
    have HW := Lib.hid hW; clear hW
    obtain ⟨a0, a1, a2⟩ := x0.three
    obtain ⟨b0, b1, b2⟩ := x1.three
    have f0 := x0.frozen 0
    have f1 := x0.frozen 1
    have f2 := x0.frozen 2
    clear x0 x1
    go_enter Tryz.func15, Tryz.ntmps15
    go_wp2_with fail
    rw [HW.out]
    clear HW
    go_wp2_with fail
    refine HRA.out.mono ?_
    intro e w1 hE
    obtain ⟨k1, h1, A1, n1, cc1, ec, rfl, hfr, hq⟩ := hE.uni
    clear a0 a1 a2 b0 b1 b2 f0 f1 f2 hE
    have s0 := hb.size
    have l1 := HX1.out.lt
    have y0 := HX0.out.fr hfr (by omega)
    have y1 := HX1.out.fr hfr (by omega)
    have s1 := hfr.size
    have hcx := RX.fr HRCX.out (hfr.mono fun i _ e => .inl (.inr e))
    have HFR := Lib.hid ((Fr.below (X := fun b => b = pu) hb).trans hfr fun _ _ e => e)
    clear hfr hb HX0 HX1 HRA HRCX
    have f0 := y0.frozen 0
    have f1 := y0.frozen 1
    have f2 := y0.frozen 2
    obtain ⟨a0, a1, a2⟩ := y0.three
    by_cases he0 : ec = 0
    · obtain ⟨t1, N1, hRo, hrx, hpb⟩ : ∃ t1 N1, R1 = .ok (t1, N1) ∧ RX (XN Bk pu w W) w1 t1 (.agg #[.int .i64 k1, .int .i64 h1, .slice A1 n1 cc1]) ∧ PB sz Bk pu As cs w1 N1 := by
        rcases hq with ⟨t1, N1, e1, e2, e3, e4⟩ | ⟨e1, e2⟩
        · exact ⟨t1, N1, e1, e3, e4⟩
        · exact absurd he0 e2
      subst he0
      rw [hRo] at hR1
      obtain ⟨g1, g2, g3, _⟩ := rdU_good hm _ _ _ _ _ HOK.out HA.out hR1
      obtain ⟨kt, gt, xs⟩ := t1
      obtain ⟨rfl, rfl⟩ := rx_kind hrx
      clear hq hRo
      obtain ⟨Wb, hWb⟩ : ∃ Wb, ((w1.setCell ⟨w.heap.size, 0, none⟩ (.int .i64 k1)).setCell ⟨w.heap.size, 1, none⟩ (.int .i64 h1)).setCell ⟨w.heap.size, 2, none⟩ (.slice A1 n1 cc1) = Wb := ⟨_, rfl⟩
      have hset : ∀ b, b ≠ w.heap.size → Wb.heap[b]? = w1.heap[b]? := fun b hb => by rw [← hWb]; exact heap_other3 _ _ _ _ _ _ hb
      have hX0 : XN Bk pu w W w.heap.size := .inr ⟨Nat.le_refl _, by omega⟩
      have z0 : Box Wb w.heap.size 24 #[.int .i64 k1, .int .i64 h1, .slice A1 n1 cc1] := by rw [← hWb]; exact y0.put3 _ _ _
      have z1 : Box Wb (w.heap.size + 1) 24 #[.int .i64 k', .int .i64 h', .slice A' n' cc'] := (hset _ (by omega)).trans y1
      have hfb : FrP pu w Wb := by rw [← hWb]; exact HFR.out.set3 (fun h => by omega) _ _ _
      have hpb2 : PB sz Bk pu As cs Wb N1 := (hset _ (by omega)).trans hpb
      have sWb : Wb.heap.size = w1.heap.size := by rw [← hWb]; simp
      have hrx2 : RX (XN Bk pu w W) Wb (.node k1 h1 xs) (.agg #[.int .i64 k1, .int .i64 h1, .slice A1 n1 cc1]) := RdF.moveX (fun b hb _ => ⟨hb, hset b fun e => hb (e ▸ hX0)⟩) _ _ hrx
      have hcx2 : RX (XN Bk pu w W) Wb c (.agg #[.int .i64 k', .int .i64 h', .slice A' n' cc']) := RdF.moveX (fun b hb _ => ⟨hb, hset b fun e => hb (e ▸ hX0)⟩) _ _ hcx
      have HRB := Lib.hid (uReduceC (X := XN Bk pu w W) m (f + 1) c N1 k' h' A' n' cc' Wb (HST.out.after hfb hpb2) (HOK.out.mono (by omega)) (HC.out.mono (by have := kN_mono (show N ≤ N1 by omega); omega)) hm (by omega) (by omega) g2 (fun b e => .inl e) (HX2.out Wb (by omega)) hcx2)
      obtain ⟨R2, hR2⟩ : ∃ R, rdU bs m (f + 1) c N1 = R := ⟨_, rfl⟩
      rw [hR2] at HRB
      have HZ0 := Lib.hid z0
      have HZ1 := Lib.hid z1
      have HRX := Lib.hid hrx2
      have HFB := Lib.hid hfb
      obtain ⟨b0, b1, b2⟩ := z1.three
      have p0 := z1.frozen 0
      have p1 := z1.frozen 1
      have p2 := z1.frozen 2
      clear hrx hrx2 hcx hcx2 hpb hpb2 hfb hset y0 y1 z0 z1 hX0
      go_wp2_with fail
      clear hWb a0 a1 a2 b0 b1 b2 f0 f1 f2 p0 p1 p2
      refine HRB.out.mono ?_
      intro e w2 hE
      obtain ⟨k2, h2, A2, n2, cc2, ec, rfl, hfr2, hq⟩ := hE.uni
      have u0 := HZ0.out.fr hfr2 (by omega)
      have u1 := HZ1.out.fr hfr2 (by omega)
      have s3 := hfr2.size
      have hra := RX.fr HRX.out (hfr2.mono fun i _ e => .inl (.inr e))
      have HFF := Lib.hid (HFB.out.trans hfr2 fun _ _ e => e)
      clear hfr2 hE HZ0 HZ1 HRX HFB
      have f0 := u1.frozen 0
      have f1 := u1.frozen 1
      have f2 := u1.frozen 2
      obtain ⟨b0, b1, b2⟩ := u1.three
      by_cases he0 : ec = 0
      · obtain ⟨t2, N2, hRo, hrc, hpb⟩ : ∃ t2 N2, R2 = .ok (t2, N2) ∧ RX (XN Bk pu w W) w2 t2 (.agg #[.int .i64 k2, .int .i64 h2, .slice A2 n2 cc2]) ∧ PB sz Bk pu As cs w2 N2 := by
          rcases hq with ⟨t1, N1, e1, e2, e3, e4⟩ | ⟨e1, e2⟩
          · exact ⟨t1, N1, e1, e3, e4⟩
          · exact absurd he0 e2
        subst he0
        rw [hRo] at hR2
        obtain ⟨i1, i2, i3, _⟩ := rdU_good hm _ _ _ _ _ (HOK.out.mono (show N ≤ N1 by omega)) (HC.out.mono (by have := kN_mono (show N ≤ N1 by omega); omega)) hR2
        obtain ⟨kt, gt, ys⟩ := t2
        obtain ⟨rfl, rfl⟩ := rx_kind hrc
        clear hq hRo
        obtain ⟨Wc, hWc⟩ : ∃ Wc, ((w2.setCell ⟨w.heap.size + 1, 0, none⟩ (.int .i64 k2)).setCell ⟨w.heap.size + 1, 1, none⟩ (.int .i64 h2)).setCell ⟨w.heap.size + 1, 2, none⟩ (.slice A2 n2 cc2) = Wc := ⟨_, rfl⟩
        have hset : ∀ b, b ≠ w.heap.size + 1 → Wc.heap[b]? = w2.heap[b]? := fun b hb => by rw [← hWc]; exact heap_other3 _ _ _ _ _ _ hb
        have hX1 : XN Bk pu w W (w.heap.size + 1) := .inr ⟨by omega, by omega⟩
        have z0 : Box Wc w.heap.size 24 #[.int .i64 k1, .int .i64 h1, .slice A1 n1 cc1] := (hset _ (by omega)).trans u0
        have z1 : Box Wc (w.heap.size + 1) 24 #[.int .i64 k2, .int .i64 h2, .slice A2 n2 cc2] := by rw [← hWc]; exact u1.put3 _ _ _
        have hfc : FrP pu w Wc := by rw [← hWc]; exact HFF.out.set3 (fun h => by omega) _ _ _
        have hpb2 : PB sz Bk pu As cs Wc N2 := (hset _ (by omega)).trans hpb
        have hra2 : RX (UX Bk pu) Wc (.node k1 h1 xs) (.agg #[.int .i64 k1, .int .i64 h1, .slice A1 n1 cc1]) := RdF.moveX (fun b hb _ => ⟨fun e => hb (.inl e), hset b fun e => hb (e ▸ hX1)⟩) _ _ hra
        have hrc2 : RX (UX Bk pu) Wc (.node k2 h2 ys) (.agg #[.int .i64 k2, .int .i64 h2, .slice A2 n2 cc2]) := RdF.moveX (fun b hb _ => ⟨fun e => hb (.inl e), hset b fun e => hb (e ▸ hX1)⟩) _ _ hrc
        have hum := HST.out.after hfc hpb2
        have hok2 := HOK.out.mono (show N ≤ N2 by omega)
        have ha2 : WT (kN N2 + m) (.node k1 h1 xs) := g3.mono (by have := kN_mono (show N1 ≤ N2 by omega); omega)
        have hR3 := HR.out.symm.trans (uND_ok hR1 hR2)
        have HFC := Lib.hid hfc
        obtain ⟨a0, a1, a2⟩ := z0.three
        obtain ⟨d0, d1, d2⟩ := z1.three
        by_cases h6 : k1 = 6 ∨ k2 = 6
        · rw [if_pos h6] at hR3
          have HM := Lib.hid (uMetasC (f + 1) k1 h1 xs k2 h2 ys m N2 A1 n1 cc1 A2 n2 cc2 Wc hum hok2 ha2 i3 h6 hm (by omega) (by omega) i2 hra2 hrc2)
          rw [← hR3] at HM
          clear hra hra2 hrc hrc2 hum hok2 ha2 i3 g3 hfc hpb hpb2 hset hX1 z0 z1 u0 u1 hR3 HR hR1 hR2
          by_cases h61 : k1 = 6
          case' pos => have hd : (k1 == 6) = true := by simpa using h61
          case' neg =>
            have hd : (k1 == 6) = false := by simpa using h61
            have hd2 : (k2 == 6) = true := by simpa using h6.resolve_left h61
          all_goals
            clear h6 h61
            go_wp2_with fail
            clear hWc
            refine HM.out.mono ?_
            intro e w3 hE
            obtain ⟨ec, rfl, hfr, hq⟩ := hE.uni
            have HF := Lib.hid ((FrP.ux (Bk := Bk) HFC.out).trans hfr fun _ _ e => e)
            have HQ := Lib.hid hq
            clear hE hfr hq
            go_wp2_with fail
            go_ret
            exact US.of (w := w) HF.out HQ.out
        · rw [if_neg h6] at hR3
          have HM := Lib.hid (uNodesC HIH.out k1 h1 xs k2 h2 ys m N2 A1 n1 cc1 A2 n2 cc2 Wc hum hok2 ha2 i3 hm (by omega) (by omega) i2 hra2 hrc2)
          rw [← hR3] at HM
          clear hra hra2 hrc hrc2 hum hok2 ha2 i3 g3 hfc hpb hpb2 hset hX1 z0 z1 u0 u1 hR3 HR hR1 hR2
          have hd : (k1 == 6) = false := by simpa using fun e => h6 (.inl e)
          have hd2 : (k2 == 6) = false := by simpa using fun e => h6 (.inr e)
          clear h6
          go_wp2_with fail
          clear hWc
          refine HM.out.mono ?_
          intro e w3 hE
          obtain ⟨ec, rfl, hfr, hq⟩ := hE.uni
          have HF := Lib.hid ((FrP.ux (Bk := Bk) HFC.out).trans hfr fun _ _ e => e)
          have HQ := Lib.hid hq
          clear hE hfr hq
          go_wp2_with fail
          go_ret
          exact US.of (w := w) HF.out HQ.out
      · have hRo : R2 = .error ec := by
          rcases hq with ⟨ys, N2, e1, e2, e3, e4⟩ | ⟨e1, e2⟩
          · exact absurd e2 he0
          · exact e1
        have hd : (ec != 0) = true := by simpa using he0
        have hR3 := HR.out.symm.trans (uND_e2 hR1 (hR2.trans hRo))
        have HR3 := Lib.hid hR3
        have HNE := Lib.hid (rdU_er _ _ _ _ (hR2.trans hRo)).ne
        have HF3 := Lib.hid (HFF.out.set3 (a := w.heap.size + 1) (fun h => by omega) (.int .i64 k2) (.int .i64 h2) (.slice A2 n2 cc2))
        clear hq hRo hR1 hR2 HR hR3 hra u0 u1 g3
        go_wp2_with fail
        go_ret
        rw [HR3.out]
        exact ⟨FrP.ux HF3.out, rfl, HNE.out.1, HNE.out.2⟩
    · have hRo : R1 = .error ec := by
        rcases hq with ⟨ys, N2, e1, e2, e3, e4⟩ | ⟨e1, e2⟩
        · exact absurd e2 he0
        · exact e1
      have hd : (ec != 0) = true := by simpa using he0
      have HR3 := Lib.hid (HR.out.symm.trans (uND_e1 (hR1.trans hRo)))
      have HNE := Lib.hid (rdU_er _ _ _ _ (hR1.trans hRo)).ne
      have HF3 := Lib.hid (HFR.out.set3 (a := w.heap.size) (fun h => by omega) (.int .i64 k1) (.int .i64 h1) (.slice A1 n1 cc1))
      clear hq hRo hR1 HR y0 y1 hcx
      go_wp2_with fail
      go_ret
      rw [HR3.out]
      exact ⟨FrP.ux HF3.out, rfl, HNE.out.1, HNE.out.2⟩
end Go.Proofs.YtnnmnkgogiabiaaGreat

/-
  Contract of package unify's resolveMetas. No statement is proved here.
-/
namespace Go.Proofs.YtnnmnkgogiabiaaGreat
open Go.ChangeShapes Go.WideShapes Go.ChangeAt Go.RowKit
set_option linter.unusedVariables false

/-- resolveMetas' answer -/
def UV (sz : List Int) (Bk pu : Nat) (As : Option Addr) (cs : Nat) (w : World) (R : Except Int (List BT × Nat)) (e : Ending) (w' : World) : Prop :=
  Fr (UX Bk pu) w w' ∧ match R with
  | .error ec => e = .returned (.int .i64 ec) ∧ ec ≠ 0
  | .ok (bs, N) => e = .returned (.int .i64 0) ∧ UM sz Bk pu As cs bs N w' ∧ bs.length = sz.length
/-- what a meta is has become another term -/
theorem UM.put3 {sz : List Int} {Bk pu : Nat} {As : Option Addr} {cs : Nat} {bs : List BT} {N : Nat} {w w' : World} {j : Nat} {x : BT} {u : T} {k h : Int} {A : Option Addr} {n c : Nat}
    (hs : UM sz Bk pu As cs bs N w) (hl : bs.length = sz.length) (hj : bs[j]? = some x) (hx1 : x.1 = true) (hr : RX (UX Bk pu) w u (.agg #[.int .i64 k, .int .i64 h, .slice A n c]))
    (hw : w' = ((w.setCell ⟨Bk, j * 4 + 1, none⟩ (.int .i64 k)).setCell ⟨Bk, j * 4 + 1 + 1, none⟩ (.int .i64 h)).setCell ⟨Bk, j * 4 + 1 + 2, none⟩ (.slice A n c)) :
    UM sz Bk pu As cs (bs.set j (true, u)) N w' ∧ Fr (UX Bk pu) w w' := by
  have hset : ∀ g, g ≠ Bk → w'.heap[g]? = w.heap[g]? := fun g hg => by
    rw [hw, Below.heap_setCell _ _ _ _ hg, Below.heap_setCell _ _ _ _ hg, Below.heap_setCell _ _ _ _ hg]
  have hjl : j < sz.length := by rw [← hl]; exact (List.getElem?_eq_some_iff.1 hj).1
  have hfr : Fr (UX Bk pu) w w' := ⟨by rw [hw]; rfl, by rw [hw]; rfl, by rw [hw]; rfl, by rw [hw]; simp [World.setCell], fun b _ hb => hset b fun e => hb (.inl e)⟩
  obtain ⟨cs', hb, hsz, hc⟩ := hs.row
  obtain ⟨_, _, _, _, _, t0, _⟩ := hc j x hj
  refine ⟨⟨(hset _ fun e => hs.ne e.symm).trans hs.ptr, ⟨(((cs'.setIfInBounds (j * 4 + 1) (.int .i64 k)).setIfInBounds (j * 4 + 1 + 1) (.int .i64 h)).setIfInBounds (j * 4 + 1 + 2) (.slice A n c)), ?_, by simp [hsz], ?_⟩, hs.ne, hs.sizes.fr hfr⟩, hfr⟩
  · rw [hw]
    exact ((hb.setAt _ _).setAt _ _).setAt _ _
  · intro i y hy
    by_cases hij : i = j
    · subst hij
      rw [List.getElem?_set_self (by rw [hl]; exact hjl)] at hy
      cases hy
      refine ⟨k, h, A, n, c, ?_, ?_, ?_, ?_, RX.fr hr hfr⟩
      · rw [Array.getElem?_setIfInBounds, if_neg (by omega), Array.getElem?_setIfInBounds, if_neg (by omega), Array.getElem?_setIfInBounds, if_neg (by omega), t0, hx1]
      · rw [Array.getElem?_setIfInBounds, if_neg (by omega), Array.getElem?_setIfInBounds, if_neg (by omega), Array.getElem?_setIfInBounds, if_pos rfl, if_pos (by omega)]
      · rw [Array.getElem?_setIfInBounds, if_neg (by omega), Array.getElem?_setIfInBounds, if_pos (by omega), if_pos (by simp; omega)]
      · rw [Array.getElem?_setIfInBounds, if_pos (by omega), if_pos (by simp; omega)]
    · rw [List.getElem?_set_ne (fun e => hij e.symm)] at hy
      obtain ⟨k', h', A', n', c', e0, e1, e2, e3, hr'⟩ := hc i y hy
      refine ⟨k', h', A', n', c', ?_, ?_, ?_, ?_, RX.fr hr' hfr⟩
      all_goals simp only [Array.getElem?_setIfInBounds]
      · rw [if_neg (by omega), if_neg (by omega), if_neg (by omega)]; exact e0
      · rw [if_neg (by omega), if_neg (by omega), if_neg (by omega)]; exact e1
      · rw [if_neg (by omega), if_neg (by omega), if_neg (by omega)]; exact e2
      · rw [if_neg (by omega), if_neg (by omega), if_neg (by omega)]; exact e3
/-- the count alone has turned -/
def CP (sz : List Int) (Bk pu : Nat) (As : Option Addr) (cs : Nat) (W w' : World) : Prop := FrP pu W w' ∧ ∃ N', PB sz Bk pu As cs w' N'
theorem cp_below {sz : List Int} {Bk pu : Nat} {As : Option Addr} {cs N : Nat} {W w' : World} (h : Hid (Below W.heap.size W w')) (hp : PB sz Bk pu As cs W N) : Hid (CP sz Bk pu As cs W w') := Lib.hid ⟨Fr.below h.out, N, hp.keep h.out hp.lt⟩
theorem cp_alloc {sz : List Int} {Bk pu : Nat} {As : Option Addr} {cs : Nat} {W w : World} (h : Hid (CP sz Bk pu As cs W w)) (o : Obj) : Hid (CP sz Bk pu As cs W (w.alloc o)) := by
  obtain ⟨h1, N, h2⟩ := h.out
  exact Lib.hid ⟨h1.then ((Below.refl _ _).alloc (Nat.le_refl _) _), N, h2.alloc _⟩
theorem cp_set3 {sz : List Int} {Bk pu : Nat} {As : Option Addr} {cs : Nat} {W w : World} (h : Hid (CP sz Bk pu As cs W w)) {p : Nat} (hp : W.heap.size ≤ p) (hpu : p ≠ pu) (u0 u1 u2 : Value) : Hid (CP sz Bk pu As cs W (((w.setCell ⟨p, 0, none⟩ u0).setCell ⟨p, 1, none⟩ u1).setCell ⟨p, 2, none⟩ u2)) := by
  obtain ⟨h1, N, h2⟩ := h.out
  exact Lib.hid ⟨h1.set3 (fun e => by omega) _ _ _, N, (heap_other3 _ _ _ _ _ _ (fun e => hpu e.symm)).trans h2⟩
/-- what holds at the head of resolveMetas' loop -/
structure RmI (sz : List Int) (Bk pu : Nat) (As : Option Addr) (cs : Nat) (R : Except Int (List BT × Nat)) (w : World) (j : Nat) (wr : World) (bs : List BT) (N : Nat) : Prop where
  fr : Fr (UX Bk pu) w wr
  um : UM sz Bk pu As cs bs N wr
  ok : okU sz bs N
  hi : N ≤ 40000
  eq : R = rvL sz (sz.length - j) j bs N
theorem rvL_end {sz : List Int} {i : Nat} {bs : List BT} {N : Nat} : rvL sz 0 i bs N = .ok (bs, N) := by rw [rvL]
theorem rvL_no1 {sz : List Int} {r i : Nat} {bs : List BT} {N : Nat} (h : (bs.getD i noB).1 = false) : rvL sz (r + 1) i bs N = rvL sz r (i + 1) bs N := by rw [rvL, if_neg (by rw [h]; exact Bool.false_ne_true)]
theorem rvL_err {sz : List Int} {r i : Nat} {bs : List BT} {N : Nat} {ec : Int} (h : (bs.getD i noB).1 = true) (e : rsU bs fu (bs.getD i noB).2 (sz.getD i 0) N = .error ec) : rvL sz (r + 1) i bs N = .error ec := by rw [rvL, if_pos h, e]
theorem rvL_ok {sz : List Int} {r i : Nat} {bs : List BT} {N N' : Nat} {t : T} (h : (bs.getD i noB).1 = true) (e : rsU bs fu (bs.getD i noB).2 (sz.getD i 0) N = .ok (t, N')) : rvL sz (r + 1) i bs N = rvL sz r (i + 1) (bs.set i (true, t)) N' := by rw [rvL, if_pos h, e]

set_option maxRecDepth 100000 in
set_option maxHeartbeats 8000000 in
theorem uResolveMetasC {sz : List Int} {Bk pu : Nat} {As : Option Addr} {cs : Nat} {bs : List BT} (N : Nat) (w : World) (hst : UM sz Bk pu As cs bs N w) (hok : okU sz bs N) (hN : N ≤ 40000) :
    Calls Tryz.prog 16 #[.pointer (some ⟨pu, 0, none⟩)] w (UV sz Bk pu As cs w (rvL sz sz.length 0 bs N)) := by
  obtain ⟨R, hR⟩ : ∃ R, rvL sz sz.length 0 bs N = R := ⟨_, rfl⟩
  rw [hR]
  have HI : Hid (RmI sz Bk pu As cs R w 0 w bs N) := Lib.hid ⟨Fr.refl _ _, hst, hok, hN, by rw [Nat.sub_zero]; exact hR.symm⟩
  have h200 := hok.few
  have hcap : (sz.length : Nat) ≤ maxLen := by unfold maxLen; omega
  have hlt := hst.lt
  obtain ⟨p0, p1, p2⟩ := hst.ptr.three
  clear hst hok hN hR
  obtain ⟨L, hL⟩ : ∃ L : Nat, sz.length = L := ⟨_, rfl⟩
  rw [hL] at p0 p1 h200 hcap
  have HL := Lib.hid hL; clear hL
  go_enter Tryz.func16, Tryz.ntmps16
  go_wp2_with fail
  clear p0 p1 p2
  go_loopw [12] (fun i wr => ∃ (j : Nat) (bs' : List BT) (N' : Nat), j ≤ L ∧ i = .int .i64 j ∧ Hid (RmI sz Bk pu As cs R w j wr bs' N')) (fun i _ => L - (Go.RowKit.intOf i).toNat)
  case atStart => exact ⟨0, bs, N, Nat.zero_le _, rfl, HI⟩
  case round =>
    clear HI
    obtain ⟨j, bs', N', hj, rfl, HI⟩ := hrel
    by_cases hlj : j < L
    · obtain ⟨x, hx⟩ := at_of (k := j) HI.out.ok.len (by rw [HL.out]; exact hlj)
      have hgx : bs'.getD j noB = x := by rw [List.getD_eq_getElem?_getD, hx]; rfl
      obtain ⟨kb, gb, Ab, nb, cb, d0, d1, d2, d3, hrb⟩ := HI.out.um.cells j x hx
      obtain ⟨bx, tx⟩ := x
      dsimp only at d0 hrb
      have hi0 : (0 : Int) ≤ j := by omega
      have hi1 : (j : Int) < L := by omega
      have hr1 : L - j = (L - (j + 1)) + 1 := by omega
      have heq := HI.out.eq
      rw [HL.out, hr1] at heq
      have hltr := HI.out.um.lt
      cases bx
      · rw [rvL_no1 (by rw [hgx])] at heq
        have HJ : Hid (RmI sz Bk pu As cs R w (j + 1) (wr.alloc (.cells #[.bool false, .int .i64 kb, .int .i64 gb, .slice Ab nb cb] 35)) bs' N') := Lib.hid
          ⟨HI.out.fr.then ((Below.refl _ _).alloc (Nat.le_refl _) _), HI.out.um.keep ((Below.refl _ _).alloc (Nat.le_refl _) _), HI.out.ok, HI.out.hi, by rw [HL.out]; exact heq⟩
        clear heq hrb hgx hx
        go_wp2_with fail
        go_roundw
        case rel => exact ⟨j + 1, bs', N', by omega, by go_num, HJ⟩
        case measure => simp [Go.RowKit.intOf]; omega
      · obtain ⟨z, hz⟩ : ∃ z, sz[j]? = some z := ⟨_, List.getElem?_eq_getElem (by rw [HL.out]; exact hlj)⟩
        have hzD : sz.getD j 0 = z := by rw [List.getD_eq_getElem?_getD, hz]; rfl
        have hzb := HI.out.ok.szs j
        rw [hzD] at hzb
        have hwt := HI.out.ok.at_ j _ hx rfl
        rw [hzD] at hwt
        have hwt : WT (kN N' + z) tx := hwt
        obtain ⟨bS, oS, rfl, nXS, s0⟩ := HI.out.um.sizes j z hz
        obtain ⟨W1, hW1⟩ : ∃ W1, wr.alloc (.cells #[.bool true, .int .i64 kb, .int .i64 gb, .slice Ab nb cb] 35) = W1 := ⟨_, rfl⟩
        have hb1 : Below wr.heap.size wr W1 := by rw [← hW1]; exact (Below.refl _ _).alloc (Nat.le_refl _) _
        have x4 : Box W1 wr.heap.size 35 #[.bool true, .int .i64 kb, .int .i64 gb, .slice Ab nb cb] := by rw [← hW1]; exact Box.new _ _ _
        have hum1 := HI.out.um.keep hb1
        have hrb1 := RX.fr hrb (Fr.below (X := UX Bk pu) hb1)
        obtain ⟨S, hS⟩ : ∃ S, rsU bs' fu tx z N' = S := ⟨_, rfl⟩
        have HS := Lib.hid hS
        have HRS : Hid (∀ W', Hid (Below W1.heap.size W1 W') → Calls Tryz.prog 27 #[.pointer (some ⟨pu, 0, none⟩), .agg #[.int .i64 kb, .int .i64 gb, .slice Ab nb cb], .int .i64 z] W' fun e w' => ∃ k3 h3 A3 n3 c3 ec, e = .returned (.tuple #[.agg #[.int .i64 k3, .int .i64 h3, .slice A3 n3 c3], .int .i64 ec]) ∧ Hid (CP sz Bk pu (some ⟨bS, oS, none⟩) cs W1 w') ∧ Hid (FrP pu W' w') ∧ Hid (QR sz Bk pu (some ⟨bS, oS, none⟩) cs S W'.heap.size w' k3 h3 A3 n3 c3 ec)) := Lib.hid fun W' h' => by
          refine (uResolveC fu tx z N' kb gb Ab nb cb W' (hum1.keep h'.out) HI.out.ok hwt hzb.1 (by rw [fu_eq]; omega) (by rw [fu_eq]; omega) HI.out.hi (RX.fr hrb1 (Fr.below h'.out))).mono ?_
          intro e w' hE
          have hpp := hE.2.1
          obtain ⟨k3, h3, A3, n3, c3, ec, rfl, hfr, hq⟩ := hE.uni
          rw [hS] at hq
          exact ⟨k3, h3, A3, n3, c3, ec, rfl, Lib.hid ⟨(Fr.below h'.out).trans hfr fun _ _ e => e, hpp⟩, Lib.hid hfr, Lib.hid hq⟩
        have HGX := Lib.hid (And.intro hgx hzD)
        have HEQ := Lib.hid heq
        have HUM1 := Lib.hid hum1
        have HF1 := Lib.hid (HI.out.fr.then hb1)
        have HGD := Lib.hid fun t2 N2 (e : S = .ok (t2, N2)) => rsU_good fu tx z N' t2 N2 hzb.1 HI.out.ok hwt (hS.trans e)
        have n4 : wr.heap.size ≠ pu := by omega
        have nS : bS ≠ pu := fun e => nXS (.inr e)
        have l4 : wr.heap.size < W1.heap.size := x4.lt
        have e4 : ∀ i, W1.cell? ⟨bS, i, none⟩ = wr.cell? ⟨bS, i, none⟩ := fun i => World.cell?_of_block (w := wr) (hb1.block bS (cell_lt s0))
        have HK : Hid (∀ w', Hid (CP sz Bk pu (some ⟨bS, oS, none⟩) cs W1 w') → ((w'.cell? ⟨pu, 1, none⟩ = some (.slice (some ⟨bS, oS, none⟩) L cs) ∧ (w'.cell? ⟨wr.heap.size, 1, none⟩ = some (.int .i64 kb) ∧ w'.cell? ⟨wr.heap.size, 2, none⟩ = some (.int .i64 gb) ∧ w'.cell? ⟨wr.heap.size, 3, none⟩ = some (.slice Ab nb cb)) ∧ w'.cell? ⟨bS, oS + j, none⟩ = some (.int .i64 z)) ∧ Hid (CP sz Bk pu (some ⟨bS, oS, none⟩) cs W1 w'))) := Lib.hid fun w' h' => by
          obtain ⟨hf, N3, hp3⟩ := h'.out
          have y4 := x4.fr hf n4
          have q := hp3.three
          rw [HL.out] at q
          exact ⟨⟨q.2.1, ⟨y4.cell 1, y4.cell 2, y4.cell 3⟩, (World.cell?_of_block (w := W1) (hf.block bS (Nat.lt_of_lt_of_le (cell_lt s0) hb1.size) nS)).trans ((e4 _).trans s0)⟩, h'⟩
        have hcu : Hid (Below W1.heap.size W1 W1.drew) := cur_drew
        have hcp : Hid (CP sz Bk pu (some ⟨bS, oS, none⟩) cs W1 W1.drew) := cp_below hcu HUM1.out.ptr
        have b4 := x4.cell 0
        have HX := Lib.hid hx
        have HB1 := Lib.hid hb1
        clear heq hrb hrb1 hgx hzD hx hz hwt hum1 hb1 hS e4 s0 nXS
        go_wp2_with fail
        clear d0 d1 d2 d3 b4 hW1
        go_region_held3 (fun w' => (w'.cell? ⟨pu, 1, none⟩ = some (.slice (some ⟨bS, oS, none⟩) L cs) ∧ (w'.cell? ⟨wr.heap.size, 1, none⟩ = some (.int .i64 kb) ∧ w'.cell? ⟨wr.heap.size, 2, none⟩ = some (.int .i64 gb) ∧ w'.cell? ⟨wr.heap.size, 3, none⟩ = some (.slice Ab nb cb)) ∧ w'.cell? ⟨bS, oS + j, none⟩ = some (.int .i64 z)) ∧ Hid (CP sz Bk pu (some ⟨bS, oS, none⟩) cs W1 w'))
          (first | exact HK.out _ (by assumption) | exact HK.out _ (cp_alloc (by assumption) _) | exact HK.out _ (cp_set3 (by assumption) (by omega) (by omega) _ _ _))
          (first
            | (go_at_call 27
               with_reducible refine Calls.mono (HRS.out _ ?hh) ?_
               case hh => first | assumption | exact cur_alloc hcu _
               rintro e w2 ⟨k3, h3, A3, n3, c3, ec, rfl, hcp, hfr, hQ⟩
               first | (have zP := Box.fr (cs := #[.int .i64 0, .int .i64 0, .slice none 0 0]) (ty := 24) (by first | exact zP | exact zP.alloc _ | exact Box.new _ _ _ | exact (Box.new _ _ _).alloc _ | exact Box.drewI (Box.new _ _ _)) hfr.out (by omega); have lz2 := zP.lt) | skip
               first | (obtain ⟨z0, z1, z2⟩ := zP.three; have fz0 := zP.frozen 0; have fz1 := zP.frozen 1; have fz2 := zP.frozen 2) | skip
               have s2 := hcp.out.1.size
               have s3 := hfr.out.size
               clear hfr))
        all_goals first
          | (obtain ⟨Wf, hWf⟩ : ∃ Wf, w2.alloc (.cells #[.int .i64 k3, .int .i64 h3, .slice A3 n3 c3] 24) = Wf := ⟨_, rfl⟩
             obtain ⟨pI, hpe⟩ : ∃ p, p = w2.heap.size := ⟨_, rfl⟩
             have xI : Box Wf pI 24 #[.int .i64 k3, .int .i64 h3, .slice A3 n3 c3] := by rw [hpe, ← hWf]; exact Box.new _ _ _
             have HF2 : Hid (CP sz Bk pu (some ⟨bS, oS, none⟩) cs W1 Wf) := by rw [← hWf]; exact cp_alloc (by assumption) _
             have HQ : Hid (QR sz Bk pu (some ⟨bS, oS, none⟩) cs S W1.heap.size Wf k3 h3 A3 n3 c3 ec) := by rw [← hWf]; exact Lib.hid (hQ.out.alloc (by first | omega | exact Nat.le_refl _ | (simp; done) | (simp; omega)) _)
             rw [hWf, ← hpe]
             clear hWf hpe)
          | (obtain ⟨Wf, hWf⟩ : ∃ Wf, ((w2.setCell ⟨W1.heap.size, 0, none⟩ (.int .i64 k3)).setCell ⟨W1.heap.size, 1, none⟩ (.int .i64 h3)).setCell ⟨W1.heap.size, 2, none⟩ (.slice A3 n3 c3) = Wf := ⟨_, rfl⟩
             obtain ⟨pI, hpe⟩ : ∃ p, p = W1.heap.size := ⟨_, rfl⟩
             have xI : Box Wf pI 24 #[.int .i64 k3, .int .i64 h3, .slice A3 n3 c3] := by rw [hpe, ← hWf]; exact zP.put3 _ _ _
             have HF2 : Hid (CP sz Bk pu (some ⟨bS, oS, none⟩) cs W1 Wf) := by rw [← hWf]; exact cp_set3 (by assumption) (by omega) (by omega) _ _ _
             have HQ : Hid (QR sz Bk pu (some ⟨bS, oS, none⟩) cs S W1.heap.size Wf k3 h3 A3 n3 c3 ec) := by rw [← hWf]; exact Lib.hid (hQ.out.set3 (by simp) (by simp) (by omega) _ _ _)
             rw [hWf, ← hpe]
             clear hWf hpe)
        all_goals
          (try clear zP z0 z1 z2 fz0 fz1 fz2)
          clear hQ hcp hcu s2 s3 HRS HK
          have hfW : FrP pu wr Wf := (Fr.below HB1.out).trans HF2.out.1 fun _ _ e => e
          have HFW := Lib.hid (HI.out.fr.trans (FrP.ux (Bk := Bk) hfW) fun _ _ e => e)
          have HFF := Lib.hid hfW
          have sF := HF2.out.1.size
          clear hfW
          by_cases he0 : ec = 0
          · have hd : (ec != 0) = false := by simpa using he0
            have hq : ∃ t' N2, S = .ok (t', N2) ∧ RdF (fun b => W1.heap.size ≤ b) Wf t' (.agg #[.int .i64 k3, .int .i64 h3, .slice A3 n3 c3]) ∧ PB sz Bk pu (some ⟨bS, oS, none⟩) cs Wf N2 := by
              rcases HQ.out with ⟨t', N2, h1, h2, h3, h4⟩ | ⟨h1, h2⟩
              · exact ⟨t', N2, h1, h3, h4⟩
              · exact absurd he0 h2.1
            obtain ⟨t', N2, hSo, hrd, hpb⟩ := hq
            obtain ⟨gd1, gd2, gd3, gd4, gd5⟩ := HGD.out t' N2 hSo
            have hres : rsU bs' fu (bs'.getD j noB).2 (sz.getD j 0) N' = .ok (t', N2) := by rw [HGX.out.1, HGX.out.2]; exact HS.out.trans hSo
            have heq := HEQ.out
            rw [rvL_ok (by rw [HGX.out.1]) hres] at heq
            have hum := HI.out.um.after HFF.out hpb
            have hrx : RX (UX Bk pu) Wf t' (.agg #[.int .i64 k3, .int .i64 h3, .slice A3 n3 c3]) := RdF.moveX (fun b hb hl => by
              have hb : W1.heap.size ≤ b := hb
              exact ⟨fun e => by rcases e with e | e <;> omega, rfl⟩) _ _ hrd
            have hokS : okU sz (bs'.set j (true, t')) N2 := (HI.out.ok.mono (by omega)).set (WT.of gd3 gd4 (by omega) (by rw [HGX.out.2]; exact gd5))
            have HUM := Lib.hid hum
            have HRX := Lib.hid hrx
            have HOK := Lib.hid hokS
            have HEQ2 := Lib.hid heq
            have HN2 := Lib.hid gd2
            obtain ⟨p0, p1, p2⟩ := hpb.three
            rw [HL.out] at p0
            obtain ⟨i0, i1, i2⟩ := xI.three
            have t0 := Past.cell p0
            have r0 := Past.cell i0
            have r1 := Past.cell i1
            have r2 := Past.cell i2
            clear hSo hrd hpb gd1 gd2 gd3 gd4 gd5 hres heq hum hrx hokS HQ
            go_wp2_with fail
            refine wp_region_class_tail (C := fun w' => ∃ z : Past Wf, w' = z.wd) 8 (by kernel_rfl) (by kernel_rfl) ⟨⟨Wf.drew, (Below.refl _ _).drew⟩, rfl⟩ ?_
            simp only [List.take_succ_cons, List.take_zero, List.drop_succ_cons, List.drop_zero]
            repeat (go_big_quiet_step (fail))
            refine wpQuiet_nil ?_
            rintro _ ⟨z2, rfl⟩
            obtain ⟨W5, hbq⟩ := z2
            dsimp only
            clear t0 r0 r1 r2 p0 p1 p2 i0 i1 i2 xI
            have hum5 := HUM.out.keep hbq
            have HF7 := Lib.hid (HFW.out.then hbq)
            have HR7 := Lib.hid (RX.fr HRX.out (Fr.below (X := UX Bk pu) hbq))
            obtain ⟨csr, hrow, hsz, hcs⟩ := hum5.row
            rw [HL.out] at hsz
            have HUM7 := Lib.hid hum5
            clear hcs hbq hum5
            obtain ⟨u1, hu1⟩ := hrow.there (i := j * 4 + 1) (by omega)
            obtain ⟨u2, hu2⟩ := hrow.there (i := j * 4 + 1 + 1) (by omega)
            obtain ⟨u3, hu3⟩ := hrow.there (i := j * 4 + 1 + 2) (by omega)
            have f1 := hrow.frozen (j * 4 + 1)
            have f2 := hrow.frozen (j * 4 + 1 + 1)
            have f3 := hrow.frozen (j * 4 + 1 + 2)
            clear hrow hsz HUM HRX
            go_wp2_with fail
            go_roundw
            case rel =>
              obtain ⟨h1, h2⟩ := HUM7.out.put3 (j := j) (u := t') HI.out.ok.len HX.out rfl HR7.out rfl
              exact ⟨j + 1, bs'.set j (true, t'), N2, by omega, by go_num, Lib.hid ⟨HF7.out.trans h2 fun _ _ e => e, h1, HOK.out, HN2.out, by rw [HL.out]; exact HEQ2.out⟩⟩
            case measure => simp [Go.RowKit.intOf]; omega
          · have hd : (ec != 0) = true := by simpa using he0
            have hq : S = .error ec := by
              rcases HQ.out with ⟨t', N2, h1, h2, h3, h4⟩ | ⟨h1, h2⟩
              · exact absurd h2 he0
              · exact h1
            have heq := HEQ.out
            rw [rvL_err (ec := ec) (by rw [HGX.out.1]) (by rw [HGX.out.1, HGX.out.2]; exact HS.out.trans hq)] at heq
            have HR2 := Lib.hid heq
            clear heq hq HQ xI
            go_wp2_with fail
            go_ret
            rw [HR2.out]
            exact ⟨HFW.out, rfl, he0⟩
    · have heq := HI.out.eq
      rw [HL.out, show L - j = 0 by omega, rvL_end] at heq
      have HR := Lib.hid heq; clear heq
      go_wp2_with fail
      go_ret
      rw [HR.out]
      exact ⟨HI.out.fr, rfl, HI.out.um, HI.out.ok.len⟩
end Go.Proofs.YtnnmnkgogiabiaaGreat

/-
  Contract of package unify's Unify. No statement is proved here.
-/
namespace Go.Proofs.YtnnmnkgogiabiaaGreat
open Go.ChangeShapes Go.WideShapes Go.ChangeAt Go.RowKit
set_option linter.unusedVariables false

theorem infoBindU : (Tryz.prog.info? 35).map (fun i => (i.zero, i.size, i.bytes)) = some (some (.agg #[.bool false, .int .i64 0, .int .i64 0, .slice none 0 0]), 4, 48) := by kernel_rfl
theorem make_bindsU {N : Nat} (hN : N ≤ 200) (W : World) : (Instr.makeSlice 28 (.int .i64 (N : Int)) (.int .i64 (N : Int))).run Tryz.prog W = .ok (.slice (some ⟨W.heap.size, 0, none⟩) N N) (W.alloc (.cells (madeCells #[.bool false, .int .i64 0, .int .i64 0, .slice none 0 0] (N * 4)) 35)) := by
  obtain ⟨i0, hi, hz0, hz1, hz2⟩ := info_parts infoBindU
  have := run_make W 28 35 i0 _ Tryz.underlying28 hi hz0 .i64 .i64 (N : Int) (N : Int) (by omega) (Int.le_refl _) (by rw [hz2]; omega) (by omega)
  rw [hz1] at this
  simpa [Value.cells] using this
theorem bcs_made {w : World} {ok : Nat → Prop} (n : Nat) : BCs ok w (madeCells #[.bool false, .int .i64 0, .int .i64 0, .slice none 0 0] (n * 4)) (List.replicate n noB) := fun i x hx => by
  rw [List.getElem?_replicate] at hx
  split at hx
  · rename_i hi
    cases hx
    have e : ∀ r, r < 4 → (madeCells #[.bool false, .int .i64 0, .int .i64 0, .slice none 0 0] (n * 4))[i * 4 + r]? = some ((#[.bool false, .int .i64 0, .int .i64 0, .slice none 0 0] : Array Value)[r]!) := fun r hr => by
      have h1 : i * 4 + r < n * 4 := by omega
      have h2 : (i * 4 + r) % 4 = r := by omega
      simp [madeCells, h1, h2]
    refine ⟨0, 0, none, 0, 0, ?_, e 1 (by omega), e 2 (by omega), e 3 (by omega), ?_⟩
    · exact e 0 (by omega)
    · exact RdF_node.2 ⟨none, 0, 0, rfl, by decide, by decide, rfl, Nat.le_refl _, Nat.zero_le _, fun i t h => by simp at h⟩
  · cases hx
/-- how Unify ends -/
def UnE (w : World) (R : Except Int (List BT)) (e : Ending) (w' : World) : Prop :=
  ∃ A n c ec, e = .returned (.tuple #[.slice A n c, .int .i64 ec]) ∧ Below w.heap.size w w' ∧ match R with
  | .error er => ec = er ∧ er ≠ 0 ∧ A = none ∧ n = 0 ∧ c = 0
  | .ok bs => ec = 0 ∧ BL (fun _ => True) w' bs A n c
theorem UM.bl {sz : List Int} {Bk pu : Nat} {As : Option Addr} {cs : Nat} {bs : List BT} {N : Nat} {w : World} (h : UM sz Bk pu As cs bs N w) (hl : bs.length = sz.length) (h2 : sz.length ≤ 200) : BL (fun _ => True) w bs (some ⟨Bk, 0, none⟩) sz.length sz.length :=
  ⟨hl, Nat.le_refl _, by unfold maxLen; omega, fun i x hx => by
    obtain ⟨k, g, A, n, c, e0, e1, e2, e3, hr⟩ := h.cells i x hx
    exact ⟨Bk, 0, k, g, A, n, c, rfl, by rw [Nat.zero_add]; exact e0, by rw [Nat.zero_add]; exact e1, by rw [Nat.zero_add]; exact e2, by rw [Nat.zero_add]; exact e3, rdF_any _ _ hr.rd⟩⟩
theorem UM.first {sz : List Int} {Bk pu : Nat} {As : Option Addr} {cs : Nat} {w : World} (hn : Bk ≠ pu) (h1 : Box w Bk 35 (madeCells #[.bool false, .int .i64 0, .int .i64 0, .slice none 0 0] (sz.length * 4))) (h2 : Box w pu 42 #[.slice (some ⟨Bk, 0, none⟩) sz.length sz.length, .slice As sz.length cs, .int .i64 0]) (hs : LI (UX Bk pu) w sz As) : UM sz Bk pu As cs (List.replicate sz.length noB) 0 w :=
  ⟨h2, ⟨_, h1, size_madeCells _ _, bcs_made _⟩, hn, hs⟩
theorem un_false {a c : T} {n : Int} {sz : List Int} (h : unA a c n sz = false) : unR a c n sz = .error 1 := by rw [unR, if_neg (by rw [h]; exact Bool.false_ne_true)]
def unV : Except Int (List BT × Nat) → Except Int (List BT)
  | .error e => .error e
  | .ok (bs, _) => .ok bs
theorem un_err {a c : T} {n : Int} {sz : List Int} {e : Int} (h : unA a c n sz = true) (hu : uND sz fu a c n (List.replicate sz.length noB) 0 = .error e) : unR a c n sz = .error e := by rw [unR, if_pos h, hu]
theorem un_out {a c : T} {n : Int} {sz : List Int} {bs : List BT} {N : Nat} (h : unA a c n sz = true) (hu : uND sz fu a c n (List.replicate sz.length noB) 0 = .ok (true, bs, N)) : unR a c n sz = .error 5 := by rw [unR, if_pos h, hu]; rfl
theorem un_ok {a c : T} {n : Int} {sz : List Int} {bs : List BT} {N : Nat} (h : unA a c n sz = true) (hu : uND sz fu a c n (List.replicate sz.length noB) 0 = .ok (false, bs, N)) : unR a c n sz = unV (rvL sz sz.length 0 bs N) := by
  rw [unR, if_pos h, hu]
  simp only [Bool.false_eq_true, if_false]
  cases rvL sz sz.length 0 bs N with
  | error e => rfl
  | ok p => rfl
theorem noC_not (x : Int) : (!noC x) = (decide (0 ≤ x) && decide (x ≤ 1000)) := by
  rw [Bool.eq_iff_iff]
  simp [noC]
theorem okU_first {sz : List Int} (h2 : sz.length ≤ 200) (hs : sz.any noC = false) : okU sz (List.replicate sz.length noB) 0 := by
  refine ⟨by simp, h2, fun i => ?_, fun i x hx h1 => ?_⟩
  · rw [List.getD_eq_getElem?_getD]
    cases hi : sz[i]? with
    | none => simp
    | some z =>
      have := List.any_eq_false.1 hs z (List.mem_of_getElem? hi)
      simp [noC] at this
      simp
      omega
  · rw [List.getElem?_replicate] at hx
    split at hx
    · cases hx; cases h1
    · cases hx
theorem wt_first {t : T} {n : Int} (hm : myB t = true) (ho : okT 1099511627776 t) (hn : 0 ≤ n) : WT (kN 0 + n) t := by
  have h := (myB_iff t).1 hm
  exact ⟨h.1, by omega, lv_mono (by unfold kN; omega) _ (lv_of_ok t ho)⟩

set_option maxRecDepth 100000 in
set_option maxHeartbeats 8000000 in
theorem UnifyC (a c : T) (n : Int) (sz : List Int) (As : Option Addr) (cs : Nat) (k h : Int) (A : Option Addr) (na ca : Nat) (k' h' : Int) (A' : Option Addr) (na' ca' : Nat) (w : World) (ha : Rd w a (.agg #[.int .i64 k, .int .i64 h, .slice A na ca])) (hc : Rd w c (.agg #[.int .i64 k', .int .i64 h', .slice A' na' ca'])) (hoa : myB a = true → okT 1099511627776 a) (hoc : myB c = true → okT 1099511627776 c)
    (hsc : sz.length ≤ cs) (hscm : cs ≤ maxLen) (hs : Nu w sz As) :
    Calls Tryz.prog 6 #[.agg #[.int .i64 k, .int .i64 h, .slice A na ca], .agg #[.int .i64 k', .int .i64 h', .slice A' na' ca'], .int .i64 n, .slice As sz.length cs] w (UnE w (unR a c n sz)) := by
  obtain ⟨W, hW⟩ : ∃ W, (w.alloc (.cells #[.int .i64 k, .int .i64 h, .slice A na ca] 24)).alloc (.cells #[.int .i64 k', .int .i64 h', .slice A' na' ca'] 24) = W := ⟨_, rfl⟩
  have hb : Below w.heap.size w W := by rw [← hW]; exact ((Below.refl _ _).alloc (Nat.le_refl _) _).alloc (by simp) _
  have x0 : Box W w.heap.size 24 #[.int .i64 k, .int .i64 h, .slice A na ca] := by rw [← hW]; exact (Box.new _ _ _).alloc _
  have x1 : Box W (w.heap.size + 1) 24 #[.int .i64 k', .int .i64 h', .slice A' na' ca'] := by rw [← hW]; exact (Box.new (w.alloc _) _ _).at (by simp)
  have hcm2 := hscm
  unfold maxLen at hcm2
  obtain ⟨L, hL⟩ : ∃ L : Nat, sz.length = L := ⟨_, rfl⟩
  obtain ⟨R, hR⟩ : ∃ R, unR a c n sz = R := ⟨_, rfl⟩
  rw [hR]
  have HR := Lib.hid hR; clear hR
  have HF1 : Hid (∀ w', Below w.heap.size w w' → unA a c n sz = false → UnE w R (.returned (.tuple #[.slice none 0 0, .int .i64 1])) w') := Lib.hid fun w' hb hA => by
    rw [← HR.out, un_false hA]
    exact ⟨none, 0, 0, 1, rfl, hb, rfl, by decide, rfl, rfl, rfl⟩
  have HUA : Hid (unA a c n sz = (!noC n && decide (L ≤ 200) && !sz.any noC && (myB a && myB c))) := Lib.hid (by
    rw [unA, hL]
    have e1 := noC_not n
    have e2 : (!sz.any noC) = sz.all fun s => decide (0 ≤ s) && decide (s ≤ 1000) := by
      rw [List.not_any_eq_all_not]
      congr 1
      funext s
      exact noC_not s
    rw [e1, e2])
  have HL := Lib.hid hL
  have HHA := Lib.hid ha
  have HHC := Lib.hid hc
  have HOA := Lib.hid hoa
  have HOC := Lib.hid hoc
  have HS := Lib.hid hs
  have HB := Lib.hid hb
  have HX0 := Lib.hid x0
  have HX1 := Lib.hid x1
  have HSC := Lib.hid hsc
  rw [hL]
  clear ha hc hoa hoc hs hb x0 x1 hL
  have hsc : L ≤ cs := by have := HSC.out; have := HL.out; omega
  have HW := Lib.hid hW; clear hW
  have HN1 := Lib.hid (uNoContextC n W)
  obtain ⟨b1, hb1⟩ : ∃ b, noC n = b := ⟨_, rfl⟩
  rw [hb1] at HN1
  go_enter Tryz.func6, Tryz.ntmps6
  go_wp2_with fail
  rw [HW.out]
  clear HW
  refine HN1.out.mono ?_
  rintro e w1 ⟨rfl, hb2⟩
  have HB1 := Lib.hid (HB.out.trans (hb2.mono HB.out.size))
  have HC1 := Lib.hid hb2
  clear hb2 HN1
  cases b1
  case true =>
    have hA := HF1.out w1 HB1.out (by rw [HUA.out, hb1]; rfl)
    have HA := Lib.hid hA
    clear hA hb1
    go_wp2_with fail
    go_ret2
    exact HA.out
  by_cases hL2 : L ≤ 200
  case neg =>
    have hd : decide ((200 : Int) < (L : Int)) = true := decide_eq_true (by omega)
    have hA := HF1.out w1 HB1.out (by rw [HUA.out, decide_eq_false hL2]; simp)
    have HA := Lib.hid hA
    clear hA hb1 hL2
    go_wp2_with fail
    go_ret2
    exact HA.out
  have hd : decide ((200 : Int) < (L : Int)) = false := decide_eq_false (by omega)
  have HN2 := Lib.hid (uContainsFC sz As L cs w1 HL.out hsc hscm (HS.out.keep HB1.out))
  obtain ⟨b2, hb2⟩ : ∃ b, sz.any noC = b := ⟨_, rfl⟩
  rw [hb2] at HN2
  go_wp2_with fail
  refine HN2.out.mono ?_
  rintro e w2 ⟨rfl, hb3⟩
  have HB2 := Lib.hid (HB1.out.trans (hb3.mono HB1.out.size))
  have HC2 := Lib.hid (HC1.out.trans (hb3.mono HC1.out.size))
  clear hb3 HN2
  cases b2
  case true =>
    have hA := HF1.out w2 HB2.out (by rw [HUA.out, hb2]; simp)
    have HA := Lib.hid hA
    clear hA hb1 hb2
    go_wp2_with fail
    go_ret2
    exact HA.out
  have y0 := HX0.out.keep HC2.out HX0.out.lt
  obtain ⟨a0, a1, a2⟩ := y0.three
  have HM1 := Lib.hid (myC a _ w2 (Rd.keep HB2.out _ _ HHA.out))
  obtain ⟨b3, hb3⟩ : ∃ b, myB a = b := ⟨_, rfl⟩
  rw [hb3] at HM1
  clear y0
  go_wp2_with fail
  clear a0 a1 a2
  refine HM1.out.mono ?_
  rintro e w3 ⟨rfl, hb4⟩
  have HB3 := Lib.hid (HB2.out.trans (hb4.mono HB2.out.size))
  have HC3 := Lib.hid (HC2.out.trans (hb4.mono HC2.out.size))
  clear hb4 HM1
  cases b3
  case false =>
    have hA := HF1.out w3 HB3.out (by rw [HUA.out, hb3]; simp)
    have HA := Lib.hid hA
    clear hA hb1 hb2 hb3
    go_wp2_with fail
    go_ret2
    exact HA.out
  have y1 := HX1.out.keep HC3.out HX1.out.lt
  obtain ⟨a0, a1, a2⟩ := y1.three
  have HM2 := Lib.hid (myC c _ w3 (Rd.keep HB3.out _ _ HHC.out))
  obtain ⟨b4, hb4⟩ : ∃ b, myB c = b := ⟨_, rfl⟩
  rw [hb4] at HM2
  clear y1
  go_wp2_with fail
  clear a0 a1 a2
  refine HM2.out.mono ?_
  rintro e w4 ⟨rfl, hb5⟩
  have HB4 := Lib.hid (HB3.out.trans (hb5.mono HB3.out.size))
  have HC4 := Lib.hid (HC3.out.trans (hb5.mono HC3.out.size))
  clear hb5 HM2
  cases b4
  case false =>
    have hA := HF1.out w4 HB4.out (by rw [HUA.out, hb4]; simp)
    have HA := Lib.hid hA
    clear hA hb1 hb2 hb3 hb4
    go_wp2_with fail
    go_ret2
    exact HA.out
  have hUA : unA a c n sz = true := by rw [HUA.out, hb1, hb2, hb3, hb4, decide_eq_true hL2]; rfl
  have HUAT := Lib.hid hUA
  have hn0 : 0 ≤ n ∧ n ≤ 1000 := by simp [noC] at hb1; omega
  have HOKF := Lib.hid (okU_first (sz := sz) (by rw [HL.out]; exact hL2) hb2)
  have HWA := Lib.hid (wt_first (n := n) hb3 (HOA.out hb3) hn0.1)
  have HWC := Lib.hid (wt_first (n := n) hb4 (HOC.out hb4) hn0.1)
  have hmk := fun W' => make_bindsU (N := L) hL2 W'
  have z0 := HX0.out.keep HC4.out HX0.out.lt
  have z1 := HX1.out.keep HC4.out HX1.out.lt
  clear hb1 hb2 hb3 hb4 hUA HUA HF1 HOA HOC
  obtain rfl := HL.out
  have s4 := HC4.out.size
  have l1 := HX1.out.lt
  have sB := HB.out.size
  obtain ⟨W5, hW5⟩ : ∃ W5, (w4.alloc (.cells (madeCells #[.bool false, .int .i64 0, .int .i64 0, .slice none 0 0] (sz.length * 4)) 35)).alloc (.cells #[.slice (some ⟨w4.heap.size, 0, none⟩) sz.length sz.length, .slice As sz.length cs, .int .i64 0] 42) = W5 := ⟨_, rfl⟩
  have hb5 : Below w4.heap.size w4 W5 := by rw [← hW5]; exact ((Below.refl _ _).alloc (Nat.le_refl _) _).alloc (by simp) _
  have xB : Box W5 w4.heap.size 35 (madeCells #[.bool false, .int .i64 0, .int .i64 0, .slice none 0 0] (sz.length * 4)) := by rw [← hW5]; exact (Box.new _ _ _).alloc _
  have xP : Box W5 (w4.heap.size + 1) 42 #[.slice (some ⟨w4.heap.size, 0, none⟩) sz.length sz.length, .slice As sz.length cs, .int .i64 0] := by rw [← hW5]; exact (Box.new (w4.alloc _) _ _).at (by simp)
  have HB5 := Lib.hid (HB4.out.trans (hb5.mono HB4.out.size))
  have hum : UM sz w4.heap.size (w4.heap.size + 1) As cs (List.replicate sz.length noB) 0 W5 := UM.first (by omega) xB xP (fun i z hz => by
    obtain ⟨b, o, e, hc⟩ := HS.out i z hz
    have hl := cell_lt hc
    dsimp only at hl
    have := HB4.out.size
    exact ⟨b, o, e, fun e => by rcases e with e | e <;> omega, (HB5.out.cell (cell_lt hc)).trans hc⟩)
  have toX : ∀ {t : T} {v : Value}, Rd w t v → RX (UX w4.heap.size (w4.heap.size + 1)) W5 t v := fun {t v} h => RdF.moveX (fun b hb hl => ⟨fun e => by
    have := HB4.out.size
    have hb : b < w.heap.size := hb.2
    rcases e with e | e <;> omega, HB5.out.block b hb.2⟩) _ _ (rdF_heap _ _ (rdF_any _ _ h))
  have HUN := Lib.hid (uUnC fu a c n _ 0 k h A na ca k' h' A' na' ca' W5 hum HOKF.out HWA.out HWC.out hn0.1 (by rw [fu_eq]; omega) (by rw [fu_eq]; omega) (by omega) (toX HHA.out) (toX HHC.out))
  obtain ⟨U, hU⟩ : ∃ U, uND sz fu a c n (List.replicate sz.length noB) 0 = U := ⟨_, rfl⟩
  rw [hU] at HUN
  have HU := Lib.hid hU
  have HG := Lib.hid fun o bs N (e : U = .ok (o, bs, N)) => uND_good fu a c n _ 0 o bs N hn0.1 HOKF.out HWA.out HWC.out (hU.trans e)
  have u0 := z0.keep hb5 z0.lt
  have u1 := z1.keep hb5 z1.lt
  obtain ⟨a0, a1, a2⟩ := u0.three
  obtain ⟨d0, d1, d2⟩ := u1.three
  clear hU hum toX xB xP z0 z1 u0 u1 hb5
  go_wp2_with fail
  clear hW5 a0 a1 a2 d0 d1 d2
  refine HUN.out.mono ?_
  intro e w5 hE
  obtain ⟨ec, rfl, hfr, hq⟩ := hE.uni
  have hbF : Below w.heap.size w w5 := HB5.out.trans (hfr.to_below (fun i e => by have := HB4.out.size; rcases e with e | e <;> omega) HB5.out.size)
  have HBF := Lib.hid hbF
  clear hE hfr hbF HUN hmk
  by_cases he0 : ec = 0
  · obtain ⟨bs, N, hUo, hum⟩ : ∃ bs N, U = .ok (false, bs, N) ∧ UM sz w4.heap.size (w4.heap.size + 1) As cs bs N w5 := by
      rcases hq with ⟨o, bs, N, e1, e2, e3⟩ | ⟨e1, e2, e3⟩
      · cases o
        · exact ⟨bs, N, e1, e3⟩
        · simp at e2; omega
      · exact absurd he0 e2
    subst he0
    obtain ⟨g1, g2, g3⟩ := HG.out _ _ _ hUo
    have HRM := Lib.hid (uResolveMetasC N w5 hum g1 g3)
    obtain ⟨V, hV⟩ : ∃ V, rvL sz sz.length 0 bs N = V := ⟨_, rfl⟩
    rw [hV] at HRM
    have hR3 : R = unV V := by rw [← HR.out, un_ok HUAT.out (HU.out.trans hUo), hV]
    have HR3 := Lib.hid hR3
    clear hR3 hV hUo hum g1 g2 g3 hq HR HG
    go_wp2_with fail
    refine HRM.out.mono ?_
    rintro e w6 ⟨hfr, hv⟩
    have hbF : Below w.heap.size w w6 := HBF.out.trans (hfr.to_below (fun i e => by have := HB4.out.size; rcases e with e | e <;> omega) HBF.out.size)
    have HBF := Lib.hid hbF
    clear hbF hfr HRM
    cases V with
    | error ev =>
      obtain ⟨rfl, hne⟩ := hv
      have hd : (ev != 0) = true := by simpa using hne
      have HNE := Lib.hid hne
      have HR4 : Hid (R = .error ev) := Lib.hid HR3.out
      clear hne HR3
      go_wp2_with fail
      go_ret2
      rw [HR4.out]
      exact ⟨none, 0, 0, ev, rfl, HBF.out, rfl, HNE.out, rfl, rfl, rfl⟩
    | ok p =>
      obtain ⟨bs', N'⟩ := p
      obtain ⟨rfl, hum, hlen⟩ := hv
      have HR4 : Hid (R = .ok bs') := Lib.hid HR3.out
      have HBL := Lib.hid (hum.bl hlen hL2)
      obtain ⟨p0, p1, p2⟩ := hum.ptr.three
      clear hum hlen HR3
      go_wp2_with fail
      go_ret2
      rw [HR4.out]
      exact ⟨_, _, _, 0, rfl, HBF.out, rfl, HBL.out⟩
  · have hR3 : R = .error ec := by
      rw [← HR.out]
      rcases hq with ⟨o, bs, N, e1, e2, e3⟩ | ⟨e1, e2, e3⟩
      · cases o
        · exact absurd e2 he0
        · rw [un_out HUAT.out (HU.out.trans e1), e2]; rfl
      · exact un_err HUAT.out (HU.out.trans e1)
    have HR3 := Lib.hid hR3
    have hd : (ec != 0) = true := by simpa using he0
    clear hR3 hq HR HG
    go_wp2_with fail
    go_ret2
    rw [HR3.out]
    exact ⟨none, 0, 0, ec, rfl, HBF.out, rfl, he0, rfl, rfl, rfl⟩
end Go.Proofs.YtnnmnkgogiabiaaGreat

/-
  The chapter's examples of layer 8. No statement is proved here.
-/
namespace Go.Proofs.YtnnmnkgogiabiaaGreat
open Go.ChangeShapes Go.WideShapes Go.ChangeAt Go.RowKit
set_option linter.unusedVariables false

abbrev auA : T := .node 5 1 [.node 6 0 [], .node 5 2 []]
abbrev auC : T := .node 5 1 [.node 5 3 [], .node 6 1 []]
abbrev auU : T := .node 6 0 []
abbrev auB : T := .node 5 1 [.node 6 0 []]
theorem au_one : unR auA auC 0 [0, 0] = .ok [(true, .node 5 3 []), (true, .node 5 2 [])] := by kernel_rfl
theorem au_two : unR auU auB 0 [0] = .error 5 := by kernel_rfl
theorem two_nu {w : World} {b : Nat} {ty : TypeId} {x y : Int} (hb : Box w b ty #[.int .i64 x, .int .i64 y]) : Nu w [x, y] (some ⟨b, 0, none⟩) := fun i z hz => by
  match i, hz with
  | 0, hz => cases hz; exact ⟨b, 0, rfl, hb.cell 0⟩
  | 1, hz => cases hz; exact ⟨b, 0, rfl, hb.cell 1⟩
theorem one_nu {w : World} {b : Nat} {ty : TypeId} {x : Int} (hb : Box w b ty #[.int .i64 x]) : Nu w [x] (some ⟨b, 0, none⟩) := fun i z hz => by
  match i, hz with
  | 0, hz => cases hz; exact ⟨b, 0, rfl, hb.cell 0⟩
set_option maxRecDepth 100000 in
set_option maxHeartbeats 4000000 in
theorem awakeN (w : World) : Calls Tryz.prog 4 #[] w fun e w' => e = .returned (.bool true) ∧ Below w.heap.size w w' := by
  go_enter Tryz.func4, Tryz.ntmps4
  go_wp2_with fail
  obtain ⟨W, hW⟩ : ∃ W, (((((((w.alloc (.cells #[.int .i64 6, .int .i64 0, .slice none 0 0] 24)).alloc (.cells #[.int .i64 6, .int .i64 1, .slice none 0 0] 24)).alloc (.cells #[.int .i64 6, .int .i64 0, .slice none 0 0, .int .i64 5, .int .i64 2, .slice none 0 0] 24)).alloc (.cells #[.int .i64 5, .int .i64 1, .slice (some ⟨w.heap.size + 1 + 1, 0, none⟩) 2 2] 24)).alloc (.cells #[.int .i64 5, .int .i64 3, .slice none 0 0, .int .i64 6, .int .i64 1, .slice none 0 0] 24)).alloc (.cells #[.int .i64 5, .int .i64 1, .slice (some ⟨w.heap.size + 1 + 1 + 1 + 1, 0, none⟩) 2 2] 24)).alloc (.cells #[.int .i64 0, .int .i64 0] 3)) = W := ⟨_, rfl⟩
  rw [hW]
  have hb : Below w.heap.size w W := by rw [← hW]; exact ((((((((Below.refl _ _).alloc (Nat.le_refl _) _).alloc (by simp) _).alloc (by simp; omega) _).alloc (by simp; omega) _).alloc (by simp; omega) _).alloc (by simp; omega) _).alloc (by simp; omega) _)
  have x0 : Box W (w.heap.size) 24 #[.int .i64 6, .int .i64 0, .slice none 0 0] := by rw [← hW]; exact (((((((Box.new w _ _).alloc _).alloc _).alloc _).alloc _).alloc _).alloc _)
  have x2 : Box W (w.heap.size + 1 + 1) 24 #[.int .i64 6, .int .i64 0, .slice none 0 0, .int .i64 5, .int .i64 2, .slice none 0 0] := by rw [← hW]; exact ((((((Box.new ((w.alloc _).alloc _) _ _).at (by simp)).alloc _).alloc _).alloc _).alloc _)
  have x4 : Box W (w.heap.size + 1 + 1 + 1 + 1) 24 #[.int .i64 5, .int .i64 3, .slice none 0 0, .int .i64 6, .int .i64 1, .slice none 0 0] := by rw [← hW]; exact ((((Box.new ((((w.alloc _).alloc _).alloc _).alloc _) _ _).at (by simp)).alloc _).alloc _)
  have x6 : Box W (w.heap.size + 1 + 1 + 1 + 1 + 1 + 1) 3 #[.int .i64 0, .int .i64 0] := by rw [← hW]; exact ((Box.new ((((((w.alloc _).alloc _).alloc _).alloc _).alloc _).alloc _) _ _).at (by simp))
  clear hW
  have hA : Rd W auA (.agg #[.int .i64 5, .int .i64 1, .slice (some ⟨w.heap.size + 1 + 1, 0, none⟩) 2 2]) := Rd_node.2 ⟨_, 2, 2, rfl, by decide, by decide, rfl, Nat.le_refl _, by unfold maxLen; omega, rd_two x2 (rd_leaf (by decide) (by decide)) (rd_leaf (by decide) (by decide))⟩
  have hC : Rd W auC (.agg #[.int .i64 5, .int .i64 1, .slice (some ⟨w.heap.size + 1 + 1 + 1 + 1, 0, none⟩) 2 2]) := Rd_node.2 ⟨_, 2, 2, rfl, by decide, by decide, rfl, Nat.le_refl _, by unfold maxLen; omega, rd_two x4 (rd_leaf (by decide) (by decide)) (rd_leaf (by decide) (by decide))⟩
  have HU := Lib.hid (UnifyC auA auC 0 [0, 0] (some ⟨w.heap.size + 1 + 1 + 1 + 1 + 1 + 1, 0, none⟩) 2 5 1 (some ⟨w.heap.size + 1 + 1, 0, none⟩) 2 2 5 1 (some ⟨w.heap.size + 1 + 1 + 1 + 1, 0, none⟩) 2 2 W hA hC (fun _ => by simp [okT, okL]) (fun _ => by simp [okT, okL]) (Nat.le_refl _) (by unfold maxLen; omega) (two_nu x6))
  rw [au_one] at HU
  have HB := Lib.hid hb
  clear hb hA hC x2 x4 x6
  refine HU.out.mono ?_
  rintro e w1 ⟨A1, n1, c1, ec, rfl, hb1, rfl, hbl⟩
  have y0 := x0.keep hb1 x0.lt
  have HB1 := Lib.hid (HB.out.trans (hb1.mono HB.out.size))
  clear x0 hb1 HU
  obtain rfl : n1 = 2 := hbl.len.symm
  have hcc := hbl.le
  have hccm := hbl.cap
  unfold maxLen at hccm
  obtain ⟨b, o, k2, h2, A2, n2, c2, rfl, d0, d1, d2, d3, hr⟩ := hbl.at_ 0 _ rfl
  obtain ⟨b', o', k3, h3, A3, n3, c3, eA, e0, e1, e2, e3, hr'⟩ := hbl.at_ 1 _ rfl
  cases eA
  obtain ⟨rfl, rfl⟩ := rx_kind (X := fun _ => False) (RdF.moveX (fun b _ _ => ⟨fun e => e, rfl⟩) _ _ hr)
  obtain ⟨rfl, rfl⟩ := rx_kind (X := fun _ => False) (RdF.moveX (fun b _ _ => ⟨fun e => e, rfl⟩) _ _ hr')
  clear hr hr' hbl
  obtain ⟨a0, a1, a2⟩ := y0.three
  go_wp2_with fail
  obtain ⟨W2, hW2⟩ : ∃ W2, ((w1.alloc (.cells #[.int .i64 6, .int .i64 0, .slice none 0 0] 24)).alloc (.cells #[.int .i64 0] 3)) = W2 := ⟨_, rfl⟩
  rw [hW2]
  have hb2 : Below w1.heap.size w1 W2 := by rw [← hW2]; exact (((Below.refl _ _).alloc (Nat.le_refl _) _).alloc (by simp) _)
  have z0 : Box W2 w1.heap.size 24 #[.int .i64 6, .int .i64 0, .slice none 0 0] := by rw [← hW2]; exact ((Box.new w1 _ _).alloc _)
  have z1 : Box W2 (w1.heap.size + 1) 3 #[.int .i64 0] := by rw [← hW2]; exact ((Box.new (w1.alloc _) _ _).at (by simp))
  clear hW2
  have HU := Lib.hid (UnifyC auU auB 0 [0] (some ⟨w1.heap.size + 1, 0, none⟩) 1 6 0 none 0 0 5 1 (some ⟨w1.heap.size, 0, none⟩) 1 1 W2 (rd_leaf (by decide) (by decide)) (rd_node1 z0 (rd_leaf (by decide) (by decide)) (by decide) (by decide)) (fun _ => by simp [okT, okL]) (fun _ => by simp [okT, okL]) (Nat.le_refl _) (by unfold maxLen; omega) (one_nu z1))
  rw [au_two] at HU
  have HB2 := Lib.hid (HB1.out.trans (hb2.mono HB1.out.size))
  clear z0 z1 a0 a1 a2 y0
  have HD := Lib.hid (And.intro d0 (And.intro d1 (And.intro d2 (And.intro e0 (And.intro e1 e2)))))
  have HBB := Lib.hid hb2
  clear d0 d1 d2 d3 e0 e1 e2 e3 hb2
  refine HU.out.mono ?_
  rintro e w2 ⟨A5, n5, c5, ec, rfl, hb3, rfl, _, rfl, rfl, rfl⟩
  have hbx : Below w1.heap.size w1 w2 := HBB.out.trans (hb3.mono HBB.out.size)
  have g : ∀ {i : Nat} {v : Value}, w1.cell? ⟨b, i, none⟩ = some v → w2.cell? ⟨b, i, none⟩ = some v := fun h => (hbx.cell (cell_lt h)).trans h
  obtain ⟨d0, d1, d2, e0, e1, e2⟩ := HD.out
  replace d0 := g d0; replace d1 := g d1; replace d2 := g d2; replace e0 := g e0; replace e1 := g e1; replace e2 := g e2
  simp only [Nat.zero_mul, Nat.add_zero, Nat.one_mul] at d0 d1 d2 e0 e1 e2
  have HBF := Lib.hid (HB2.out.trans (hb3.mono HB2.out.size))
  clear g hbx hb3 HU
  trace_state
  go_wp2_with fail
  go_ret
  exact ⟨rfl, HBF.out⟩
end Go.Proofs.YtnnmnkgogiabiaaGreat
