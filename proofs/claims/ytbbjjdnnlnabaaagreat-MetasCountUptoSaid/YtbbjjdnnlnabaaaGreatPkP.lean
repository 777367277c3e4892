/- Texts of one proof, put together. No statement is proved here. -/
import Derived.Test.YtbbjjdnnlnabaaaGreatPkG
import Derived.Test.YtbbjjdnnlnabaaaGreatPkWg
namespace Go.Proofs.YtbbjjdnnlnabaaaGreat
open Go.RowKit
set_option linter.unusedVariables false
set_option linter.unusedSimpArgs false
theorem spL_var (A : T → T → Nat → Res) (h : Int) (args : List T) (n : Nat) : spL A (.node 4 h []) args n = .ok (.node 4 h args, n) := by
  cases args with
  | nil => rw [spL]
  | cons a bs =>
    rw [spL, if_neg (by omega), if_pos (.inl rfl)]
    rfl
theorem scL_of {k : Int} {m : Nat} {metas : Int} : ∀ {xs : List T} {i : Nat} {V : Int}, (∀ (j : Nat) (x : T), xs[j]? = some x → scC x (V + bd k m (i + j)) metas) → scCL k m xs i V metas
  | [], i, V, h => by rw [scCL]; trivial
  | x :: xs, i, V, h => by
    rw [scCL]
    refine ⟨h 0 x rfl, scL_of fun j y hy => ?_⟩
    have := h (j + 1) y (by simpa using hy)
    rw [show i + 1 + j = i + (j + 1) by omega]
    exact this
theorem bd_var {k : Int} (hk : k ≠ 1 ∧ k ≠ 3) (m i : Nat) : bd k m i = 0 := by unfold bd; rw [if_neg (by omega)]
open Go.ChangeShapes Go.WideShapes Go.ChangeAt
set_option maxHeartbeats 800000
def lsB (xs : List T) (s d : Int) : Bool := decide (xs.length ≤ 60) && xs.all fun t => ltB t s d
theorem lightsC (xs : List T) (A : Option Addr) (n c : Nat) (s d : Int) (w : World) (hn : xs.length = n) (hc : n ≤ c) (hm : c ≤ maxLen) (hx : ∀ i t, xs[i]? = some t → RdAt w A i t) :
    Calls Tryz.prog 8 #[.slice A n c, .int .i64 s, .int .i64 d] w fun e w' => e = .returned (.bool (lsB xs s d)) ∧ Below w.heap.size w w' := by
  unfold maxLen at hm
  have E : lsB xs s d = (decide (n ≤ 60) && xs.all fun t => ltB t s d) := by rw [lsB, hn]
  have HE := Lib.hid E; clear E
  have HN := Lib.hid hn; clear hn
  have HX := Lib.hid hx; clear hx
  by_cases h60 : n ≤ 60
  · have d1 : ¬ (60 : Int) < n := by omega
    go_enter Tryz.func8, Tryz.ntmps8
    go_wp2_with fail
    go_loopw [7] (fun i wr => ∃ (j : Nat), j ≤ n ∧ i = .int .i64 j ∧ Hid ((xs.drop j).all (fun t => ltB t s d) = lsB xs s d) ∧ Below w.heap.size w wr) (fun i _ => n - (intOf i).toNat)
    case atStart => exact ⟨0, Nat.zero_le _, rfl, Lib.hid (by rw [HE.out]; simp [h60]), Below.refl _ _⟩
    case round =>
      obtain ⟨j, hj, rfl, HS, hb⟩ := hrel
      by_cases hlt : j < n
      · obtain ⟨t, ht⟩ := at_of HN.out hlt
        obtain ⟨b, o, k2, h2, A2, n2, c2', rfl, c0, c1, c2, hr⟩ := (RdAt.keep hb (HX.out j t ht)).full
        have HT := Lib.hid ht; clear ht
        have hi0 : (0 : Int) ≤ j := by omega
        have hi1 : (j : Int) < n := by omega
        go_wp2_with fail
        clear c0 c1 c2
        refine (refLight t s d _ _ hr).mono ?_
        have HS' := HS.out
        rw [drop_at HT.out, List.all_cons] at HS'
        have HS := Lib.hid HS'; clear HS'
        generalize ltB t s d = r at *
        rintro e w1 ⟨rfl, hb1⟩
        have hbw : Below w.heap.size w w1 := hb.trans (hb1.mono hb.size)
        clear hb1
        cases r
        · go_wp2_with fail
          go_ret
          exact ⟨ret_bool (by simpa using HS.out), hbw⟩
        · go_wp2_with fail
          go_roundw
          case rel => exact ⟨j + 1, by omega, by go_num, Lib.hid (by simpa using HS.out), hbw⟩
          case measure => simp [intOf]; omega
      · go_wp2_with fail
        go_ret
        exact ⟨ret_bool (by have := HS.out; rw [drop_all HN.out (by omega)] at this; exact this), hb⟩
  · have d1 : (60 : Int) < n := by omega
    go_enter Tryz.func8, Tryz.ntmps8
    go_wp2_with fail
    go_ret
    exact ⟨ret_bool (by rw [HE.out]; simp [h60]), Below.refl _ _⟩
theorem rd_one {w : World} {b : Nat} {ty : TypeId} {t : T} {k h k2 h2 : Int} {A : Option Addr} {n c : Nat} (hb : Box w b ty #[.int .i64 k2, .int .i64 h2, .slice A n c]) (hr : Rd w t (.agg #[.int .i64 k2, .int .i64 h2, .slice A n c])) :
    ∀ i u, [t][i]? = some u → RdAt w (some ⟨b, 0, none⟩) i u := fun i u hu => by
  cases i with
  | zero =>
    simp only [List.getElem?_cons_zero, Option.some.injEq] at hu
    subst hu
    obtain ⟨c0, c1, c2⟩ := hb.three
    exact ⟨b, 0, _, _, _, rfl, c0, c1, c2, hr⟩
  | succ i => simp at hu
theorem rd_leaf {w : World} {k h : Int} (hk : (Lit.int .i64 k).wf = true) (hh : (Lit.int .i64 h).wf = true) : Rd w (.node k h []) (.agg #[.int .i64 k, .int .i64 h, .slice none 0 0]) :=
  Rd_node.2 ⟨none, 0, 0, rfl, hk, hh, rfl, Nat.le_refl _, Nat.zero_le _, fun i t ht => by simp at ht⟩
theorem my_up {t : T} {b f : Int} (hb : 0 ≤ b) (h : myB t = true) : myB (upT b t f) = true := by
  obtain ⟨h1, h2, h3⟩ := (myB_iff t).1 h
  exact (myB_iff _).2 ⟨nodB_up hb t f h1, by rw [nd_up]; exact h2, by rw [dp_up]; exact h3⟩
theorem sb_of {L : List T} {sh : Int} (h1 : L.length ≤ 200) (h2 : 0 ≤ sh ∧ sh ≤ 1048576) (h3 : ∀ x ∈ L, myB x = true) : sbB L sh = true := by
  unfold sbB
  simp only [Bool.and_eq_true, decide_eq_true_eq, List.all_eq_true]
  exact ⟨⟨⟨h1, h2.1⟩, h2.2⟩, h3⟩
theorem sb_parts {L : List T} {sh : Int} (h : sbB L sh = true) : L.length ≤ 200 ∧ (0 ≤ sh ∧ sh ≤ 1048576) ∧ ∀ x ∈ L, myB x = true := by
  unfold sbB at h
  simp only [Bool.and_eq_true, decide_eq_true_eq, List.all_eq_true] at h
  exact ⟨h.1.1.1, ⟨h.1.1.2, h.1.2⟩, h.2⟩
theorem my_var {h : Int} (h0 : 0 ≤ h) : myB (.node 4 h []) = true := by simp [myB, nodB, nodL, okN, nd, ndL, dp, dpL, h0]
/-! ### The world at hand in a region that draws its order -/
theorem cur_trans {W W' w' : World} (h : Hid (Below W.heap.size W W')) (k : Below W'.heap.size W' w') : Hid (Below W.heap.size W w') := Lib.hid (h.out.trans (k.mono h.out.size))
theorem cur_alloc {W W' : World} (h : Hid (Below W.heap.size W W')) (o : Obj) : Hid (Below W.heap.size W (W'.alloc o)) := Lib.hid (h.out.alloc h.out.size o)
theorem cur_set3 {W W' : World} (h : Hid (Below W.heap.size W W')) {p : Nat} (hp : W.heap.size ≤ p) (u0 u1 u2 : Value) : Hid (Below W.heap.size W (((W'.setCell ⟨p, 0, none⟩ u0).setCell ⟨p, 1, none⟩ u1).setCell ⟨p, 2, none⟩ u2)) := Lib.hid (below_set3 h.out hp u0 u1 u2)
theorem cur_drew {W : World} : Hid (Below W.heap.size W W.drew) := Lib.hid (Below.refl _ _).drew
theorem Box.keepC {w w' : World} {b : Nat} {ty : TypeId} {cs : Array Value} (h : Box w b ty cs) (hk : Below w.heap.size w w') : Box w' b ty cs := h.keep hk h.lt
theorem Box.drewI {w : World} {b : Nat} {ty : TypeId} {cs : Array Value} (h : Box w b ty cs) : Box w.drew b ty cs := h
theorem rd_two {w : World} {b : Nat} {ty : TypeId} {t u : T} {k2 h2 k3 h3 : Int} {A A' : Option Addr} {n c n' c' : Nat} (hb : Box w b ty #[.int .i64 k2, .int .i64 h2, .slice A n c, .int .i64 k3, .int .i64 h3, .slice A' n' c']) (hr : Rd w t (.agg #[.int .i64 k2, .int .i64 h2, .slice A n c])) (hr' : Rd w u (.agg #[.int .i64 k3, .int .i64 h3, .slice A' n' c'])) :
    ∀ i x, [t, u][i]? = some x → RdAt w (some ⟨b, 0, none⟩) i x := fun i x hu => by
  match i, hu with
  | 0, hu =>
    simp only [List.getElem?_cons_zero, Option.some.injEq] at hu
    subst hu
    exact ⟨b, 0, _, _, _, rfl, hb.cell 0, hb.cell 1, hb.cell 2, hr⟩
  | 1, hu =>
    simp only [List.getElem?_cons_succ, List.getElem?_cons_zero, Option.some.injEq] at hu
    subst hu
    exact ⟨b, 0, _, _, _, rfl, hb.cell 3, hb.cell 4, hb.cell 5, hr'⟩
  | i + 2, hu => simp at hu
/-! ### An error is not nought -/
theorem apL_err {A : Nat → T → Nat → Res} {k : Int} {m u : Nat} (hA : ∀ v x n e, A v x n = .error e → e ≠ 0) : ∀ (xs : List T) (i n : Nat) (e : Int), apL A k m u xs i n = .error e → e ≠ 0
  | [], _, _, _, h => by simp [apL] at h
  | x :: xs, i, n, e, h => by
    rw [apL] at h
    split at h
    · rename_i e' h'
      cases h
      exact hA _ _ _ _ h'
    · split at h
      · rename_i e' h'
        cases h
        exact apL_err hA xs _ _ _ h'
      · cases h
theorem spL_err {A : T → T → Nat → Res} (hA : ∀ a x n e, A a x n = .error e → e ≠ 0) : ∀ (bs : List T) (t : T) (n : Nat) (e : Int), spL A t bs n = .error e → e ≠ 0
  | [], _, _, _, h => by simp [spL] at h
  | a :: bs, .node k hd xs, n, e, h => by
    rw [spL] at h
    split at h
    · split at h
      · split at h
        · rename_i e' h'
          cases h
          exact hA _ _ _ _ h'
        · exact spL_err hA bs _ _ _ h
      · cases h; omega
    · split at h
      · cases h
      · cases h; omega
theorem ap_err : ∀ (f : Nat) (L : List T) (sh : Int) (u : Nat) (t : T) (n : Nat) (e : Int), ap f L sh u t n = .error e → e ≠ 0 := by
  intro f
  induction f with
  | zero => intro L sh u t n e h; rw [ap] at h; cases h; omega
  | succ f ih =>
    rintro L sh u ⟨k, hd, xs⟩ n e h
    rw [ap] at h
    split at h
    · cases h; omega
    · split at h
      · rename_i e' h'
        cases h
        exact apL_err (fun v x n e h => ih _ _ _ _ _ _ h) _ _ _ _ h'
      · split at h
        · exact spL_err (fun a x n e h => ih _ _ _ _ _ _ h) _ _ _ _ h
        · cases h
end Go.Proofs.YtbbjjdnnlnabaaaGreat
