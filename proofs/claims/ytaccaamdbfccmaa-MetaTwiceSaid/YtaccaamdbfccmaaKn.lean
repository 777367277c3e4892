/-
  The chapter's example of layer 4, and what the laws need of what Fill tells. No statement is proved here.
-/
import Derived.Test.YtaccaamdbfccmaaKm
import Derived.Test.YtaccaamdbfccmaaOl
namespace Go.Proofs.Ytaccaamdbfccmaa
open Go.ChangeShapes Go.WideShapes Go.ChangeAt Go.RowKit
set_option linter.unusedVariables false
set_option maxRecDepth 100000

theorem fi_ok {th : List T} {n : Int} {t u : T} (h : fiR th n t = .ok u) : thB th = true ∧ 0 ≤ n ∧ n ≤ 1000 ∧ myB t = true ∧ flT th t n = .ok u ∧ myB u = true := by
  by_cases hc : (thB th && decide (0 ≤ n) && decide (n ≤ 1000) && myB t) = true
  · have hc' := hc
    simp only [Bool.and_eq_true, decide_eq_true_eq] at hc'
    rw [fi_good hc'.1.1.1 hc'.1.1.2 hc'.1.2 hc'.2] at h
    refine ⟨hc'.1.1.1, hc'.1.1.2, hc'.1.2, hc'.2, ?_⟩
    split at h
    · cases h
    · rename_i t' ht
      split at h
      · rename_i hm
        cases h
        exact ⟨ht, hm⟩
      · cases h
  · rw [fi_bad (by simpa using hc)] at h
    cases h
theorem thB_all {th : List T} (h : thB th = true) : ∀ x ∈ th, myB x = true := by
  unfold thB at h
  rw [Bool.and_eq_true] at h
  exact List.all_eq_true.1 h.2
theorem scopes_fill {t u : T} {th : List T} {n around : Int} (kt : Kn 300 60 t) (hL : ∀ x ∈ th, Kn 300 60 x) (hs : ∀ x ∈ th, scB x around 5 = true) (hb : barB t = true) (hn : 0 ≤ n ∧ n ≤ 20) (ha : 0 ≤ around ∧ around ≤ 20)
    (ht : scB t (n + around) th.length = true) (hu : fiR th n t = .ok u) : scB u (n + around) 5 = true := by
  obtain ⟨_, _, _, _, h5, h6⟩ := fi_ok hu
  have h4 := ((myB_iff u).1 h6).2.1
  have h7 := kt.dp
  refine (scB_iff 5 u (n + around) (by omega) (by omega)).2 ?_
  exact sc_fill (fun x hx => (hL x hx).my) ha.1 (fun x hx => (scB_iff 5 x around (by omega) (by have := (hL x hx).nd; omega)).1 (hs x hx)) t n u hb hn.1 (by omega) kt.nod ((scB_iff th.length t (n + around) (by omega) (by have := kt.nd; omega)).1 ht) h5

theorem th60 {L : List T} (hL : ∀ x ∈ L, myB x = true) (h : L.length ≤ 200) : thB L = true := by
  unfold thB
  rw [Bool.and_eq_true]
  exact ⟨by simpa using h, List.all_eq_true.2 hL⟩
theorem none_tells {t : T} {L : List T} {n : Int} (ht : myB t = true) (hL : ∀ x ∈ L, myB x = true) (h60 : L.length ≤ 60) (hn : 0 ≤ n ∧ n ≤ 1000) (hb : hasB t = false) : fiR L n t = .ok t := by
  rw [fi_good (th60 hL (by omega)) hn.1 hn.2 ht, fl_none L t n hb]
  simp [ht]
theorem has_tells {t : T} {n : Int} (ht : myB t = true) (hn : 0 ≤ n ∧ n ≤ 1000) (hb : hasB t = true) : fiR [] n t = .error 2 := by
  rw [fi_good rfl hn.1 hn.2 ht, fl_has t n ((myB_iff t).1 ht).1 hb]

theorem nodL_of : ∀ {xs : List T}, (∀ x ∈ xs, nodB x = true) → nodL xs = true
  | [], _ => by rw [nodL]
  | x :: xs, h => by rw [nodL, h x (List.mem_cons_self ..), nodL_of fun y hy => h y (List.mem_cons_of_mem _ hy)]; rfl
theorem ok_node6 {M h : Int} {xs : List T} (hx : ∀ x ∈ xs, okT M x) : okT M (.node 6 h xs) := by
  rw [okT]
  refine ⟨fun e => by omega, ?_⟩
  have : ∀ xs : List T, (∀ x ∈ xs, okT M x) → okL M xs := by
    intro xs
    induction xs with
    | nil => intro _; rw [okL]; trivial
    | cons x xs ih =>
      intro h
      rw [okL]
      exact ⟨h x (List.mem_cons_self ..), ih fun y hy => h y (List.mem_cons_of_mem _ hy)⟩
  exact this xs hx
theorem ok_vs (m : Nat) (h : m ≤ 20) : okT 2199023255552 (.node 6 0 (vsL m)) := ok_node6 fun x hx => by
  obtain ⟨i, hi⟩ := List.getElem?_of_mem hx
  obtain ⟨_, rfl⟩ := vsL_at _ _ _ hi
  simp [okT, okL]
  omega
theorem vs_nd (m : Nat) : ∀ xs : List T, (∀ x ∈ xs, ∃ h, x = .node 4 h []) → ndL xs = xs.length ∧ dpL xs ≤ 1
  | [], _ => by simp [ndL, dpL]
  | x :: xs, h => by
    obtain ⟨i, rfl⟩ := h x (List.mem_cons_self ..)
    have := vs_nd m xs fun y hy => h y (List.mem_cons_of_mem _ hy)
    simp only [ndL, dpL, nd, dp, List.length_cons]
    omega
theorem my_vs (m : Nat) (h : m ≤ 20) : myB (.node 6 0 (vsL m)) = true ∧ ∀ x ∈ vsL m, myB x = true := by
  have hx : ∀ x ∈ vsL m, ∃ i, 0 ≤ i ∧ x = .node 4 i [] := fun x hx => by
    obtain ⟨i, hi⟩ := List.getElem?_of_mem hx
    obtain ⟨h1, rfl⟩ := vsL_at _ _ _ hi
    exact ⟨_, by omega, rfl⟩
  have hm : ∀ x ∈ vsL m, myB x = true := fun x hx' => by
    obtain ⟨i, h0, rfl⟩ := hx x hx'
    exact my_var h0
  obtain ⟨h1, h2⟩ := vs_nd m (vsL m) fun x hx' => by
    obtain ⟨i, _, rfl⟩ := hx x hx'
    exact ⟨i, rfl⟩
  have hl := vsL_len m
  refine ⟨(myB_iff _).2 ⟨?_, by rw [nd]; omega, by rw [dp]; omega⟩, hm⟩
  rw [nodB, nodL_of fun x hx' => ((myB_iff x).1 (hm x hx')).1]
  simp [okN]
theorem fi_whole {x : T} {m : Nat} (hx : myB x = true) (hm : m ≤ 20) : fiR [x] (m : Int) (.node 6 0 (vsL m)) = .ok x := by
  obtain ⟨h1, h2⟩ := my_vs m hm
  have h3 : apT x (vsL m) m = x ∧ apE x (vsL m) m = 0 :=
    ren_tells hx (sb_of (by rw [vsL_len]; omega) (by omega) h2) (ren_id (vsL_id m) x 0) hx
  rw [fi_one hx (hasL_vs m) h1 (List.all_eq_true.2 h2) (by omega), if_pos h3.2, h3.1]
theorem fi_tend {x : T} {L : List T} {n : Int} {w w' : World} {e : Ending} (h : FnE (if apE x L n = 0 then .ok (apT x L n) else .error (apE x L n)) w e w') : TEnd (apT x L n) (apE x L n) w e w' := by
  have h' := h.tend
  by_cases hz : apE x L n = 0
  · rw [if_pos hz] at h'
    rw [hz]
    exact h'
  · rw [if_neg hz] at h'
    rw [ap_nought hz]
    exact h'

/-! ### The chapter's example -/
abbrev amX : T := .node 3 0 [.node 4 1 []]
abbrev amT : T := .node 6 0 [.node 4 3 []]
theorem am_fi : fiR [amX] 5 amT = .ok (.node 3 0 [.node 4 4 []]) := by
  have hr : RenT [.node 4 3 []] 5 amX 0 (.node 3 0 [.node 4 4 []]) := by
    have e0 : bdn 3 [T.node 4 1 []].length 0 = 1 := by decide
    rw [RenT]
    refine ⟨rfl, by rw [if_neg (by omega)], rfl, ?_⟩
    rw [RenL]
    refine ⟨_, [], rfl, ?_, by rw [RenL]⟩
    rw [e0, RenT]
    refine ⟨rfl, ?_, rfl, by rw [RenL]⟩
    rw [if_pos (by omega), mpT, if_neg (by decide)]
    simp [upT, upL]
  obtain ⟨h1, h2⟩ := ren_tells (t := amX) (by decide) (by decide) hr (by decide)
  rw [fi_one (by decide) (by decide) (by decide) (by decide) (by omega), if_pos h2, h1]
set_option maxHeartbeats 4000000 in
theorem awakeM (w : World) : Calls Try.prog 9 #[] w fun e w' => e = .returned (.bool true) ∧ Below w.heap.size w w' := by
  go_enter Try.func9, Try.ntmps9
  go_wp2_with fail
  obtain ⟨W, hW⟩ : ∃ W, ((((w.alloc (.cells #[.int .i64 4, .int .i64 3, .slice none 0 0] 24)).alloc (.cells #[.int .i64 6, .int .i64 0, .slice (some ⟨w.heap.size, 0, none⟩) 1 1] 24)).alloc (.cells #[.int .i64 4, .int .i64 1, .slice none 0 0] 24)).alloc (.cells #[.int .i64 3, .int .i64 0, .slice (some ⟨w.heap.size + 1 + 1, 0, none⟩) 1 1] 24)).alloc (.cells #[.int .i64 3, .int .i64 0, .slice (some ⟨w.heap.size + 1 + 1, 0, none⟩) 1 1] 24) = W := ⟨_, rfl⟩
  rw [hW]
  have hb : Below w.heap.size w W := by rw [← hW]; exact (((((Below.refl _ _).alloc (Nat.le_refl _) _).alloc (by simp) _).alloc (by simp; omega) _).alloc (by simp; omega) _).alloc (by simp; omega) _
  have x1 : Box W w.heap.size 24 #[.int .i64 4, .int .i64 3, .slice none 0 0] := by rw [← hW]; exact ((((Box.new _ _ _).alloc _).alloc _).alloc _).alloc _
  have x2 : Box W (w.heap.size + 1 + 1) 24 #[.int .i64 4, .int .i64 1, .slice none 0 0] := by rw [← hW]; exact (((Box.new ((w.alloc _).alloc _) _ _).at (by simp)).alloc _).alloc _
  have x3 : Box W (w.heap.size + 1 + 1 + 1 + 1) 24 #[.int .i64 3, .int .i64 0, .slice (some ⟨w.heap.size + 1 + 1, 0, none⟩) 1 1] := by rw [← hW]; exact (Box.new ((((w.alloc _).alloc _).alloc _).alloc _) _ _).at (by simp)
  clear hW
  have rf : Rd W amX (.agg #[.int .i64 3, .int .i64 0, .slice (some ⟨w.heap.size + 1 + 1, 0, none⟩) 1 1]) := rd_node1 x2 (rd_leaf (by decide) (by decide)) (by decide) (by decide)
  have hF := FillC (th := [amX]) (t := amT) (n := 5) (m := 1) (cL := 1) W ⟨fun x hx _ => by rw [List.mem_singleton.1 hx]; simp [okT, okL], rfl, Nat.le_refl _, by unfold maxLen; omega, rd_one (k := 3) (h := 0) x3 rf⟩ (rd_node1 x1 (rd_leaf (by decide) (by decide)) (by decide) (by decide)) (fun _ => by simp [okT, okL])
  rw [am_fi] at hF
  refine hF.mono ?_
  clear hF
  rintro e w1 ⟨k, h, A, n, c, rfl, hrd, hb1⟩
  obtain ⟨A', n', c', e, _, _, hl, _, _, hx⟩ := RdF_node.1 hrd
  have e' : k = 3 ∧ h = 0 ∧ A = A' ∧ n = n' ∧ c = c' := by
    simpa using e
  obtain ⟨rfl, rfl, rfl, rfl, rfl⟩ := e'
  obtain ⟨b, o, k2, h2, A2, n2, c2, rfl, c0, c1, c2', hr2⟩ := (hx 0 _ rfl).full
  have e2 : h2 = 4 := by
    obtain ⟨_, _, _, e3, _⟩ := RdF_node.1 hr2
    simp at e3
    exact e3.2.1
  subst e2
  have hn1 : n = 1 := hl.symm
  subst hn1
  replace hb := hb.trans (hb1.mono hb.size)
  have lb := cell_lt c1
  dsimp only at lb
  clear hb1 hrd x1 x2 x3 rf e hx hr2 c0 c2' hl
  simp only [Nat.zero_mul, Nat.add_zero] at c1
  go_wp2_with fail
  go_ret
  exact ⟨rfl, hb.alloc hb.size _⟩
end Go.Proofs.Ytaccaamdbfccmaa
