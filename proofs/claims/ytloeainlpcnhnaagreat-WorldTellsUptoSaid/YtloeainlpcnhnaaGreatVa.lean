/-
  What has which type, as plain functions; what has a type is scoped; more declarations, metas and entries in front change nothing. No statement is proved here.
-/
import Derived.Test.YtloeainlpcnhnaaGreatQa
import Derived.Test.YtloeainlpcnhnaaGreatPd
namespace Go.Proofs.YtloeainlpcnhnaaGreat
open Go.RowKit
set_option linter.unusedVariables false

/-- the first and the second Arg -/
def ag0 : T → T | .node _ _ xs => xs.headD (.node 0 0 [])
def ag1 : T → T | .node _ _ xs => xs.tail.headD (.node 0 0 [])
/-- declarations; metas: their contexts, their types -/
structure WV where
  sg : List T
  ms : List (List T × T)
/-- what comes to a type, against that -/
def enV (a : T) : Except Int T → Int
  | .error e => e
  | .ok t => if samB t a = true then 0 else 3
/-- the type of a head -/
def hdV (W : WV) (k h : Int) (cx : List T) : Except Int T :=
  if k = 4 then (if h < cx.length then .ok (upT (h + 1) (cx.getD (cx.length - 1 - h.toNat) (.node 0 0 [])) 0) else .error 2)
  else if h < W.sg.length then (if kiB (W.sg.getD h.toNat (.node 0 0 [])) = true then .error 2 else .ok (W.sg.getD h.toNat (.node 0 0 []))) else .error 2
/-- a meta's context, and its type -/
def mdV (W : WV) (h : Int) : List T × T := W.ms.getD h.toNat ([], .node 0 0 [])
def apV (t : T) (L : List T) (n : Int) : Except Int T := if apE t L n = 0 then .ok (apT t L n) else .error (apE t L n)

mutual
/-- a term of a type -/
def tmV (W : WV) : T → List T → T → Int
  | .node k h xs, cx, a =>
    if k = 3 then (if kdQ a = 1 then lmV W xs (cx ++ [ag0 a]) (ag1 a) else 3)
    else if kdQ a = 2 then enV a (
      if k = 4 ∨ k = 5 then (match hdV W k h cx with | .error e => .error e | .ok t => spV W xs cx t)
      else if k = 6 then (
        if h < W.ms.length then (
          if xs.length = (mdV W h).1.length then (if mtV W xs [] cx (mdV W h).1 = 0 then apV (mdV W h).2 xs cx.length else .error (mtV W xs [] cx (mdV W h).1))
          else .error 3)
        else .error 2)
      else .error 3)
    else 3
def lmV (W : WV) : List T → List T → T → Int
  | [], _, _ => 3
  | x :: _, cx, a => tmV W x cx a
/-- a spine over a type -/
def spV (W : WV) : List T → List T → T → Except Int T
  | [], _, t => .ok t
  | x :: xs, cx, t =>
    if kdQ t = 1 then (
      if tmV W x cx (ag0 t) = 0 then (if apE (ag1 t) [x] 0 = 0 then spV W xs cx (apT (ag1 t) [x] 0) else .error (apE (ag1 t) [x] 0))
      else .error (tmV W x cx (ag0 t)))
    else .error 3
/-- a meta's Args against its context; those ahead are done -/
def mtV (W : WV) : List T → List T → List T → List T → Int
  | [], _, _, _ => 0
  | x :: xs, dn, cx, es =>
    if apE (es.headD (.node 0 0 [])) dn cx.length = 0 then (
      if tmV W x cx (apT (es.headD (.node 0 0 [])) dn cx.length) = 0 then mtV W xs (dn ++ [x]) cx es.tail
      else tmV W x cx (apT (es.headD (.node 0 0 [])) dn cx.length))
    else apE (es.headD (.node 0 0 [])) dn cx.length
end
/-- what a term that is no Lam comes to -/
def cmV (W : WV) (cx : List T) : T → Except Int T
  | .node k h xs =>
    if k = 4 ∨ k = 5 then (match hdV W k h cx with | .error e => .error e | .ok t => spV W xs cx t)
    else if k = 6 then (
      if h < W.ms.length then (
        if xs.length = (mdV W h).1.length then (if mtV W xs [] cx (mdV W h).1 = 0 then apV (mdV W h).2 xs cx.length else .error (mtV W xs [] cx (mdV W h).1))
        else .error 3)
      else .error 2)
    else .error 3
theorem tm_lam (W : WV) (h : Int) (x : T) (xs cx : List T) (a : T) : tmV W (.node 3 h (x :: xs)) cx a = if kdQ a = 1 then tmV W x (cx ++ [ag0 a]) (ag1 a) else 3 := by
  rw [tmV, if_pos rfl, lmV]
theorem tm_neu (W : WV) {k h : Int} {xs cx : List T} {a : T} (hk : k ≠ 3) : tmV W (.node k h xs) cx a = if kdQ a = 2 then enV a (cmV W cx (.node k h xs)) else 3 := by
  rw [tmV, if_neg hk, cmV]
theorem en_ok {a : T} {r : Except Int T} (h : enV a r = 0) (he : ∀ e, r = .error e → e ≠ 0) : ∃ t, r = .ok t ∧ samB t a = true := by
  cases r with
  | error e => exact absurd h (he e rfl)
  | ok t =>
    refine ⟨t, rfl, ?_⟩
    rw [enV] at h
    by_cases hs : samB t a = true
    · exact hs
    · rw [if_neg hs] at h; cases h
theorem hd_err {W : WV} {k h : Int} {cx : List T} {e : Int} (hh : hdV W k h cx = .error e) : e ≠ 0 := by
  unfold hdV at hh
  split at hh
  · split at hh
    · cases hh
    · cases hh; omega
  · split at hh
    · split at hh
      · cases hh; omega
      · cases hh
    · cases hh; omega
theorem sp_err (W : WV) : ∀ (xs cx : List T) (t : T) (e : Int), spV W xs cx t = .error e → e ≠ 0
  | [], _, _, e, h => by rw [spV] at h; cases h
  | x :: xs, cx, t, e, h => by
    rw [spV] at h
    split at h
    · split at h
      · split at h
        · exact sp_err W xs cx _ e h
        · rename_i h1
          cases h; exact h1
      · rename_i h1
        cases h; exact h1
    · cases h; omega
theorem ap_errV {t : T} {L : List T} {n e : Int} (h : apV t L n = .error e) : e ≠ 0 := by
  unfold apV at h
  split at h
  · cases h
  · rename_i h1
    cases h; exact h1
theorem cm_err {W : WV} {cx : List T} {t : T} {e : Int} (h : cmV W cx t = .error e) : e ≠ 0 := by
  obtain ⟨k, hd, xs⟩ := t
  rw [cmV] at h
  split at h
  · split at h
    · rename_i e' h'
      cases h
      exact hd_err h'
    · exact sp_err _ _ _ _ _ h
  · split at h
    · split at h
      · split at h
        · split at h
          · exact ap_errV h
          · rename_i h1
            cases h; exact h1
        · cases h; omega
      · cases h; omega
    · cases h; omega
theorem tm_neu_ok {W : WV} {k h : Int} {xs cx : List T} {a : T} (hk : k ≠ 3) (ht : tmV W (.node k h xs) cx a = 0) : kdQ a = 2 ∧ ∃ t, cmV W cx (.node k h xs) = .ok t ∧ samB t a = true := by
  rw [tm_neu W hk] at ht
  by_cases hq : kdQ a = 2
  · rw [if_pos hq] at ht
    exact ⟨hq, en_ok ht fun e => cm_err⟩
  · rw [if_neg hq] at ht; cases ht
theorem tm_neu_of {W : WV} {k h : Int} {xs cx : List T} {a t : T} (hk : k ≠ 3) (hq : kdQ a = 2) (hc : cmV W cx (.node k h xs) = .ok t) (hs : samB t a = true) : tmV W (.node k h xs) cx a = 0 := by
  rw [tm_neu W hk, if_pos hq, hc, enV, if_pos hs]

/-! ### What has a type is scoped -/
theorem sp_all {W : WV} : ∀ (xs cx : List T) (t t' : T), spV W xs cx t = .ok t' → ∀ x ∈ xs, ∃ a, tmV W x cx a = 0
  | [], _, _, _, _, x, hx => by cases hx
  | y :: xs, cx, t, t', h, x, hx => by
    rw [spV] at h
    split at h
    · split at h
      · rename_i h1
        split at h
        · rcases List.mem_cons.1 hx with rfl | hx
          · exact ⟨_, h1⟩
          · exact sp_all xs cx _ _ h x hx
        · cases h
      · cases h
    · cases h
theorem mt_all {W : WV} : ∀ (xs dn cx es : List T), mtV W xs dn cx es = 0 → ∀ x ∈ xs, ∃ a, tmV W x cx a = 0
  | [], _, _, _, _, x, hx => by cases hx
  | y :: xs, dn, cx, es, h, x, hx => by
    rw [mtV] at h
    split at h
    · split at h
      · rename_i h1
        rcases List.mem_cons.1 hx with rfl | hx
        · exact ⟨_, h1⟩
        · exact mt_all xs _ cx _ h x hx
      · rename_i h1
        exact absurd h h1
    · rename_i h1
      exact absurd h h1
theorem nodV {k h : Int} {xs : List T} (h1 : nodB (.node k h xs) = true) : okN k h xs.length = true ∧ ∀ x ∈ xs, nodB x = true := by
  rw [nodB, Bool.and_eq_true] at h1
  exact ⟨h1.1, fun x hx => nodL_mem h1.2 hx⟩
theorem lamV {h : Int} {xs : List T} (h1 : nodB (.node 3 h xs) = true) : h = 0 ∧ ∃ x, xs = [x] ∧ nodB x = true := by
  obtain ⟨h2, h3⟩ := nodV h1
  have hl : h = 0 ∧ xs.length = 1 := by
    rcases okN_cases h2 with ⟨e, _⟩ | ⟨e, _⟩ | ⟨e, e2, he⟩ | ⟨e, he⟩ | ⟨e, he⟩ | ⟨e, he⟩ | ⟨e, he⟩ <;> first | exact ⟨e2, he⟩ | omega
  obtain ⟨x, rfl⟩ := List.length_eq_one_iff.1 hl.2
  exact ⟨hl.1, x, rfl, h3 x (List.mem_cons_self ..)⟩
theorem piV {h : Int} {xs : List T} (h1 : nodB (.node 1 h xs) = true) : h = 0 ∧ ∃ x y, xs = [x, y] ∧ nodB x = true ∧ nodB y = true := by
  obtain ⟨h2, h3⟩ := nodV h1
  have hl : h = 0 ∧ xs.length = 2 := by
    rcases okN_cases h2 with ⟨e, _⟩ | ⟨e, e2, he⟩ | ⟨e, _⟩ | ⟨e, he⟩ | ⟨e, he⟩ | ⟨e, he⟩ | ⟨e, he⟩ <;> first | exact ⟨e2, he⟩ | omega
  match xs, hl.2 with
  | [x, y], _ => exact ⟨hl.1, x, y, rfl, h3 x (List.mem_cons_self ..), h3 y (List.mem_cons_of_mem _ (List.mem_cons_self ..))⟩
theorem headV {k h : Int} {xs : List T} (h1 : nodB (.node k h xs) = true) : 0 ≤ h := by
  rcases okN_cases (nodV h1).1 with ⟨e, e2, _⟩ | ⟨e, e2, he⟩ | ⟨e, e2, _⟩ | ⟨e, he⟩ | ⟨e, he⟩ | ⟨e, he⟩ | ⟨e, he⟩ <;> omega
theorem tm_scoped {W : WV} (m : T) : ∀ (cx : List T) (a : T), nodB m = true → tmV W m cx a = 0 → scC m cx.length W.ms.length := by
  induction m using T.ind with
  | step k h xs ih =>
    intro cx a hn ht
    by_cases hk : k = 3
    · subst hk
      obtain ⟨rfl, x, rfl, hx⟩ := lamV hn
      rw [tm_lam] at ht
      by_cases hq : kdQ a = 1
      · rw [if_pos hq] at ht
        have g := ih x (List.mem_cons_self ..) _ _ hx ht
        rw [scC, scCL, scCL]
        refine ⟨fun e => by omega, fun e => by omega, ?_, trivial⟩
        rw [List.length_append] at g
        simp only [List.length_cons, List.length_nil, Nat.zero_add] at g
        rw [bd, if_pos ⟨.inr rfl, rfl⟩]
        exact g
      · rw [if_neg hq] at ht; cases ht
    · obtain ⟨_, t, hc, _⟩ := tm_neu_ok hk ht
      have hkids : (∀ x ∈ xs, ∃ a, tmV W x cx a = 0) → k ≠ 1 → scCL k xs.length xs 0 cx.length W.ms.length := fun hall hk1 => by
        refine scL_of fun j x hx => ?_
        have hm := List.mem_of_getElem? hx
        obtain ⟨b, hb⟩ := hall x hm
        rw [bd_var ⟨hk1, hk⟩, Int.add_zero]
        exact ih x hm cx b ((nodV hn).2 x hm) hb
      rw [scC]
      rw [cmV] at hc
      by_cases hk45 : k = 4 ∨ k = 5
      · rw [if_pos hk45] at hc
        split at hc
        · cases hc
        · rename_i t0 ht0
          refine ⟨fun e => ?_, fun e => by omega, hkids (sp_all _ _ _ _ hc) (by omega)⟩
          rw [hdV, if_pos e] at ht0
          by_cases hl : h < cx.length
          · exact hl
          · rw [if_neg hl] at ht0; cases ht0
      · rw [if_neg hk45] at hc
        by_cases hk6 : k = 6
        · rw [if_pos hk6] at hc
          by_cases hl : h < W.ms.length
          · rw [if_pos hl] at hc
            split at hc
            · split at hc
              · rename_i hmt
                exact ⟨fun e => by omega, fun e => hl, hkids (mt_all _ _ _ _ hmt) (by omega)⟩
              · cases hc
            · cases hc
          · rw [if_neg hl] at hc; cases hc
        · rw [if_neg hk6] at hc; cases hc

/-! ### More declarations and metas behind, more entries in front -/
structure MoV (W W' : WV) (fr : List T) : Prop where
  sg : ∃ s2, W'.sg = W.sg ++ s2
  ms : ∃ m2, W'.ms = W.ms ++ m2
  fr : fr = [] ∨ W.ms = []
theorem getD_appV {α : Type} {d : α} {l l2 : List α} {i : Nat} (h : i < l.length) : (l ++ l2).getD i d = l.getD i d := by
  rw [List.getD_eq_getElem?_getD, List.getD_eq_getElem?_getD, List.getElem?_append_left h]
theorem hd_more {W W' : WV} {fr : List T} (M : MoV W W' fr) {k h : Int} {cx : List T} {t : T} (h0 : 0 ≤ h) (hd : hdV W k h cx = .ok t) : hdV W' k h (fr ++ cx) = .ok t := by
  unfold hdV at hd ⊢
  split at hd
  · rename_i hk
    rw [if_pos hk]
    split at hd
    · rename_i hl
      rw [if_pos (by rw [List.length_append]; omega), ← hd]
      rw [List.getD_eq_getElem?_getD, List.getD_eq_getElem?_getD, List.length_append, List.getElem?_append_right (by omega)]
      rw [show fr.length + cx.length - 1 - h.toNat - fr.length = cx.length - 1 - h.toNat by omega]
    · cases hd
  · rename_i hk
    rw [if_neg hk]
    obtain ⟨s2, hs⟩ := M.sg
    split at hd
    · rename_i hl
      rw [hs, if_pos (by rw [List.length_append]; omega), getD_appV (by omega)]
      exact hd
    · cases hd
theorem sp_more {W W' : WV} {fr : List T} : ∀ (xs cx : List T) (t t' : T), (∀ x ∈ xs, ∀ a, tmV W x cx a = 0 → tmV W' x (fr ++ cx) a = 0) → spV W xs cx t = .ok t' → spV W' xs (fr ++ cx) t = .ok t'
  | [], _, _, _, _, h => by rw [spV] at h ⊢; exact h
  | x :: xs, cx, t, t', ih, h => by
    rw [spV] at h ⊢
    split at h
    · rename_i h0
      split at h
      · rename_i h1
        split at h
        · rename_i h2
          rw [if_pos h0, if_pos (ih x (List.mem_cons_self ..) _ h1), if_pos h2]
          exact sp_more xs cx _ _ (fun y hy => ih y (List.mem_cons_of_mem _ hy)) h
        · cases h
      · cases h
    · cases h
theorem mt_more {W W' : WV} : ∀ (xs dn cx es : List T), (∀ x ∈ xs, ∀ a, tmV W x cx a = 0 → tmV W' x cx a = 0) → mtV W xs dn cx es = 0 → mtV W' xs dn cx es = 0
  | [], _, _, _, _, h => by rw [mtV]
  | x :: xs, dn, cx, es, ih, h => by
    rw [mtV] at h ⊢
    split at h
    · rename_i h0
      split at h
      · rename_i h1
        rw [if_pos h0, if_pos (ih x (List.mem_cons_self ..) _ h1)]
        exact mt_more xs _ cx _ (fun y hy => ih y (List.mem_cons_of_mem _ hy)) h
      · rename_i h1
        exact absurd h h1
    · rename_i h1
      exact absurd h h1
theorem tm_more {W W' : WV} {fr : List T} (M : MoV W W' fr) (m : T) : ∀ (cx : List T) (a : T), nodB m = true → tmV W m cx a = 0 → tmV W' m (fr ++ cx) a = 0 := by
  induction m using T.ind with
  | step k h xs ih =>
    intro cx a hn ht
    by_cases hk : k = 3
    · subst hk
      obtain ⟨rfl, x, rfl, hx⟩ := lamV hn
      rw [tm_lam] at ht ⊢
      by_cases hq : kdQ a = 1
      · rw [if_pos hq] at ht ⊢
        have g := ih x (List.mem_cons_self ..) _ _ hx ht
        rw [← List.append_assoc] at g
        exact g
      · rw [if_neg hq] at ht; cases ht
    · obtain ⟨hq, t, hc, hs⟩ := tm_neu_ok hk ht
      refine tm_neu_of (t := t) hk hq ?_ hs
      rw [cmV] at hc ⊢
      have h0 := headV hn
      have ih' : ∀ x ∈ xs, ∀ a, tmV W x cx a = 0 → tmV W' x (fr ++ cx) a = 0 := fun x hx a ha => ih x hx cx a ((nodV hn).2 x hx) ha
      by_cases hk45 : k = 4 ∨ k = 5
      · rw [if_pos hk45] at hc ⊢
        split at hc
        · cases hc
        · rename_i t0 ht0
          rw [hd_more M h0 ht0]
          exact sp_more xs cx _ _ ih' hc
      · rw [if_neg hk45] at hc ⊢
        by_cases hk6 : k = 6
        · rw [if_pos hk6] at hc ⊢
          by_cases hl : h < W.ms.length
          · rw [if_pos hl] at hc
            obtain ⟨m2, hm2⟩ := M.ms
            have hfr : fr = [] := by
              rcases M.fr with e | e
              · exact e
              · rw [e] at hl; simp at hl; omega
            subst hfr
            have hmd : mdV W' h = mdV W h := by unfold mdV; rw [hm2, getD_appV (by omega)]
            rw [if_pos (by rw [hm2, List.length_append]; omega), hmd]
            rw [List.nil_append]
            split at hc
            · rename_i hxl
              rw [if_pos hxl]
              split at hc
              · rename_i hmt
                rw [if_pos (mt_more xs _ cx _ ih' hmt)]
                exact hc
              · cases hc
            · cases hc
          · rw [if_neg hl] at hc; cases hc
        · rw [if_neg hk6] at hc; cases hc
end Go.Proofs.YtloeainlpcnhnaaGreat
