/-
  Texts of one proof, put together. No statement is proved here.
-/
import Derived.Test.YtmkahbbcagfbhaaGreatDoorQa
import Derived.Test.YtmkahbbcagfbhaaGreatDoorPkWC
import Derived.Test.YtmkahbbcagfbhaaGreatDoorOp
import Derived.OwnWalkIn
/-
  What has which type, as plain functions; what has a type is scoped; more declarations, metas and entries in front change nothing. No statement is proved here.
-/
namespace Go.Proofs.YtmkahbbcagfbhaaGreatDoor
open Go.RowKit
set_option linter.unusedVariables false
/-- the first and the second Arg -/
def ag0 : T → T | .node _ _ xs => xs.headD (.node 0 0 [])
def ag1 : T → T | .node _ _ xs => xs.tail.headD (.node 0 0 [])
/-- declarations; metas: their contexts, their types -/
structure WV where
  sg : List T
  ms : List (List T × T)
/-- what comes to a type, against that -/
def enV (a : T) : Except Int T → Int
  | .error e => e
  | .ok t => if samB t a = true then 0 else 3
/-- the type of a head -/
def hdV (W : WV) (k h : Int) (cx : List T) : Except Int T :=
  if k = 4 then (if h < cx.length then .ok (upT (h + 1) (cx.getD (cx.length - 1 - h.toNat) (.node 0 0 [])) 0) else .error 2)
  else if h < W.sg.length then (if kiB (W.sg.getD h.toNat (.node 0 0 [])) = true then .error 2 else .ok (W.sg.getD h.toNat (.node 0 0 []))) else .error 2
/-- a meta's context, and its type -/
def mdV (W : WV) (h : Int) : List T × T := W.ms.getD h.toNat ([], .node 0 0 [])
def apV (t : T) (L : List T) (n : Int) : Except Int T := if apE t L n = 0 then .ok (apT t L n) else .error (apE t L n)
mutual
/-- a term of a type -/
def tmV (W : WV) : T → List T → T → Int
  | .node k h xs, cx, a =>
    if k = 3 then (if kdQ a = 1 then lmV W xs (cx ++ [ag0 a]) (ag1 a) else 3)
    else if kdQ a = 2 then enV a (
      if k = 4 ∨ k = 5 then (match hdV W k h cx with | .error e => .error e | .ok t => spV W xs cx t)
      else if k = 6 then (
        if h < W.ms.length then (
          if xs.length = (mdV W h).1.length then (if mtV W xs [] cx (mdV W h).1 = 0 then apV (mdV W h).2 xs cx.length else .error (mtV W xs [] cx (mdV W h).1))
          else .error 3)
        else .error 2)
      else .error 3)
    else 3
def lmV (W : WV) : List T → List T → T → Int
  | [], _, _ => 3
  | x :: _, cx, a => tmV W x cx a
/-- a spine over a type -/
def spV (W : WV) : List T → List T → T → Except Int T
  | [], _, t => .ok t
  | x :: xs, cx, t =>
    if kdQ t = 1 then (
      if tmV W x cx (ag0 t) = 0 then (if apE (ag1 t) [x] 0 = 0 then spV W xs cx (apT (ag1 t) [x] 0) else .error (apE (ag1 t) [x] 0))
      else .error (tmV W x cx (ag0 t)))
    else .error 3
/-- a meta's Args against its context; those ahead are done -/
def mtV (W : WV) : List T → List T → List T → List T → Int
  | [], _, _, _ => 0
  | x :: xs, dn, cx, es =>
    if apE (es.headD (.node 0 0 [])) dn cx.length = 0 then (
      if tmV W x cx (apT (es.headD (.node 0 0 [])) dn cx.length) = 0 then mtV W xs (dn ++ [x]) cx es.tail
      else tmV W x cx (apT (es.headD (.node 0 0 [])) dn cx.length))
    else apE (es.headD (.node 0 0 [])) dn cx.length
end
/-- what a term that is no Lam comes to -/
def cmV (W : WV) (cx : List T) : T → Except Int T
  | .node k h xs =>
    if k = 4 ∨ k = 5 then (match hdV W k h cx with | .error e => .error e | .ok t => spV W xs cx t)
    else if k = 6 then (
      if h < W.ms.length then (
        if xs.length = (mdV W h).1.length then (if mtV W xs [] cx (mdV W h).1 = 0 then apV (mdV W h).2 xs cx.length else .error (mtV W xs [] cx (mdV W h).1))
        else .error 3)
      else .error 2)
    else .error 3
theorem tm_lam (W : WV) (h : Int) (x : T) (xs cx : List T) (a : T) : tmV W (.node 3 h (x :: xs)) cx a = if kdQ a = 1 then tmV W x (cx ++ [ag0 a]) (ag1 a) else 3 := by
  rw [tmV, if_pos rfl, lmV]
theorem tm_neu (W : WV) {k h : Int} {xs cx : List T} {a : T} (hk : k ≠ 3) : tmV W (.node k h xs) cx a = if kdQ a = 2 then enV a (cmV W cx (.node k h xs)) else 3 := by
  rw [tmV, if_neg hk, cmV]
theorem en_ok {a : T} {r : Except Int T} (h : enV a r = 0) (he : ∀ e, r = .error e → e ≠ 0) : ∃ t, r = .ok t ∧ samB t a = true := by
  cases r with
  | error e => exact absurd h (he e rfl)
  | ok t =>
    refine ⟨t, rfl, ?_⟩
    rw [enV] at h
    by_cases hs : samB t a = true
    · exact hs
    · rw [if_neg hs] at h; cases h
theorem hd_err {W : WV} {k h : Int} {cx : List T} {e : Int} (hh : hdV W k h cx = .error e) : e ≠ 0 := by
  unfold hdV at hh
  split at hh
  · split at hh
    · cases hh
    · cases hh; omega
  · split at hh
    · split at hh
      · cases hh; omega
      · cases hh
    · cases hh; omega
theorem sp_err (W : WV) : ∀ (xs cx : List T) (t : T) (e : Int), spV W xs cx t = .error e → e ≠ 0
  | [], _, _, e, h => by rw [spV] at h; cases h
  | x :: xs, cx, t, e, h => by
    rw [spV] at h
    split at h
    · split at h
      · split at h
        · exact sp_err W xs cx _ e h
        · rename_i h1
          cases h; exact h1
      · rename_i h1
        cases h; exact h1
    · cases h; omega
theorem ap_errV {t : T} {L : List T} {n e : Int} (h : apV t L n = .error e) : e ≠ 0 := by
  unfold apV at h
  split at h
  · cases h
  · rename_i h1
    cases h; exact h1
theorem cm_err {W : WV} {cx : List T} {t : T} {e : Int} (h : cmV W cx t = .error e) : e ≠ 0 := by
  obtain ⟨k, hd, xs⟩ := t
  rw [cmV] at h
  split at h
  · split at h
    · rename_i e' h'
      cases h
      exact hd_err h'
    · exact sp_err _ _ _ _ _ h
  · split at h
    · split at h
      · split at h
        · split at h
          · exact ap_errV h
          · rename_i h1
            cases h; exact h1
        · cases h; omega
      · cases h; omega
    · cases h; omega
theorem tm_neu_ok {W : WV} {k h : Int} {xs cx : List T} {a : T} (hk : k ≠ 3) (ht : tmV W (.node k h xs) cx a = 0) : kdQ a = 2 ∧ ∃ t, cmV W cx (.node k h xs) = .ok t ∧ samB t a = true := by
  rw [tm_neu W hk] at ht
  by_cases hq : kdQ a = 2
  · rw [if_pos hq] at ht
    exact ⟨hq, en_ok ht fun e => cm_err⟩
  · rw [if_neg hq] at ht; cases ht
/-! ### What has a type is scoped -/
theorem sp_all {W : WV} : ∀ (xs cx : List T) (t t' : T), spV W xs cx t = .ok t' → ∀ x ∈ xs, ∃ a, tmV W x cx a = 0
  | [], _, _, _, _, x, hx => by cases hx
  | y :: xs, cx, t, t', h, x, hx => by
    rw [spV] at h
    split at h
    · split at h
      · rename_i h1
        split at h
        · rcases List.mem_cons.1 hx with rfl | hx
          · exact ⟨_, h1⟩
          · exact sp_all xs cx _ _ h x hx
        · cases h
      · cases h
    · cases h
theorem mt_all {W : WV} : ∀ (xs dn cx es : List T), mtV W xs dn cx es = 0 → ∀ x ∈ xs, ∃ a, tmV W x cx a = 0
  | [], _, _, _, _, x, hx => by cases hx
  | y :: xs, dn, cx, es, h, x, hx => by
    rw [mtV] at h
    split at h
    · split at h
      · rename_i h1
        rcases List.mem_cons.1 hx with rfl | hx
        · exact ⟨_, h1⟩
        · exact mt_all xs _ cx _ h x hx
      · rename_i h1
        exact absurd h h1
    · rename_i h1
      exact absurd h h1
theorem nodV {k h : Int} {xs : List T} (h1 : nodB (.node k h xs) = true) : okN k h xs.length = true ∧ ∀ x ∈ xs, nodB x = true := by
  rw [nodB, Bool.and_eq_true] at h1
  exact ⟨h1.1, fun x hx => nodL_mem h1.2 hx⟩
theorem lamV {h : Int} {xs : List T} (h1 : nodB (.node 3 h xs) = true) : h = 0 ∧ ∃ x, xs = [x] ∧ nodB x = true := by
  obtain ⟨h2, h3⟩ := nodV h1
  have hl : h = 0 ∧ xs.length = 1 := by
    rcases okN_cases h2 with ⟨e, _⟩ | ⟨e, _⟩ | ⟨e, e2, he⟩ | ⟨e, he⟩ | ⟨e, he⟩ | ⟨e, he⟩ | ⟨e, he⟩ <;> first | exact ⟨e2, he⟩ | omega
  obtain ⟨x, rfl⟩ := List.length_eq_one_iff.1 hl.2
  exact ⟨hl.1, x, rfl, h3 x (List.mem_cons_self ..)⟩
theorem piV {h : Int} {xs : List T} (h1 : nodB (.node 1 h xs) = true) : h = 0 ∧ ∃ x y, xs = [x, y] ∧ nodB x = true ∧ nodB y = true := by
  obtain ⟨h2, h3⟩ := nodV h1
  have hl : h = 0 ∧ xs.length = 2 := by
    rcases okN_cases h2 with ⟨e, _⟩ | ⟨e, e2, he⟩ | ⟨e, _⟩ | ⟨e, he⟩ | ⟨e, he⟩ | ⟨e, he⟩ | ⟨e, he⟩ <;> first | exact ⟨e2, he⟩ | omega
  match xs, hl.2 with
  | [x, y], _ => exact ⟨hl.1, x, y, rfl, h3 x (List.mem_cons_self ..), h3 y (List.mem_cons_of_mem _ (List.mem_cons_self ..))⟩
theorem headV {k h : Int} {xs : List T} (h1 : nodB (.node k h xs) = true) : 0 ≤ h := by
  rcases okN_cases (nodV h1).1 with ⟨e, e2, _⟩ | ⟨e, e2, he⟩ | ⟨e, e2, _⟩ | ⟨e, he⟩ | ⟨e, he⟩ | ⟨e, he⟩ | ⟨e, he⟩ <;> omega
theorem tm_scoped {W : WV} (m : T) : ∀ (cx : List T) (a : T), nodB m = true → tmV W m cx a = 0 → scC m cx.length W.ms.length := by
  induction m using T.ind with
  | step k h xs ih =>
    intro cx a hn ht
    by_cases hk : k = 3
    · subst hk
      obtain ⟨rfl, x, rfl, hx⟩ := lamV hn
      rw [tm_lam] at ht
      by_cases hq : kdQ a = 1
      · rw [if_pos hq] at ht
        have g := ih x (List.mem_cons_self ..) _ _ hx ht
        rw [scC, scCL, scCL]
        refine ⟨fun e => by omega, fun e => by omega, ?_, trivial⟩
        rw [List.length_append] at g
        simp only [List.length_cons, List.length_nil, Nat.zero_add] at g
        rw [bd, if_pos ⟨.inr rfl, rfl⟩]
        exact g
      · rw [if_neg hq] at ht; cases ht
    · obtain ⟨_, t, hc, _⟩ := tm_neu_ok hk ht
      have hkids : (∀ x ∈ xs, ∃ a, tmV W x cx a = 0) → k ≠ 1 → scCL k xs.length xs 0 cx.length W.ms.length := fun hall hk1 => by
        refine scL_of fun j x hx => ?_
        have hm := List.mem_of_getElem? hx
        obtain ⟨b, hb⟩ := hall x hm
        rw [bd_var ⟨hk1, hk⟩, Int.add_zero]
        exact ih x hm cx b ((nodV hn).2 x hm) hb
      rw [scC]
      rw [cmV] at hc
      by_cases hk45 : k = 4 ∨ k = 5
      · rw [if_pos hk45] at hc
        split at hc
        · cases hc
        · rename_i t0 ht0
          refine ⟨fun e => ?_, fun e => by omega, hkids (sp_all _ _ _ _ hc) (by omega)⟩
          rw [hdV, if_pos e] at ht0
          by_cases hl : h < cx.length
          · exact hl
          · rw [if_neg hl] at ht0; cases ht0
      · rw [if_neg hk45] at hc
        by_cases hk6 : k = 6
        · rw [if_pos hk6] at hc
          by_cases hl : h < W.ms.length
          · rw [if_pos hl] at hc
            split at hc
            · split at hc
              · rename_i hmt
                exact ⟨fun e => by omega, fun e => hl, hkids (mt_all _ _ _ _ hmt) (by omega)⟩
              · cases hc
            · cases hc
          · rw [if_neg hl] at hc; cases hc
        · rw [if_neg hk6] at hc; cases hc
/-! ### More declarations and metas behind, more entries in front -/
structure MoV (W W' : WV) (fr : List T) : Prop where
  sg : ∃ s2, W'.sg = W.sg ++ s2
  ms : ∃ m2, W'.ms = W.ms ++ m2
  fr : fr = [] ∨ W.ms = []
end Go.Proofs.YtmkahbbcagfbhaaGreatDoor
/-
  Contract of package sign's Split. No statement is proved here.
-/
namespace Go.Proofs.YtmkahbbcagfbhaaGreatDoor
open Go.ChangeShapes Go.WideShapes Go.ChangeAt Go.RowKit
set_option linter.unusedVariables false
/-- an answer: what it asks for, and what it comes to -/
def SpEnd (t : T) (w : World) (e : Ending) (w' : World) : Prop :=
  ∃ Av n cv k h A m c, e = .returned (.tuple #[.slice Av n cv, .agg #[.int .i64 k, .int .i64 h, .slice A m c]]) ∧ (spA t).length = n ∧ n ≤ cv ∧ cv ≤ maxLen ∧ (∀ i u, (spA t)[i]? = some u → RdAt w' Av i u) ∧ Rd w' (spRq t) (.agg #[.int .i64 k, .int .i64 h, .slice A m c]) ∧ Below w.heap.size w w'
/-- the two blocks of a call's own -/
def XQ (B b : Nat) : Prop := b = B ∨ b = B + 1
/-- what holds at the head of Split's loop -/
structure SpIq (w wr : World) (t0 t : T) (k h : Int) (A : Option Addr) (n c : Nat) (j : Nat) (Av : Option Addr) (cv : Nat) (cs : List Value) (ys : List T) : Prop where
  box : Box wr w.heap.size 36 #[.int .i64 k, .int .i64 h, .slice A n c]
  res : Box wr (w.heap.size + 1) 36 #[.int .i64 0, .int .i64 0, .slice none 0 0]
  rd : Rd w t (.agg #[.int .i64 k, .int .i64 h, .slice A n c])
  row : GRowQ (XQ w.heap.size) wr (w.heap.size + 2) (.slice Av j cv) j cs ys
  below : Below w.heap.size w wr
  eqA : spA t0 = ys ++ spA t
  eqR : spRq t0 = spRq t
  small : nd t + j ≤ nd t0
/-- one Pi more is split -/
theorem SpIq.step {w w1 w2 w4 : World} {t0 a b : T} {h0 : Int} {k h : Int} {A : Option Addr} {n c j : Nat} {Av : Option Addr} {cv : Nat} {cs : List Value} {ys : List T} (hI : SpIq w w1 t0 (.node 1 h0 [a, b]) k h A n c j Av cv cs ys) {kb gb : Int} {Ab : Option Addr} {nb cb : Nat} {cs' : List Value} {g cap : Nat}
    (hrb : Rd w b (.agg #[.int .i64 kb, .int .i64 gb, .slice Ab nb cb])) (hb2 : Below w1.heap.size w1 w2) (hrow : GRowQ (XQ w.heap.size) w4 (w.heap.size + 2) (.slice (some ⟨g, 0, none⟩) (j + 1) cap) (j + 1) cs' (ys ++ [a])) (hold : ∀ q, q < w2.heap.size → some q ≠ Value.ownBlock (.slice Av j cv) → w4.heap[q]? = w2.heap[q]?) (hb4 : Below (w.heap.size + 2) w2 w4) :
    SpIq w (((w4.setCell ⟨w.heap.size, 0, none⟩ (.int .i64 kb)).setCell ⟨w.heap.size, 1, none⟩ (.int .i64 gb)).setCell ⟨w.heap.size, 2, none⟩ (.slice Ab nb cb)) t0 b kb gb Ab nb cb (j + 1) (some ⟨g, 0, none⟩) cap cs' (ys ++ [a]) := by
  have s2 := hb2.size
  have l1 := hI.res.lt
  have hne : ∀ q, q < w.heap.size + 2 → some q ≠ Value.ownBlock (.slice Av j cv) := fun q hq e => by
    have := (hI.row.lt e.symm).1
    omega
  have y0 : Box w4 w.heap.size 36 #[.int .i64 k, .int .i64 h, .slice A n c] := (hold _ (by omega) (hne _ (by omega))).trans (hI.box.keep hb2 hI.box.lt)
  have y1 : Box w4 (w.heap.size + 1) 36 #[.int .i64 0, .int .i64 0, .slice none 0 0] := (hold _ (by omega) (hne _ (by omega))).trans (hI.res.keep hb2 hI.res.lt)
  refine ⟨?_, y1.other3Q (by omega) _ _ _, hrb, hrow.move (fun q _ hx => heap_other3Q _ _ _ _ _ _ (fun e => hx (.inl e))) (fun g hg e => ?_), ?_, ?_, ?_, ?_⟩
  · have := ((y0.setAt 0 (.int .i64 kb)).setAt 1 (.int .i64 gb)).setAt 2 (.slice Ab nb cb)
    simpa using this
  · have := (hrow.lt hg).1
    rcases e with e | e <;> omega
  · refine below_set3Q ((hI.below.trans (hb2.mono hI.below.size)).trans (hb4.mono (by omega))) (Nat.le_refl _) _ _ _
  · rw [hI.eqA, spA_pi, List.append_assoc]; rfl
  · rw [hI.eqR, spR_pi]
  · have := hI.small
    rw [nd, ndL, ndL] at this
    omega
theorem SpIq.keep {w w1 w2 : World} {t0 t : T} {k h : Int} {A : Option Addr} {n c j : Nat} {Av : Option Addr} {cv : Nat} {cs : List Value} {ys : List T} (hI : SpIq w w1 t0 t k h A n c j Av cv cs ys) (hb : Below w1.heap.size w1 w2) : SpIq w w2 t0 t k h A n c j Av cv cs ys :=
  ⟨hI.box.keep hb hI.box.lt, hI.res.keep hb hI.res.lt, hI.rd, hI.row.move (fun b hl _ => hb.block b hl) (fun g hg e => by have := (hI.row.lt hg).1; rcases e with e | e <;> omega), hI.below.trans (hb.mono hI.below.size), hI.eqA, hI.eqR, hI.small⟩
/-- the end -/
theorem SpIq.done {w w1 w2 : World} {t0 t : T} {k h : Int} {A : Option Addr} {n c j : Nat} {Av : Option Addr} {cv : Nat} {cs : List Value} {ys : List T} (hI : SpIq w w1 t0 t k h A n c j Av cv cs ys) (hA : spA t = []) (hR : spRq t = t) (hb2 : Below w1.heap.size w1 w2) {k2 h2 : Int} {A2 : Option Addr} {n2 c2 : Nat} (hr : RdF (fun b => b ≠ w.heap.size + 1) w2 t (.agg #[.int .i64 k2, .int .i64 h2, .slice A2 n2 c2])) :
    SpEnd t0 w (.returned (.tuple #[.slice Av j cv, .agg #[.int .i64 k2, .int .i64 h2, .slice A2 n2 c2]])) (((w2.setCell ⟨w.heap.size + 1, 0, none⟩ (.int .i64 k2)).setCell ⟨w.heap.size + 1, 1, none⟩ (.int .i64 h2)).setCell ⟨w.heap.size + 1, 2, none⟩ (.slice A2 n2 c2)) := by
  have hJ := hI.keep hb2
  have e1 := hI.eqA
  have e2 := hI.eqR
  rw [hA, List.append_nil] at e1
  rw [hR] at e2
  obtain ⟨_, _, e3, h5, h6⟩ := hI.row.full
  cases e3
  have hrow := hJ.row.move (w' := ((w2.setCell ⟨w.heap.size + 1, 0, none⟩ (.int .i64 k2)).setCell ⟨w.heap.size + 1, 1, none⟩ (.int .i64 h2)).setCell ⟨w.heap.size + 1, 2, none⟩ (.slice A2 n2 c2)) (fun q _ hx => heap_other3Q _ _ _ _ _ _ (fun e => hx (.inr e))) (fun g hg e => by have := (hJ.row.lt hg).1; rcases e with e | e <;> omega)
  refine ⟨Av, j, cv, k2, h2, A2, n2, c2, rfl, by rw [e1]; exact hI.row.len, h5, h6, fun i u hu => ?_, ?_, below_set3Q hJ.below (by omega) _ _ _⟩
  · rw [e1] at hu
    exact hrow.rdat i u hu
  · rw [e2]
    exact RdF.rd _ _ (RdF.moveQ (ok' := fun _ => True) (fun b hb hl => ⟨trivial, heap_other3Q _ _ _ _ _ _ hb⟩) _ _ hr)
end Go.Proofs.YtmkahbbcagfbhaaGreatDoor
/-
  Contracts of the document's Split, Kind and Family. No statement is proved here.
-/
namespace Go.Proofs.YtmkahbbcagfbhaaGreatDoor
open Go.ChangeShapes Go.WideShapes Go.ChangeAt Go.RowKit
set_option linter.unusedVariables false
end Go.Proofs.YtmkahbbcagfbhaaGreatDoor
/-
  Declarations in memory, and as an argument's reading; rows of numbers that grow by append; few declarations; the document's Constants. No statement is proved here.
-/
namespace Go.Proofs.YtmkahbbcagfbhaaGreatDoor
open Go.ChangeShapes Go.WideShapes Go.ChangeAt Go.RowKit
set_option linter.unusedVariables false
/-- one declaration of a list: its type, or kind -/
def DAt (w : World) (A : Option Addr) (i : Nat) (x : T) : Prop :=
  ∃ b o s k h A' n c, A = some ⟨b, o, none⟩ ∧ w.cell? ⟨b, o + i * 4, none⟩ = some (.string s) ∧ w.cell? ⟨b, o + i * 4 + 1, none⟩ = some (.int .i64 k) ∧ w.cell? ⟨b, o + i * 4 + 2, none⟩ = some (.int .i64 h) ∧
    w.cell? ⟨b, o + i * 4 + 3, none⟩ = some (.slice A' n c) ∧ Rd w x (.agg #[.int .i64 k, .int .i64 h, .slice A' n c])
/-- a list of declarations -/
structure DL (w : World) (ds : List T) (A : Option Addr) (n c : Nat) : Prop where
  len : ds.length = n
  le : n ≤ c
  cap : c ≤ maxLen
  at_ : ∀ i x, ds[i]? = some x → DAt w A i x
theorem DAt.keep {w w' : World} {A : Option Addr} {i : Nat} {x : T} (h : DAt w A i x) (hb : Below w.heap.size w w') : DAt w' A i x := by
  obtain ⟨b, o, s, k, g, A', n, c, rfl, c0, c1, c2, c3, hr⟩ := h
  exact ⟨b, o, s, k, g, A', n, c, rfl, (hb.cell (cell_lt c0)).trans c0, (hb.cell (cell_lt c1)).trans c1, (hb.cell (cell_lt c2)).trans c2, (hb.cell (cell_lt c3)).trans c3, Rd.keep hb _ _ hr⟩
theorem DL.keep {w w' : World} {ds : List T} {A : Option Addr} {n c : Nat} (h : DL w ds A n c) (hb : Below w.heap.size w w') : DL w' ds A n c :=
  ⟨h.len, h.le, h.cap, fun i x hx => (h.at_ i x hx).keep hb⟩
/-- are they few -/
def fwQ (ds : List T) (n : Nat) : Bool := decide (n ≤ 30) && ds.all fun x => ltB x 1000 80
set_option maxRecDepth 100000 in
set_option maxHeartbeats 2000000 in
theorem fewC (ds : List T) (A : Option Addr) (n c : Nat) (w : World) (hx : DL w ds A n c) :
    Calls Tryz.prog 6 #[.slice A n c] w fun e w' => e = .returned (.bool (fwQ ds n)) ∧ Below w.heap.size w w' := by
  have hm := hx.cap
  have hc := hx.le
  unfold maxLen at hm
  have HX := Lib.hid hx; clear hx
  by_cases hgt : 30 < n
  · have d1 : decide ((30 : Int) < (n : Int)) = true := by simp; omega
    have hs : fwQ ds n = false := by rw [fwQ, decide_eq_false (by omega)]; rfl
    rw [hs]
    clear hs hgt
    go_enter Tryz.func6, Tryz.ntmps6
    go_wp2_with fail
    go_ret
    exact ⟨rfl, Below.refl _ _⟩
  · have d1 : decide ((30 : Int) < (n : Int)) = false := by simp; omega
    have hs : fwQ ds n = ds.all fun x => ltB x 1000 80 := by rw [fwQ, decide_eq_true (by omega)]; rfl
    rw [hs]
    clear hs
    go_enter Tryz.func6, Tryz.ntmps6
    go_wp2_with fail
    go_loopw [3] (fun i wr => ∃ (j : Nat), j ≤ n ∧ i = .int .i64 j ∧ Hid (((ds.drop j).all fun x => ltB x 1000 80) = ds.all fun x => ltB x 1000 80) ∧ Below w.heap.size w wr) (fun i _ => n - (Go.RowKit.intOf i).toNat)
    case atStart => exact ⟨0, Nat.zero_le _, rfl, Lib.hid (by simp), Below.refl _ _⟩
    case round =>
      obtain ⟨j, hj, rfl, HS, hb⟩ := hrel
      by_cases hlt : j < n
      · obtain ⟨x, hx⟩ := at_of HX.out.len hlt
        obtain ⟨b1, o1, s1, k1, h1, A1, n1, c1, rfl, c0, c1', c2, c3, hr1⟩ := (HX.out.at_ j x hx).keep hb
        have HS' := HS.out
        rw [drop_at hx, List.all_cons] at HS'
        have HS1 := Lib.hid HS'; clear HS' hx HS
        have hi0 : (0 : Int) ≤ j := by omega
        have hi1 : (j : Int) < n := by omega
        have HC := Lib.hid (refLight x 1000 80 _ wr hr1)
        clear hr1
        generalize ltB x 1000 80 = r at *
        go_wp2_with fail
        refine HC.out.mono ?_
        rintro e w1 ⟨rfl, hb1⟩
        replace hb := hb.trans (hb1.mono hb.size)
        clear hb1 c0 c1' c2 c3 HC
        cases r
        · go_wp2_with fail
          go_ret
          exact ⟨ret_bool (by rw [← HS1.out]; rfl), hb⟩
        · go_wp2_with fail
          go_roundw
          case rel => exact ⟨j + 1, by omega, by go_num, Lib.hid (by simpa using HS1.out), hb⟩
          case measure => simp [Go.RowKit.intOf]; omega
      · have e := HS.out
        rw [drop_all HX.out.len (by omega)] at e
        have HE := Lib.hid e; clear e HS
        go_wp2_with fail
        go_ret
        exact ⟨ret_bool (by rw [← HE.out]; rfl), hb⟩
end Go.Proofs.YtmkahbbcagfbhaaGreatDoor
/-
  Metas in memory; contracts of package check's allMay and may. No statement is proved here.
-/
namespace Go.Proofs.YtmkahbbcagfbhaaGreatDoor
open Go.ChangeShapes Go.WideShapes Go.ChangeAt Go.RowKit
set_option linter.unusedVariables false
/-- a list of terms -/
structure CLV (w : World) (xs : List T) (A : Option Addr) (n c : Nat) : Prop where
  len : xs.length = n
  le : n ≤ c
  cap : c ≤ maxLen
  at_ : ∀ i x, xs[i]? = some x → RdAt w A i x
theorem CLV.keep {w w' : World} {xs : List T} {A : Option Addr} {n c : Nat} (h : CLV w xs A n c) (hb : Below w.heap.size w w') : CLV w' xs A n c :=
  ⟨h.len, h.le, h.cap, fun i x hx => (h.at_ i x hx).keep hb⟩
/-- a meta of a list -/
def MAt (w : World) (A : Option Addr) (i : Nat) (x : List T × T) : Prop :=
  ∃ b o A1 n1 c1 k h A2 n2 c2 p, A = some ⟨b, o, none⟩ ∧ w.cell? ⟨b, o + i * 5, none⟩ = some (.slice A1 n1 c1) ∧ w.cell? ⟨b, o + i * 5 + 1, none⟩ = some (.int .i64 k) ∧ w.cell? ⟨b, o + i * 5 + 2, none⟩ = some (.int .i64 h) ∧
    w.cell? ⟨b, o + i * 5 + 3, none⟩ = some (.slice A2 n2 c2) ∧ w.cell? ⟨b, o + i * 5 + 4, none⟩ = some (.bool p) ∧ CLV w x.1 A1 n1 c1 ∧ Rd w x.2 (.agg #[.int .i64 k, .int .i64 h, .slice A2 n2 c2])
structure ML (w : World) (ms : List (List T × T)) (A : Option Addr) (n c : Nat) : Prop where
  len : ms.length = n
  le : n ≤ c
  cap : c ≤ maxLen
  at_ : ∀ i x, ms[i]? = some x → MAt w A i x
theorem MAt.keep {w w' : World} {A : Option Addr} {i : Nat} {x : List T × T} (h : MAt w A i x) (hb : Below w.heap.size w w') : MAt w' A i x := by
  obtain ⟨b, o, A1, n1, c1, k, g, A2, n2, c2, p, rfl, d0, d1, d2, d3, d4, hl, hr⟩ := h
  exact ⟨b, o, A1, n1, c1, k, g, A2, n2, c2, p, rfl, (hb.cell (cell_lt d0)).trans d0, (hb.cell (cell_lt d1)).trans d1, (hb.cell (cell_lt d2)).trans d2, (hb.cell (cell_lt d3)).trans d3, (hb.cell (cell_lt d4)).trans d4, hl.keep hb, Rd.keep hb _ _ hr⟩
theorem ML.keep {w w' : World} {ms : List (List T × T)} {A : Option Addr} {n c : Nat} (h : ML w ms A n c) (hb : Below w.heap.size w w') : ML w' ms A n c :=
  ⟨h.len, h.le, h.cap, fun i x hx => (h.at_ i x hx).keep hb⟩
def mmB (x : List T × T) : Bool := x.1.all myB && myB x.2
/-- may all be that is handed in -/
def mayV (W : WV) (cx l : List T) : Bool := decide (cx.length ≤ 1000) && (cx.all myB && (l.all myB && (W.sg.all myB && W.ms.all mmB)))
theorem vMay1C (x : T) (v : Value) (w : World) (hv : Rd w x v) :
    Calls Tryz.prog 70 #[v] w fun e w' => e = .returned (.bool (!myB x)) ∧ Below w.heap.size w w' := by
  obtain ⟨k, h, A, n, c, rfl⟩ := hv.full
  have hb : Below w.heap.size w (w.alloc (.cells #[.int .i64 k, .int .i64 h, .slice A n c] 36)) := (Below.refl _ _).alloc (Nat.le_refl _) _
  have HM := Lib.hid (myC x _ _ (Rd.keep hb _ _ hv))
  clear hv
  generalize myB x = r at *
  go_enter Tryz.func70, Tryz.ntmps70
  go_wp2_with fail
  refine HM.out.mono ?_
  rintro e w1 ⟨rfl, hb1⟩
  go_wp2_with fail
  go_ret
  exact ⟨rfl, hb.trans (hb1.mono hb.size)⟩
theorem vIndexC (xs : List T) (A : Option Addr) (n c : Nat) (w : World) (hx : CLV w xs A n c) :
    Calls Tryz.prog 77 #[.slice A n c, .func (.func 70) #[] #[]] w fun e w' => ∃ i : Int, e = .returned (.int .i64 i) ∧ decide (0 ≤ i) = (!xs.all myB) ∧ Below w.heap.size w w' := by
  have hm := hx.cap
  have hc := hx.le
  unfold maxLen at hm
  have HX := Lib.hid hx; clear hx
  go_enter Tryz.func77, Tryz.ntmps77
  go_wp2_with fail
  go_loopw [8] (fun i wr => ∃ (j : Nat), j ≤ n ∧ i = .int .i64 j ∧ Hid ((xs.drop j).all myB = xs.all myB) ∧ Below w.heap.size w wr) (fun i _ => n - (Go.RowKit.intOf i).toNat)
  case atStart => exact ⟨0, Nat.zero_le _, rfl, Lib.hid (by simp), Below.refl _ _⟩
  case round =>
    obtain ⟨j, hj, rfl, HS, hb⟩ := hrel
    by_cases hlt : j < n
    · obtain ⟨x, ht⟩ := at_of HX.out.len hlt
      obtain ⟨b, o, k2, h2, A2, n2, c2', rfl, c0, c1, c2, hr⟩ := (RdAt.keep hb (HX.out.at_ j x ht)).full
      have HT := Lib.hid ht; clear ht
      have hi0 : (0 : Int) ≤ j := by omega
      have hi1 : (j : Int) < n := by omega
      have HM := Lib.hid (vMay1C x _ wr hr)
      clear hr
      have HS' := HS.out
      rw [drop_at HT.out, List.all_cons] at HS'
      have HS := Lib.hid HS'; clear HS'
      generalize myB x = r at *
      go_wp2_with fail
      clear c0 c1 c2
      refine HM.out.mono ?_
      rintro e w1 ⟨rfl, hb1⟩
      have hbw : Below w.heap.size w w1 := hb.trans (hb1.mono hb.size)
      clear hb1 HM
      cases r
      · go_wp2_with fail
        go_ret
        exact ⟨_, rfl, by rw [← HS.out]; simp, hbw⟩
      · go_wp2_with fail
        go_roundw
        case rel => exact ⟨j + 1, by omega, by go_num, Lib.hid (by simpa using HS.out), hbw⟩
        case measure => simp [Go.RowKit.intOf]; omega
    · go_wp2_with fail
      go_ret
      exact ⟨_, rfl, by have := HS.out; rw [drop_all HX.out.len (by omega)] at this; rw [← this]; simp, hb⟩
theorem vContainsC (xs : List T) (A : Option Addr) (n c : Nat) (w : World) (hx : CLV w xs A n c) :
    Calls Tryz.prog 54 #[.slice A n c, .func (.func 70) #[] #[]] w fun e w' => e = .returned (.bool (!xs.all myB)) ∧ Below w.heap.size w w' := by
  have HI := Lib.hid (vIndexC xs A n c w hx)
  clear hx
  generalize (!xs.all myB) = r at *
  go_enter Tryz.func54, Tryz.ntmps54
  go_wp2_with fail
  refine HI.out.mono ?_
  rintro e w1 ⟨i, rfl, hi, hb1⟩
  go_wp2_with fail
  go_ret
  exact ⟨ret_bool (by first | exact hi | rfl | simp), hb1⟩
theorem vAllC (xs : List T) (A : Option Addr) (n c : Nat) (w : World) (hx : CLV w xs A n c) :
    Calls Tryz.prog 49 #[.slice A n c] w fun e w' => e = .returned (.bool (xs.all myB)) ∧ Below w.heap.size w w' := by
  have HI := Lib.hid (vContainsC xs A n c w hx)
  clear hx
  generalize xs.all myB = r at *
  go_enter Tryz.func49, Tryz.ntmps49
  go_wp2_with fail
  refine HI.out.mono ?_
  rintro e w1 ⟨rfl, hb1⟩
  go_wp2_with fail
  go_ret
  exact ⟨ret_bool (by simp), hb1⟩
set_option maxRecDepth 100000 in
set_option maxHeartbeats 4000000 in
theorem vMayC (W : WV) (cx l : List T) (As Am Ac Al : Option Addr) (ns cs nm cm nc cc nl cl : Nat) (w : World) (hs : DL w W.sg As ns cs) (hm : ML w W.ms Am nm cm) (hc : CLV w cx Ac nc cc) (hl : CLV w l Al nl cl) :
    Calls Tryz.prog 31 #[.agg #[.slice As ns cs, .slice Am nm cm, .slice Ac nc cc], .slice Al nl cl] w fun e w' => e = .returned (.bool (mayV W cx l)) ∧ Below w.heap.size w w' := by
  have hncl := hc.len
  have hccap := hc.cap
  have hcle := hc.le
  have hscap := hs.cap
  have hsle := hs.le
  have hmcap := hm.cap
  have hmle := hm.le
  unfold maxLen at hccap hscap hmcap
  obtain ⟨W0, hW0⟩ : ∃ W0, w.alloc (.cells #[.slice As ns cs, .slice Am nm cm, .slice Ac nc cc] 63) = W0 := ⟨_, rfl⟩
  have hb : Below w.heap.size w W0 := by rw [← hW0]; exact (Below.refl _ _).alloc (Nat.le_refl _) _
  have x0 : Box W0 w.heap.size 63 #[.slice As ns cs, .slice Am nm cm, .slice Ac nc cc] := by rw [← hW0]; exact Box.new _ _ _
  have HCX := Lib.hid (fun W' (h' : Below w.heap.size w W') => vAllC cx Ac nc cc W' (hc.keep h'))
  have HL := Lib.hid (fun W' (h' : Below w.heap.size w W') => vAllC l Al nl cl W' (hl.keep h'))
  have HS := Lib.hid hs; clear hs
  have HM := Lib.hid hm; clear hm
  have HW := Lib.hid hW0; clear hW0
  clear hc hl
  have hR : mayV W cx l = (decide (nc ≤ 1000) && (cx.all myB && (l.all myB && (W.sg.all myB && W.ms.all mmB)))) := by rw [mayV, hncl]
  obtain ⟨R, hRR⟩ : ∃ R, mayV W cx l = R := ⟨_, rfl⟩
  rw [hRR] at hR ⊢
  have HR := Lib.hid hR
  clear hR hRR hncl
  generalize cx.all myB = r1 at *
  generalize l.all myB = r2 at *
  obtain ⟨c0, c1, c2⟩ := x0.three
  by_cases hgt : 1000 < nc
  · have d1 : decide ((1000 : Int) < (nc : Int)) = true := by simp; omega
    have HR' := Lib.hid (show R = false by rw [HR.out, decide_eq_false (by omega)]; rfl)
    go_enter Tryz.func31, Tryz.ntmps31
    go_wp2_with fail
    try rw [HW.out]
    go_wp2_with fail
    go_ret
    exact ⟨ret_bool HR'.out.symm, hb⟩
  have d1 : decide ((1000 : Int) < (nc : Int)) = false := by simp; omega
  have HR1 := Lib.hid (show R = (r1 && (r2 && (W.sg.all myB && W.ms.all mmB))) by rw [HR.out, decide_eq_true (by omega)]; rfl)
  clear HR
  go_enter Tryz.func31, Tryz.ntmps31
  go_wp2_with fail
  try rw [HW.out]
  clear HW
  go_wp2_with fail
  refine (HCX.out W0 hb).mono ?_
  rintro e w1 ⟨rfl, hb1⟩
  have HB1 := Lib.hid (hb.trans (hb1.mono hb.size))
  have X1 := Lib.hid (x0.keep hb1 x0.lt)
  clear hb hb1 x0 c0 c1 c2 HCX
  cases r1
  · go_wp2_with fail
    go_ret
    exact ⟨ret_bool (by rw [HR1.out]; rfl), HB1.out⟩
  have HR2 := Lib.hid (show R = (r2 && (W.sg.all myB && W.ms.all mmB)) by rw [HR1.out, Bool.true_and])
  clear HR1
  go_wp2_with fail
  refine (HL.out w1 HB1.out).mono ?_
  rintro e w2 ⟨rfl, hb1⟩
  have HB2 := Lib.hid (HB1.out.trans (hb1.mono HB1.out.size))
  have X2 := Lib.hid (X1.out.keep hb1 X1.out.lt)
  clear hb1 HB1 X1 HL
  cases r2
  · go_wp2_with fail
    go_ret
    exact ⟨ret_bool (by rw [HR2.out]; rfl), HB2.out⟩
  have HR3 := Lib.hid (show R = (W.sg.all myB && W.ms.all mmB) by rw [HR2.out, Bool.true_and])
  clear HR2
  obtain ⟨c0, c1, c2⟩ := X2.out.three
  go_wp2_with fail
  clear c0 c1 c2
  go_loopw [27] (fun i wr => ∃ (j : Nat), j ≤ ns ∧ i = .int .i64 j ∧ Hid ((W.sg.drop j).all myB = W.sg.all myB) ∧ Hid (Box wr w.heap.size 63 #[.slice As ns cs, .slice Am nm cm, .slice Ac nc cc]) ∧ Hid (Below w.heap.size w wr)) (fun i _ => ns - (Go.RowKit.intOf i).toNat)
  case atStart => exact ⟨0, Nat.zero_le _, rfl, Lib.hid (by simp), X2, HB2⟩
  case round =>
    clear X2 HB2
    obtain ⟨j, hj, rfl, HJ, X2, HB2⟩ := hrel
    by_cases hlt : j < ns
    · obtain ⟨x, hx⟩ := at_of HS.out.len hlt
      obtain ⟨b1, o1, s1, k1, h1, A1, n1, c1, rfl, e0, e1, e2, e3, hr1⟩ := (HS.out.at_ j x hx).keep HB2.out
      have HJ' := HJ.out
      rw [drop_at hx, List.all_cons] at HJ'
      have HJ1 := Lib.hid HJ'; clear HJ' hx HJ
      obtain ⟨Wa, hWa⟩ : ∃ Wa, wr.alloc (.cells #[.string s1, .int .i64 k1, .int .i64 h1, .slice A1 n1 c1] 46) = Wa := ⟨_, rfl⟩
      have hbA : Below wr.heap.size wr Wa := by rw [← hWa]; exact (Below.refl _ _).alloc (Nat.le_refl _) _
      have z5 : Box Wa wr.heap.size 46 #[.string s1, .int .i64 k1, .int .i64 h1, .slice A1 n1 c1] := by rw [← hWa]; exact Box.new _ _ _
      have a1 : Wa.cell? ⟨wr.heap.size, 1, none⟩ = some (.int .i64 k1) := z5.cell 1
      have a2 : Wa.cell? ⟨wr.heap.size, 2, none⟩ = some (.int .i64 h1) := z5.cell 2
      have a3 : Wa.cell? ⟨wr.heap.size, 3, none⟩ = some (.slice A1 n1 c1) := z5.cell 3
      have HMY := Lib.hid (myC x _ Wa (Rd.keep hbA _ _ hr1))
      have HBA := Lib.hid (HB2.out.trans (hbA.mono HB2.out.size))
      have XA := Lib.hid (X2.out.keep hbA X2.out.lt)
      have hi0 : (0 : Int) ≤ j := by omega
      have hi1 : (j : Int) < ns := by omega
      clear hr1 z5 hbA HB2 X2
      generalize myB x = r at *
      subst hWa
      go_wp2_with fail
      refine HMY.out.mono ?_
      rintro e w3 ⟨rfl, hb3⟩
      have HB3 := Lib.hid (HBA.out.trans (hb3.mono HBA.out.size))
      have X3 := Lib.hid (XA.out.keep hb3 XA.out.lt)
      clear hb3 HBA XA HMY a1 a2 a3 e0 e1 e2 e3
      cases r
      · go_wp2_with fail
        go_ret
        exact ⟨ret_bool (by rw [HR3.out, ← HJ1.out]; rfl), HB3.out⟩
      · go_wp2_with fail
        go_roundw
        case rel => exact ⟨j + 1, by omega, by go_num, Lib.hid (by simpa using HJ1.out), X3, HB3⟩
        case measure => simp [Go.RowKit.intOf]; omega
    · have e := HJ.out
      rw [drop_all HS.out.len (by omega)] at e
      have HR4 := Lib.hid (show R = W.ms.all mmB by rw [HR3.out, ← e]; rfl)
      clear e HJ HR3
      obtain ⟨c0, c1, c2⟩ := X2.out.three
      go_wp2_with fail
      clear c0 c1 c2
      go_loopw [39] (fun i wr => ∃ (j : Nat), j ≤ nm ∧ i = .int .i64 j ∧ Hid ((W.ms.drop j).all mmB = W.ms.all mmB) ∧ Hid (Below w.heap.size w wr)) (fun i _ => nm - (Go.RowKit.intOf i).toNat)
      case atStart => exact ⟨0, Nat.zero_le _, rfl, Lib.hid (by simp), HB2⟩
      case round =>
        clear X2 HB2
        obtain ⟨i, hi, rfl, HJ, HB2⟩ := hrel
        by_cases hlt : i < nm
        · obtain ⟨x, hx⟩ := at_of HM.out.len hlt
          obtain ⟨b1, o1, A0, n0, c0, k1, h1, A1, n1, c1, pb, rfl, e0, e1, e2, e3, e4, hl1, hr1⟩ := (HM.out.at_ i x hx).keep HB2.out
          have HJ' := HJ.out
          rw [drop_at hx, List.all_cons] at HJ'
          have HJ1 := Lib.hid HJ'; clear HJ' hx HJ
          obtain ⟨Wa, hWa⟩ : ∃ Wa, wr.alloc (.cells #[.slice A0 n0 c0, .int .i64 k1, .int .i64 h1, .slice A1 n1 c1, .bool pb] 87) = Wa := ⟨_, rfl⟩
          have hbA : Below wr.heap.size wr Wa := by rw [← hWa]; exact (Below.refl _ _).alloc (Nat.le_refl _) _
          have z5 : Box Wa wr.heap.size 87 #[.slice A0 n0 c0, .int .i64 k1, .int .i64 h1, .slice A1 n1 c1, .bool pb] := by rw [← hWa]; exact Box.new _ _ _
          have a0 : Wa.cell? ⟨wr.heap.size, 0, none⟩ = some (.slice A0 n0 c0) := z5.cell 0
          have HMY := Lib.hid (vAllC x.1 _ _ _ Wa (hl1.keep hbA))
          have HMR := Lib.hid (fun W' (h' : Below Wa.heap.size Wa W') => myC x.2 _ W' (Rd.keep (hbA.trans (h'.mono hbA.size)) _ _ hr1))
          have HBA := Lib.hid (HB2.out.trans (hbA.mono HB2.out.size))
          have Z5 := Lib.hid z5
          have hi0 : (0 : Int) ≤ i := by omega
          have hi1 : (i : Int) < nm := by omega
          have HMM := Lib.hid (show mmB x = (x.1.all myB && myB x.2) from rfl)
          clear hr1 z5 hbA HB2
          generalize mmB x = r at *
          generalize x.1.all myB = r1 at *
          generalize myB x.2 = r2 at *
          subst hWa
          go_wp2_with fail
          refine HMY.out.mono ?_
          rintro e w3 ⟨rfl, hb3⟩
          have HB3 := Lib.hid (HBA.out.trans (hb3.mono HBA.out.size))
          have Z3 := Lib.hid (Z5.out.keep hb3 Z5.out.lt)
          have HMR3 := Lib.hid (HMR.out w3 hb3)
          have b1' : w3.cell? ⟨wr.heap.size, 1, none⟩ = some (.int .i64 k1) := Z3.out.cell 1
          have b2' : w3.cell? ⟨wr.heap.size, 2, none⟩ = some (.int .i64 h1) := Z3.out.cell 2
          have b3' : w3.cell? ⟨wr.heap.size, 3, none⟩ = some (.slice A1 n1 c1) := Z3.out.cell 3
          clear hb3 HBA Z5 HMY HMR a0 e0 e1 e2 e3 e4 hl1
          cases r1
          · go_wp2_with fail
            go_ret
            exact ⟨ret_bool (by rw [HR4.out, ← HJ1.out, HMM.out]; rfl), HB3.out⟩
          · go_wp2_with fail
            refine HMR3.out.mono ?_
            rintro e w4 ⟨rfl, hb4⟩
            have HB4 := Lib.hid (HB3.out.trans (hb4.mono HB3.out.size))
            clear hb4 HB3 HMR3 b1' b2' b3' Z3
            cases r2
            · go_wp2_with fail
              go_ret
              exact ⟨ret_bool (by rw [HR4.out, ← HJ1.out, HMM.out]; rfl), HB4.out⟩
            · go_wp2_with fail
              go_roundw
              case rel => exact ⟨i + 1, by omega, by go_num, Lib.hid (by have := HJ1.out; rw [HMM.out] at this; simpa using this), HB4⟩
              case measure => simp [Go.RowKit.intOf]; omega
        · have e := HJ.out
          rw [drop_all HM.out.len (by omega)] at e
          have HR5 := Lib.hid (show R = true by rw [HR4.out, ← e]; rfl)
          clear e HJ HR4
          go_wp2_with fail
          go_ret
          exact ⟨ret_bool HR5.out.symm, HB2.out⟩
end Go.Proofs.YtmkahbbcagfbhaaGreatDoor
/-
  Terms that are appended to a list that is full; contract of package check's more. No statement is proved here.
-/
namespace Go.Proofs.YtmkahbbcagfbhaaGreatDoor
open Go.ChangeShapes Go.WideShapes Go.ChangeAt Go.RowKit
set_option linter.unusedVariables false
/-- the cells of a row, as they lie -/
def rawV (w : World) (b o m : Nat) : List Value := (List.range m).map fun q => (w.cell? ⟨b, o + q, none⟩).getD undef
theorem rawV_len (w : World) (b o m : Nat) : (rawV w b o m).length = m := by simp [rawV]
theorem rawV_at {w : World} {b o m q : Nat} (hq : q < m) : (rawV w b o m)[q]? = some ((w.cell? ⟨b, o + q, none⟩).getD undef) := by
  unfold rawV
  rw [List.getElem?_map, List.getElem?_range hq]
  rfl
theorem rawV_cell {w : World} {b o n c : Nat} {L : List T} (hx : CLV w L (some ⟨b, o, none⟩) n c) {q : Nat} (hq : q < n * 3) : ∃ u, w.cell? ⟨b, o + q, none⟩ = some u ∧ u.oneCell' = true := by
  have hlt : q / 3 < n := by omega
  obtain ⟨t, ht⟩ := at_of hx.len hlt
  obtain ⟨b', o', k, h, A', n', c', e, c0, c1, c2, _⟩ := (hx.at_ _ t ht).full
  have e' : b = b' ∧ o = o' := by simpa using e
  obtain ⟨rfl, rfl⟩ := e'
  have h3 : q % 3 = 0 ∨ q % 3 = 1 ∨ q % 3 = 2 := by omega
  rcases h3 with h3 | h3 | h3
  · exact ⟨_, by rw [show o + q = o + q / 3 * 3 by omega]; exact c0, rfl⟩
  · exact ⟨_, by rw [show o + q = o + q / 3 * 3 + 1 by omega]; exact c1, rfl⟩
  · exact ⟨_, by rw [show o + q = o + q / 3 * 3 + 2 by omega]; exact c2, rfl⟩
/-- a row of its own, read as terms: the old ones, and one more -/
theorem rdV_row {w W' W9 : World} {xs : List T} {x : T} {A : Option Addr} {n g cap base : Nat} {c : Nat} {olds : List Value} {k h : Int} {A2 : Option Addr} {n2 c2 : Nat} (hx : CLV w xs A n c) (hk : Below w.heap.size w W')
    (holds : ∀ b o q u, A = some ⟨b, o, none⟩ → q < n * 3 → w.cell? ⟨b, o + q, none⟩ = some u → olds[q]? = some u) (hol : olds.length = n * 3) (hr : Rd w x (.agg #[.int .i64 k, .int .i64 h, .slice A2 n2 c2]))
    (hrow : W9.ownsRow base 36 3 (.slice (some ⟨g, 0, none⟩) (n + 1) cap) (n + 1) (olds ++ [.int .i64 k, .int .i64 h, .slice A2 n2 c2])) (hgg : W'.heap[g]? = W9.heap[g]?) : CLV W' (xs ++ [x]) (some ⟨g, 0, none⟩) (n + 1) cap := by
  have hcell : ∀ q u, (olds ++ [.int .i64 k, .int .i64 h, .slice A2 n2 c2])[q]? = some u → W'.cell? ⟨g, 0 + q, none⟩ = some u := fun q u hu => by
    have := hrow.cells (g := g) rfl q u hu
    rw [addr_add] at this
    exact (World.cell?_of_block hgg).trans this
  have hcap : n + 1 ≤ cap ∧ cap ≤ maxLen := by
    rcases hrow.2 with ⟨h0, _⟩ | ⟨g', cap', cur, hv, _, _, h1, h2, _⟩
    · cases h0
    · cases hv; exact ⟨h1, h2⟩
  refine ⟨by simp [hx.len], hcap.1, hcap.2, fun i t hi => ?_⟩
  by_cases hlt : i < n
  · rw [List.getElem?_append_left (by rw [hx.len]; omega)] at hi
    obtain ⟨b', o', k2, h2, A2', n2', c2', e1, d0, d1, d2, hr⟩ := (hx.at_ i t hi).full
    have get : ∀ q u, q < n * 3 → w.cell? ⟨b', o' + q, none⟩ = some u → W'.cell? ⟨g, 0 + q, none⟩ = some u := fun q u hq hu => by
      refine hcell q u ?_
      rw [List.getElem?_append_left (by omega)]
      exact holds b' o' q u e1 hq hu
    exact ⟨g, 0, _, _, _, rfl, get _ _ (by omega) d0, by rw [Nat.add_assoc]; exact get _ _ (by omega) d1, by rw [Nat.add_assoc]; exact get _ _ (by omega) d2, Rd.keep hk _ _ hr⟩
  · have hin : i = n := by have := (List.getElem?_eq_some_iff.1 hi).1; simp [hx.len] at this; omega
    subst hin
    rw [List.getElem?_append_right (by rw [hx.len]; omega), hx.len, Nat.sub_self] at hi
    obtain rfl : x = t := by simpa using hi
    have get : ∀ q u, [Value.int .i64 k, .int .i64 h, .slice A2 n2 c2][q]? = some u → W'.cell? ⟨g, 0 + (i * 3 + q), none⟩ = some u := fun q u hu => hcell _ u (by rw [List.getElem?_append_right (by omega), hol, show i * 3 + q - i * 3 = q by omega]; exact hu)
    exact ⟨g, 0, _, _, _, rfl, get 0 _ rfl, by rw [Nat.add_assoc]; exact get 1 _ rfl, by rw [Nat.add_assoc]; exact get 2 _ rfl, Rd.keep hk _ _ hr⟩
/-- one more, appended to a list that has no room -/
theorem termAppV {w W : World} {xs : List T} {A : Option Addr} {n c : Nat} (hx : CLV w xs A n c) (hn : n ≤ 2000000) (hb : Below w.heap.size w W) {P : Nat} {k h : Int} {A2 : Option Addr} {n2 c2 : Nat} {x : T}
    (hP : W.heap[P]? = some (.cells #[.int .i64 k, .int .i64 h, .slice A2 n2 c2] 36 (0, 0))) (hr : Rd w x (.agg #[.int .i64 k, .int .i64 h, .slice A2 n2 c2])) (hA : A = none → n = 0) :
    ∃ g cap w', (Builtin.append_ #[34, 34] 34 #[.slice A n n, .slice (some ⟨P, 0, none⟩) 1 1]).run Tryz.prog W = .ok (.slice (some ⟨g, 0, none⟩) (n + 1) cap) w' ∧ (∀ W9 : World, Below w.heap.size w W9 → W9.heap[g]? = w'.heap[g]? → CLV W9 (xs ++ [x]) (some ⟨g, 0, none⟩) (n + 1) cap) ∧ Below W.heap.size W w' ∧ W.heap.size ≤ g := by
  obtain ⟨i0, hi, hz0, hz1, hz2⟩ := info_parts infoTerm
  have hnews := World.news_of_block hP
  have h1 : ∀ u ∈ [Value.int .i64 k, .int .i64 h, .slice A2 n2 c2], u.oneCell' = true := by intro u hu; simp at hu; rcases hu with rfl | rfl | rfl <;> rfl
  have tail : ∀ (olds : List Value) (v' : Value) (w' : World), (∀ b o q u, A = some ⟨b, o, none⟩ → q < n * 3 → w.cell? ⟨b, o + q, none⟩ = some u → olds[q]? = some u) → olds.length = n * 3 → w'.ownsRow W.heap.size 36 3 v' (n + 1) (olds ++ [.int .i64 k, .int .i64 h, .slice A2 n2 c2]) → W.grownBy w' none →
      ∃ g cap, v' = .slice (some ⟨g, 0, none⟩) (n + 1) cap ∧ (∀ W9 : World, Below w.heap.size w W9 → W9.heap[g]? = w'.heap[g]? → CLV W9 (xs ++ [x]) (some ⟨g, 0, none⟩) (n + 1) cap) ∧ Below W.heap.size W w' ∧ W.heap.size ≤ g := fun olds v' w' ho hol how hgr => by
    obtain ⟨g, cap, rfl, hg, _⟩ := how.form (by omega)
    have hbw : Below W.heap.size W w' := below_grown (Below.refl _ _) hgr (fun r hr => by cases hr) (Nat.le_refl _)
    exact ⟨g, cap, rfl, fun W9 h9 hgg => rdV_row hx h9 ho hol hr how hgg, hbw, hg⟩
  rcases Nat.eq_zero_or_pos n with rfl | hp
  · cases A with
    | none =>
      obtain ⟨g, cap, w', hrun, how, hgr, _, _⟩ := run_append_lies (P := Tryz.prog) W 34 34 W.heap.size 36 i0 _ 3 40 Tryz.underlying34 hi hz0 hz1 hz2 rfl (by omega) (.slice none 0 0) 0 []
        (World.ownsRow_nil _ _ _ _) ⟨P, 0, none⟩ 1 1 [.int .i64 k, .int .i64 h, .slice A2 n2 c2] rfl hnews h1 (by omega) (by unfold maxLen; omega) (by omega) (Nat.le_refl _) _ rfl
      rw [Nat.zero_add] at hrun how
      obtain ⟨g', cap', e, h2, h3, h4⟩ := tail [] _ _ (fun b o q u _ hq => by omega) rfl (by rw [Nat.zero_add]; exact how) hgr
      rw [Nat.zero_add] at e
      cases e
      exact ⟨g, cap, w', by rw [Nat.zero_add]; exact hrun, h2, h3, h4⟩
    | some a =>
      obtain ⟨v', w', hrun, how, hgr⟩ := run_append_arg_grows (P := Tryz.prog) W 34 34 36 i0 _ 3 40 Tryz.underlying34 hi hz0 hz1 hz2 rfl (by omega) a 0 0 [] rfl (fun j u hu => by simp at hu) ⟨P, 0, none⟩ 1 1 [.int .i64 k, .int .i64 h, .slice A2 n2 c2] rfl hnews (by omega) (by unfold maxLen; omega) (by omega)
      obtain ⟨g, cap, rfl, h2, h3, h4⟩ := tail [] v' w' (fun b o q u _ hq => by omega) rfl how hgr
      exact ⟨g, cap, w', hrun, h2, h3, h4⟩
  · cases A with
    | none => have := hA rfl; omega
    | some a =>
      obtain ⟨t, ht⟩ := at_of hx.len hp
      obtain ⟨b, o, _, _, _, _, _, e, _⟩ := (hx.at_ 0 t ht).full
      cases e
      have hxW := hx.keep hb
      have hol : (rawV W b o (n * 3)).length = n * 3 := rawV_len _ _ _ _
      obtain ⟨v', w', hrun, how, hgr⟩ := run_append_arg_grows (P := Tryz.prog) W 34 34 36 i0 _ 3 40 Tryz.underlying34 hi hz0 hz1 hz2 rfl (by omega) ⟨b, o, none⟩ n n (rawV W b o (n * 3)) hol (fun j u hu => by
          have hq : j < n * 3 := by have := (List.getElem?_eq_some_iff.1 hu).1; rwa [rawV_len] at this
          obtain ⟨u', h1, _⟩ := rawV_cell hxW hq
          rw [rawV_at hq, h1] at hu
          rw [addr_add, h1]
          simpa using hu) ⟨P, 0, none⟩ 1 1 [.int .i64 k, .int .i64 h, .slice A2 n2 c2] rfl hnews (by omega) (by unfold maxLen; omega) (by omega)
      obtain ⟨g, cap, rfl, h2, h3, h4⟩ := tail _ v' w' (fun b' o' q u e hq hu => by
          cases e
          rw [rawV_at hq, (hb.cell (cell_lt hu)).trans hu]
          rfl) hol how hgr
      exact ⟨g, cap, w', hrun, h2, h3, h4⟩
def MoreV (As Am : Option Addr) (ns cs nm cm n : Nat) (xs : List T) (w : World) (e : Ending) (w' : World) : Prop :=
  ∃ g cap, e = .returned (.agg #[.slice As ns cs, .slice Am nm cm, .slice (some ⟨g, 0, none⟩) (n + 1) cap]) ∧ CLV w' xs (some ⟨g, 0, none⟩) (n + 1) cap ∧ Below w.heap.size w w'
theorem clv_none {w : World} {xs : List T} {n c : Nat} (h : CLV w xs none n c) : n = 0 := by
  rcases Nat.eq_zero_or_pos n with e | hp
  · exact e
  · obtain ⟨t, ht⟩ := at_of h.len hp
    obtain ⟨b, o, _, _, _, _, _, e, _⟩ := (h.at_ 0 t ht).full
    cases e
set_option maxRecDepth 100000 in
set_option maxHeartbeats 4000000 in
theorem moreC (cx : List T) (x : T) (As Am Ac : Option Addr) (ns cs nm cm nc cc : Nat) (k h : Int) (A : Option Addr) (n c : Nat) (w : World) (hc : CLV w cx Ac nc cc) (hx : Rd w x (.agg #[.int .i64 k, .int .i64 h, .slice A n c])) (hn : nc ≤ 2000000) :
    Calls Tryz.prog 71 #[.agg #[.slice As ns cs, .slice Am nm cm, .slice Ac nc cc], .agg #[.int .i64 k, .int .i64 h, .slice A n c]] w (MoreV As Am ns cs nm cm nc (cx ++ [x]) w) := by
  have hcle := hc.le
  have hcap := hc.cap
  unfold maxLen at hcap
  have hnone : Ac = none → nc = 0 := fun e => by subst e; exact clv_none hc
  obtain ⟨W, hW⟩ : ∃ W, ((w.alloc (.cells #[.slice As ns cs, .slice Am nm cm, .slice Ac nc cc] 63)).alloc (.cells #[.int .i64 k, .int .i64 h, .slice A n c] 36)).alloc (.cells #[.slice none 0 0, .slice none 0 0, .slice none 0 0] 63) = W := ⟨_, rfl⟩
  have hb : Below w.heap.size w W := by rw [← hW]; exact (((Below.refl _ _).alloc (Nat.le_refl _) _).alloc (by simp) _).alloc (by simp; omega) _
  have x0 : Box W w.heap.size 63 #[.slice As ns cs, .slice Am nm cm, .slice Ac nc cc] := by rw [← hW]; exact ((Box.new _ _ _).alloc _).alloc _
  have x1 : Box W (w.heap.size + 1) 36 #[.int .i64 k, .int .i64 h, .slice A n c] := by rw [← hW]; exact ((Box.new (w.alloc _) _ _).at (by simp)).alloc _
  have x2 : Box W (w.heap.size + 1 + 1) 63 #[.slice none 0 0, .slice none 0 0, .slice none 0 0] := by rw [← hW]; exact (Box.new ((w.alloc _).alloc _) _ _).at (by simp)
  have HX := Lib.hid hx
  have HC := Lib.hid hc
  have HB := Lib.hid hb
  have HNN := Lib.hid hnone
  have HW := Lib.hid hW; clear hW hx hc hb hnone
  obtain ⟨c0, c1, c2⟩ := x0.three
  obtain ⟨d0, d1, d2⟩ := x1.three
  go_enter Tryz.func71, Tryz.ntmps71
  go_wp2_with fail
  rw [HW.out]
  clear HW
  go_wp2_with fail
  have HKS : Hid (∀ w' : World, Below W.heap.size W w' → (fun w' => w'.cell? ⟨w.heap.size, 2, none⟩ = some (.slice Ac nc cc) ∧ w'.cell? ⟨w.heap.size + 1, 0, none⟩ = some (.int .i64 k) ∧ w'.cell? ⟨w.heap.size + 1, 1, none⟩ = some (.int .i64 h) ∧ w'.cell? ⟨w.heap.size + 1, 2, none⟩ = some (.slice A n c)) w') := Lib.hid fun w' h => ⟨(h.cell (cell_lt c2)).trans c2, (h.cell (cell_lt d0)).trans d0, (h.cell (cell_lt d1)).trans d1, (h.cell (cell_lt d2)).trans d2⟩
  have hbd : Below W.heap.size W W.drew := (Below.refl _ W).drew
  have hS := HKS.out _ hbd
  refine wp_region_cut rfl (by kernel_rfl) (by kernel_rfl) ?_
  refine wpAny_of_held (S := fun w' => w'.cell? ⟨w.heap.size, 2, none⟩ = some (.slice Ac nc cc) ∧ w'.cell? ⟨w.heap.size + 1, 0, none⟩ = some (.int .i64 k) ∧ w'.cell? ⟨w.heap.size + 1, 1, none⟩ = some (.int .i64 h) ∧ w'.cell? ⟨w.heap.size + 1, 2, none⟩ = some (.slice A n c)) _ _ _ _ ?_
  simp only [List.pop_toArray, List.dropLast, List.size_toArray, List.length_cons, List.length_nil, Nat.reduceAdd, Nat.reduceSub]
  refine wpAnyH_take (i := 0) (v := .pointer (some ⟨w.heap.size, 2, none⟩)) rfl (by kernel_rfl) (by kernel_rfl) (by kernel_rfl) (fun _ _ _ h => h) (Or.inl ⟨by rfl, ?_⟩) hS ?_
  · intro w' hSw
    obtain ⟨s0, s1, s2, s3⟩ := hSw
    go_simp
  try simp only [Act.put, List.setIfInBounds_toArray]
  refine wpAnyH_take (i := 1) (v := .slice Ac nc cc) rfl (by kernel_rfl) (by kernel_rfl) (by kernel_rfl) (fun _ _ _ h => h) (Or.inl ⟨by rfl, ?_⟩) hS ?_
  · intro w' hSw
    obtain ⟨s0, s1, s2, s3⟩ := hSw
    go_simp
  try simp only [Act.put]
  refine wpAnyH_take (i := 2) (v := .int .i64 nc) rfl (by kernel_rfl) (by kernel_rfl) (by kernel_rfl) (fun _ _ _ h => h) (Or.inl ⟨by rfl, ?_⟩) hS ?_
  · intro w' hSw
    obtain ⟨s0, s1, s2, s3⟩ := hSw
    go_simp
  try simp only [Act.put]
  refine wpAnyH_take (i := 3) (v := .int .i64 nc) rfl (by kernel_rfl) (by kernel_rfl) (by kernel_rfl) (fun _ _ _ h => h) (Or.inl ⟨by rfl, ?_⟩) hS ?_
  · intro w' hSw
    obtain ⟨s0, s1, s2, s3⟩ := hSw
    go_simp
  try simp only [Act.put]
  refine wpAnyH_take (i := 4) (v := .slice Ac nc nc) rfl (by kernel_rfl) (by kernel_rfl) (by kernel_rfl) (fun _ _ _ h => h) (Or.inl ⟨by rfl, ?_⟩) hS ?_
  · intro w' hSw
    obtain ⟨s0, s1, s2, s3⟩ := hSw
    go_simp
  try simp only [Act.put]
  refine wpAnyH_take (i := 5) (v := .agg #[.int .i64 k, .int .i64 h, .slice A n c]) rfl (by kernel_rfl) (by kernel_rfl) (by kernel_rfl) (fun _ _ _ h => h) (Or.inl ⟨by rfl, ?_⟩) hS ?_
  · intro w' hSw
    obtain ⟨s0, s1, s2, s3⟩ := hSw
    go_simp
  try simp only [Act.put]
  refine wpAnyH_ready (rs := [6]) (by kernel_rfl) (by simp) ?_
  refine AllReadyH.cons rfl (fun KN hK => ?_) AllReadyH.nil
  go_simp
  have hb5 : Below W.heap.size W (W.alloc (.cells #[.int .i64 k, .int .i64 h, .slice A n c] 36)).drew := ((Below.refl _ W).alloc (Nat.le_refl _) _).drew
  refine hK.out _ _ (HKS.out _ hb5) (fun hS => ?_)
  clear hK KN
  try simp only [Act.put, List.setIfInBounds_toArray, List.set_cons_zero, List.set_cons_succ]
  obtain ⟨W5, hW5⟩ : ∃ W5, (W.alloc (.cells #[.int .i64 k, .int .i64 h, .slice A n c] 36)).drew = W5 := ⟨_, rfl⟩
  have hbl : W5.heap[W.heap.size]? = some (.cells #[.int .i64 k, .int .i64 h, .slice A n c] 36 (0, 0)) := by rw [← hW5]; exact heap_alloc_new W _
  rw [hW5] at hb5 hS ⊢
  clear hW5
  refine wpAnyH_ready (rs := [7]) (by kernel_rfl) (by simp) ?_
  refine AllReadyH.cons rfl (fun KN hK => ?_) AllReadyH.nil
  obtain ⟨g7, cap7, w7, hrun7, hcl7, hb7, hg7⟩ := termAppV HC.out hn (HB.out.trans (hb5.mono HB.out.size)) hbl HX.out HNN.out
  have hb7' := hb5.trans (hb7.mono hb5.size)
  refine Lib.wp_append_run _ (.tmp 13) (.tmp 15) 34 34 rfl _ _ rfl rfl _ _ hrun7 ?_
  refine hK.out _ _ (HKS.out _ hb7') (fun hS => ?_)
  clear hK KN
  try simp only [Act.put, List.setIfInBounds_toArray]
  refine wpAnyH_take (i := 8) (v := .pointer (some ⟨w.heap.size, 2, none⟩)) rfl (by kernel_rfl) (by kernel_rfl) (by kernel_rfl) (fun _ _ _ h => h) (Or.inl ⟨by rfl, ?_⟩) hS ?_
  · intro w' hSw
    obtain ⟨s0, s1, s2, s3⟩ := hSw
    go_simp
  try simp only [Act.put]
  refine wpAnyH_done (by kernel_rfl) ?_ _
  show wpList _ _ _ _ _ _
  have z0 := x0.keep hb7' x0.lt
  have z2 := x2.keep hb7' x2.lt
  obtain ⟨q0, q1, q2⟩ := z0.three
  have f2 := z0.frozen 2
  obtain ⟨r0, r1, r2⟩ := z2.three
  have g0 := z2.frozen 0
  have g1 := z2.frozen 1
  have g2 := z2.frozen 2
  have l0 := z0.lt
  have l2 := z2.lt
  have HB7 := Lib.hid (HB.out.trans (hb7'.mono HB.out.size))
  have HC7 := Lib.hid hcl7
  have hg := hb5.size
  have hl3 := x2.lt
  have hg6 := HB.out.size
  clear hb7' hb7 hb5 hbd hcl7 z0 z2 x0 x1 x2 hS HKS hbl c0 c1 c2 d0 d1 d2
  go_wp2_with fail
  refine bodyPost_ret (v := .agg #[.slice As ns cs, .slice Am nm cm, .slice (some ⟨g7, 0, none⟩) (nc + 1) cap7]) (by simp [results, Tryz.results71, go_sem, r0, r1, r2]) rfl ?_
  have hb8 : Below w.heap.size w (w7.setCell ⟨w.heap.size, 2, none⟩ (.slice (some ⟨g7, 0, none⟩) (nc + 1) cap7)) := HB7.out.setCell (by dsimp only; omega) _
  have hbf := below_set3 hb8 (a := w.heap.size + 1 + 1) (by omega) (.slice As ns cs) (.slice Am nm cm) (.slice (some ⟨g7, 0, none⟩) (nc + 1) cap7)
  refine ⟨g7, cap7, rfl, HC7.out _ hbf ?_, hbf⟩
  exact (heap_other3 _ _ _ _ _ _ (by omega)).trans (Below.heap_setCell _ _ _ _ (by dsimp only; omega))
end Go.Proofs.YtmkahbbcagfbhaaGreatDoor
/-
  How great Heads become while a type is checked; what the contracts of package check are given, and tell. No statement is proved here.
-/
namespace Go.Proofs.YtmkahbbcagfbhaaGreatDoor
open Go.ChangeShapes Go.WideShapes Go.ChangeAt Go.RowKit
set_option linter.unusedVariables false
/-- a term that may be, its Heads low -/
structure BdV (B : Int) (t : T) : Prop where
  my : myB t = true
  ok : okT B t
abbrev dlV : Int := 41944088576
abbrev loV : Int := 1099511627776
theorem BdV.mono {B C : Int} {t : T} (h : B ≤ C) (b : BdV B t) : BdV C t := ⟨b.my, okT_mono h t b.ok⟩
theorem BdV.nod {B : Int} {t : T} (b : BdV B t) : nodB t = true := ((myB_iff t).1 b.my).1
theorem dp_memV {t : T} : ∀ {xs : List T}, t ∈ xs → dp t ≤ dpL xs
  | x :: xs, h => by
    rw [dpL]
    rcases List.mem_cons.1 h with rfl | h
    · omega
    · have := dp_memV h; omega
theorem BdV.arg {B k h : Int} {xs : List T} (b : BdV B (.node k h xs)) {x : T} (hx : x ∈ xs) : BdV B x := by
  obtain ⟨h1, h2, h3⟩ := (myB_iff _).1 b.my
  have h4 := b.ok
  rw [okT] at h4
  rw [nd] at h2
  rw [dp] at h3
  have := nd_mem hx
  have := dp_memV hx
  exact ⟨(myB_iff _).2 ⟨(nodV h1).2 x hx, by omega, by omega⟩, okL_mem h4.2 hx⟩
mutual
/-- what is scoped, and not deep, has low Heads -/
theorem sc_ok {B M : Int} : ∀ (t : T) (V : Int), nodB t = true → scC t V M → V + dp t ≤ B → okT B t
  | .node k h xs, V, hn, hs, hb => by
    rw [scC] at hs
    rw [dp] at hb
    rw [okT]
    exact ⟨fun e => ⟨headV hn, by have := hs.1 e; omega⟩, sc_okL k _ xs 0 V (nodV hn).2 hs.2.2 (by omega)⟩
theorem sc_okL {B M : Int} (k : Int) (n : Nat) : ∀ (xs : List T) (i : Nat) (V : Int), (∀ x ∈ xs, nodB x = true) → scCL k n xs i V M → V + 1 + dpL xs ≤ B → okL B xs
  | [], _, _, _, _, _ => by rw [okL]; trivial
  | x :: xs, i, V, hn, hs, hb => by
    rw [scCL] at hs
    rw [dpL] at hb
    rw [okL]
    have hbd : 0 ≤ bd k n i ∧ bd k n i ≤ 1 := by unfold bd; split <;> omega
    exact ⟨sc_ok x _ (hn x (by simp)) hs.1 (by omega), sc_okL k n xs (i + 1) V (fun y hy => hn y (by simp [hy])) hs.2 (by omega)⟩
end
/-- a term whose check is OK has low Heads, in a context of at most so many entries -/
theorem tm_low {W : WV} {m a : T} {cx : List T} (hm : myB m = true) (hc : (cx.length : Int) ≤ 1000000) (h : tmV W m cx a = 0) : okT loV m := by
  have h1 := (myB_iff m).1 hm
  exact sc_ok m _ h1.1 (tm_scoped m cx a h1.1 h) (by have := h1.2.2; unfold loV; omega)
/-- a term that may be; its Heads are low, or there are no metas (nothing is then put for a meta's entries) -/
structure WkV (W : WV) (t : T) : Prop where
  my : myB t = true
  ok : W.ms = [] ∨ okT loV t
theorem WkV.nod {W : WV} {t : T} (b : WkV W t) : nodB t = true := ((myB_iff t).1 b.my).1
theorem WkV.arg {W : WV} {k h : Int} {xs : List T} (b : WkV W (.node k h xs)) {x : T} (hx : x ∈ xs) : WkV W x := by
  obtain ⟨h1, h2, h3⟩ := (myB_iff _).1 b.my
  rw [nd] at h2
  rw [dp] at h3
  have := nd_mem hx
  have := dp_memV hx
  refine ⟨(myB_iff _).2 ⟨(nodV h1).2 x hx, by omega, by omega⟩, b.ok.imp id fun h4 => ?_⟩
  rw [okT] at h4
  exact okL_mem h4.2 hx
theorem BdV.wk {W : WV} {t : T} (b : BdV loV t) : WkV W t := ⟨b.my, .inr b.ok⟩
theorem WkV.bd {W : WV} {t : T} (b : WkV W t) (h : W.ms ≠ []) : BdV loV t := ⟨b.my, b.ok.resolve_left h⟩
theorem BdV.pi {B : Int} {a : T} (b : BdV B a) (hk : kdQ a = 1) : ∃ x y, a = .node 1 0 [x, y] ∧ BdV B x ∧ BdV B y := by
  obtain ⟨k, h, xs⟩ := a
  rw [kdQ] at hk
  subst hk
  obtain ⟨rfl, x, y, rfl, _, _⟩ := piV b.nod
  exact ⟨x, y, rfl, b.arg (by simp), b.arg (by simp)⟩
theorem BdV.lam {B h : Int} {xs : List T} (b : BdV B (.node 3 h xs)) : h = 0 ∧ ∃ x, xs = [x] ∧ BdV B x := by
  obtain ⟨rfl, x, rfl, _⟩ := lamV b.nod
  exact ⟨rfl, x, rfl, b.arg (by simp)⟩
theorem bd_ap {B n : Int} {t : T} {L : List T} (bt : BdV B t) (bl : ∀ x ∈ L, BdV B x) (he : apE t L n = 0) : BdV (B + dlV) (apT t L n) := by
  by_cases hc : (myB t && sbB L n) = true
  · have h1 : apE t L n = anE (apR t L n) := by unfold apE; rw [if_pos hc]
    have h2 : apT t L n = anT (apR t L n) := by unfold apT; rw [if_pos hc]
    rw [h1] at he
    rw [h2]
    have hs : 0 ≤ n ∧ n ≤ 1048576 := by
      rw [Bool.and_eq_true] at hc
      have := hc.2
      unfold sbB at this
      simp only [Bool.and_eq_true, decide_eq_true_eq] at this
      omega
    cases hr : apR t L n with
    | error e =>
      rw [hr] at he
      have hr' : ap fl L n 0 t 0 = .error e := hr
      exact absurd he (ap_err _ _ _ _ _ _ _ hr')
    | ok p =>
      obtain ⟨t', n'⟩ := p
      rw [hr, anE] at he
      by_cases hm : myB t' = true
      · rw [anT, if_pos hm]
        have hg := ap_good (B := B + 1048576) fl L n 0 t 0 (Nat.le_refl _) (by omega) ⟨fun y hy => (bl y hy).my, fun y hy => okT_mono (by unfold btB; omega) _ (bl y hy).ok, hs.1, hs.2⟩ ⟨bt.nod, okT_mono (by unfold btB; omega) _ bt.ok⟩ t' n' hr
        exact ⟨hm, okT_mono (by unfold btB dlV; omega) _ hg.2.2.1.ok⟩
      · rw [if_neg hm] at he; cases he
  · have h1 : apE t L n = 1 := by unfold apE; rw [if_neg hc]
    rw [h1] at he
    cases he
theorem bd_up {B b : Int} {t : T} (bt : BdV B t) (hb : 0 ≤ b) : BdV (B + b) (upT b t 0) := by
  obtain ⟨h1, h2, h3⟩ := (myB_iff _).1 bt.my
  exact ⟨(myB_iff _).2 ⟨nodB_up hb _ _ h1, by rw [nd_up]; exact h2, by rw [dp_up]; exact h3⟩, okT_up hb _ _ bt.ok⟩
/-- what all is checked over -/
structure EnvV (W : WV) (cx : List T) (B : Int) : Prop where
  sg : ∀ t ∈ W.sg, BdV loV t
  ms : ∀ m ∈ W.ms, (∀ e ∈ m.1, BdV loV e) ∧ BdV loV m.2
  cx : ∀ t ∈ cx, BdV B t
  lo : loV ≤ B
theorem EnvV.more {W : WV} {cx : List T} {B : Int} (h : EnvV W cx B) {a : T} (ha : BdV B a) : EnvV W (cx ++ [a]) B :=
  ⟨h.sg, h.ms, fun t ht => by
    rcases List.mem_append.1 ht with ht | ht
    · exact h.cx t ht
    · rw [List.mem_singleton.1 ht]; exact ha, h.lo⟩
theorem EnvV.mono {W : WV} {cx : List T} {B C : Int} (h : EnvV W cx B) (hl : B ≤ C) : EnvV W cx C := ⟨h.sg, h.ms, fun t ht => (h.cx t ht).mono hl, Int.le_trans h.lo hl⟩
/-! ### What is handed to the contracts -/
structure CkV (w : World) (W : WV) (cx : List T) (As : Option Addr) (ns cs : Nat) (Am : Option Addr) (nm cm : Nat) (Ac : Option Addr) (nc cc : Nat) : Prop where
  sg : DL w W.sg As ns cs
  ms : ML w W.ms Am nm cm
  cx : CLV w cx Ac nc cc
theorem CkV.keep {w w' : World} {W : WV} {cx : List T} {As : Option Addr} {ns cs : Nat} {Am : Option Addr} {nm cm : Nat} {Ac : Option Addr} {nc cc : Nat} (h : CkV w W cx As ns cs Am nm cm Ac nc cc) (hb : Below w.heap.size w w') : CkV w' W cx As ns cs Am nm cm Ac nc cc :=
  ⟨h.sg.keep hb, h.ms.keep hb, h.cx.keep hb⟩
abbrev hiV : Int := 281474976710656
/-- the contract of term, for one term -/
def TmC (W : WV) (m : T) : Prop := ∀ (cx : List T) (a : T) (B : Int) (As : Option Addr) (ns cs : Nat) (Am : Option Addr) (nm cm : Nat) (Ac : Option Addr) (nc cc : Nat) (vm va : Value) (w : World),
  EnvV W cx B → WkV W m → BdV B a → B + nd m * dlV ≤ hiV → cx.length + nd m ≤ 1000000 → CkV w W cx As ns cs Am nm cm Ac nc cc → Rd w m vm → Rd w a va →
    Calls Tryz.prog 32 #[.agg #[.slice As ns cs, .slice Am nm cm, .slice Ac nc cc], vm, va] w fun e w' => e = .returned (.int .i64 (tmV W m cx a)) ∧ Below w.heap.size w w'
def erV : Except Int T → Int
  | .error e => e
  | .ok _ => 0
/-- what a spine tells: a term that lies where its type did, or in new blocks -/
def SpE (ok : Nat → Prop) (r : Except Int T) (w : World) (e : Ending) (w' : World) : Prop :=
  ∃ k h A n c, e = .returned (.tuple #[.agg #[.int .i64 k, .int .i64 h, .slice A n c], .int .i64 (erV r)]) ∧ (∀ t, r = .ok t → RdF (fun b => (ok b ∧ b < w.heap.size) ∨ w.heap.size ≤ b) w' t (.agg #[.int .i64 k, .int .i64 h, .slice A n c])) ∧ Below w.heap.size w w'
end Go.Proofs.YtmkahbbcagfbhaaGreatDoor
/-
  Contract of package check's spine, given that of term for what is in it. No statement is proved here.
-/
namespace Go.Proofs.YtmkahbbcagfbhaaGreatDoor
open Go.ChangeShapes Go.WideShapes Go.ChangeAt Go.RowKit
set_option linter.unusedVariables false
abbrev okV (ok : Nat → Prop) (N : Nat) (b : Nat) : Prop := (ok b ∧ b < N) ∨ N + 3 ≤ b
/-- what holds at the head of spine's loop -/
structure SpIV (ok : Nat → Prop) (W : WV) (xs cx : List T) (t0 : T) (B : Int) (As : Option Addr) (ns cs : Nat) (Am : Option Addr) (nm cm : Nat) (Ac : Option Addr) (nc cc : Nat) (w : World) (j : Nat) (wr : World) (t' : T) (B' : Int) (k h : Int) (At : Option Addr) (nt ct : Nat) : Prop where
  cb : Box wr w.heap.size 63 #[.slice As ns cs, .slice Am nm cm, .slice Ac nc cc]
  tb : Box wr (w.heap.size + 1) 36 #[.int .i64 k, .int .i64 h, .slice At nt ct]
  rb : Box wr (w.heap.size + 1 + 1) 36 #[.int .i64 0, .int .i64 0, .slice none 0 0]
  below : Below w.heap.size w wr
  rd : RdF (okV ok w.heap.size) wr t' (.agg #[.int .i64 k, .int .i64 h, .slice At nt ct])
  bd : BdV B' t'
  lo : B ≤ B'
  hi : B' + ndL (xs.drop j) * dlV ≤ hiV
  eq : spV W xs cx t0 = spV W (xs.drop j) cx t'
theorem rdAt_sub {w : World} {b o j : Nat} {t : T} (h : RdAt w (some ⟨b, o, none⟩) j t) : RdAt w (some ⟨b, o + j * 3, none⟩) 0 t := by
  obtain ⟨b', o', k, g, A, n, c, e, c0, c1, c2, hr⟩ := h.full
  cases e
  exact ⟨b, o + j * 3, _, _, _, rfl, by simpa using c0, by simpa using c1, by simpa using c2, hr⟩
theorem lo_of {B : Int} {t : T} (b : BdV B t) (h : B ≤ hiV) : LoT t := okT_mono h t b.ok
theorem rdF_kind {w : World} {t : T} {k h : Int} {A : Option Addr} {n c : Nat} (hr : Rd w t (.agg #[.int .i64 k, .int .i64 h, .slice A n c])) : kdQ t = k ∧ hdQ t = h := by
  obtain ⟨kt, gt, xs⟩ := t
  obtain ⟨Aq, nq, cq, eq, _⟩ := Rd_node.1 hr
  have eq' : k = kt ∧ h = gt ∧ A = Aq ∧ n = nq ∧ c = cq := by simpa using eq
  exact ⟨eq'.1.symm, eq'.2.1.symm⟩
theorem sp_no {W : WV} {x : T} {xs cx : List T} {t : T} (h : kdQ t ≠ 1) : spV W (x :: xs) cx t = .error 3 := by rw [spV, if_neg h]
theorem sp_pi {W : WV} {x : T} {xs cx : List T} {p q : T} : spV W (x :: xs) cx (.node 1 0 [p, q]) = if tmV W x cx p = 0 then (if apE q [x] 0 = 0 then spV W xs cx (apT q [x] 0) else .error (apE q [x] 0)) else .error (tmV W x cx p) := by
  rw [spV, if_pos (show kdQ (.node 1 0 [p, q]) = 1 from rfl)]
  rfl
theorem sp_e1 {W : WV} {x : T} {xs cx : List T} {p q : T} {e : Int} (h : tmV W x cx p = e) (he : e ≠ 0) : spV W (x :: xs) cx (.node 1 0 [p, q]) = .error e := by
  subst h
  rw [sp_pi, if_neg he]
theorem sp_e2 {W : WV} {x : T} {xs cx : List T} {p q : T} {e : Int} (h : tmV W x cx p = 0) (h2 : apE q [x] 0 = e) (he : e ≠ 0) : spV W (x :: xs) cx (.node 1 0 [p, q]) = .error e := by
  subst h2
  rw [sp_pi, if_pos h, if_neg he]
theorem sp_go {W : WV} {x : T} {xs cx : List T} {p q : T} (h : tmV W x cx p = 0) (h2 : apE q [x] 0 = 0) : spV W (x :: xs) cx (.node 1 0 [p, q]) = spV W xs cx (apT q [x] 0) := by
  rw [sp_pi, if_pos h, if_pos h2]
/-- an answer's term, behind three stores -/
theorem spE_put {ok : Nat → Prop} {w wr : World} {r : Except Int T} {t : T} {k h : Int} {A : Option Addr} {n c : Nat} (hr : r = .ok t) (hd : RdF (okV ok w.heap.size) wr t (.agg #[.int .i64 k, .int .i64 h, .slice A n c])) (hb : Below w.heap.size w wr) (u0 u1 u2 : Value) :
    SpE ok r w (.returned (.tuple #[.agg #[.int .i64 k, .int .i64 h, .slice A n c], .int .i64 0])) (((wr.setCell ⟨w.heap.size + 1 + 1, 0, none⟩ u0).setCell ⟨w.heap.size + 1 + 1, 1, none⟩ u1).setCell ⟨w.heap.size + 1 + 1, 2, none⟩ u2) := by
  subst hr
  refine ⟨k, h, A, n, c, rfl, fun t' e => ?_, below_set3 hb (by omega) _ _ _⟩
  cases e
  exact RdF.moveX (fun b hok hl => ⟨by rcases hok with h | h; exact .inl h; exact .inr (by omega), heap_other3 _ _ _ _ _ _ (by rcases hok with h | h <;> omega)⟩) _ _ hd
set_option maxRecDepth 100000 in
set_option maxHeartbeats 16000000 in
theorem vSpineC {ok : Nat → Prop} {W : WV} {xs cx : List T} {t : T} {B B0 : Int} (ih : ∀ x ∈ xs, TmC W x) (E : EnvV W cx B) (hxs : ∀ x ∈ xs, WkV W x) (ht : BdV B0 t) (hB : B ≤ B0) (hsum : B0 + ndL xs * dlV ≤ hiV) (hlen : cx.length + ndL xs ≤ 1000000)
    {As : Option Addr} {ns cs : Nat} {Am : Option Addr} {nm cm : Nat} {Ac : Option Addr} {nc cc : Nat} {A : Option Addr} {n c : Nat} {k h : Int} {At : Option Addr} {nt ct : Nat} (w : World) (hk : CkV w W cx As ns cs Am nm cm Ac nc cc) (hx : CLV w xs A n c) (hv : RdF ok w t (.agg #[.int .i64 k, .int .i64 h, .slice At nt ct])) :
    Calls Tryz.prog 88 #[.agg #[.slice As ns cs, .slice Am nm cm, .slice Ac nc cc], .agg #[.int .i64 k, .int .i64 h, .slice At nt ct], .slice A n c] w (SpE ok (spV W xs cx t) w) := by
  have hcap := hx.cap
  have hle := hx.le
  unfold maxLen at hcap
  obtain ⟨W0, hW⟩ : ∃ W0, ((w.alloc (.cells #[.slice As ns cs, .slice Am nm cm, .slice Ac nc cc] 63)).alloc (.cells #[.int .i64 k, .int .i64 h, .slice At nt ct] 36)).alloc (.cells #[.int .i64 0, .int .i64 0, .slice none 0 0] 36) = W0 := ⟨_, rfl⟩
  have hb : Below w.heap.size w W0 := by rw [← hW]; exact (((Below.refl _ _).alloc (Nat.le_refl _) _).alloc (by simp) _).alloc (by simp; omega) _
  have x0 : Box W0 w.heap.size 63 #[.slice As ns cs, .slice Am nm cm, .slice Ac nc cc] := by rw [← hW]; exact ((Box.new _ _ _).alloc _).alloc _
  have x1 : Box W0 (w.heap.size + 1) 36 #[.int .i64 k, .int .i64 h, .slice At nt ct] := by rw [← hW]; exact ((Box.new (w.alloc _) _ _).at (by simp)).alloc _
  have x2 : Box W0 (w.heap.size + 1 + 1) 36 #[.int .i64 0, .int .i64 0, .slice none 0 0] := by rw [← hW]; exact (Box.new ((w.alloc _).alloc _) _ _).at (by simp)
  have hrd : RdF (okV ok w.heap.size) W0 t (.agg #[.int .i64 k, .int .i64 h, .slice At nt ct]) := RdF.moveX (fun b hb' hl => ⟨.inl ⟨hb', hl⟩, hb.block b hl⟩) _ _ hv
  have HI0 : Hid (SpIV ok W xs cx t B As ns cs Am nm cm Ac nc cc w 0 W0 t B0 k h At nt ct) := Lib.hid ⟨x0, x1, x2, hb, hrd, ht, hB, by rw [List.drop_zero]; exact hsum, by rw [List.drop_zero]⟩
  have HK := Lib.hid hk; clear hk
  have HX := Lib.hid hx; clear hx
  have HIH := Lib.hid ih; clear ih
  have HE := Lib.hid E; clear E
  have HXS := Lib.hid hxs; clear hxs
  have HLN := Lib.hid hlen; clear hlen
  have HW := Lib.hid hW; clear hW hv ht hb x0 x1 x2 hrd hsum hB
  obtain ⟨R, hR⟩ : ∃ R, spV W xs cx t = R := ⟨_, rfl⟩
  rw [hR]
  have HR := Lib.hid hR; clear hR
  go_enter Tryz.func88, Tryz.ntmps88
  go_wp2_with fail
  rw [HW.out]
  clear HW
  go_wp2_with fail
  go_loopw [15] (fun i wr => ∃ (j : Nat) (t' : T) (B' k h : Int) (At : Option Addr) (nt ct : Nat), j ≤ n ∧ i = .int .i64 j ∧ Hid (SpIV ok W xs cx t B As ns cs Am nm cm Ac nc cc w j wr t' B' k h At nt ct)) (fun i _ => n - (Go.RowKit.intOf i).toNat)
  case atStart => exact ⟨0, t, B0, k, h, At, nt, ct, Nat.zero_le _, rfl, HI0⟩
  case round =>
    clear HI0
    obtain ⟨j, t', B', k', h', At', nt', ct', hj, rfl, HI⟩ := hrel
    obtain ⟨t0, t1, t2⟩ := HI.out.tb.three
    by_cases hlt : j < n
    · obtain ⟨x, hxj⟩ := at_of HX.out.len hlt
      have hmem := List.mem_of_getElem? hxj
      obtain ⟨ba, oa, k2, h2, A2, n2, c2', eA, e0, e1, e2, hrx⟩ := ((HX.out.keep HI.out.below).at_ j x hxj).full
      subst eA
      have heq := HI.out.eq
      have hhi := HI.out.hi
      rw [drop_at hxj] at heq hhi
      rw [ndL] at hhi
      have hnl := nd_mem hmem
      have HT := Lib.hid (HIH.out x hmem)
      have HXJ := Lib.hid hxj; clear hxj
      obtain ⟨Wa, hWa⟩ : ∃ Wa, wr.alloc (.cells #[.int .i64 k2, .int .i64 h2, .slice A2 n2 c2'] 36) = Wa := ⟨_, rfl⟩
      have hbA : Below wr.heap.size wr Wa := by rw [← hWa]; exact (Below.refl _ _).alloc (Nat.le_refl _) _
      have xa : Box Wa wr.heap.size 36 #[.int .i64 k2, .int .i64 h2, .slice A2 n2 c2'] := by rw [← hWa]; exact Box.new _ _ _
      have HBA := Lib.hid (HI.out.below.trans (hbA.mono HI.out.below.size))
      have HRX := Lib.hid (Rd.keep hbA _ _ hrx)
      have HBX := Lib.hid (HXS.out x hmem)
      have zc := HI.out.cb.keep hbA HI.out.cb.lt
      have zt := HI.out.tb.keep hbA HI.out.tb.lt
      have zr := HI.out.rb.keep hbA HI.out.rb.lt
      have hrt := RdF.moveX (ok' := okV ok w.heap.size) (fun b hok hl => ⟨hok, hbA.block b hl⟩) _ _ HI.out.rd
      have hi0 : (0 : Int) ≤ j := by omega
      have hi1 : (j : Int) < n := by omega
      have hkd := (rdF_kind (RdF.rd _ _ hrt)).1
      have HEQ := Lib.hid (HR.out.symm.trans heq)
      have lr := HI.out.rb.lt
      have HRT := Lib.hid hrt
      have HHI := Lib.hid hhi
      have HNL := Lib.hid hnl
      clear hrx heq hmem hrt hhi hnl
      obtain ⟨t0', t1', t2'⟩ := zt.three
      by_cases hk1 : k' = 1
      · subst hk1
        go_wp2_with fail
        clear e0 e1 e2
        obtain ⟨p, q, rfl, hbp, hbq⟩ := HI.out.bd.pi hkd
        obtain ⟨bb, ob, cb, ev, hc2, hcm2, ⟨kp, hp, Ap, np, cp, p0, p1, p2, hrp⟩, ⟨kq, hq, Aq, nq, cq, q0, q1, q2, hrq⟩⟩ := rd_pi (RdF.rd _ _ HRT.out)
        have ev' : h' = 0 ∧ At' = some ⟨bb, ob, none⟩ ∧ nt' = 2 ∧ ct' = cb := by simpa using ev
        obtain ⟨rfl, rfl, rfl, rfl⟩ := ev'
        unfold maxLen at hcm2
        have HBP := Lib.hid hbp
        have HBQ := Lib.hid hbq
        have HRQ := Lib.hid hrq
        have HTC := Lib.hid (fun W' (h' : Below Wa.heap.size Wa W') => HT.out cx p B' As ns cs Am nm cm Ac nc cc _ _ W' (HE.out.mono HI.out.lo) HBX.out HBP.out (by have := HHI.out; unfold dlV at *; omega) (by have := HLN.out; have := HNL.out; omega) (HK.out.keep (HBA.out.trans (h'.mono HBA.out.size))) (Rd.keep h' _ _ HRX.out) (Rd.keep h' _ _ hrp))
        obtain ⟨e1, he1⟩ : ∃ e, tmV W x cx p = e := ⟨_, rfl⟩
        rw [he1] at HTC
        have HE1 := Lib.hid he1
        obtain ⟨s0, s1, s2⟩ := zc.three
        obtain ⟨a0, a1, a2⟩ := xa.three
        have v0 := Past.cell s0
        have v1 := Past.cell s1
        have v2 := Past.cell s2
        have v3 := Past.cell a0
        have v4 := Past.cell a1
        have v5 := Past.cell a2
        have v6 := Past.cell t2'
        have v7 := Past.cell p0
        have v8 := Past.cell p1
        have v9 := Past.cell p2
        clear ev hbp hbq hrp hrq he1 s0 s1 s2 a0 a1 a2 t0' t1' t2' p0 p1 p2 t0 t1 t2 hkd
        have HQC := Lib.hid (And.intro q0 (And.intro q1 q2))
        clear q0 q1 q2
        have HZ := Lib.hid (And.intro zc (And.intro zt zr))
        clear zc zt zr xa
        go_wp2_with fail
        refine wp_region_past (by kernel_rfl) (by kernel_rfl) ?_
        repeat (go_big_quiet_step ((exact calls_past (HTC.out _ (Past.h _)))))
        refine wpQuiet_nil ?_
        rintro _ ⟨z1, rfl⟩
        obtain ⟨W4, hb4⟩ := z1
        dsimp only
        clear v0 v1 v2 v3 v4 v5 v6 v7 v8 v9 HTC
        have zc := HZ.out.1.keep hb4 HZ.out.1.lt
        have zt := HZ.out.2.1.keep hb4 HZ.out.2.1.lt
        have zr := HZ.out.2.2.keep hb4 HZ.out.2.2.lt
        have HB4 := Lib.hid (HBA.out.trans (hb4.mono HBA.out.size))
        have q0 := (hb4.cell (cell_lt HQC.out.1)).trans HQC.out.1
        have q1 := (hb4.cell (cell_lt HQC.out.2.1)).trans HQC.out.2.1
        have q2 := (hb4.cell (cell_lt HQC.out.2.2)).trans HQC.out.2.2
        have HRQ4 := Lib.hid (Rd.keep hb4 _ _ HRQ.out)
        have HRX4 := Lib.hid (Rd.keep hb4 _ _ HRX.out)
        obtain ⟨r0, r1, r2⟩ := zr.three
        have f0 := zr.frozen 0
        have f1 := zr.frozen 1
        have f2 := zr.frozen 2
        have lz := zr.lt
        clear hb4 HZ HRQ HRX HQC
        by_cases hz : e1 = 0
        · subst hz
          replace HBX := Lib.hid (⟨HBX.out.my, tm_low HBX.out.my (by have := HLN.out; omega) HE1.out⟩ : BdV loV x)
          go_wp2_with fail
          obtain ⟨e2, he2⟩ : ∃ e, apE q [x] 0 = e := ⟨_, rfl⟩
          have HE2 := Lib.hid he2
          have hBh : B' ≤ hiV := by have := HHI.out; unfold dlV hiV at *; omega
          have HAP : Hid (∀ W' : World, Below W4.heap.size W4 W' → Calls Tryz.prog 92 #[.agg #[.int .i64 kq, .int .i64 hq, .slice Aq nq cq], .agg #[.slice (some ⟨ba, oa + j * 3, none⟩) 1 (c - j), .int .i64 0]] W' (TEnd (apT q [x] 0) e2 W')) := Lib.hid fun W' h' => by
            rw [← he2]
            exact ApplyC (Rd.keep h' _ _ HRQ4.out) rfl (by omega) (by unfold maxLen; omega) (fun i u hu => by
              match i, hu with
              | 0, hu =>
                cases hu
                exact rdAt_sub (RdAt.keep ((HB4.out.trans (h'.mono HB4.out.size))) (HX.out.at_ j x HXJ.out))
              | i + 1, hu => simp at hu) (fun _ => lo_of HBQ.out hBh) (fun y hy _ => by
              rw [List.mem_singleton.1 hy]
              exact lo_of HBX.out (by have := HE.out.lo; have := HI.out.lo; unfold hiV loV at *; omega))
          obtain ⟨b0, b1, b2⟩ := zt.three
          have hw1 : IntKind.i64.wrap ((j : Int) + 1) = (j : Int) + 1 := by rw [wrapEq, wrap_small (by omega) (by omega)]
          have hj2 : (0 : Int) ≤ (j : Int) + 1 := by omega
          have hj3 : (j : Int) + 1 ≤ (c : Int) := by omega
          have hcj : ¬ c = j := by omega
          clear he2
          have HKS : Hid (∀ w' : World, Below W4.heap.size W4 w' → (fun w' => w'.cell? ⟨w.heap.size + 1, 2, none⟩ = some (.slice (some ⟨bb, ob, none⟩) 2 ct') ∧ w'.cell? ⟨bb, ob + 3, none⟩ = some (.int .i64 kq) ∧ w'.cell? ⟨bb, ob + 4, none⟩ = some (.int .i64 hq) ∧ w'.cell? ⟨bb, ob + 5, none⟩ = some (.slice Aq nq cq)) w') := Lib.hid fun w' h => ⟨(h.cell (cell_lt b2)).trans b2, (h.cell (cell_lt q0)).trans q0, (h.cell (cell_lt q1)).trans q1, (h.cell (cell_lt q2)).trans q2⟩
          have hbd : Below W4.heap.size W4 W4.drew := (Below.refl _ W4).drew
          refine wp_region_held_drew (S := fun w' => w'.cell? ⟨w.heap.size + 1, 2, none⟩ = some (.slice (some ⟨bb, ob, none⟩) 2 ct') ∧ w'.cell? ⟨bb, ob + 3, none⟩ = some (.int .i64 kq) ∧ w'.cell? ⟨bb, ob + 4, none⟩ = some (.int .i64 hq) ∧ w'.cell? ⟨bb, ob + 5, none⟩ = some (.slice Aq nq cq)) (by kernel_rfl) (HKS.out _ hbd) (fun hS => ?_)
          simp only [List.size_toArray, List.length_cons, List.length_nil, Nat.reduceAdd]
          refine wpAnyH_take (i := 0) (v := .pointer (some ⟨w.heap.size + 1, 2, none⟩)) rfl (by kernel_rfl) (by kernel_rfl) (by kernel_rfl) (fun _ _ _ h => h) (Or.inl ⟨by rfl, ?_⟩) hS ?_
          · intro w' hSw
            obtain ⟨s0, s1, s2, s3⟩ := hSw
            go_simp
          try simp only [Act.put, List.setIfInBounds_toArray]
          refine wpAnyH_take (i := 1) (v := .slice (some ⟨bb, ob, none⟩) 2 ct') rfl (by kernel_rfl) (by kernel_rfl) (by kernel_rfl) (fun _ _ _ h => h) (Or.inl ⟨by rfl, ?_⟩) hS ?_
          · intro w' hSw
            obtain ⟨s0, s1, s2, s3⟩ := hSw
            go_simp
          try simp only [Act.put]
          refine wpAnyH_take (i := 2) (v := .pointer (some ⟨bb, ob + 3, none⟩)) rfl (by kernel_rfl) (by kernel_rfl) (by kernel_rfl) (fun _ _ _ h => h) (Or.inl ⟨by rfl, ?_⟩) hS ?_
          · intro w' hSw
            obtain ⟨s0, s1, s2, s3⟩ := hSw
            go_simp
          try simp only [Act.put]
          refine wpAnyH_take (i := 3) (v := .agg #[.int .i64 kq, .int .i64 hq, .slice Aq nq cq]) rfl (by kernel_rfl) (by kernel_rfl) (by kernel_rfl) (fun _ _ _ h => h) (Or.inl ⟨by rfl, ?_⟩) hS ?_
          · intro w' hSw
            obtain ⟨s0, s1, s2, s3⟩ := hSw
            go_simp
          try simp only [Act.put]
          refine wpAnyH_take (i := 4) (v := .slice (some ⟨ba, oa, none⟩) n c) rfl (by kernel_rfl) (by kernel_rfl) (by kernel_rfl) (fun _ _ _ h => h) (Or.inl ⟨by rfl, ?_⟩) hS ?_
          · intro w' hSw
            obtain ⟨s0, s1, s2, s3⟩ := hSw
            go_simp
          try simp only [Act.put]
          refine wpAnyH_take (i := 5) (v := .int .i64 j) rfl (by kernel_rfl) (by kernel_rfl) (by kernel_rfl) (fun _ _ _ h => h) (Or.inl ⟨by rfl, ?_⟩) hS ?_
          · intro w' hSw
            obtain ⟨s0, s1, s2, s3⟩ := hSw
            go_simp
          try simp only [Act.put]
          refine wpAnyH_take (i := 6) (v := .int .i64 j) rfl (by kernel_rfl) (by kernel_rfl) (by kernel_rfl) (fun _ _ _ h => h) (Or.inl ⟨by rfl, ?_⟩) hS ?_
          · intro w' hSw
            obtain ⟨s0, s1, s2, s3⟩ := hSw
            go_simp
          try simp only [Act.put]
          refine wpAnyH_take (i := 7) (v := .int .i64 (j + 1)) rfl (by kernel_rfl) (by kernel_rfl) (by kernel_rfl) (fun _ _ _ h => h) (Or.inl ⟨by rfl, ?_⟩) hS ?_
          · intro w' hSw
            obtain ⟨s0, s1, s2, s3⟩ := hSw
            go_simp
          try simp only [Act.put]
          refine wpAnyH_take (i := 8) (v := .slice (some ⟨ba, oa + j * 3, none⟩) 1 (c - j)) rfl (by kernel_rfl) (by kernel_rfl) (by kernel_rfl) (fun _ _ _ h => h) (Or.inl ⟨by rfl, ?_⟩) hS ?_
          · intro w' hSw
            obtain ⟨s0, s1, s2, s3⟩ := hSw
            go_simp
          try simp only [Act.put]
          refine wpAnyH_take (i := 9) (v := .agg #[.slice (some ⟨ba, oa + j * 3, none⟩) 1 (c - j), .int .i64 0]) rfl (by kernel_rfl) (by kernel_rfl) (by kernel_rfl) (fun _ _ _ h => h) (Or.inl ⟨by rfl, ?_⟩) hS ?_
          · intro w' hSw
            obtain ⟨s0, s1, s2, s3⟩ := hSw
            go_simp
          try simp only [Act.put]
          refine wpAnyH_ready (rs := [10, 14]) (by kernel_rfl) (by simp) ?_
          refine AllReadyH.cons rfl (fun KN hK => ?_) (AllReadyH.cons rfl (fun KN hK => ?_) AllReadyH.nil)
          · go_simp
            refine (HAP.out _ hbd).mono ?_
            rintro e w8 ⟨k3, h3, A3, n3, c3, rfl, hrd, hb8⟩
            have hb8' : Below W4.heap.size W4 w8 := hbd.trans (hb8.mono hbd.size)
            have hrd8 : RdF (fun b => W4.heap.size ≤ b) w8 (apT q [x] 0) (.agg #[.int .i64 k3, .int .i64 h3, .slice A3 n3 c3]) := hrd
            refine hK.out _ _ (HKS.out _ hb8') (fun hS => ?_)
            clear hK KN
            try simp only [Act.put, List.setIfInBounds_toArray, List.set_cons_zero, List.set_cons_succ]
            clear hb8 hrd
            refine wpAnyH_take (i := 11) (v := .tuple #[.agg #[.int .i64 k3, .int .i64 h3, .slice A3 n3 c3], .int .i64 e2]) rfl (by kernel_rfl) (by kernel_rfl) (by kernel_rfl) (fun _ _ _ h => h) (Or.inl ⟨by rfl, ?_⟩) hS ?_
            · intro w' hSw
              obtain ⟨s0, s1, s2, s3⟩ := hSw
              go_simp
            try simp only [Act.put, List.setIfInBounds_toArray]
            refine wpAnyH_take (i := 12) (v := .agg #[.int .i64 k3, .int .i64 h3, .slice A3 n3 c3]) rfl (by kernel_rfl) (by kernel_rfl) (by kernel_rfl) (fun _ _ _ h => h) (Or.inl ⟨by rfl, ?_⟩) hS ?_
            · intro w' hSw
              obtain ⟨s0, s1, s2, s3⟩ := hSw
              go_simp
            try simp only [Act.put]
            refine wpAnyH_take (i := 13) (v := .int .i64 e2) rfl (by kernel_rfl) (by kernel_rfl) (by kernel_rfl) (fun _ _ _ h => h) (Or.inl ⟨by rfl, ?_⟩) hS ?_
            · intro w' hSw
              obtain ⟨s0, s1, s2, s3⟩ := hSw
              go_simp
            try simp only [Act.put]
            refine wpAnyH_ready (rs := [14]) (by kernel_rfl) (by simp) ?_
            refine AllReadyH.cons rfl (fun KN hK => ?_) AllReadyH.nil
            go_simp
            have hb9 : Below W4.heap.size W4 (w8.alloc (.cells #[.int .i64 0, .int .i64 0, .slice none 0 0] 36)) := hb8'.alloc hb8'.size _
            refine hK.out _ _ (HKS.out _ hb9) (fun hS => ?_)
            clear hK KN
            try simp only [Act.put, List.setIfInBounds_toArray, List.set_cons_zero, List.set_cons_succ]
            have xz : Box (w8.alloc (.cells #[.int .i64 0, .int .i64 0, .slice none 0 0] 36)) w8.heap.size 36 #[.int .i64 0, .int .i64 0, .slice none 0 0] := Box.new _ _ _
            have hrd9 : RdF (fun b => W4.heap.size ≤ b ∧ b ≠ w8.heap.size) (w8.alloc (.cells #[.int .i64 0, .int .i64 0, .slice none 0 0] 36)) (apT q [x] 0) (.agg #[.int .i64 k3, .int .i64 h3, .slice A3 n3 c3]) := RdF.moveX (fun b hok hl => ⟨⟨hok, by omega⟩, Below.heap_alloc _ _ _ hl⟩) _ _ hrd8
            have hpl : W4.heap.size ≤ w8.heap.size := hb8'.size
            clear hrd8 hb8'
            generalize w8.alloc (.cells #[.int .i64 0, .int .i64 0, .slice none 0 0] 36) = w9 at *
            generalize w8.heap.size = pB at *
            obtain ⟨z0, z1, z2⟩ := xz.three
            have u0 := xz.frozen 0
            have u1 := xz.frozen 1
            have u2 := xz.frozen 2
            refine wpAnyH_ready (rs := [15]) (by kernel_rfl) (by simp) ?_
            refine AllReadyH.cons rfl (fun KN hK => ?_) AllReadyH.nil
            go_simp
            have hbF := below_set3 hb9 (a := pB) hpl (.int .i64 k3) (.int .i64 h3) (.slice A3 n3 c3)
            refine hK.out _ _ (HKS.out _ hbF) (fun hS => ?_)
            clear hK KN
            try simp only [Act.put, List.setIfInBounds_toArray, List.set_cons_zero, List.set_cons_succ]
            have xB := xz.put3 (.int .i64 k3) (.int .i64 h3) (.slice A3 n3 c3)
            have hrdF : RdF (fun b => W4.heap.size ≤ b ∧ b ≠ pB) (((w9.setCell ⟨pB, 0, none⟩ (.int .i64 k3)).setCell ⟨pB, 1, none⟩ (.int .i64 h3)).setCell ⟨pB, 2, none⟩ (.slice A3 n3 c3)) (apT q [x] 0) (.agg #[.int .i64 k3, .int .i64 h3, .slice A3 n3 c3]) := RdF.moveX (fun b hok hl => ⟨hok, heap_other3 _ _ _ _ _ _ hok.2⟩) _ _ hrd9
            clear hrd9 xz hb9 z0 z1 z2 u0 u1 u2
            generalize ((w9.setCell ⟨pB, 0, none⟩ (.int .i64 k3)).setCell ⟨pB, 1, none⟩ (.int .i64 h3)).setCell ⟨pB, 2, none⟩ (.slice A3 n3 c3) = Wf at *
            refine wpAnyH_take (i := 16) (v := .int .i64 e2) rfl (by kernel_rfl) (by kernel_rfl) (by kernel_rfl) (fun _ _ _ h => h) (Or.inl ⟨by rfl, ?_⟩) hS ?_
            · intro w' hSw
              obtain ⟨s0, s1, s2, s3⟩ := hSw
              go_simp
            try simp only [Act.put, List.setIfInBounds_toArray]
            refine wpAnyH_done (by kernel_rfl) ?_ _
            try simp only [List.setIfInBounds_toArray]
            have HBF := Lib.hid (HB4.out.trans (hbF.mono HB4.out.size))
            have yc := zc.keep hbF zc.lt
            have yt := zt.keep hbF zt.lt
            have yr := zr.keep hbF zr.lt
            have hpB : w.heap.size + 1 + 1 < pB := by omega
            have hl4 := zr.lt
            clear hS HKS hbd HAP zc zt zr q0 q1 q2 r0 r1 r2 f0 f1 f2 b0 b1 b2 lz hbF hpl
            obtain ⟨y0, y1, y2⟩ := xB.three
            obtain ⟨g0, g1, g2⟩ := yt.three
            obtain ⟨r0, r1, r2⟩ := yr.three
            have f0 := yr.frozen 0
            have f1 := yr.frozen 1
            have f2 := yr.frozen 2
            have i0 := yt.frozen 0
            have i1 := yt.frozen 1
            have i2 := yt.frozen 2
            have lz := yr.lt
            by_cases hz2 : e2 = 0
            · subst hz2
              have hbr : BdV (B' + dlV) (apT q [x] 0) := bd_ap HBQ.out (fun y hy => by rw [List.mem_singleton.1 hy]; exact HBX.out.mono (by have := HE.out.lo; have := HI.out.lo; omega)) HE2.out
              have HBR := Lib.hid hbr; clear hbr
              go_wp2_with fail
              go_roundw
              case measure => simp [Go.RowKit.intOf]; omega
              case rel =>
                refine ⟨j + 1, apT q [x] 0, B' + dlV, k3, h3, A3, n3, c3, by omega, by go_num, Lib.hid ⟨yc.other3 (by omega) _ _ _, yt.put3 _ _ _, yr.other3 (by omega) _ _ _, below_set3 HBF.out (by omega) _ _ _, ?_, HBR.out, ?_, ?_, ?_⟩⟩
                · exact RdF.moveX (fun b hok hl => ⟨.inr (by omega), heap_other3 _ _ _ _ _ _ (by omega)⟩) _ _ hrdF
                · have := HI.out.lo; unfold dlV; omega
                · have := HHI.out; have h1 : 1 ≤ nd x := nd_pos x; unfold dlV hiV at *; omega
                · rw [HI.out.eq, drop_at HXJ.out, sp_go HE1.out HE2.out]
            · have hd2 : (e2 != 0) = true := by simpa using hz2
              have HE3 := Lib.hid (HEQ.out.trans (sp_e2 HE1.out HE2.out hz2))
              go_wp2_with fail
              refine bodyPost_ret (v := .tuple #[.agg #[.int .i64 0, .int .i64 0, .slice none 0 0], .int .i64 e2]) (by simp [results, Tryz.results88, go_sem, r0, r1, r2]) rfl ?_
              rw [HE3.out]
              exact ⟨_, _, _, _, _, rfl, (fun t e => nomatch e), below_set3 HBF.out (by omega) _ _ _⟩
          · go_simp
            have hb7 : Below W4.heap.size W4 (W4.alloc (.cells #[.int .i64 0, .int .i64 0, .slice none 0 0] 36)).drew := ((Below.refl _ W4).alloc (Nat.le_refl _) _).drew
            refine hK.out _ _ (HKS.out _ hb7) (fun hS => ?_)
            clear hK KN
            try simp only [Act.put, List.setIfInBounds_toArray, List.set_cons_zero, List.set_cons_succ]
            have xz : Box (W4.alloc (.cells #[.int .i64 0, .int .i64 0, .slice none 0 0] 36)).drew W4.heap.size 36 #[.int .i64 0, .int .i64 0, .slice none 0 0] := Box.drewI (Box.new _ _ _)
            obtain ⟨pB, hpB0⟩ : ∃ p, W4.heap.size = p := ⟨_, rfl⟩
            have hpl : W4.heap.size ≤ pB := by omega
            have hplt : pB < (W4.alloc (.cells #[.int .i64 0, .int .i64 0, .slice none 0 0] 36)).drew.heap.size := by rw [← hpB0]; exact xz.lt
            rw [hpB0] at xz
            try rw [hpB0]
            have hpB1 := Lib.hid hpB0
            clear hpB0
            generalize (W4.alloc (.cells #[.int .i64 0, .int .i64 0, .slice none 0 0] 36)).drew = w7 at *
            refine wpAnyH_ready (rs := [10]) (by kernel_rfl) (by simp) ?_
            refine AllReadyH.cons rfl (fun KN hK => ?_) AllReadyH.nil
            go_simp
            refine (HAP.out _ hb7).mono ?_
            rintro e w8 ⟨k3, h3, A3, n3, c3, rfl, hrd, hb8⟩
            have hb8' : Below W4.heap.size W4 w8 := hb7.trans (hb8.mono hb7.size)
            have hrd8 : RdF (fun b => W4.heap.size ≤ b ∧ b ≠ pB) w8 (apT q [x] 0) (.agg #[.int .i64 k3, .int .i64 h3, .slice A3 n3 c3]) := RdF.moveX (fun b hok hl => ⟨⟨by have := hb7.size; omega, by omega⟩, rfl⟩) _ _ hrd
            have xz8 := xz.keep hb8 xz.lt
            refine hK.out _ _ (HKS.out _ hb8') (fun hS => ?_)
            clear hK KN
            try simp only [Act.put, List.setIfInBounds_toArray, List.set_cons_zero, List.set_cons_succ]
            clear hb8 hrd xz hb7
            refine wpAnyH_take (i := 11) (v := .tuple #[.agg #[.int .i64 k3, .int .i64 h3, .slice A3 n3 c3], .int .i64 e2]) rfl (by kernel_rfl) (by kernel_rfl) (by kernel_rfl) (fun _ _ _ h => h) (Or.inl ⟨by rfl, ?_⟩) hS ?_
            · intro w' hSw
              obtain ⟨s0, s1, s2, s3⟩ := hSw
              go_simp
            try simp only [Act.put, List.setIfInBounds_toArray]
            refine wpAnyH_take (i := 12) (v := .agg #[.int .i64 k3, .int .i64 h3, .slice A3 n3 c3]) rfl (by kernel_rfl) (by kernel_rfl) (by kernel_rfl) (fun _ _ _ h => h) (Or.inl ⟨by rfl, ?_⟩) hS ?_
            · intro w' hSw
              obtain ⟨s0, s1, s2, s3⟩ := hSw
              go_simp
            try simp only [Act.put]
            refine wpAnyH_take (i := 13) (v := .int .i64 e2) rfl (by kernel_rfl) (by kernel_rfl) (by kernel_rfl) (fun _ _ _ h => h) (Or.inl ⟨by rfl, ?_⟩) hS ?_
            · intro w' hSw
              obtain ⟨s0, s1, s2, s3⟩ := hSw
              go_simp
            try simp only [Act.put]
            obtain ⟨z0, z1, z2⟩ := xz8.three
            have u0 := xz8.frozen 0
            have u1 := xz8.frozen 1
            have u2 := xz8.frozen 2
            refine wpAnyH_ready (rs := [15]) (by kernel_rfl) (by simp) ?_
            refine AllReadyH.cons rfl (fun KN hK => ?_) AllReadyH.nil
            go_simp
            have hbF := below_set3 hb8' (a := pB) hpl (.int .i64 k3) (.int .i64 h3) (.slice A3 n3 c3)
            refine hK.out _ _ (HKS.out _ hbF) (fun hS => ?_)
            clear hK KN
            try simp only [Act.put, List.setIfInBounds_toArray, List.set_cons_zero, List.set_cons_succ]
            have xB := xz8.put3 (.int .i64 k3) (.int .i64 h3) (.slice A3 n3 c3)
            have hrdF : RdF (fun b => W4.heap.size ≤ b ∧ b ≠ pB) (((w8.setCell ⟨pB, 0, none⟩ (.int .i64 k3)).setCell ⟨pB, 1, none⟩ (.int .i64 h3)).setCell ⟨pB, 2, none⟩ (.slice A3 n3 c3)) (apT q [x] 0) (.agg #[.int .i64 k3, .int .i64 h3, .slice A3 n3 c3]) := RdF.moveX (fun b hok hl => ⟨hok, heap_other3 _ _ _ _ _ _ hok.2⟩) _ _ hrd8
            clear hrd8 xz8 hb8' z0 z1 z2 u0 u1 u2 hplt hpB1
            generalize ((w8.setCell ⟨pB, 0, none⟩ (.int .i64 k3)).setCell ⟨pB, 1, none⟩ (.int .i64 h3)).setCell ⟨pB, 2, none⟩ (.slice A3 n3 c3) = Wf at *
            refine wpAnyH_take (i := 16) (v := .int .i64 e2) rfl (by kernel_rfl) (by kernel_rfl) (by kernel_rfl) (fun _ _ _ h => h) (Or.inl ⟨by rfl, ?_⟩) hS ?_
            · intro w' hSw
              obtain ⟨s0, s1, s2, s3⟩ := hSw
              go_simp
            try simp only [Act.put, List.setIfInBounds_toArray]
            refine wpAnyH_done (by kernel_rfl) ?_ _
            try simp only [List.setIfInBounds_toArray]
            have HBF := Lib.hid (HB4.out.trans (hbF.mono HB4.out.size))
            have yc := zc.keep hbF zc.lt
            have yt := zt.keep hbF zt.lt
            have yr := zr.keep hbF zr.lt
            have hpB : w.heap.size + 1 + 1 < pB := by omega
            have hl4 := zr.lt
            clear hS HKS hbd HAP zc zt zr q0 q1 q2 r0 r1 r2 f0 f1 f2 b0 b1 b2 lz hbF hpl
            obtain ⟨y0, y1, y2⟩ := xB.three
            obtain ⟨g0, g1, g2⟩ := yt.three
            obtain ⟨r0, r1, r2⟩ := yr.three
            have f0 := yr.frozen 0
            have f1 := yr.frozen 1
            have f2 := yr.frozen 2
            have i0 := yt.frozen 0
            have i1 := yt.frozen 1
            have i2 := yt.frozen 2
            have lz := yr.lt
            by_cases hz2 : e2 = 0
            · subst hz2
              have hbr : BdV (B' + dlV) (apT q [x] 0) := bd_ap HBQ.out (fun y hy => by rw [List.mem_singleton.1 hy]; exact HBX.out.mono (by have := HE.out.lo; have := HI.out.lo; omega)) HE2.out
              have HBR := Lib.hid hbr; clear hbr
              go_wp2_with fail
              go_roundw
              case measure => simp [Go.RowKit.intOf]; omega
              case rel =>
                refine ⟨j + 1, apT q [x] 0, B' + dlV, k3, h3, A3, n3, c3, by omega, by go_num, Lib.hid ⟨yc.other3 (by omega) _ _ _, yt.put3 _ _ _, yr.other3 (by omega) _ _ _, below_set3 HBF.out (by omega) _ _ _, ?_, HBR.out, ?_, ?_, ?_⟩⟩
                · exact RdF.moveX (fun b hok hl => ⟨.inr (by omega), heap_other3 _ _ _ _ _ _ (by omega)⟩) _ _ hrdF
                · have := HI.out.lo; unfold dlV; omega
                · have := HHI.out; have h1 : 1 ≤ nd x := nd_pos x; unfold dlV hiV at *; omega
                · rw [HI.out.eq, drop_at HXJ.out, sp_go HE1.out HE2.out]
            · have hd2 : (e2 != 0) = true := by simpa using hz2
              have HE3 := Lib.hid (HEQ.out.trans (sp_e2 HE1.out HE2.out hz2))
              go_wp2_with fail
              refine bodyPost_ret (v := .tuple #[.agg #[.int .i64 0, .int .i64 0, .slice none 0 0], .int .i64 e2]) (by simp [results, Tryz.results88, go_sem, r0, r1, r2]) rfl ?_
              rw [HE3.out]
              exact ⟨_, _, _, _, _, rfl, (fun t e => nomatch e), below_set3 HBF.out (by omega) _ _ _⟩
        · have hd : (e1 != 0) = true := by simpa using hz
          replace HEQ := Lib.hid (HEQ.out.trans (sp_e1 HE1.out hz))
          go_wp2_with fail
          refine bodyPost_ret (v := .tuple #[.agg #[.int .i64 0, .int .i64 0, .slice none 0 0], .int .i64 e1]) (by simp [results, Tryz.results88, go_sem, r0, r1, r2]) rfl ?_
          rw [HEQ.out]
          exact ⟨_, _, _, _, _, rfl, (fun t e => nomatch e), below_set3 HB4.out (by omega) _ _ _⟩
      · have hd : (k' != 1) = true := by simpa using hk1
        replace HEQ := Lib.hid (HEQ.out.trans (sp_no (by rw [hkd]; exact hk1)))
        obtain ⟨r0, r1, r2⟩ := zr.three
        have f0 := zr.frozen 0
        have f1 := zr.frozen 1
        have f2 := zr.frozen 2
        have lz := zr.lt
        go_wp2_with fail
        refine bodyPost_ret (v := .tuple #[.agg #[.int .i64 0, .int .i64 0, .slice none 0 0], .int .i64 3]) (by simp [results, Tryz.results88, go_sem, r0, r1, r2]) rfl ?_
        rw [HEQ.out]
        exact ⟨_, _, _, _, _, rfl, (fun t e => nomatch e), below_set3 HBA.out (by omega) _ _ _⟩
    · obtain rfl : j = n := by omega
      have heq := HI.out.eq
      rw [drop_all HX.out.len (Nat.le_refl _), spV] at heq
      have HEQ := Lib.hid (HR.out.symm.trans heq); clear heq
      obtain ⟨r0, r1, r2⟩ := HI.out.rb.three
      have f0 := HI.out.rb.frozen 0
      have f1 := HI.out.rb.frozen 1
      have f2 := HI.out.rb.frozen 2
      have lz := HI.out.rb.lt
      go_wp2_with fail
      refine bodyPost_ret (v := .tuple #[.agg #[.int .i64 k', .int .i64 h', .slice At' nt' ct'], .int .i64 0]) (by simp [results, Tryz.results88, go_sem, r0, r1, r2]) rfl ?_
      exact spE_put HEQ.out HI.out.rd HI.out.below _ _ _
end Go.Proofs.YtmkahbbcagfbhaaGreatDoor
/-
  Contracts of package check's variable and constant, given that of term for what is in a node. No statement is proved here.
-/
namespace Go.Proofs.YtmkahbbcagfbhaaGreatDoor
open Go.ChangeShapes Go.WideShapes Go.ChangeAt Go.RowKit
set_option linter.unusedVariables false
/-- the contract of what a head comes to -/
def HdC (f : FuncId) (W : WV) (k h : Int) (xs : List T) : Prop := ∀ (cx : List T) (B : Int) (As : Option Addr) (ns cs : Nat) (Am : Option Addr) (nm cm : Nat) (Ac : Option Addr) (nc cc : Nat) (A : Option Addr) (n c : Nat) (w0 w : World),
  EnvV W cx B → WkV W (.node k h xs) → B + nd (.node k h xs) * dlV ≤ hiV → cx.length + nd (.node k h xs) ≤ 1000000 → Below w0.heap.size w0 w → CkV w0 W cx As ns cs Am nm cm Ac nc cc → Rd w0 (.node k h xs) (.agg #[.int .i64 k, .int .i64 h, .slice A n c]) →
    Calls Tryz.prog f #[.agg #[.slice As ns cs, .slice Am nm cm, .slice Ac nc cc], .agg #[.int .i64 k, .int .i64 h, .slice A n c]] w (SpE (fun b => b < w0.heap.size) (cmV W cx (.node k h xs)) w)
theorem far3V (w : World) (p b i : Nat) (u0 u1 : Value) {u2 : Value} (h : b ≠ p) : (((w.setCell ⟨p, 0, none⟩ u0).setCell ⟨p, 1, none⟩ u1).setCell ⟨p, 2, none⟩ u2).cell? ⟨b, i, none⟩ = w.cell? ⟨b, i, none⟩ :=
  World.cell?_of_block (heap_other3 _ _ _ _ _ _ h)
/-- an answer's term, behind three stores into a block ahead of those that are new -/
theorem spE_moved {ok : Nat → Prop} {w w' : World} {p : Nat} {r : Except Int T} {k h : Int} {A : Option Addr} {n c : Nat} {m : Nat} (hr : ∀ t, r = .ok t → RdF (fun b => (ok b ∧ b < w.heap.size) ∨ m ≤ b) w' t (.agg #[.int .i64 k, .int .i64 h, .slice A n c])) (hb : Below w.heap.size w w') (hp : w.heap.size ≤ p) (hm : p < m) (u0 u1 u2 : Value) (er : Int) (he : er = erV r) :
    SpE ok r w (.returned (.tuple #[.agg #[.int .i64 k, .int .i64 h, .slice A n c], .int .i64 er])) (((w'.setCell ⟨p, 0, none⟩ u0).setCell ⟨p, 1, none⟩ u1).setCell ⟨p, 2, none⟩ u2) := by
  subst he
  refine ⟨k, h, A, n, c, rfl, fun t e => ?_, below_set3 hb hp _ _ _⟩
  exact RdF.moveX (fun b hok hl => ⟨by rcases hok with h | h; exact .inl h; exact .inr (by omega), heap_other3 _ _ _ _ _ _ (by rcases hok with h | h <;> omega)⟩) _ _ (hr t e)
theorem spE_err {ok : Nat → Prop} {w w' : World} {r : Except Int T} {er : Int} (hr : r = .error er) (hb : Below w.heap.size w w') {p : Nat} (hp : w.heap.size ≤ p) (u0 u1 u2 : Value) :
    SpE ok r w (.returned (.tuple #[.agg #[.int .i64 0, .int .i64 0, .slice none 0 0], .int .i64 er])) (((w'.setCell ⟨p, 0, none⟩ u0).setCell ⟨p, 1, none⟩ u1).setCell ⟨p, 2, none⟩ u2) := by
  subst hr
  exact ⟨_, _, _, _, _, rfl, (fun t e => nomatch e), below_set3 hb hp _ _ _⟩
theorem spE_err0 {ok : Nat → Prop} {w w' : World} {r : Except Int T} {er : Int} (hr : r = .error er) (hb : Below w.heap.size w w') :
    SpE ok r w (.returned (.tuple #[.agg #[.int .i64 0, .int .i64 0, .slice none 0 0], .int .i64 er])) w' := by
  subst hr
  exact ⟨_, _, _, _, _, rfl, (fun t e => nomatch e), hb⟩
theorem upV_eq {M : Int} {t : T} {b : Int} (hM : M ≤ 281474976710656) (bt : BdV M t) (hb : 0 ≤ b ∧ b ≤ 1048576) : upX t b 0 = upT b t 0 := by
  have h4 := ((myB_iff t).1 bt.my).2.1
  exact upX_eq (M := M) (by omega) bt.ok (by omega) (by rw [mayB_my (by omega)]; exact bt.my) hb ⟨by omega, by omega⟩
theorem cm_var {W : WV} {cx : List T} {h : Int} {xs : List T} (i : Nat) (e : T) (hi : cx[i]? = some e) (hh : (i : Int) + h + 1 = cx.length) (h0 : 0 ≤ h) : cmV W cx (.node 4 h xs) = spV W xs cx (upT (h + 1) e 0) := by
  have hl := (List.getElem?_eq_some_iff.1 hi).1
  rw [cmV, if_pos (.inl rfl), hdV, if_pos rfl, if_pos (by omega), show cx.length - 1 - h.toNat = i by omega, List.getD_eq_getElem?_getD, hi]
  rfl
theorem cm_con {W : WV} {cx : List T} {i : Nat} {xs : List T} (e : T) (hi : W.sg[i]? = some e) (hk : kiB e = false) : cmV W cx (.node 5 (i : Int) xs) = spV W xs cx e := by
  have hl := (List.getElem?_eq_some_iff.1 hi).1
  rw [cmV, if_pos (.inr rfl), hdV, if_neg (by omega), if_pos (by omega), Int.toNat_natCast, List.getD_eq_getElem?_getD, hi, Option.getD_some, if_neg (by rw [hk]; simp)]
theorem cm_con_ki {W : WV} {cx : List T} {i : Nat} {xs : List T} (e : T) (hi : W.sg[i]? = some e) (hk : kiB e = true) : cmV W cx (.node 5 (i : Int) xs) = .error 2 := by
  have hl := (List.getElem?_eq_some_iff.1 hi).1
  rw [cmV, if_pos (.inr rfl), hdV, if_neg (by omega), if_pos (by omega), Int.toNat_natCast, List.getD_eq_getElem?_getD, hi, Option.getD_some, if_pos hk]
theorem cm_con_no {W : WV} {cx : List T} {h : Int} {xs : List T} (hh : W.sg.length ≤ h) : cmV W cx (.node 5 h xs) = .error 2 := by
  rw [cmV, if_pos (.inr rfl), hdV, if_neg (by omega), if_neg (by omega)]
theorem cm_var_no {W : WV} {cx : List T} {h : Int} {xs : List T} (hh : cx.length ≤ h) : cmV W cx (.node 4 h xs) = .error 2 := by
  rw [cmV, if_pos (.inl rfl), hdV, if_pos rfl, if_neg (by omega)]
set_option maxRecDepth 100000 in
set_option maxHeartbeats 16000000 in
theorem vVarC {W : WV} {h : Int} {xs : List T} (ih : ∀ x ∈ xs, TmC W x) : HdC 72 W 4 h xs := by
  intro cx B As ns cs Am nm cm Ac nc cc A n c w0 w hE hbm hsum hlen hb0 hk hv
  have hccap := hk.cx.cap
  have hcle := hk.cx.le
  have hcl := hk.cx.len
  have hscap := hk.sg.cap
  have hsle := hk.sg.le
  have hsl := hk.sg.len
  have hmcap := hk.ms.cap
  have hmle := hk.ms.le
  have hml := hk.ms.len
  unfold maxLen at hccap hscap hmcap
  have h0 := headV hbm.nod
  have hx : CLV w0 xs A n c := by
    obtain ⟨A', n', c', e, _, _, h3, h4, h5, h6⟩ := Rd_node.1 hv
    have e' : A = A' ∧ n = n' ∧ c = c' := by simpa using e
    obtain ⟨rfl, rfl, rfl⟩ := e'
    exact ⟨h3, h4, h5, h6⟩
  obtain ⟨W0, hW⟩ : ∃ W0, ((w.alloc (.cells #[.slice As ns cs, .slice Am nm cm, .slice Ac nc cc] 63)).alloc (.cells #[.int .i64 4, .int .i64 h, .slice A n c] 36)).alloc (.cells #[.int .i64 0, .int .i64 0, .slice none 0 0] 36) = W0 := ⟨_, rfl⟩
  have hb : Below w.heap.size w W0 := by rw [← hW]; exact (((Below.refl _ _).alloc (Nat.le_refl _) _).alloc (by simp) _).alloc (by simp; omega) _
  have x0 : Box W0 w.heap.size 63 #[.slice As ns cs, .slice Am nm cm, .slice Ac nc cc] := by rw [← hW]; exact ((Box.new _ _ _).alloc _).alloc _
  have x1 : Box W0 (w.heap.size + 1) 36 #[.int .i64 4, .int .i64 h, .slice A n c] := by rw [← hW]; exact ((Box.new (w.alloc _) _ _).at (by simp)).alloc _
  have x2 : Box W0 (w.heap.size + 1 + 1) 36 #[.int .i64 0, .int .i64 0, .slice none 0 0] := by rw [← hW]; exact (Box.new ((w.alloc _).alloc _) _ _).at (by simp)
  have HB0 := Lib.hid hb0
  have HB := Lib.hid (hb0.trans (hb.mono hb0.size))
  have HK := Lib.hid hk
  have HX := Lib.hid hx
  have HE := Lib.hid hE
  have HBM := Lib.hid hbm
  have HSUM := Lib.hid hsum
  have HLEN := Lib.hid hlen
  have HIH := Lib.hid ih
  have HBW := Lib.hid hb
  have HW := Lib.hid hW; clear hW hv hk hx hE hbm hsum hlen ih hb0 hb
  obtain ⟨c0, c1, c2⟩ := x0.three
  obtain ⟨d0, d1, d2⟩ := x1.three
  obtain ⟨r0, r1, r2⟩ := x2.three
  have f0 := x2.frozen 0
  have f1 := x2.frozen 1
  have f2 := x2.frozen 2
  have lz := x2.lt
  by_cases hlt : (nc : Int) ≤ h
  · have hd : decide (h ≥ (nc : Int)) = true := by simpa using hlt
    have HEQ := Lib.hid (cm_var_no (W := W) (xs := xs) (cx := cx) (h := h) (by omega))
    go_enter Tryz.func72, Tryz.ntmps72
    go_wp2_with fail
    rw [HW.out]
    clear HW
    go_wp2_with fail
    refine bodyPost_ret (v := .tuple #[.agg #[.int .i64 0, .int .i64 0, .slice none 0 0], .int .i64 2]) (by simp [results, Tryz.results72, go_sem, r0, r1, r2]) rfl ?_
    first | exact spE_err0 HEQ.out HBW.out | exact spE_err HEQ.out HBW.out (p := w.heap.size + 1 + 1) (by omega) _ _ _
  · have hd : decide (h ≥ (nc : Int)) = false := by simpa using hlt
    obtain ⟨i, hi⟩ : ∃ i : Nat, (i : Int) + h + 1 = nc := ⟨((nc : Int) - 1 - h).toNat, by omega⟩
    obtain ⟨en, hen⟩ := at_of HK.out.cx.len (show i < nc by omega)
    have HEN := Lib.hid hen
    have HEQ := Lib.hid (cm_var (W := W) (xs := xs) (h := h) i en hen (by omega) h0)
    obtain ⟨bc, oc, ke, he, Ae, ne, ce, eA, e0, e1, e2, hre⟩ := (HK.out.cx.at_ i en hen).full
    subst eA
    have hbc := cell_lt e0
    dsimp only at hbc
    replace e0 := (HB.out.cell (cell_lt e0)).trans e0
    replace e1 := (HB.out.cell (cell_lt e1)).trans e1
    replace e2 := (HB.out.cell (cell_lt e2)).trans e2
    replace hre := Rd.keep HB.out _ _ hre
    have hs00 := HB0.out.size
    have hbe := HE.out.cx en (List.mem_of_getElem? hen)
    have HBE := Lib.hid hbe
    have HRE := Lib.hid hre
    clear hen hre hbe
    have hw1 : IntKind.i64.wrap ((nc : Int) - 1) = (nc : Int) - 1 := by rw [wrapEq, wrap_small (by omega) (by omega)]
    have hw2 : IntKind.i64.wrap ((nc : Int) - 1 - h) = (i : Int) := by rw [wrapEq, wrap_small (by omega) (by omega)]; omega
    have hw3 : IntKind.i64.wrap (h + 1) = h + 1 := by rw [wrapEq, wrap_small (by omega) (by omega)]
    have hi0 : (0 : Int) ≤ i := by omega
    have hi1 : (i : Int) < nc := by omega
    have hn1 : nc ≤ 1000000 := by have := HLEN.out; omega
    have hBh : B ≤ hiV - dlV := by have := HSUM.out; have h1 : 1 ≤ nd (.node 4 h xs) := nd_pos _; unfold dlV hiV at *; omega
    have hue : upX en (h + 1) 0 = upT (h + 1) en 0 := upV_eq (M := B) (by unfold hiV dlV at *; omega) HBE.out ⟨by omega, by omega⟩
    have hbu : BdV (B + 1048576) (upT (h + 1) en 0) := (bd_up HBE.out (by omega)).mono (by omega)
    have HBU := Lib.hid hbu
    have hnd : nd en ≤ 1048576 := by have := ((myB_iff en).1 HBE.out.my).2.1; omega
    have HUP : Hid (∀ W' : World, Below W0.heap.size W0 W' → Calls Tryz.prog 91 #[.agg #[.int .i64 ke, .int .i64 he, .slice Ae ne ce], .int .i64 (h + 1), .int .i64 0] W' (OEnd (upT (h + 1) en 0) W')) := Lib.hid fun W' h' => by
      rw [← hue]
      exact upC en (h + 1) 0 _ W' (Rd.keep h' _ _ HRE.out) hnd
    have HSP : Hid (∀ (W' W2 : World) (k3 h3 : Int) (A3 : Option Addr) (n3 c3 : Nat), Below W0.heap.size W0 W2 → RdF (fun b => W'.heap.size ≤ b) W2 (upT (h + 1) en 0) (.agg #[.int .i64 k3, .int .i64 h3, .slice A3 n3 c3]) → Calls Tryz.prog 88 #[.agg #[.slice As ns cs, .slice Am nm cm, .slice (some ⟨bc, oc, none⟩) nc cc], .agg #[.int .i64 k3, .int .i64 h3, .slice A3 n3 c3], .slice A n c] W2 (SpE (fun b => W'.heap.size ≤ b) (spV W xs cx (upT (h + 1) en 0)) W2)) := Lib.hid fun W' W2 k3 h3 A3 n3 c3 h2 hrd =>
      vSpineC HIH.out HE.out (fun x hx => HBM.out.arg hx) HBU.out (by omega) (by have := HSUM.out; rw [nd] at this; unfold dlV hiV at *; omega) (by have := HLEN.out; rw [nd] at this; omega) W2 (HK.out.keep (HB.out.trans (h2.mono HB.out.size))) (HX.out.keep (HB.out.trans (h2.mono HB.out.size))) hrd
    obtain ⟨R, hR⟩ : ∃ R, spV W xs cx (upT (h + 1) en 0) = R := ⟨_, rfl⟩
    rw [hR] at HEQ HSP
    generalize upT (h + 1) en 0 = u at *
    clear hue hbu hR
    go_enter Tryz.func72, Tryz.ntmps72
    go_wp2_with fail
    rw [HW.out]
    clear HW
    go_wp2_with fail
    have HKS : Hid (∀ w' : World, Below W0.heap.size W0 w' → (fun w' => w'.cell? ⟨w.heap.size, 0, none⟩ = some (.slice As ns cs) ∧ w'.cell? ⟨w.heap.size, 1, none⟩ = some (.slice Am nm cm) ∧ w'.cell? ⟨w.heap.size, 2, none⟩ = some (.slice (some ⟨bc, oc, none⟩) nc cc) ∧ w'.cell? ⟨w.heap.size + 1, 1, none⟩ = some (.int .i64 h) ∧ w'.cell? ⟨w.heap.size + 1, 2, none⟩ = some (.slice A n c) ∧ w'.cell? ⟨bc, oc + i * 3, none⟩ = some (.int .i64 ke) ∧ w'.cell? ⟨bc, oc + i * 3 + 1, none⟩ = some (.int .i64 he) ∧ w'.cell? ⟨bc, oc + i * 3 + 2, none⟩ = some (.slice Ae ne ce)) w') := Lib.hid fun w' h => ⟨(h.cell (cell_lt c0)).trans c0, (h.cell (cell_lt c1)).trans c1, (h.cell (cell_lt c2)).trans c2, (h.cell (cell_lt d1)).trans d1, (h.cell (cell_lt d2)).trans d2, (h.cell (cell_lt e0)).trans e0, (h.cell (cell_lt e1)).trans e1, (h.cell (cell_lt e2)).trans e2⟩
    have hbd : Below W0.heap.size W0 W0.drew := (Below.refl _ W0).drew
    refine wp_region_held_drew (S := fun w' => w'.cell? ⟨w.heap.size, 0, none⟩ = some (.slice As ns cs) ∧ w'.cell? ⟨w.heap.size, 1, none⟩ = some (.slice Am nm cm) ∧ w'.cell? ⟨w.heap.size, 2, none⟩ = some (.slice (some ⟨bc, oc, none⟩) nc cc) ∧ w'.cell? ⟨w.heap.size + 1, 1, none⟩ = some (.int .i64 h) ∧ w'.cell? ⟨w.heap.size + 1, 2, none⟩ = some (.slice A n c) ∧ w'.cell? ⟨bc, oc + i * 3, none⟩ = some (.int .i64 ke) ∧ w'.cell? ⟨bc, oc + i * 3 + 1, none⟩ = some (.int .i64 he) ∧ w'.cell? ⟨bc, oc + i * 3 + 2, none⟩ = some (.slice Ae ne ce)) (by kernel_rfl) (HKS.out _ hbd) (fun hS => ?_)
    simp only [List.size_toArray, List.length_cons, List.length_nil, Nat.reduceAdd]
    refine wpAnyH_take (i := 0) (v := .agg #[.slice As ns cs, .slice Am nm cm, .slice (some ⟨bc, oc, none⟩) nc cc]) rfl (by kernel_rfl) (by kernel_rfl) (by kernel_rfl) (fun _ _ _ h => h) (Or.inl ⟨by rfl, ?_⟩) hS ?_
    · intro w' hSw
      obtain ⟨s0, s1, s2, s3, s4, s5, s6, s7⟩ := hSw
      go_simp
    try simp only [Act.put, List.setIfInBounds_toArray]
    refine wpAnyH_take (i := 1) (v := .pointer (some ⟨w.heap.size, 2, none⟩)) rfl (by kernel_rfl) (by kernel_rfl) (by kernel_rfl) (fun _ _ _ h => h) (Or.inl ⟨by rfl, ?_⟩) hS ?_
    · intro w' hSw
      obtain ⟨s0, s1, s2, s3, s4, s5, s6, s7⟩ := hSw
      go_simp
    try simp only [Act.put]
    refine wpAnyH_take (i := 2) (v := .slice (some ⟨bc, oc, none⟩) nc cc) rfl (by kernel_rfl) (by kernel_rfl) (by kernel_rfl) (fun _ _ _ h => h) (Or.inl ⟨by rfl, ?_⟩) hS ?_
    · intro w' hSw
      obtain ⟨s0, s1, s2, s3, s4, s5, s6, s7⟩ := hSw
      go_simp
    try simp only [Act.put]
    refine wpAnyH_take (i := 3) (v := .int .i64 nc) rfl (by kernel_rfl) (by kernel_rfl) (by kernel_rfl) (fun _ _ _ h => h) (Or.inl ⟨by rfl, ?_⟩) hS ?_
    · intro w' hSw
      obtain ⟨s0, s1, s2, s3, s4, s5, s6, s7⟩ := hSw
      go_simp
    try simp only [Act.put]
    refine wpAnyH_take (i := 4) (v := .int .i64 (nc - 1)) rfl (by kernel_rfl) (by kernel_rfl) (by kernel_rfl) (fun _ _ _ h => h) (Or.inl ⟨by rfl, ?_⟩) hS ?_
    · intro w' hSw
      obtain ⟨s0, s1, s2, s3, s4, s5, s6, s7⟩ := hSw
      go_simp
    try simp only [Act.put]
    refine wpAnyH_take (i := 5) (v := .pointer (some ⟨w.heap.size + 1, 1, none⟩)) rfl (by kernel_rfl) (by kernel_rfl) (by kernel_rfl) (fun _ _ _ h => h) (Or.inl ⟨by rfl, ?_⟩) hS ?_
    · intro w' hSw
      obtain ⟨s0, s1, s2, s3, s4, s5, s6, s7⟩ := hSw
      go_simp
    try simp only [Act.put]
    refine wpAnyH_take (i := 6) (v := .int .i64 h) rfl (by kernel_rfl) (by kernel_rfl) (by kernel_rfl) (fun _ _ _ h => h) (Or.inl ⟨by rfl, ?_⟩) hS ?_
    · intro w' hSw
      obtain ⟨s0, s1, s2, s3, s4, s5, s6, s7⟩ := hSw
      go_simp
    try simp only [Act.put]
    refine wpAnyH_take (i := 7) (v := .int .i64 i) rfl (by kernel_rfl) (by kernel_rfl) (by kernel_rfl) (fun _ _ _ h => h) (Or.inl ⟨by rfl, ?_⟩) hS ?_
    · intro w' hSw
      obtain ⟨s0, s1, s2, s3, s4, s5, s6, s7⟩ := hSw
      go_simp
    try simp only [Act.put]
    refine wpAnyH_take (i := 8) (v := .pointer (some ⟨bc, oc + i * 3, none⟩)) rfl (by kernel_rfl) (by kernel_rfl) (by kernel_rfl) (fun _ _ _ h => h) (Or.inl ⟨by rfl, ?_⟩) hS ?_
    · intro w' hSw
      obtain ⟨s0, s1, s2, s3, s4, s5, s6, s7⟩ := hSw
      go_simp
    try simp only [Act.put]
    refine wpAnyH_take (i := 9) (v := .agg #[.int .i64 ke, .int .i64 he, .slice Ae ne ce]) rfl (by kernel_rfl) (by kernel_rfl) (by kernel_rfl) (fun _ _ _ h => h) (Or.inl ⟨by rfl, ?_⟩) hS ?_
    · intro w' hSw
      obtain ⟨s0, s1, s2, s3, s4, s5, s6, s7⟩ := hSw
      go_simp
    try simp only [Act.put]
    refine wpAnyH_take (i := 10) (v := .pointer (some ⟨w.heap.size + 1, 1, none⟩)) rfl (by kernel_rfl) (by kernel_rfl) (by kernel_rfl) (fun _ _ _ h => h) (Or.inl ⟨by rfl, ?_⟩) hS ?_
    · intro w' hSw
      obtain ⟨s0, s1, s2, s3, s4, s5, s6, s7⟩ := hSw
      go_simp
    try simp only [Act.put]
    refine wpAnyH_take (i := 11) (v := .int .i64 h) rfl (by kernel_rfl) (by kernel_rfl) (by kernel_rfl) (fun _ _ _ h => h) (Or.inl ⟨by rfl, ?_⟩) hS ?_
    · intro w' hSw
      obtain ⟨s0, s1, s2, s3, s4, s5, s6, s7⟩ := hSw
      go_simp
    try simp only [Act.put]
    refine wpAnyH_take (i := 12) (v := .int .i64 (h + 1)) rfl (by kernel_rfl) (by kernel_rfl) (by kernel_rfl) (fun _ _ _ h => h) (Or.inl ⟨by rfl, ?_⟩) hS ?_
    · intro w' hSw
      obtain ⟨s0, s1, s2, s3, s4, s5, s6, s7⟩ := hSw
      go_simp
    try simp only [Act.put]
    refine wpAnyH_take (i := 14) (v := .pointer (some ⟨w.heap.size + 1, 2, none⟩)) rfl (by kernel_rfl) (by kernel_rfl) (by kernel_rfl) (fun _ _ _ h => h) (Or.inl ⟨by rfl, ?_⟩) hS ?_
    · intro w' hSw
      obtain ⟨s0, s1, s2, s3, s4, s5, s6, s7⟩ := hSw
      go_simp
    try simp only [Act.put]
    refine wpAnyH_take (i := 15) (v := .slice A n c) rfl (by kernel_rfl) (by kernel_rfl) (by kernel_rfl) (fun _ _ _ h => h) (Or.inl ⟨by rfl, ?_⟩) hS ?_
    · intro w' hSw
      obtain ⟨s0, s1, s2, s3, s4, s5, s6, s7⟩ := hSw
      go_simp
    try simp only [Act.put]
    refine wpAnyH_ready (rs := [13]) (by kernel_rfl) (by simp) ?_
    refine AllReadyH.cons rfl (fun KN hK => ?_) AllReadyH.nil
    go_simp
    refine (HUP.out _ hbd).mono ?_
    rintro e w8 ⟨v8, rfl, hrd, hb8⟩
    obtain ⟨k3, h3, A3, n3, c3, rfl⟩ := hrd.full
    have hb8' : Below W0.heap.size W0 w8 := hbd.trans (hb8.mono hbd.size)
    have hrd8 := hrd.rdF
    refine hK.out _ _ (HKS.out _ hb8') (fun hS => ?_)
    clear hK KN
    try simp only [Act.put, List.setIfInBounds_toArray, List.set_cons_zero, List.set_cons_succ]
    clear hb8 hrd
    refine wpAnyH_ready (rs := [16]) (by kernel_rfl) (by simp) ?_
    refine AllReadyH.cons rfl (fun KN hK => ?_) AllReadyH.nil
    go_simp
    refine (HSP.out W0.drew w8 k3 h3 A3 n3 c3 hb8' hrd8).mono ?_
    rintro e w9 ⟨k4, h4, A4, n4, c4, rfl, hrd9, hb9⟩
    have hb9' : Below W0.heap.size W0 w9 := hb8'.trans (hb9.mono hb8'.size)
    have hs8 : W0.heap.size ≤ w8.heap.size := hb8'.size
    refine hK.out _ _ (HKS.out _ hb9') (fun hS => ?_)
    clear hK KN
    try simp only [Act.put, List.setIfInBounds_toArray, List.set_cons_zero, List.set_cons_succ]
    clear hb9 hb8' hrd8
    refine wpAnyH_take (i := 17) (v := .agg #[.int .i64 k4, .int .i64 h4, .slice A4 n4 c4]) rfl (by kernel_rfl) (by kernel_rfl) (by kernel_rfl) (fun _ _ _ h => h) (Or.inl ⟨by rfl, ?_⟩) hS ?_
    · intro w' hSw
      obtain ⟨s0, s1, s2, s3, s4, s5, s6, s7⟩ := hSw
      go_simp
    try simp only [Act.put, List.setIfInBounds_toArray]
    refine wpAnyH_take (i := 18) (v := .int .i64 (erV R)) rfl (by kernel_rfl) (by kernel_rfl) (by kernel_rfl) (fun _ _ _ h => h) (Or.inl ⟨by rfl, ?_⟩) hS ?_
    · intro w' hSw
      obtain ⟨s0, s1, s2, s3, s4, s5, s6, s7⟩ := hSw
      go_simp
    try simp only [Act.put]
    have z2 := x2.keep hb9' x2.lt
    obtain ⟨z0, z1, z3⟩ := z2.three
    have g0 := z2.frozen 0
    have g1 := z2.frozen 1
    have g2 := z2.frozen 2
    refine wpAnyH_ready (rs := [19]) (by kernel_rfl) (by simp) ?_
    refine AllReadyH.cons rfl (fun KN hK => ?_) AllReadyH.nil
    go_simp
    have hS2 : (fun w' => w'.cell? ⟨w.heap.size, 0, none⟩ = some (.slice As ns cs) ∧ w'.cell? ⟨w.heap.size, 1, none⟩ = some (.slice Am nm cm) ∧ w'.cell? ⟨w.heap.size, 2, none⟩ = some (.slice (some ⟨bc, oc, none⟩) nc cc) ∧ w'.cell? ⟨w.heap.size + 1, 1, none⟩ = some (.int .i64 h) ∧ w'.cell? ⟨w.heap.size + 1, 2, none⟩ = some (.slice A n c) ∧ w'.cell? ⟨bc, oc + i * 3, none⟩ = some (.int .i64 ke) ∧ w'.cell? ⟨bc, oc + i * 3 + 1, none⟩ = some (.int .i64 he) ∧ w'.cell? ⟨bc, oc + i * 3 + 2, none⟩ = some (.slice Ae ne ce)) (((w9.setCell ⟨w.heap.size + 1 + 1, 0, none⟩ (.int .i64 k4)).setCell ⟨w.heap.size + 1 + 1, 1, none⟩ (.int .i64 h4)).setCell ⟨w.heap.size + 1 + 1, 2, none⟩ (.slice A4 n4 c4)) := by
      obtain ⟨s0, s1, s2, s3, s4, s5, s6, s7⟩ := HKS.out _ hb9'
      exact ⟨(far3V _ _ _ _ _ _ (by omega)).trans s0, (far3V _ _ _ _ _ _ (by omega)).trans s1, (far3V _ _ _ _ _ _ (by omega)).trans s2, (far3V _ _ _ _ _ _ (by omega)).trans s3, (far3V _ _ _ _ _ _ (by omega)).trans s4, (far3V _ _ _ _ _ _ (by omega)).trans s5, (far3V _ _ _ _ _ _ (by omega)).trans s6, (far3V _ _ _ _ _ _ (by omega)).trans s7⟩
    refine hK.out _ _ hS2 (fun hS => ?_)
    clear hK KN hS2
    try simp only [Act.put, List.setIfInBounds_toArray, List.set_cons_zero, List.set_cons_succ]
    refine wpAnyH_take (i := 20) (v := .int .i64 (erV R)) rfl (by kernel_rfl) (by kernel_rfl) (by kernel_rfl) (fun _ _ _ h => h) (Or.inl ⟨by rfl, ?_⟩) hS ?_
    · intro w' hSw
      obtain ⟨s0, s1, s2, s3, s4, s5, s6, s7⟩ := hSw
      go_simp
    try simp only [Act.put, List.setIfInBounds_toArray]
    refine wpAnyH_done (by kernel_rfl) ?_ _
    try simp only [List.setIfInBounds_toArray]
    try simp only [List.getElem_toArray, List.getElem_cons_succ, List.getElem_cons_zero, List.set_cons_zero, List.set_cons_succ]
    have y := z2.put3 (.int .i64 k4) (.int .i64 h4) (.slice A4 n4 c4)
    obtain ⟨y0, y1, y2⟩ := y.three
    have HBF := Lib.hid (HBW.out.trans (hb9'.mono HBW.out.size))
    have HRD := Lib.hid hrd9
    have hdr : W0.drew.heap.size = W0.heap.size := rfl
    clear hS HKS hbd hb9' z2 z0 z1 z3 g0 g1 g2 x0 x1 x2 c0 c1 c2 d0 d1 d2 r0 r1 r2 f0 f1 f2 hrd9 e0 e1 e2 y
    go_wp2_with fail
    refine bodyPost_ret (v := .tuple #[.agg #[.int .i64 k4, .int .i64 h4, .slice A4 n4 c4], .int .i64 (erV R)]) (by simp [results, Tryz.results72, go_sem, y0, y1, y2]) rfl ?_
    rw [HEQ.out]
    exact spE_moved (p := w.heap.size + 1 + 1) (m := W0.heap.size) (fun t e => RdF.moveX (fun b hok hl => ⟨.inr (by rcases hok with h | h <;> omega), rfl⟩) _ _ (HRD.out t e)) HBF.out (by omega) (by omega) _ _ _ _ rfl
set_option maxRecDepth 100000 in
set_option maxHeartbeats 16000000 in
theorem vConstC {W : WV} {h : Int} {xs : List T} (ih : ∀ x ∈ xs, TmC W x) : HdC 73 W 5 h xs := by
  intro cx B As ns cs Am nm cm Ac nc cc A n c w0 w hE hbm hsum hlen hb0 hk hv
  have hccap := hk.cx.cap
  have hcle := hk.cx.le
  have hcl := hk.cx.len
  have hscap := hk.sg.cap
  have hsle := hk.sg.le
  have hsl := hk.sg.len
  have hmcap := hk.ms.cap
  have hmle := hk.ms.le
  have hml := hk.ms.len
  unfold maxLen at hccap hscap hmcap
  have h0 := headV hbm.nod
  have hx : CLV w0 xs A n c := by
    obtain ⟨A', n', c', e, _, _, h3, h4, h5, h6⟩ := Rd_node.1 hv
    have e' : A = A' ∧ n = n' ∧ c = c' := by simpa using e
    obtain ⟨rfl, rfl, rfl⟩ := e'
    exact ⟨h3, h4, h5, h6⟩
  obtain ⟨W0, hW⟩ : ∃ W0, ((w.alloc (.cells #[.slice As ns cs, .slice Am nm cm, .slice Ac nc cc] 63)).alloc (.cells #[.int .i64 5, .int .i64 h, .slice A n c] 36)).alloc (.cells #[.int .i64 0, .int .i64 0, .slice none 0 0] 36) = W0 := ⟨_, rfl⟩
  have hb : Below w.heap.size w W0 := by rw [← hW]; exact (((Below.refl _ _).alloc (Nat.le_refl _) _).alloc (by simp) _).alloc (by simp; omega) _
  have x0 : Box W0 w.heap.size 63 #[.slice As ns cs, .slice Am nm cm, .slice Ac nc cc] := by rw [← hW]; exact ((Box.new _ _ _).alloc _).alloc _
  have x1 : Box W0 (w.heap.size + 1) 36 #[.int .i64 5, .int .i64 h, .slice A n c] := by rw [← hW]; exact ((Box.new (w.alloc _) _ _).at (by simp)).alloc _
  have x2 : Box W0 (w.heap.size + 1 + 1) 36 #[.int .i64 0, .int .i64 0, .slice none 0 0] := by rw [← hW]; exact (Box.new ((w.alloc _).alloc _) _ _).at (by simp)
  have HB0 := Lib.hid hb0
  have HB := Lib.hid (hb0.trans (hb.mono hb0.size))
  have HK := Lib.hid hk
  have HX := Lib.hid hx
  have HE := Lib.hid hE
  have HBM := Lib.hid hbm
  have HSUM := Lib.hid hsum
  have HLEN := Lib.hid hlen
  have HIH := Lib.hid ih
  have HBW := Lib.hid hb
  have HW := Lib.hid hW; clear hW hv hk hx hE hbm hsum hlen ih hb0 hb
  obtain ⟨c0, c1, c2⟩ := x0.three
  obtain ⟨d0, d1, d2⟩ := x1.three
  obtain ⟨r0, r1, r2⟩ := x2.three
  have f0 := x2.frozen 0
  have f1 := x2.frozen 1
  have f2 := x2.frozen 2
  have lz := x2.lt
  by_cases hlt : (ns : Int) ≤ h
  · have hd : decide (h ≥ (ns : Int)) = true := by simpa using hlt
    have HEQ := Lib.hid (cm_con_no (W := W) (xs := xs) (cx := cx) (h := h) (by omega))
    go_enter Tryz.func73, Tryz.ntmps73
    go_wp2_with fail
    rw [HW.out]
    clear HW
    go_wp2_with fail
    refine bodyPost_ret (v := .tuple #[.agg #[.int .i64 0, .int .i64 0, .slice none 0 0], .int .i64 2]) (by simp [results, Tryz.results73, go_sem, r0, r1, r2]) rfl ?_
    first | exact spE_err0 HEQ.out HBW.out | exact spE_err HEQ.out HBW.out (p := w.heap.size + 1 + 1) (by omega) _ _ _
  · have hd : decide (h ≥ (ns : Int)) = false := by simpa using hlt
    obtain ⟨i, rfl⟩ : ∃ i : Nat, h = (i : Int) := ⟨h.toNat, by omega⟩
    obtain ⟨en, hen⟩ := at_of HK.out.sg.len (show i < ns by omega)
    have HEN := Lib.hid hen
    obtain ⟨bc, oc, s1, ke, he, Ae, ne, ce, eA, e9, e0, e1, e2, hre⟩ := HK.out.sg.at_ i en hen
    subst eA
    have hbc := cell_lt e0
    dsimp only at hbc
    replace e0 := (HB.out.cell (cell_lt e0)).trans e0
    replace e1 : W0.cell? ⟨bc, oc + i * 4 + 1 + 1, none⟩ = some (.int .i64 he) := (HB.out.cell (cell_lt e1)).trans e1
    replace e2 : W0.cell? ⟨bc, oc + i * 4 + 1 + 2, none⟩ = some (.slice Ae ne ce) := (HB.out.cell (cell_lt e2)).trans e2
    have hrf : RdF (fun b => b < w0.heap.size) W0 en (.agg #[.int .i64 ke, .int .i64 he, .slice Ae ne ce]) := RdF.moveX (fun b hok hl => ⟨hok, HB.out.block b hl⟩) _ _ (rdF_anyQ _ _ hre)
    have hs00 := HB0.out.size
    have hbe := HE.out.sg en (List.mem_of_getElem? hen)
    have HBE := Lib.hid hbe
    have HRE := Lib.hid hrf
    clear hen hre hbe hrf e9
    have hi0 : (0 : Int) ≤ i := by omega
    have hi1 : (i : Int) < ns := by omega
    have HKI : Hid (Calls Tryz.prog 20 #[.agg #[.int .i64 ke, .int .i64 he, .slice Ae ne ce]] W0 fun e w' => e = .returned (.bool (kiB en)) ∧ Below W0.heap.size W0 w') := Lib.hid (kindC en _ W0 (RdF.rd _ _ HRE.out))
    obtain ⟨r, hr⟩ : ∃ r, kiB en = r := ⟨_, rfl⟩
    rw [hr] at HKI
    have hW := HW.out
    go_enter Tryz.func73, Tryz.ntmps73
    go_wp2_with fail
    clear HW hW
    refine HKI.out.mono ?_
    clear HKI
    rintro e W1 ⟨rfl, hb1⟩
    replace x0 := x0.keep hb1 x0.lt
    replace x1 := x1.keep hb1 x1.lt
    replace x2 := x2.keep hb1 x2.lt
    replace e0 := (hb1.cell (cell_lt e0)).trans e0
    replace e1 := (hb1.cell (cell_lt e1)).trans e1
    replace e2 := (hb1.cell (cell_lt e2)).trans e2
    replace HRE := Lib.hid (RdF.moveX (ok' := fun b => b < w0.heap.size) (fun b hok hl => ⟨hok, hb1.block b hl⟩) _ _ HRE.out)
    replace HB := Lib.hid (HB.out.trans (hb1.mono HB.out.size))
    replace HBW := Lib.hid (HBW.out.trans (hb1.mono HBW.out.size))
    have lz1 := x2.lt
    clear hb1 c0 c1 c2 d0 d1 d2 r0 r1 r2 f0 f1 f2
    obtain ⟨c0, c1, c2⟩ := x0.three
    obtain ⟨d0, d1, d2⟩ := x1.three
    obtain ⟨r0, r1, r2⟩ := x2.three
    have f0 := x2.frozen 0
    have f1 := x2.frozen 1
    have f2 := x2.frozen 2
    cases r
    case' true =>
      have HEQ := Lib.hid (cm_con_ki (W := W) (xs := xs) (cx := cx) (i := i) en HEN.out hr)
      go_wp2_with fail
      refine bodyPost_ret (v := .tuple #[.agg #[.int .i64 0, .int .i64 0, .slice none 0 0], .int .i64 2]) (by simp [results, Tryz.results73, go_sem, r0, r1, r2]) rfl ?_
      first | exact spE_err0 HEQ.out HBW.out | exact spE_err HEQ.out HBW.out (p := w.heap.size + 1 + 1) (by omega) _ _ _
    have HEQ := Lib.hid (cm_con (W := W) (xs := xs) (cx := cx) (i := i) en HEN.out hr)
    have HSP : Hid (∀ (W2 : World), Below W1.heap.size W1 W2 → Calls Tryz.prog 88 #[.agg #[.slice (some ⟨bc, oc, none⟩) ns cs, .slice Am nm cm, .slice Ac nc cc], .agg #[.int .i64 ke, .int .i64 he, .slice Ae ne ce], .slice A n c] W2 (SpE (fun b => b < w0.heap.size) (spV W xs cx en) W2)) := Lib.hid fun W2 h2 =>
      vSpineC HIH.out HE.out (fun x hx => HBM.out.arg hx) (HBE.out.mono HE.out.lo) (by omega) (by have := HSUM.out; rw [nd] at this; unfold dlV hiV at *; omega) (by have := HLEN.out; rw [nd] at this; omega) W2 (HK.out.keep (HB.out.trans (h2.mono HB.out.size))) (HX.out.keep (HB.out.trans (h2.mono HB.out.size))) (RdF.moveX (fun b hok hl => ⟨hok, h2.block b hl⟩) _ _ HRE.out)
    obtain ⟨R, hR⟩ : ∃ R, spV W xs cx en = R := ⟨_, rfl⟩
    rw [hR] at HEQ HSP
    clear hR hr
    go_wp2_with fail
    have HKS : Hid (∀ w' : World, Below W1.heap.size W1 w' → (fun w' => w'.cell? ⟨w.heap.size, 0, none⟩ = some (.slice (some ⟨bc, oc, none⟩) ns cs) ∧ w'.cell? ⟨w.heap.size, 1, none⟩ = some (.slice Am nm cm) ∧ w'.cell? ⟨w.heap.size, 2, none⟩ = some (.slice Ac nc cc) ∧ w'.cell? ⟨w.heap.size + 1, 1, none⟩ = some (.int .i64 i) ∧ w'.cell? ⟨w.heap.size + 1, 2, none⟩ = some (.slice A n c) ∧ w'.cell? ⟨bc, oc + i * 4 + 1, none⟩ = some (.int .i64 ke) ∧ w'.cell? ⟨bc, oc + i * 4 + 1 + 1, none⟩ = some (.int .i64 he) ∧ w'.cell? ⟨bc, oc + i * 4 + 1 + 2, none⟩ = some (.slice Ae ne ce)) w') := Lib.hid fun w' h => ⟨(h.cell (cell_lt c0)).trans c0, (h.cell (cell_lt c1)).trans c1, (h.cell (cell_lt c2)).trans c2, (h.cell (cell_lt d1)).trans d1, (h.cell (cell_lt d2)).trans d2, (h.cell (cell_lt e0)).trans e0, (h.cell (cell_lt e1)).trans e1, (h.cell (cell_lt e2)).trans e2⟩
    have hbd : Below W1.heap.size W1 W1.drew := (Below.refl _ W1).drew
    refine wp_region_held_drew (S := fun w' => w'.cell? ⟨w.heap.size, 0, none⟩ = some (.slice (some ⟨bc, oc, none⟩) ns cs) ∧ w'.cell? ⟨w.heap.size, 1, none⟩ = some (.slice Am nm cm) ∧ w'.cell? ⟨w.heap.size, 2, none⟩ = some (.slice Ac nc cc) ∧ w'.cell? ⟨w.heap.size + 1, 1, none⟩ = some (.int .i64 i) ∧ w'.cell? ⟨w.heap.size + 1, 2, none⟩ = some (.slice A n c) ∧ w'.cell? ⟨bc, oc + i * 4 + 1, none⟩ = some (.int .i64 ke) ∧ w'.cell? ⟨bc, oc + i * 4 + 1 + 1, none⟩ = some (.int .i64 he) ∧ w'.cell? ⟨bc, oc + i * 4 + 1 + 2, none⟩ = some (.slice Ae ne ce)) (by kernel_rfl) (HKS.out _ hbd) (fun hS => ?_)
    simp only [List.size_toArray, List.length_cons, List.length_nil, Nat.reduceAdd]
    refine wpAnyH_take (i := 0) (v := .agg #[.slice (some ⟨bc, oc, none⟩) ns cs, .slice Am nm cm, .slice Ac nc cc]) rfl (by kernel_rfl) (by kernel_rfl) (by kernel_rfl) (fun _ _ _ h => h) (Or.inl ⟨by rfl, ?_⟩) hS ?_
    · intro w' hSw
      obtain ⟨s0, s1, s2, s3, s4, s5, s6, s7⟩ := hSw
      go_simp
    try simp only [Act.put, List.setIfInBounds_toArray]
    refine wpAnyH_take (i := 1) (v := .pointer (some ⟨w.heap.size, 0, none⟩)) rfl (by kernel_rfl) (by kernel_rfl) (by kernel_rfl) (fun _ _ _ h => h) (Or.inl ⟨by rfl, ?_⟩) hS ?_
    · intro w' hSw
      obtain ⟨s0, s1, s2, s3, s4, s5, s6, s7⟩ := hSw
      go_simp
    try simp only [Act.put]
    refine wpAnyH_take (i := 2) (v := .slice (some ⟨bc, oc, none⟩) ns cs) rfl (by kernel_rfl) (by kernel_rfl) (by kernel_rfl) (fun _ _ _ h => h) (Or.inl ⟨by rfl, ?_⟩) hS ?_
    · intro w' hSw
      obtain ⟨s0, s1, s2, s3, s4, s5, s6, s7⟩ := hSw
      go_simp
    try simp only [Act.put]
    refine wpAnyH_take (i := 3) (v := .pointer (some ⟨w.heap.size + 1, 1, none⟩)) rfl (by kernel_rfl) (by kernel_rfl) (by kernel_rfl) (fun _ _ _ h => h) (Or.inl ⟨by rfl, ?_⟩) hS ?_
    · intro w' hSw
      obtain ⟨s0, s1, s2, s3, s4, s5, s6, s7⟩ := hSw
      go_simp
    try simp only [Act.put]
    refine wpAnyH_take (i := 4) (v := .int .i64 i) rfl (by kernel_rfl) (by kernel_rfl) (by kernel_rfl) (fun _ _ _ h => h) (Or.inl ⟨by rfl, ?_⟩) hS ?_
    · intro w' hSw
      obtain ⟨s0, s1, s2, s3, s4, s5, s6, s7⟩ := hSw
      go_simp
    try simp only [Act.put]
    refine wpAnyH_take (i := 5) (v := .pointer (some ⟨bc, oc + i * 4, none⟩)) rfl (by kernel_rfl) (by kernel_rfl) (by kernel_rfl) (fun _ _ _ h => h) (Or.inl ⟨by rfl, ?_⟩) hS ?_
    · intro w' hSw
      obtain ⟨s0, s1, s2, s3, s4, s5, s6, s7⟩ := hSw
      go_simp
    try simp only [Act.put]
    refine wpAnyH_take (i := 6) (v := .pointer (some ⟨bc, oc + i * 4 + 1, none⟩)) rfl (by kernel_rfl) (by kernel_rfl) (by kernel_rfl) (fun _ _ _ h => h) (Or.inl ⟨by rfl, ?_⟩) hS ?_
    · intro w' hSw
      obtain ⟨s0, s1, s2, s3, s4, s5, s6, s7⟩ := hSw
      go_simp
    try simp only [Act.put]
    refine wpAnyH_take (i := 7) (v := .agg #[.int .i64 ke, .int .i64 he, .slice Ae ne ce]) rfl (by kernel_rfl) (by kernel_rfl) (by kernel_rfl) (fun _ _ _ h => h) (Or.inl ⟨by rfl, ?_⟩) hS ?_
    · intro w' hSw
      obtain ⟨s0, s1, s2, s3, s4, s5, s6, s7⟩ := hSw
      go_simp
    try simp only [Act.put]
    refine wpAnyH_take (i := 8) (v := .pointer (some ⟨w.heap.size + 1, 2, none⟩)) rfl (by kernel_rfl) (by kernel_rfl) (by kernel_rfl) (fun _ _ _ h => h) (Or.inl ⟨by rfl, ?_⟩) hS ?_
    · intro w' hSw
      obtain ⟨s0, s1, s2, s3, s4, s5, s6, s7⟩ := hSw
      go_simp
    try simp only [Act.put]
    refine wpAnyH_take (i := 9) (v := .slice A n c) rfl (by kernel_rfl) (by kernel_rfl) (by kernel_rfl) (fun _ _ _ h => h) (Or.inl ⟨by rfl, ?_⟩) hS ?_
    · intro w' hSw
      obtain ⟨s0, s1, s2, s3, s4, s5, s6, s7⟩ := hSw
      go_simp
    try simp only [Act.put]
    refine wpAnyH_ready (rs := [10]) (by kernel_rfl) (by simp) ?_
    refine AllReadyH.cons rfl (fun KN hK => ?_) AllReadyH.nil
    go_simp
    refine (HSP.out _ hbd).mono ?_
    rintro e w9 ⟨k4, h4, A4, n4, c4, rfl, hrd9, hb9⟩
    have hb9' : Below W1.heap.size W1 w9 := hbd.trans (hb9.mono hbd.size)
    refine hK.out _ _ (HKS.out _ hb9') (fun hS => ?_)
    clear hK KN
    try simp only [Act.put, List.setIfInBounds_toArray, List.set_cons_zero, List.set_cons_succ]
    clear hb9
    refine wpAnyH_take (i := 11) (v := .agg #[.int .i64 k4, .int .i64 h4, .slice A4 n4 c4]) rfl (by kernel_rfl) (by kernel_rfl) (by kernel_rfl) (fun _ _ _ h => h) (Or.inl ⟨by rfl, ?_⟩) hS ?_
    · intro w' hSw
      obtain ⟨s0, s1, s2, s3, s4, s5, s6, s7⟩ := hSw
      go_simp
    try simp only [Act.put, List.setIfInBounds_toArray]
    refine wpAnyH_take (i := 12) (v := .int .i64 (erV R)) rfl (by kernel_rfl) (by kernel_rfl) (by kernel_rfl) (fun _ _ _ h => h) (Or.inl ⟨by rfl, ?_⟩) hS ?_
    · intro w' hSw
      obtain ⟨s0, s1, s2, s3, s4, s5, s6, s7⟩ := hSw
      go_simp
    try simp only [Act.put]
    have z2 := x2.keep hb9' x2.lt
    obtain ⟨z0, z1, z3⟩ := z2.three
    have g0 := z2.frozen 0
    have g1 := z2.frozen 1
    have g2 := z2.frozen 2
    refine wpAnyH_ready (rs := [13]) (by kernel_rfl) (by simp) ?_
    refine AllReadyH.cons rfl (fun KN hK => ?_) AllReadyH.nil
    go_simp
    have hS2 : (fun w' => w'.cell? ⟨w.heap.size, 0, none⟩ = some (.slice (some ⟨bc, oc, none⟩) ns cs) ∧ w'.cell? ⟨w.heap.size, 1, none⟩ = some (.slice Am nm cm) ∧ w'.cell? ⟨w.heap.size, 2, none⟩ = some (.slice Ac nc cc) ∧ w'.cell? ⟨w.heap.size + 1, 1, none⟩ = some (.int .i64 i) ∧ w'.cell? ⟨w.heap.size + 1, 2, none⟩ = some (.slice A n c) ∧ w'.cell? ⟨bc, oc + i * 4 + 1, none⟩ = some (.int .i64 ke) ∧ w'.cell? ⟨bc, oc + i * 4 + 1 + 1, none⟩ = some (.int .i64 he) ∧ w'.cell? ⟨bc, oc + i * 4 + 1 + 2, none⟩ = some (.slice Ae ne ce)) (((w9.setCell ⟨w.heap.size + 1 + 1, 0, none⟩ (.int .i64 k4)).setCell ⟨w.heap.size + 1 + 1, 1, none⟩ (.int .i64 h4)).setCell ⟨w.heap.size + 1 + 1, 2, none⟩ (.slice A4 n4 c4)) := by
      obtain ⟨s0, s1, s2, s3, s4, s5, s6, s7⟩ := HKS.out _ hb9'
      exact ⟨(far3V _ _ _ _ _ _ (by omega)).trans s0, (far3V _ _ _ _ _ _ (by omega)).trans s1, (far3V _ _ _ _ _ _ (by omega)).trans s2, (far3V _ _ _ _ _ _ (by omega)).trans s3, (far3V _ _ _ _ _ _ (by omega)).trans s4, (far3V _ _ _ _ _ _ (by omega)).trans s5, (far3V _ _ _ _ _ _ (by omega)).trans s6, (far3V _ _ _ _ _ _ (by omega)).trans s7⟩
    refine hK.out _ _ hS2 (fun hS => ?_)
    clear hK KN hS2
    try simp only [Act.put, List.setIfInBounds_toArray, List.set_cons_zero, List.set_cons_succ]
    refine wpAnyH_take (i := 14) (v := .int .i64 (erV R)) rfl (by kernel_rfl) (by kernel_rfl) (by kernel_rfl) (fun _ _ _ h => h) (Or.inl ⟨by rfl, ?_⟩) hS ?_
    · intro w' hSw
      obtain ⟨s0, s1, s2, s3, s4, s5, s6, s7⟩ := hSw
      go_simp
    try simp only [Act.put, List.setIfInBounds_toArray]
    refine wpAnyH_done (by kernel_rfl) ?_ _
    try simp only [List.setIfInBounds_toArray]
    try simp only [List.getElem_toArray, List.getElem_cons_succ, List.getElem_cons_zero, List.set_cons_zero, List.set_cons_succ]
    have y := z2.put3 (.int .i64 k4) (.int .i64 h4) (.slice A4 n4 c4)
    obtain ⟨y0, y1, y2⟩ := y.three
    have HBF := Lib.hid (HBW.out.trans (hb9'.mono HBW.out.size))
    have HRD := Lib.hid hrd9
    have hdr : W1.drew.heap.size = W1.heap.size := rfl
    clear hS HKS hbd hb9' z2 z0 z1 z3 g0 g1 g2 x0 x1 x2 c0 c1 c2 d0 d1 d2 r0 r1 r2 f0 f1 f2 hrd9 e0 e1 e2 y
    go_wp2_with fail
    refine bodyPost_ret (v := .tuple #[.agg #[.int .i64 k4, .int .i64 h4, .slice A4 n4 c4], .int .i64 (erV R)]) (by simp [results, Tryz.results73, go_sem, y0, y1, y2]) rfl ?_
    rw [HEQ.out]
    exact spE_moved (p := w.heap.size + 1 + 1) (m := W1.heap.size) (fun t e => RdF.moveX (fun b hok hl => ⟨by rcases hok with h | h; exact .inl ⟨h.1, by have := h.1; omega⟩; exact .inr (by omega), rfl⟩) _ _ (HRD.out t e)) HBF.out (by omega) (by omega) _ _ _ _ rfl
end Go.Proofs.YtmkahbbcagfbhaaGreatDoor
/-
  Contract of package check's meta, given that of term for what is in a node. No statement is proved here.
-/
namespace Go.Proofs.YtmkahbbcagfbhaaGreatDoor
open Go.ChangeShapes Go.WideShapes Go.ChangeAt Go.RowKit
set_option linter.unusedVariables false
theorem cm_meta {W : WV} {cx : List T} {i : Nat} {xs : List T} {md : List T × T} (hi : W.ms[i]? = some md) : cmV W cx (.node 6 (i : Int) xs) =
    if xs.length = md.1.length then (if mtV W xs [] cx md.1 = 0 then apV md.2 xs cx.length else .error (mtV W xs [] cx md.1)) else .error 3 := by
  have hl := (List.getElem?_eq_some_iff.1 hi).1
  have hmd : mdV W (i : Int) = md := by unfold mdV; rw [Int.toNat_natCast, List.getD_eq_getElem?_getD, hi]; rfl
  rw [cmV, if_neg (by omega), if_pos rfl, if_pos (by omega), hmd]
theorem cm_meta_no {W : WV} {cx : List T} {h : Int} {xs : List T} (hh : W.ms.length ≤ h) : cmV W cx (.node 6 h xs) = .error 2 := by
  rw [cmV, if_neg (by omega), if_pos rfl, if_neg (by omega)]
theorem mt_cons {W : WV} {x e : T} {xs dn cx es : List T} : mtV W (x :: xs) dn cx (e :: es) = if apE e dn cx.length = 0 then (if tmV W x cx (apT e dn cx.length) = 0 then mtV W xs (dn ++ [x]) cx es else tmV W x cx (apT e dn cx.length)) else apE e dn cx.length := by
  rw [mtV]
  rfl
theorem take_snocV {xs : List T} {j : Nat} {x : T} (hx : xs[j]? = some x) : xs.take (j + 1) = xs.take j ++ [x] := by
  have hl := (List.getElem?_eq_some_iff.1 hx).1
  rw [List.take_succ_eq_append_getElem hl, (List.getElem?_eq_some_iff.1 hx).2]
/-- what holds at the head of meta's loop -/
structure MeIv (W : WV) (xs cx es : List T) (As : Option Addr) (ns cs : Nat) (Am : Option Addr) (nm cm : Nat) (Ac : Option Addr) (nc cc : Nat) (h : Int) (A : Option Addr) (n c : Nat) (Ad : Option Addr) (ndd cd : Nat) (kt gt : Int) (At : Option Addr) (nt ct : Nat) (pb : Bool) (Bd : Nat) (w : World) (j : Nat) (wr : World) : Prop where
  cb : Box wr w.heap.size 63 #[.slice As ns cs, .slice Am nm cm, .slice Ac nc cc]
  tb : Box wr (w.heap.size + 1) 36 #[.int .i64 6, .int .i64 h, .slice A n c]
  rb : Box wr (w.heap.size + 1 + 1) 36 #[.int .i64 0, .int .i64 0, .slice none 0 0]
  db : Box wr Bd 87 #[.slice Ad ndd cd, .int .i64 kt, .int .i64 gt, .slice At nt ct, .bool pb]
  below : Below w.heap.size w wr
  eq : mtV W xs [] cx es = mtV W (xs.drop j) (xs.take j) cx (es.drop j)
set_option maxRecDepth 100000 in
set_option maxHeartbeats 16000000 in
theorem vMetaC {W : WV} {h : Int} {xs : List T} (ih : ∀ x ∈ xs, TmC W x) : HdC 74 W 6 h xs := by
  intro cx B As ns cs Am nm cm Ac nc cc A n c w0 w hE hbm hsum hlen hb0 hk hv
  have hccap := hk.cx.cap
  have hcle := hk.cx.le
  have hcl := hk.cx.len
  have hscap := hk.sg.cap
  have hsle := hk.sg.le
  have hsl := hk.sg.len
  have hmcap := hk.ms.cap
  have hmle := hk.ms.le
  have hml := hk.ms.len
  unfold maxLen at hccap hscap hmcap
  have h0 := headV hbm.nod
  have hx : CLV w0 xs A n c := by
    obtain ⟨A', n', c', e, _, _, h3, h4, h5, h6⟩ := Rd_node.1 hv
    have e' : A = A' ∧ n = n' ∧ c = c' := by simpa using e
    obtain ⟨rfl, rfl, rfl⟩ := e'
    exact ⟨h3, h4, h5, h6⟩
  obtain ⟨W0, hW⟩ : ∃ W0, ((w.alloc (.cells #[.slice As ns cs, .slice Am nm cm, .slice Ac nc cc] 63)).alloc (.cells #[.int .i64 6, .int .i64 h, .slice A n c] 36)).alloc (.cells #[.int .i64 0, .int .i64 0, .slice none 0 0] 36) = W0 := ⟨_, rfl⟩
  have hb : Below w.heap.size w W0 := by rw [← hW]; exact (((Below.refl _ _).alloc (Nat.le_refl _) _).alloc (by simp) _).alloc (by simp; omega) _
  have x0 : Box W0 w.heap.size 63 #[.slice As ns cs, .slice Am nm cm, .slice Ac nc cc] := by rw [← hW]; exact ((Box.new _ _ _).alloc _).alloc _
  have x1 : Box W0 (w.heap.size + 1) 36 #[.int .i64 6, .int .i64 h, .slice A n c] := by rw [← hW]; exact ((Box.new (w.alloc _) _ _).at (by simp)).alloc _
  have x2 : Box W0 (w.heap.size + 1 + 1) 36 #[.int .i64 0, .int .i64 0, .slice none 0 0] := by rw [← hW]; exact (Box.new ((w.alloc _).alloc _) _ _).at (by simp)
  have HB0 := Lib.hid hb0
  have HB := Lib.hid (hb0.trans (hb.mono hb0.size))
  have HK := Lib.hid hk
  have HX := Lib.hid hx
  have HE := Lib.hid hE
  have HBM := Lib.hid hbm
  have HSUM := Lib.hid hsum
  have HLEN := Lib.hid hlen
  have HIH := Lib.hid ih
  have HBW := Lib.hid hb
  have HW := Lib.hid hW; clear hW hv hk hx hE hbm hsum hlen ih hb0 hb
  obtain ⟨c0, c1, c2⟩ := x0.three
  obtain ⟨d0, d1, d2⟩ := x1.three
  obtain ⟨r0, r1, r2⟩ := x2.three
  have f0 := x2.frozen 0
  have f1 := x2.frozen 1
  have f2 := x2.frozen 2
  have lz := x2.lt
  by_cases hlt : (nm : Int) ≤ h
  · have hd : decide (h ≥ (nm : Int)) = true := by simpa using hlt
    have HEQ := Lib.hid (cm_meta_no (W := W) (xs := xs) (cx := cx) (h := h) (by omega))
    have hW := HW.out
    go_enter Tryz.func74, Tryz.ntmps74
    go_wp2_with fail
    clear HW hW
    refine bodyPost_ret (v := .tuple #[.agg #[.int .i64 0, .int .i64 0, .slice none 0 0], .int .i64 2]) (by simp [results, Tryz.results74, go_sem, r0, r1, r2]) rfl ?_
    first | exact spE_err0 HEQ.out HBW.out | exact spE_err HEQ.out HBW.out (p := w.heap.size + 1 + 1) (by omega) _ _ _
  have hd : decide (h ≥ (nm : Int)) = false := by simpa using hlt
  obtain ⟨i, rfl⟩ : ∃ i : Nat, h = (i : Int) := ⟨h.toNat, by omega⟩
  obtain ⟨md, hen⟩ := at_of HK.out.ms.len (show i < nm by omega)
  replace HBM := Lib.hid (HBM.out.bd (fun e9 => by have h9 := List.mem_of_getElem? hen; rw [e9] at h9; cases h9))
  have HEQ := Lib.hid (cm_meta (W := W) (cx := cx) (xs := xs) hen)
  obtain ⟨bc, oc, Ad, ndd, cd, ke, he, Ae, ne, ce, pb, eA, e0, e1, e2, e3, e4, hlx, hre⟩ := HK.out.ms.at_ i md hen
  subst eA
  have hbm := HE.out.ms md (List.mem_of_getElem? hen)
  replace e0 := (HB.out.cell (cell_lt e0)).trans e0
  replace e1 := (HB.out.cell (cell_lt e1)).trans e1
  replace e2 := (HB.out.cell (cell_lt e2)).trans e2
  replace e3 := (HB.out.cell (cell_lt e3)).trans e3
  replace e4 := (HB.out.cell (cell_lt e4)).trans e4
  have hs00 := HB0.out.size
  have HLX := Lib.hid hlx
  have HRE := Lib.hid hre
  have HMD := Lib.hid hbm
  have hdcap := hlx.cap
  have hdle := hlx.le
  have hdl := hlx.len
  unfold maxLen at hdcap
  clear hen hlx hre hbm
  have hi0 : (0 : Int) ≤ i := by omega
  have hi1 : (i : Int) < nm := by omega
  have hnn := HX.out.len
  have hncap := HX.out.cap
  have hnle := HX.out.le
  unfold maxLen at hncap
  obtain ⟨es, tt⟩ := md
  have hW := HW.out
  go_enter Tryz.func74, Tryz.ntmps74
  go_wp2_with fail
  clear HW hW
  have HKS : Hid (∀ w' : World, Below W0.heap.size W0 w' → (fun w' => w'.cell? ⟨w.heap.size, 1, none⟩ = some (.slice (some ⟨bc, oc, none⟩) nm cm) ∧ w'.cell? ⟨w.heap.size, 2, none⟩ = some (.slice Ac nc cc) ∧ w'.cell? ⟨w.heap.size + 1, 1, none⟩ = some (.int .i64 i) ∧ w'.cell? ⟨bc, oc + i * 5, none⟩ = some (.slice Ad ndd cd) ∧ w'.cell? ⟨bc, oc + i * 5 + 1, none⟩ = some (.int .i64 ke) ∧ w'.cell? ⟨bc, oc + i * 5 + 2, none⟩ = some (.int .i64 he) ∧ w'.cell? ⟨bc, oc + i * 5 + 3, none⟩ = some (.slice Ae ne ce) ∧ w'.cell? ⟨bc, oc + i * 5 + 4, none⟩ = some (.bool pb)) w') := Lib.hid fun w' h => ⟨(h.cell (cell_lt c1)).trans c1, (h.cell (cell_lt c2)).trans c2, (h.cell (cell_lt d1)).trans d1, (h.cell (cell_lt e0)).trans e0, (h.cell (cell_lt e1)).trans e1, (h.cell (cell_lt e2)).trans e2, (h.cell (cell_lt e3)).trans e3, (h.cell (cell_lt e4)).trans e4⟩
  have hbd : Below W0.heap.size W0 W0.drew := (Below.refl _ W0).drew
  refine wp_region_held_drew (S := fun w' => w'.cell? ⟨w.heap.size, 1, none⟩ = some (.slice (some ⟨bc, oc, none⟩) nm cm) ∧ w'.cell? ⟨w.heap.size, 2, none⟩ = some (.slice Ac nc cc) ∧ w'.cell? ⟨w.heap.size + 1, 1, none⟩ = some (.int .i64 i) ∧ w'.cell? ⟨bc, oc + i * 5, none⟩ = some (.slice Ad ndd cd) ∧ w'.cell? ⟨bc, oc + i * 5 + 1, none⟩ = some (.int .i64 ke) ∧ w'.cell? ⟨bc, oc + i * 5 + 2, none⟩ = some (.int .i64 he) ∧ w'.cell? ⟨bc, oc + i * 5 + 3, none⟩ = some (.slice Ae ne ce) ∧ w'.cell? ⟨bc, oc + i * 5 + 4, none⟩ = some (.bool pb)) (by kernel_rfl) (HKS.out _ hbd) (fun hS => ?_)
  simp only [List.size_toArray, List.length_cons, List.length_nil, Nat.reduceAdd]
  refine wpAnyH_take (i := 0) (v := .pointer (some ⟨w.heap.size, 1, none⟩)) rfl (by kernel_rfl) (by kernel_rfl) (by kernel_rfl) (fun _ _ _ h => h) (Or.inl ⟨by rfl, ?_⟩) hS ?_
  · intro w' hSw
    obtain ⟨s0, s1, s2, s3, s4, s5, s6, s7⟩ := hSw
    go_simp
  try simp only [Act.put, List.setIfInBounds_toArray]
  refine wpAnyH_take (i := 1) (v := .slice (some ⟨bc, oc, none⟩) nm cm) rfl (by kernel_rfl) (by kernel_rfl) (by kernel_rfl) (fun _ _ _ h => h) (Or.inl ⟨by rfl, ?_⟩) hS ?_
  · intro w' hSw
    obtain ⟨s0, s1, s2, s3, s4, s5, s6, s7⟩ := hSw
    go_simp
  try simp only [Act.put]
  refine wpAnyH_take (i := 2) (v := .pointer (some ⟨w.heap.size + 1, 1, none⟩)) rfl (by kernel_rfl) (by kernel_rfl) (by kernel_rfl) (fun _ _ _ h => h) (Or.inl ⟨by rfl, ?_⟩) hS ?_
  · intro w' hSw
    obtain ⟨s0, s1, s2, s3, s4, s5, s6, s7⟩ := hSw
    go_simp
  try simp only [Act.put]
  refine wpAnyH_take (i := 3) (v := .int .i64 i) rfl (by kernel_rfl) (by kernel_rfl) (by kernel_rfl) (fun _ _ _ h => h) (Or.inl ⟨by rfl, ?_⟩) hS ?_
  · intro w' hSw
    obtain ⟨s0, s1, s2, s3, s4, s5, s6, s7⟩ := hSw
    go_simp
  try simp only [Act.put]
  refine wpAnyH_take (i := 4) (v := .pointer (some ⟨bc, oc + i * 5, none⟩)) rfl (by kernel_rfl) (by kernel_rfl) (by kernel_rfl) (fun _ _ _ h => h) (Or.inl ⟨by rfl, ?_⟩) hS ?_
  · intro w' hSw
    obtain ⟨s0, s1, s2, s3, s4, s5, s6, s7⟩ := hSw
    go_simp
  try simp only [Act.put]
  refine wpAnyH_take (i := 5) (v := .agg #[.slice Ad ndd cd, .int .i64 ke, .int .i64 he, .slice Ae ne ce, .bool pb]) rfl (by kernel_rfl) (by kernel_rfl) (by kernel_rfl) (fun _ _ _ h => h) (Or.inl ⟨by rfl, ?_⟩) hS ?_
  · intro w' hSw
    obtain ⟨s0, s1, s2, s3, s4, s5, s6, s7⟩ := hSw
    go_simp
  try simp only [Act.put]
  refine wpAnyH_take (i := 6) (v := .pointer (some ⟨w.heap.size, 2, none⟩)) rfl (by kernel_rfl) (by kernel_rfl) (by kernel_rfl) (fun _ _ _ h => h) (Or.inl ⟨by rfl, ?_⟩) hS ?_
  · intro w' hSw
    obtain ⟨s0, s1, s2, s3, s4, s5, s6, s7⟩ := hSw
    go_simp
  try simp only [Act.put]
  refine wpAnyH_take (i := 7) (v := .slice Ac nc cc) rfl (by kernel_rfl) (by kernel_rfl) (by kernel_rfl) (fun _ _ _ h => h) (Or.inl ⟨by rfl, ?_⟩) hS ?_
  · intro w' hSw
    obtain ⟨s0, s1, s2, s3, s4, s5, s6, s7⟩ := hSw
    go_simp
  try simp only [Act.put]
  refine wpAnyH_take (i := 8) (v := .int .i64 nc) rfl (by kernel_rfl) (by kernel_rfl) (by kernel_rfl) (fun _ _ _ h => h) (Or.inl ⟨by rfl, ?_⟩) hS ?_
  · intro w' hSw
    obtain ⟨s0, s1, s2, s3, s4, s5, s6, s7⟩ := hSw
    go_simp
  try simp only [Act.put]
  refine wpAnyH_ready (rs := [9]) (by kernel_rfl) (by simp) ?_
  refine AllReadyH.cons rfl (fun KN hK => ?_) AllReadyH.nil
  go_simp
  have hb5 : Below W0.heap.size W0 (W0.alloc (.cells #[.slice none 0 0, .int .i64 0, .int .i64 0, .slice none 0 0, .bool false] 87)).drew := ((Below.refl _ W0).alloc (Nat.le_refl _) _).drew
  refine hK.out _ _ (HKS.out _ hb5) (fun hS => ?_)
  clear hK KN
  try simp only [Act.put, List.setIfInBounds_toArray, List.set_cons_zero, List.set_cons_succ]
  have xd : Box (W0.alloc (.cells #[.slice none 0 0, .int .i64 0, .int .i64 0, .slice none 0 0, .bool false] 87)).drew W0.heap.size 87 #[.slice none 0 0, .int .i64 0, .int .i64 0, .slice none 0 0, .bool false] := Box.drewI (Box.new _ _ _)
  obtain ⟨Bd, hBd⟩ : ∃ p, W0.heap.size = p := ⟨_, rfl⟩
  rw [hBd] at xd
  try rw [hBd]
  have hlB : w.heap.size + 1 + 1 < Bd := by omega
  have HBD := Lib.hid hBd
  clear hBd
  generalize (W0.alloc (.cells #[.slice none 0 0, .int .i64 0, .int .i64 0, .slice none 0 0, .bool false] 87)).drew = W5 at *
  have z0 : W5.cell? ⟨Bd, 0, none⟩ = some (.slice none 0 0) := xd.cell 0
  have z1 : W5.cell? ⟨Bd, 1, none⟩ = some (.int .i64 0) := xd.cell 1
  have z2 : W5.cell? ⟨Bd, 2, none⟩ = some (.int .i64 0) := xd.cell 2
  have z3 : W5.cell? ⟨Bd, 3, none⟩ = some (.slice none 0 0) := xd.cell 3
  have z4 : W5.cell? ⟨Bd, 4, none⟩ = some (.bool false) := xd.cell 4
  have u0 := xd.frozen 0
  have u1 := xd.frozen 1
  have u2 := xd.frozen 2
  have u3 := xd.frozen 3
  have u4 := xd.frozen 4
  refine wpAnyH_ready (rs := [10]) (by kernel_rfl) (by simp) ?_
  refine AllReadyH.cons rfl (fun KN hK => ?_) AllReadyH.nil
  go_simp
  have hBle : W0.heap.size ≤ Bd := by rw [HBD.out]; exact Nat.le_refl _
  have hbF : Below W0.heap.size W0 (((((W5.setCell ⟨Bd, 0, none⟩ (.slice Ad ndd cd)).setCell ⟨Bd, 1, none⟩ (.int .i64 ke)).setCell ⟨Bd, 2, none⟩ (.int .i64 he)).setCell ⟨Bd, 3, none⟩ (.slice Ae ne ce)).setCell ⟨Bd, 4, none⟩ (.bool pb)) := ((((hb5.setCell hBle _).setCell hBle _).setCell hBle _).setCell hBle _).setCell hBle _
  refine hK.out _ _ (HKS.out _ hbF) (fun hS => ?_)
  clear hK KN
  try simp only [Act.put, List.setIfInBounds_toArray, List.set_cons_zero, List.set_cons_succ]
  have yd : Box (((((W5.setCell ⟨Bd, 0, none⟩ (.slice Ad ndd cd)).setCell ⟨Bd, 1, none⟩ (.int .i64 ke)).setCell ⟨Bd, 2, none⟩ (.int .i64 he)).setCell ⟨Bd, 3, none⟩ (.slice Ae ne ce)).setCell ⟨Bd, 4, none⟩ (.bool pb)) Bd 87 #[.slice Ad ndd cd, .int .i64 ke, .int .i64 he, .slice Ae ne ce, .bool pb] := by simpa using ((((xd.setAt 0 (.slice Ad ndd cd)).setAt 1 (.int .i64 ke)).setAt 2 (.int .i64 he)).setAt 3 (.slice Ae ne ce)).setAt 4 (.bool pb)
  clear z0 z1 z2 z3 z4 u0 u1 u2 u3 u4 xd hb5
  generalize ((((W5.setCell ⟨Bd, 0, none⟩ (.slice Ad ndd cd)).setCell ⟨Bd, 1, none⟩ (.int .i64 ke)).setCell ⟨Bd, 2, none⟩ (.int .i64 he)).setCell ⟨Bd, 3, none⟩ (.slice Ae ne ce)).setCell ⟨Bd, 4, none⟩ (.bool pb) = W6 at *
  refine wpAnyH_take (i := 11) (v := .int .i64 nc) rfl (by kernel_rfl) (by kernel_rfl) (by kernel_rfl) (fun _ _ _ h => h) (Or.inl ⟨by rfl, ?_⟩) hS ?_
  · intro w' hSw
    obtain ⟨s0, s1, s2, s3, s4, s5, s6, s7⟩ := hSw
    go_simp
  try simp only [Act.put, List.setIfInBounds_toArray]
  refine wpAnyH_done (by kernel_rfl) ?_ _
  try simp only [List.setIfInBounds_toArray]
  have yc := x0.keep hbF x0.lt
  have ym := x1.keep hbF x1.lt
  have yr := x2.keep hbF x2.lt
  have HBW6 := Lib.hid (HBW.out.trans (hbF.mono HBW.out.size))
  have lz6 := yd.lt
  clear hS HKS hbd hbF x0 x1 x2 c0 c1 c2 d0 d1 d2 r0 r1 r2 f0 f1 f2 e0 e1 e2 e3 e4 lz HB HBW
  obtain ⟨m0, m1, m2⟩ := ym.three
  obtain ⟨r0, r1, r2⟩ := yr.three
  have f0 := yr.frozen 0
  have f1 := yr.frozen 1
  have f2 := yr.frozen 2
  have q0 : W6.cell? ⟨Bd, 0, none⟩ = some (.slice Ad ndd cd) := yd.cell 0
  by_cases hne : n = ndd
  case' neg =>
    have hd2 : ((n : Int) != (ndd : Int)) = true := by simp; omega
    have HEQ2 := Lib.hid (HEQ.out.trans (if_neg (show ¬ xs.length = es.length by omega)))
    go_wp2_with fail
    refine bodyPost_ret (v := .tuple #[.agg #[.int .i64 0, .int .i64 0, .slice none 0 0], .int .i64 3]) (by simp [results, Tryz.results74, go_sem, r0, r1, r2]) rfl ?_
    first | exact spE_err0 HEQ2.out HBW6.out | exact spE_err HEQ2.out HBW6.out (p := w.heap.size + 1 + 1) (by omega) _ _ _
  subst hne
  have HEQ2 := Lib.hid (HEQ.out.trans (if_pos (show xs.length = es.length by omega)))
  have HI0 : Hid (MeIv W xs cx es As ns cs (some ⟨bc, oc, none⟩) nm cm Ac nc cc i A n c Ad n cd ke he Ae ne ce pb Bd w 0 W6) := Lib.hid ⟨yc, ym, yr, yd, HBW6.out, by rw [List.drop_zero, List.take_zero, List.drop_zero]⟩
  clear HEQ yc ym yr yd
  go_wp2_with fail
  clear m0 m1 m2 r0 r1 r2 f0 f1 f2 q0 HBW6
  go_loopw [40] (fun i' wr => ∃ (j : Nat), j ≤ n ∧ i' = .int .i64 j ∧ Hid (MeIv W xs cx es As ns cs (some ⟨bc, oc, none⟩) nm cm Ac nc cc i A n c Ad n cd ke he Ae ne ce pb Bd w j wr)) (fun i _ => n - (Go.RowKit.intOf i).toNat)
  case atStart => exact ⟨0, Nat.zero_le _, rfl, HI0⟩
  case round =>
    clear HI0
    obtain ⟨j, hj, rfl, HI⟩ := hrel
    by_cases hlt2 : j < n
    · obtain ⟨x, hxj⟩ := at_of HX.out.len hlt2
      have hel : es.length = n := hdl
      obtain ⟨en, hej⟩ := at_of hel hlt2
      have HBX := Lib.hid (HBM.out.arg (List.mem_of_getElem? hxj))
      have HBE := Lib.hid (HMD.out.1 en (List.mem_of_getElem? hej))
      have hB0w := Lib.hid (HB0.out.trans (HI.out.below.mono HB0.out.size))
      obtain ⟨ba, oa, kx, gx, Ax, nx, cx', eA, v0, v1, v2, hrx⟩ := ((HX.out.keep hB0w.out).at_ j x hxj).full
      obtain ⟨be, oe, ke2, ge2, Ae2, ne2, ce2, eE, e0, e1, e2, hre⟩ := ((HLX.out.keep hB0w.out).at_ j en hej).full
      have eA0 := eA
      subst eA eE
      have heq := HI.out.eq
      rw [drop_at hxj, drop_at hej, mt_cons] at heq
      have HME := Lib.hid heq
      have HXJ := Lib.hid hxj
      have hnl := nd_mem (List.mem_of_getElem? hxj)
      have hBh : B + (1 + nd x) * dlV ≤ hiV := by have := HSUM.out; rw [nd] at this; unfold dlV hiV at *; omega
      have hLh : cx.length + nd x ≤ 1000000 := by have := HLEN.out; rw [nd] at this; omega
      obtain ⟨Wa, hWa⟩ : ∃ Wa, wr.alloc (.cells #[.int .i64 ke2, .int .i64 ge2, .slice Ae2 ne2 ce2] 36) = Wa := ⟨_, rfl⟩
      have hbA : Below wr.heap.size wr Wa := by rw [← hWa]; exact (Below.refl _ _).alloc (Nat.le_refl _) _
      have xa : Box Wa wr.heap.size 36 #[.int .i64 ke2, .int .i64 ge2, .slice Ae2 ne2 ce2] := by rw [← hWa]; exact Box.new _ _ _
      have zc := HI.out.cb.keep hbA HI.out.cb.lt
      have zt := HI.out.tb.keep hbA HI.out.tb.lt
      have zr := HI.out.rb.keep hbA HI.out.rb.lt
      have zd := HI.out.db.keep hbA HI.out.db.lt
      have HBA := Lib.hid (HI.out.below.trans (hbA.mono HI.out.below.size))
      have HB0A := Lib.hid (hB0w.out.trans (hbA.mono hB0w.out.size))
      have HRX := Lib.hid (Rd.keep hbA _ _ hrx)
      have HREN := Lib.hid (Rd.keep hbA _ _ hre)
      have HVC := Lib.hid (And.intro ((hbA.cell (cell_lt v0)).trans v0) (And.intro ((hbA.cell (cell_lt v1)).trans v1) ((hbA.cell (cell_lt v2)).trans v2)))
      have hj0 : (0 : Int) ≤ j := by omega
      have hj1 : (j : Int) < n := by omega
      have hj3 : (j : Int) ≤ (c : Int) := by omega
      obtain ⟨ee, hee⟩ : ∃ e, apE en (xs.take j) nc = e := ⟨_, rfl⟩
      have HEE := Lib.hid hee
      have HAP : Hid (∀ W' : World, Below Wa.heap.size Wa W' → Calls Tryz.prog 92 #[.agg #[.int .i64 ke2, .int .i64 ge2, .slice Ae2 ne2 ce2], .agg #[.slice (some ⟨ba, oa, none⟩) j j, .int .i64 nc]] W' (TEnd (apT en (xs.take j) nc) ee W')) := Lib.hid fun W' h' => by
        rw [← hee]
        exact ApplyC (Rd.keep h' _ _ HREN.out) (by rw [List.length_take, hnn]; omega) (Nat.le_refl _) (by unfold maxLen; omega) (fun q u hu => by
          have hq : q < j := by have := (List.getElem?_eq_some_iff.1 hu).1; rw [List.length_take] at this; omega
          rw [List.getElem?_take_of_lt hq] at hu
          exact RdAt.keep (HB0A.out.trans (h'.mono HB0A.out.size)) (HX.out.at_ q u hu)) (fun _ => lo_of HBE.out (by decide)) (fun y hy _ => lo_of (HBM.out.arg (List.mem_of_mem_take hy)) (by decide))
      clear hee hxj hej heq hrx hre hnl
      obtain ⟨t0, t1, t2⟩ := zt.three
      obtain ⟨a0, a1, a2⟩ := xa.three
      have lzA := zd.lt
      have lzr := zr.lt
      go_wp2_with fail
      clear e0 e1 e2 v0 v1 v2
      have HKS : Hid (∀ w' : World, Below Wa.heap.size Wa w' → (fun w' => w'.cell? ⟨wr.heap.size, 0, none⟩ = some (.int .i64 ke2) ∧ w'.cell? ⟨wr.heap.size, 1, none⟩ = some (.int .i64 ge2) ∧ w'.cell? ⟨wr.heap.size, 2, none⟩ = some (.slice Ae2 ne2 ce2) ∧ w'.cell? ⟨w.heap.size + 1, 2, none⟩ = some (.slice (some ⟨ba, oa, none⟩) n c)) w') := Lib.hid fun w' h => ⟨(h.cell (cell_lt a0)).trans a0, (h.cell (cell_lt a1)).trans a1, (h.cell (cell_lt a2)).trans a2, (h.cell (cell_lt t2)).trans t2⟩
      have hbd : Below Wa.heap.size Wa Wa.drew := (Below.refl _ Wa).drew
      refine wp_region_held_drew (S := fun w' => w'.cell? ⟨wr.heap.size, 0, none⟩ = some (.int .i64 ke2) ∧ w'.cell? ⟨wr.heap.size, 1, none⟩ = some (.int .i64 ge2) ∧ w'.cell? ⟨wr.heap.size, 2, none⟩ = some (.slice Ae2 ne2 ce2) ∧ w'.cell? ⟨w.heap.size + 1, 2, none⟩ = some (.slice (some ⟨ba, oa, none⟩) n c)) (by kernel_rfl) (HKS.out _ hbd) (fun hS => ?_)
      simp only [List.size_toArray, List.length_cons, List.length_nil, Nat.reduceAdd]
      refine wpAnyH_take (i := 0) (v := .agg #[.int .i64 ke2, .int .i64 ge2, .slice Ae2 ne2 ce2]) rfl (by kernel_rfl) (by kernel_rfl) (by kernel_rfl) (fun _ _ _ h => h) (Or.inl ⟨by rfl, ?_⟩) hS ?_
      · intro w' hSw
        obtain ⟨s0, s1, s2, s3⟩ := hSw
        go_simp
      try simp only [Act.put, List.setIfInBounds_toArray]
      refine wpAnyH_take (i := 1) (v := .pointer (some ⟨w.heap.size + 1, 2, none⟩)) rfl (by kernel_rfl) (by kernel_rfl) (by kernel_rfl) (fun _ _ _ h => h) (Or.inl ⟨by rfl, ?_⟩) hS ?_
      · intro w' hSw
        obtain ⟨s0, s1, s2, s3⟩ := hSw
        go_simp
      try simp only [Act.put]
      refine wpAnyH_take (i := 2) (v := .slice (some ⟨ba, oa, none⟩) n c) rfl (by kernel_rfl) (by kernel_rfl) (by kernel_rfl) (fun _ _ _ h => h) (Or.inl ⟨by rfl, ?_⟩) hS ?_
      · intro w' hSw
        obtain ⟨s0, s1, s2, s3⟩ := hSw
        go_simp
      try simp only [Act.put]
      refine wpAnyH_take (i := 3) (v := .int .i64 j) rfl (by kernel_rfl) (by kernel_rfl) (by kernel_rfl) (fun _ _ _ h => h) (Or.inl ⟨by rfl, ?_⟩) hS ?_
      · intro w' hSw
        obtain ⟨s0, s1, s2, s3⟩ := hSw
        go_simp
      try simp only [Act.put]
      refine wpAnyH_take (i := 4) (v := .int .i64 j) rfl (by kernel_rfl) (by kernel_rfl) (by kernel_rfl) (fun _ _ _ h => h) (Or.inl ⟨by rfl, ?_⟩) hS ?_
      · intro w' hSw
        obtain ⟨s0, s1, s2, s3⟩ := hSw
        go_simp
      try simp only [Act.put]
      refine wpAnyH_take (i := 5) (v := .slice (some ⟨ba, oa, none⟩) j j) rfl (by kernel_rfl) (by kernel_rfl) (by kernel_rfl) (fun _ _ _ h => h) (Or.inl ⟨by rfl, ?_⟩) hS ?_
      · intro w' hSw
        obtain ⟨s0, s1, s2, s3⟩ := hSw
        go_simp
      try simp only [Act.put]
      refine wpAnyH_take (i := 6) (v := .int .i64 nc) rfl (by kernel_rfl) (by kernel_rfl) (by kernel_rfl) (fun _ _ _ h => h) (Or.inl ⟨by rfl, ?_⟩) hS ?_
      · intro w' hSw
        obtain ⟨s0, s1, s2, s3⟩ := hSw
        go_simp
      try simp only [Act.put]
      refine wpAnyH_take (i := 7) (v := .agg #[.slice (some ⟨ba, oa, none⟩) j j, .int .i64 nc]) rfl (by kernel_rfl) (by kernel_rfl) (by kernel_rfl) (fun _ _ _ h => h) (Or.inl ⟨by rfl, ?_⟩) hS ?_
      · intro w' hSw
        obtain ⟨s0, s1, s2, s3⟩ := hSw
        go_simp
      try simp only [Act.put]
      refine wpAnyH_ready (rs := [8, 12]) (by kernel_rfl) (by simp) ?_
      refine AllReadyH.cons rfl (fun KN hK => ?_) (AllReadyH.cons rfl (fun KN hK => ?_) AllReadyH.nil)
      · go_simp
        refine (HAP.out _ hbd).mono ?_
        rintro e w8 ⟨k3, h3, A3, n3, c3, rfl, hrd, hb8⟩
        have hb8' : Below Wa.heap.size Wa w8 := hbd.trans (hb8.mono hbd.size)
        have hrd8 : RdF (fun b => Wa.heap.size ≤ b) w8 (apT en (xs.take j) nc) (.agg #[.int .i64 k3, .int .i64 h3, .slice A3 n3 c3]) := hrd
        refine hK.out _ _ (HKS.out _ hb8') (fun hS => ?_)
        clear hK KN
        try simp only [Act.put, List.setIfInBounds_toArray, List.set_cons_zero, List.set_cons_succ]
        clear hb8 hrd
        refine wpAnyH_take (i := 9) (v := .tuple #[.agg #[.int .i64 k3, .int .i64 h3, .slice A3 n3 c3], .int .i64 ee]) rfl (by kernel_rfl) (by kernel_rfl) (by kernel_rfl) (fun _ _ _ h => h) (Or.inl ⟨by rfl, ?_⟩) hS ?_
        · intro w' hSw
          obtain ⟨s0, s1, s2, s3⟩ := hSw
          go_simp
        try simp only [Act.put, List.setIfInBounds_toArray]
        refine wpAnyH_take (i := 10) (v := .agg #[.int .i64 k3, .int .i64 h3, .slice A3 n3 c3]) rfl (by kernel_rfl) (by kernel_rfl) (by kernel_rfl) (fun _ _ _ h => h) (Or.inl ⟨by rfl, ?_⟩) hS ?_
        · intro w' hSw
          obtain ⟨s0, s1, s2, s3⟩ := hSw
          go_simp
        try simp only [Act.put]
        refine wpAnyH_take (i := 11) (v := .int .i64 ee) rfl (by kernel_rfl) (by kernel_rfl) (by kernel_rfl) (fun _ _ _ h => h) (Or.inl ⟨by rfl, ?_⟩) hS ?_
        · intro w' hSw
          obtain ⟨s0, s1, s2, s3⟩ := hSw
          go_simp
        try simp only [Act.put]
        refine wpAnyH_ready (rs := [12]) (by kernel_rfl) (by simp) ?_
        refine AllReadyH.cons rfl (fun KN hK => ?_) AllReadyH.nil
        go_simp
        have hb9 : Below Wa.heap.size Wa (w8.alloc (.cells #[.int .i64 0, .int .i64 0, .slice none 0 0] 36)) := hb8'.alloc hb8'.size _
        refine hK.out _ _ (HKS.out _ hb9) (fun hS => ?_)
        clear hK KN
        try simp only [Act.put, List.setIfInBounds_toArray, List.set_cons_zero, List.set_cons_succ]
        have xz : Box (w8.alloc (.cells #[.int .i64 0, .int .i64 0, .slice none 0 0] 36)) w8.heap.size 36 #[.int .i64 0, .int .i64 0, .slice none 0 0] := Box.new _ _ _
        have hrd9 : RdF (fun b => Wa.heap.size ≤ b ∧ b ≠ w8.heap.size) (w8.alloc (.cells #[.int .i64 0, .int .i64 0, .slice none 0 0] 36)) (apT en (xs.take j) nc) (.agg #[.int .i64 k3, .int .i64 h3, .slice A3 n3 c3]) := RdF.moveX (fun b hok hl => ⟨⟨hok, by omega⟩, Below.heap_alloc _ _ _ hl⟩) _ _ hrd8
        have hpl : Wa.heap.size ≤ w8.heap.size := hb8'.size
        clear hrd8 hb8'
        generalize w8.alloc (.cells #[.int .i64 0, .int .i64 0, .slice none 0 0] 36) = w9 at *
        generalize w8.heap.size = pB at *
        obtain ⟨z0, z1, z2⟩ := xz.three
        have u0 := xz.frozen 0
        have u1 := xz.frozen 1
        have u2 := xz.frozen 2
        refine wpAnyH_ready (rs := [13]) (by kernel_rfl) (by simp) ?_
        refine AllReadyH.cons rfl (fun KN hK => ?_) AllReadyH.nil
        go_simp
        have hbF := below_set3 hb9 (a := pB) hpl (.int .i64 k3) (.int .i64 h3) (.slice A3 n3 c3)
        refine hK.out _ _ (HKS.out _ hbF) (fun hS => ?_)
        clear hK KN
        try simp only [Act.put, List.setIfInBounds_toArray, List.set_cons_zero, List.set_cons_succ]
        have xB := xz.put3 (.int .i64 k3) (.int .i64 h3) (.slice A3 n3 c3)
        have hrdF : RdF (fun b => Wa.heap.size ≤ b ∧ b ≠ pB) (((w9.setCell ⟨pB, 0, none⟩ (.int .i64 k3)).setCell ⟨pB, 1, none⟩ (.int .i64 h3)).setCell ⟨pB, 2, none⟩ (.slice A3 n3 c3)) (apT en (xs.take j) nc) (.agg #[.int .i64 k3, .int .i64 h3, .slice A3 n3 c3]) := RdF.moveX (fun b hok hl => ⟨hok, heap_other3 _ _ _ _ _ _ hok.2⟩) _ _ hrd9
        clear hrd9 xz hb9 z0 z1 z2 u0 u1 u2
        generalize ((w9.setCell ⟨pB, 0, none⟩ (.int .i64 k3)).setCell ⟨pB, 1, none⟩ (.int .i64 h3)).setCell ⟨pB, 2, none⟩ (.slice A3 n3 c3) = Wf at *
        refine wpAnyH_take (i := 14) (v := .int .i64 ee) rfl (by kernel_rfl) (by kernel_rfl) (by kernel_rfl) (fun _ _ _ h => h) (Or.inl ⟨by rfl, ?_⟩) hS ?_
        · intro w' hSw
          obtain ⟨s0, s1, s2, s3⟩ := hSw
          go_simp
        try simp only [Act.put, List.setIfInBounds_toArray]
        refine wpAnyH_done (by kernel_rfl) ?_ _
        try simp only [List.setIfInBounds_toArray]
        have HBF := Lib.hid (HBA.out.trans (hbF.mono HBA.out.size))
        have yc := zc.keep hbF zc.lt
        have ym := zt.keep hbF zt.lt
        have yr := zr.keep hbF zr.lt
        have yd := zd.keep hbF zd.lt
        have HRX2 := Lib.hid (Rd.keep hbF _ _ HRX.out)
        have v0 := (hbF.cell (cell_lt HVC.out.1)).trans HVC.out.1
        have v1 := (hbF.cell (cell_lt HVC.out.2.1)).trans HVC.out.2.1
        have v2 := (hbF.cell (cell_lt HVC.out.2.2)).trans HVC.out.2.2
        have HB0F := Lib.hid (HB0A.out.trans (hbF.mono HB0A.out.size))
        clear hS HKS hbd HAP zc zt zr zd t0 t1 t2 a0 a1 a2 hbF hpl xa
        obtain ⟨y0, y1, y2⟩ := xB.three
        obtain ⟨r0, r1, r2⟩ := yr.three
        have f0 := yr.frozen 0
        have f1 := yr.frozen 1
        have f2 := yr.frozen 2
        by_cases hz2 : ee = 0
        · subst hz2
          have hbr : BdV (B + dlV) (apT en (xs.take j) nc) := bd_ap (HBE.out.mono HE.out.lo) (fun y hy => (HBM.out.arg (List.mem_of_mem_take hy)).mono HE.out.lo) HEE.out
          have HTC := Lib.hid (fun W' (h' : Below Wf.heap.size Wf W') => HIH.out x (List.mem_of_getElem? HXJ.out) cx (apT en (xs.take j) nc) (B + dlV) As ns cs (some ⟨bc, oc, none⟩) nm cm Ac nc cc _ _ W' (HE.out.mono (by unfold dlV; omega)) HBX.out.wk hbr (by unfold dlV hiV at *; omega) hLh (HK.out.keep (HB0F.out.trans (h'.mono HB0F.out.size))) (Rd.keep h' _ _ HRX2.out) (Rd.keep h' _ _ (RdF.rd _ _ hrdF)))
          have HME1 := Lib.hid (HME.out.trans (if_pos (by rw [hcl]; exact HEE.out)))
          rw [hcl] at HME1
          obtain ⟨e4, he4⟩ : ∃ e, tmV W x cx (apT en (xs.take j) nc) = e := ⟨_, rfl⟩
          have HE4 := Lib.hid he4
          rw [he4] at HTC
          clear hbr he4
          obtain ⟨s0, s1, s2⟩ := yc.three
          obtain ⟨m0, m1, m2⟩ := ym.three
          have p0 := Past.cell s0
          have p1 := Past.cell s1
          have p2 := Past.cell s2
          have p3 := Past.cell m2
          have p4 := Past.cell v0
          have p5 := Past.cell v1
          have p6 := Past.cell v2
          have p7 := Past.cell y0
          have p8 := Past.cell y1
          have p9 := Past.cell y2
          go_wp2_with fail
          clear s0 s1 s2 m0 m1 m2 v0 v1 v2 y0 y1 y2 r0 r1 r2 f0 f1 f2
          refine wp_region_past (by kernel_rfl) (by kernel_rfl) ?_
          repeat (go_big_quiet_step ((exact calls_past (HTC.out _ (Past.h _)))))
          refine wpQuiet_nil ?_
          rintro _ ⟨zz, rfl⟩
          obtain ⟨W9, hb9⟩ := zz
          dsimp only
          clear p0 p1 p2 p3 p4 p5 p6 p7 p8 p9 HTC
          have HB9 := Lib.hid (HBF.out.trans (hb9.mono HBF.out.size))
          replace yc := yc.keep hb9 yc.lt
          replace ym := ym.keep hb9 ym.lt
          replace yr := yr.keep hb9 yr.lt
          replace yd := yd.keep hb9 yd.lt
          obtain ⟨r0, r1, r2⟩ := yr.three
          have f0 := yr.frozen 0
          have f1 := yr.frozen 1
          have f2 := yr.frozen 2
          clear hb9
          by_cases hz4 : e4 = 0
          · subst hz4
            go_wp2_with fail
            go_roundw
            case measure => simp [Go.RowKit.intOf]; omega
            case rel =>
              refine ⟨j + 1, by omega, by go_num, Lib.hid ⟨yc, ym, yr, yd, HB9.out, ?_⟩⟩
              rw [HME1.out, if_pos HE4.out, take_snocV HXJ.out]
          · have hd4 : (e4 != 0) = true := by simpa using hz4
            have HE5 := Lib.hid (show mtV W xs [] cx es = e4 by rw [HME1.out, if_neg (by rw [HE4.out]; exact hz4), HE4.out])
            have HEQ3 := Lib.hid (HEQ2.out.trans (if_neg (by rw [HE5.out]; exact hz4)))
            rw [HE5.out] at HEQ3
            go_wp2_with fail
            refine bodyPost_ret (v := .tuple #[.agg #[.int .i64 0, .int .i64 0, .slice none 0 0], .int .i64 e4]) (by simp [results, Tryz.results74, go_sem, r0, r1, r2]) rfl ?_
            first | exact spE_err0 HEQ3.out HB9.out | exact spE_err HEQ3.out HB9.out (p := w.heap.size + 1 + 1) (by omega) _ _ _
        · have hd2 : (ee != 0) = true := by simpa using hz2
          have HE5 := Lib.hid (show mtV W xs [] cx es = ee by rw [HME.out, if_neg (by rw [hcl, HEE.out]; exact hz2), hcl, HEE.out])
          have HEQ3 := Lib.hid (HEQ2.out.trans (if_neg (by rw [HE5.out]; exact hz2)))
          rw [HE5.out] at HEQ3
          go_wp2_with fail
          refine bodyPost_ret (v := .tuple #[.agg #[.int .i64 0, .int .i64 0, .slice none 0 0], .int .i64 ee]) (by simp [results, Tryz.results74, go_sem, r0, r1, r2]) rfl ?_
          first | exact spE_err0 HEQ3.out HBF.out | exact spE_err HEQ3.out HBF.out (p := w.heap.size + 1 + 1) (by omega) _ _ _
      · go_simp
        have hb7 : Below Wa.heap.size Wa (Wa.alloc (.cells #[.int .i64 0, .int .i64 0, .slice none 0 0] 36)).drew := ((Below.refl _ Wa).alloc (Nat.le_refl _) _).drew
        refine hK.out _ _ (HKS.out _ hb7) (fun hS => ?_)
        clear hK KN
        try simp only [Act.put, List.setIfInBounds_toArray, List.set_cons_zero, List.set_cons_succ]
        have xz : Box (Wa.alloc (.cells #[.int .i64 0, .int .i64 0, .slice none 0 0] 36)).drew Wa.heap.size 36 #[.int .i64 0, .int .i64 0, .slice none 0 0] := Box.drewI (Box.new _ _ _)
        obtain ⟨pB, hpB0⟩ : ∃ p, Wa.heap.size = p := ⟨_, rfl⟩
        have hpl : Wa.heap.size ≤ pB := by omega
        have hplt : pB < (Wa.alloc (.cells #[.int .i64 0, .int .i64 0, .slice none 0 0] 36)).drew.heap.size := by rw [← hpB0]; exact xz.lt
        rw [hpB0] at xz
        try rw [hpB0]
        have hpB1 := Lib.hid hpB0
        clear hpB0
        generalize (Wa.alloc (.cells #[.int .i64 0, .int .i64 0, .slice none 0 0] 36)).drew = w7 at *
        refine wpAnyH_ready (rs := [8]) (by kernel_rfl) (by simp) ?_
        refine AllReadyH.cons rfl (fun KN hK => ?_) AllReadyH.nil
        go_simp
        refine (HAP.out _ hb7).mono ?_
        rintro e w8 ⟨k3, h3, A3, n3, c3, rfl, hrd, hb8⟩
        have hb8' : Below Wa.heap.size Wa w8 := hb7.trans (hb8.mono hb7.size)
        have hrd8 : RdF (fun b => Wa.heap.size ≤ b ∧ b ≠ pB) w8 (apT en (xs.take j) nc) (.agg #[.int .i64 k3, .int .i64 h3, .slice A3 n3 c3]) := RdF.moveX (fun b hok hl => ⟨⟨by have := hb7.size; omega, by omega⟩, rfl⟩) _ _ hrd
        have xz8 := xz.keep hb8 xz.lt
        refine hK.out _ _ (HKS.out _ hb8') (fun hS => ?_)
        clear hK KN
        try simp only [Act.put, List.setIfInBounds_toArray, List.set_cons_zero, List.set_cons_succ]
        clear hb8 hrd xz hb7
        refine wpAnyH_take (i := 9) (v := .tuple #[.agg #[.int .i64 k3, .int .i64 h3, .slice A3 n3 c3], .int .i64 ee]) rfl (by kernel_rfl) (by kernel_rfl) (by kernel_rfl) (fun _ _ _ h => h) (Or.inl ⟨by rfl, ?_⟩) hS ?_
        · intro w' hSw
          obtain ⟨s0, s1, s2, s3⟩ := hSw
          go_simp
        try simp only [Act.put, List.setIfInBounds_toArray]
        refine wpAnyH_take (i := 10) (v := .agg #[.int .i64 k3, .int .i64 h3, .slice A3 n3 c3]) rfl (by kernel_rfl) (by kernel_rfl) (by kernel_rfl) (fun _ _ _ h => h) (Or.inl ⟨by rfl, ?_⟩) hS ?_
        · intro w' hSw
          obtain ⟨s0, s1, s2, s3⟩ := hSw
          go_simp
        try simp only [Act.put]
        refine wpAnyH_take (i := 11) (v := .int .i64 ee) rfl (by kernel_rfl) (by kernel_rfl) (by kernel_rfl) (fun _ _ _ h => h) (Or.inl ⟨by rfl, ?_⟩) hS ?_
        · intro w' hSw
          obtain ⟨s0, s1, s2, s3⟩ := hSw
          go_simp
        try simp only [Act.put]
        obtain ⟨z0, z1, z2⟩ := xz8.three
        have u0 := xz8.frozen 0
        have u1 := xz8.frozen 1
        have u2 := xz8.frozen 2
        refine wpAnyH_ready (rs := [13]) (by kernel_rfl) (by simp) ?_
        refine AllReadyH.cons rfl (fun KN hK => ?_) AllReadyH.nil
        go_simp
        have hbF := below_set3 hb8' (a := pB) hpl (.int .i64 k3) (.int .i64 h3) (.slice A3 n3 c3)
        refine hK.out _ _ (HKS.out _ hbF) (fun hS => ?_)
        clear hK KN
        try simp only [Act.put, List.setIfInBounds_toArray, List.set_cons_zero, List.set_cons_succ]
        have xB := xz8.put3 (.int .i64 k3) (.int .i64 h3) (.slice A3 n3 c3)
        have hrdF : RdF (fun b => Wa.heap.size ≤ b ∧ b ≠ pB) (((w8.setCell ⟨pB, 0, none⟩ (.int .i64 k3)).setCell ⟨pB, 1, none⟩ (.int .i64 h3)).setCell ⟨pB, 2, none⟩ (.slice A3 n3 c3)) (apT en (xs.take j) nc) (.agg #[.int .i64 k3, .int .i64 h3, .slice A3 n3 c3]) := RdF.moveX (fun b hok hl => ⟨hok, heap_other3 _ _ _ _ _ _ hok.2⟩) _ _ hrd8
        clear hrd8 xz8 hb8' z0 z1 z2 u0 u1 u2 hplt hpB1
        generalize ((w8.setCell ⟨pB, 0, none⟩ (.int .i64 k3)).setCell ⟨pB, 1, none⟩ (.int .i64 h3)).setCell ⟨pB, 2, none⟩ (.slice A3 n3 c3) = Wf at *
        refine wpAnyH_take (i := 14) (v := .int .i64 ee) rfl (by kernel_rfl) (by kernel_rfl) (by kernel_rfl) (fun _ _ _ h => h) (Or.inl ⟨by rfl, ?_⟩) hS ?_
        · intro w' hSw
          obtain ⟨s0, s1, s2, s3⟩ := hSw
          go_simp
        try simp only [Act.put, List.setIfInBounds_toArray]
        refine wpAnyH_done (by kernel_rfl) ?_ _
        try simp only [List.setIfInBounds_toArray]
        have HBF := Lib.hid (HBA.out.trans (hbF.mono HBA.out.size))
        have yc := zc.keep hbF zc.lt
        have ym := zt.keep hbF zt.lt
        have yr := zr.keep hbF zr.lt
        have yd := zd.keep hbF zd.lt
        have HRX2 := Lib.hid (Rd.keep hbF _ _ HRX.out)
        have v0 := (hbF.cell (cell_lt HVC.out.1)).trans HVC.out.1
        have v1 := (hbF.cell (cell_lt HVC.out.2.1)).trans HVC.out.2.1
        have v2 := (hbF.cell (cell_lt HVC.out.2.2)).trans HVC.out.2.2
        have HB0F := Lib.hid (HB0A.out.trans (hbF.mono HB0A.out.size))
        clear hS HKS hbd HAP zc zt zr zd t0 t1 t2 a0 a1 a2 hbF hpl xa
        obtain ⟨y0, y1, y2⟩ := xB.three
        obtain ⟨r0, r1, r2⟩ := yr.three
        have f0 := yr.frozen 0
        have f1 := yr.frozen 1
        have f2 := yr.frozen 2
        by_cases hz2 : ee = 0
        · subst hz2
          have hbr : BdV (B + dlV) (apT en (xs.take j) nc) := bd_ap (HBE.out.mono HE.out.lo) (fun y hy => (HBM.out.arg (List.mem_of_mem_take hy)).mono HE.out.lo) HEE.out
          have HTC := Lib.hid (fun W' (h' : Below Wf.heap.size Wf W') => HIH.out x (List.mem_of_getElem? HXJ.out) cx (apT en (xs.take j) nc) (B + dlV) As ns cs (some ⟨bc, oc, none⟩) nm cm Ac nc cc _ _ W' (HE.out.mono (by unfold dlV; omega)) HBX.out.wk hbr (by unfold dlV hiV at *; omega) hLh (HK.out.keep (HB0F.out.trans (h'.mono HB0F.out.size))) (Rd.keep h' _ _ HRX2.out) (Rd.keep h' _ _ (RdF.rd _ _ hrdF)))
          have HME1 := Lib.hid (HME.out.trans (if_pos (by rw [hcl]; exact HEE.out)))
          rw [hcl] at HME1
          obtain ⟨e4, he4⟩ : ∃ e, tmV W x cx (apT en (xs.take j) nc) = e := ⟨_, rfl⟩
          have HE4 := Lib.hid he4
          rw [he4] at HTC
          clear hbr he4
          obtain ⟨s0, s1, s2⟩ := yc.three
          obtain ⟨m0, m1, m2⟩ := ym.three
          have p0 := Past.cell s0
          have p1 := Past.cell s1
          have p2 := Past.cell s2
          have p3 := Past.cell m2
          have p4 := Past.cell v0
          have p5 := Past.cell v1
          have p6 := Past.cell v2
          have p7 := Past.cell y0
          have p8 := Past.cell y1
          have p9 := Past.cell y2
          go_wp2_with fail
          clear s0 s1 s2 m0 m1 m2 v0 v1 v2 y0 y1 y2 r0 r1 r2 f0 f1 f2
          refine wp_region_past (by kernel_rfl) (by kernel_rfl) ?_
          repeat (go_big_quiet_step ((exact calls_past (HTC.out _ (Past.h _)))))
          refine wpQuiet_nil ?_
          rintro _ ⟨zz, rfl⟩
          obtain ⟨W9, hb9⟩ := zz
          dsimp only
          clear p0 p1 p2 p3 p4 p5 p6 p7 p8 p9 HTC
          have HB9 := Lib.hid (HBF.out.trans (hb9.mono HBF.out.size))
          replace yc := yc.keep hb9 yc.lt
          replace ym := ym.keep hb9 ym.lt
          replace yr := yr.keep hb9 yr.lt
          replace yd := yd.keep hb9 yd.lt
          obtain ⟨r0, r1, r2⟩ := yr.three
          have f0 := yr.frozen 0
          have f1 := yr.frozen 1
          have f2 := yr.frozen 2
          clear hb9
          by_cases hz4 : e4 = 0
          · subst hz4
            go_wp2_with fail
            go_roundw
            case measure => simp [Go.RowKit.intOf]; omega
            case rel =>
              refine ⟨j + 1, by omega, by go_num, Lib.hid ⟨yc, ym, yr, yd, HB9.out, ?_⟩⟩
              rw [HME1.out, if_pos HE4.out, take_snocV HXJ.out]
          · have hd4 : (e4 != 0) = true := by simpa using hz4
            have HE5 := Lib.hid (show mtV W xs [] cx es = e4 by rw [HME1.out, if_neg (by rw [HE4.out]; exact hz4), HE4.out])
            have HEQ3 := Lib.hid (HEQ2.out.trans (if_neg (by rw [HE5.out]; exact hz4)))
            rw [HE5.out] at HEQ3
            go_wp2_with fail
            refine bodyPost_ret (v := .tuple #[.agg #[.int .i64 0, .int .i64 0, .slice none 0 0], .int .i64 e4]) (by simp [results, Tryz.results74, go_sem, r0, r1, r2]) rfl ?_
            first | exact spE_err0 HEQ3.out HB9.out | exact spE_err HEQ3.out HB9.out (p := w.heap.size + 1 + 1) (by omega) _ _ _
        · have hd2 : (ee != 0) = true := by simpa using hz2
          have HE5 := Lib.hid (show mtV W xs [] cx es = ee by rw [HME.out, if_neg (by rw [hcl, HEE.out]; exact hz2), hcl, HEE.out])
          have HEQ3 := Lib.hid (HEQ2.out.trans (if_neg (by rw [HE5.out]; exact hz2)))
          rw [HE5.out] at HEQ3
          go_wp2_with fail
          refine bodyPost_ret (v := .tuple #[.agg #[.int .i64 0, .int .i64 0, .slice none 0 0], .int .i64 ee]) (by simp [results, Tryz.results74, go_sem, r0, r1, r2]) rfl ?_
          first | exact spE_err0 HEQ3.out HBF.out | exact spE_err HEQ3.out HBF.out (p := w.heap.size + 1 + 1) (by omega) _ _ _
    · obtain rfl : j = n := by omega
      have heq := HI.out.eq
      rw [drop_all HX.out.len (Nat.le_refl _), mtV] at heq
      have HEQ3 := Lib.hid (HEQ2.out.trans (if_pos heq))
      have hB0w := Lib.hid (HB0.out.trans (HI.out.below.mono HB0.out.size))
      have HAP : Hid (Calls Tryz.prog 92 #[.agg #[.int .i64 ke, .int .i64 he, .slice Ae ne ce], .agg #[.slice A j c, .int .i64 nc]] wr (TEnd (apT tt xs nc) (apE tt xs nc) wr)) := Lib.hid
        (ApplyC (Rd.keep hB0w.out _ _ HRE.out) hnn hnle HX.out.cap (fun q u hu => RdAt.keep hB0w.out (HX.out.at_ q u hu)) (fun _ => lo_of HMD.out.2 (by decide)) (fun y hy _ => lo_of (HBM.out.arg hy) (by decide)))
      have HER := Lib.hid (show erV (apV tt xs nc) = apE tt xs nc by unfold apV; split; (rename_i h; rw [h]; rfl); rfl)
      have HOK := Lib.hid (show ∀ t, apV tt xs nc = .ok t → t = apT tt xs nc by intro t; unfold apV; split; (intro e; cases e; rfl); (intro e; cases e))
      rw [hcl] at HEQ3
      obtain ⟨R, hR⟩ : ∃ R, apV tt xs nc = R := ⟨_, rfl⟩
      rw [hR] at HEQ3 HER HOK
      rw [← HER.out] at HAP
      obtain ⟨m0, m1, m2⟩ := HI.out.tb.three
      have q1 : wr.cell? ⟨Bd, 1, none⟩ = some (.int .i64 ke) := HI.out.db.cell 1
      have q2 : wr.cell? ⟨Bd, 2, none⟩ = some (.int .i64 he) := HI.out.db.cell 2
      have q3 : wr.cell? ⟨Bd, 3, none⟩ = some (.slice Ae ne ce) := HI.out.db.cell 3
      clear heq hR
      go_wp2_with fail
      refine HAP.out.mono ?_
      rintro e w8 ⟨k4, h4, A4, n4, c4, rfl, hrd, hb8⟩
      have z2 := HI.out.rb.keep hb8 HI.out.rb.lt
      obtain ⟨r0, r1, r2⟩ := z2.three
      have f0 := z2.frozen 0
      have f1 := z2.frozen 1
      have f2 := z2.frozen 2
      have y := z2.put3 (.int .i64 k4) (.int .i64 h4) (.slice A4 n4 c4)
      have HRD := Lib.hid hrd
      have HB8 := Lib.hid (HI.out.below.trans (hb8.mono HI.out.below.size))
      have lzr := HI.out.rb.lt
      clear hrd hb8 m0 m1 m2 q1 q2 q3 HAP
      obtain ⟨y0, y1, y2⟩ := y.three
      clear y
      go_wp2_with fail
      refine bodyPost_ret (v := .tuple #[.agg #[.int .i64 k4, .int .i64 h4, .slice A4 n4 c4], .int .i64 (erV R)]) (by simp [results, Tryz.results74, go_sem, y0, y1, y2]) rfl ?_
      rw [HEQ3.out]
      exact spE_moved (p := w.heap.size + 1 + 1) (m := wr.heap.size) (fun t e => by
        rw [HOK.out t e]
        exact RdF.moveX (fun b hok hl => ⟨.inr (by omega), rfl⟩) _ _ HRD.out) HB8.out (by omega) (by omega) _ _ _ _ rfl
end Go.Proofs.YtmkahbbcagfbhaaGreatDoor
/-
  Contracts of package check's comes, lam and term. No statement is proved here.
-/
namespace Go.Proofs.YtmkahbbcagfbhaaGreatDoor
open Go.ChangeShapes Go.WideShapes Go.ChangeAt Go.RowKit
set_option linter.unusedVariables false
theorem cm_none {W : WV} {cx : List T} {k h : Int} {xs : List T} (h4 : k ≠ 4) (h5 : k ≠ 5) (h6 : k ≠ 6) : cmV W cx (.node k h xs) = .error 3 := by
  rw [cmV, if_neg (by omega), if_neg h6]
theorem kind_cases {k h : Int} {n : Nat} (e : okN k h n = true) : 0 ≤ k ∧ k < 7 := by
  rcases okN_cases e with ⟨e, _⟩ | ⟨e, _⟩ | ⟨e, _⟩ | ⟨e, _⟩ | ⟨e, _⟩ | ⟨e, _⟩ | ⟨e, _⟩ <;> omega
theorem idxV0 (W : World) : (Instr.index 111 (.agg #[.nilFunc, .nilFunc, .nilFunc, .nilFunc, .func (.func 72) #[] #[], .func (.func 73) #[] #[], .func (.func 74) #[] #[]]) (.int .i64 0)).run Tryz.prog W = .ok (.nilFunc) W := by kernel_rfl
theorem idxV1 (W : World) : (Instr.index 111 (.agg #[.nilFunc, .nilFunc, .nilFunc, .nilFunc, .func (.func 72) #[] #[], .func (.func 73) #[] #[], .func (.func 74) #[] #[]]) (.int .i64 1)).run Tryz.prog W = .ok (.nilFunc) W := by kernel_rfl
theorem idxV2 (W : World) : (Instr.index 111 (.agg #[.nilFunc, .nilFunc, .nilFunc, .nilFunc, .func (.func 72) #[] #[], .func (.func 73) #[] #[], .func (.func 74) #[] #[]]) (.int .i64 2)).run Tryz.prog W = .ok (.nilFunc) W := by kernel_rfl
theorem idxV3 (W : World) : (Instr.index 111 (.agg #[.nilFunc, .nilFunc, .nilFunc, .nilFunc, .func (.func 72) #[] #[], .func (.func 73) #[] #[], .func (.func 74) #[] #[]]) (.int .i64 3)).run Tryz.prog W = .ok (.nilFunc) W := by kernel_rfl
theorem idxV4 (W : World) : (Instr.index 111 (.agg #[.nilFunc, .nilFunc, .nilFunc, .nilFunc, .func (.func 72) #[] #[], .func (.func 73) #[] #[], .func (.func 74) #[] #[]]) (.int .i64 4)).run Tryz.prog W = .ok (.func (.func 72) #[] #[]) W := by kernel_rfl
theorem idxV5 (W : World) : (Instr.index 111 (.agg #[.nilFunc, .nilFunc, .nilFunc, .nilFunc, .func (.func 72) #[] #[], .func (.func 73) #[] #[], .func (.func 74) #[] #[]]) (.int .i64 5)).run Tryz.prog W = .ok (.func (.func 73) #[] #[]) W := by kernel_rfl
theorem idxV6 (W : World) : (Instr.index 111 (.agg #[.nilFunc, .nilFunc, .nilFunc, .nilFunc, .func (.func 72) #[] #[], .func (.func 73) #[] #[], .func (.func 74) #[] #[]]) (.int .i64 6)).run Tryz.prog W = .ok (.func (.func 74) #[] #[]) W := by kernel_rfl
theorem nilV (f : FuncId) (W : World) : (binOp .eql 110 (.func (.func f) #[] #[]) .nilFunc).run Tryz.prog W = .ok (.bool false) W := by kernel_rfl
theorem nilV0 (W : World) : (binOp .eql 110 .nilFunc .nilFunc).run Tryz.prog W = .ok (.bool true) W := by kernel_rfl
set_option maxRecDepth 100000 in
set_option maxHeartbeats 16000000 in
theorem vComesC {W : WV} {k h : Int} {xs : List T} (ih : ∀ x ∈ xs, TmC W x) : HdC 51 W k h xs := by
  intro cx B As ns cs Am nm cm Ac nc cc A n c w0 w hE hbm hsum hlen hb0 hk hv
  obtain ⟨W0, hW⟩ : ∃ W0, ((w.alloc (.cells #[.slice As ns cs, .slice Am nm cm, .slice Ac nc cc] 63)).alloc (.cells #[.int .i64 k, .int .i64 h, .slice A n c] 36)).alloc (.cells #[.int .i64 0, .int .i64 0, .slice none 0 0] 36) = W0 := ⟨_, rfl⟩
  have hb : Below w.heap.size w W0 := by rw [← hW]; exact (((Below.refl _ _).alloc (Nat.le_refl _) _).alloc (by simp) _).alloc (by simp; omega) _
  have x0 : Box W0 w.heap.size 63 #[.slice As ns cs, .slice Am nm cm, .slice Ac nc cc] := by rw [← hW]; exact ((Box.new _ _ _).alloc _).alloc _
  have x1 : Box W0 (w.heap.size + 1) 36 #[.int .i64 k, .int .i64 h, .slice A n c] := by rw [← hW]; exact ((Box.new (w.alloc _) _ _).at (by simp)).alloc _
  have x2 : Box W0 (w.heap.size + 1 + 1) 36 #[.int .i64 0, .int .i64 0, .slice none 0 0] := by rw [← hW]; exact (Box.new ((w.alloc _).alloc _) _ _).at (by simp)
  have hb0' := hb0.trans (hb.mono hb0.size)
  have lz := x2.lt
  have hs0 := hb0.size
  obtain ⟨c0, c1, c2⟩ := x0.three
  obtain ⟨d0, d1, d2⟩ := x1.three
  obtain ⟨r0, r1, r2⟩ := x2.three
  have f0 := x2.frozen 0
  have f1 := x2.frozen 1
  have f2 := x2.frozen 2
  have HBW := Lib.hid hb
  have key : (k = 4 ∨ k = 5 ∨ k = 6) ∨ (k ≠ 4 ∧ k ≠ 5 ∧ k ≠ 6) := by omega
  rcases key with hk3 | hk3
  · have hfin : ∀ (w8 : World) (k4 h4 : Int) (A4 : Option Addr) (n4 c4 : Nat), (∀ t, cmV W cx (.node k h xs) = .ok t → RdF (fun b => (b < w0.heap.size ∧ b < W0.heap.size) ∨ W0.heap.size ≤ b) w8 t (.agg #[.int .i64 k4, .int .i64 h4, .slice A4 n4 c4])) → Below W0.heap.size W0 w8 →
        SpE (fun b => b < w0.heap.size) (cmV W cx (.node k h xs)) w (.returned (.tuple #[.agg #[.int .i64 k4, .int .i64 h4, .slice A4 n4 c4], .int .i64 (erV (cmV W cx (.node k h xs)))])) (((w8.setCell ⟨w.heap.size + 1 + 1, 0, none⟩ (.int .i64 k4)).setCell ⟨w.heap.size + 1 + 1, 1, none⟩ (.int .i64 h4)).setCell ⟨w.heap.size + 1 + 1, 2, none⟩ (.slice A4 n4 c4)) := fun w8 k4 h4 A4 n4 c4 hr hb8 =>
      spE_moved (p := w.heap.size + 1 + 1) (m := W0.heap.size) (fun t e => RdF.moveX (fun b hok hl => ⟨by rcases hok with h | h; exact .inl ⟨h.1, by have := h.1; omega⟩; exact .inr h, rfl⟩) _ _ (hr t e)) (hb.trans (hb8.mono hb.size)) (by omega) (by omega) _ _ _ _ rfl
    have HFIN := Lib.hid hfin
    have HX2 := Lib.hid x2
    clear hfin hb x0 x1 x2
    rcases hk3 with rfl | rfl | rfl
    case' inl =>
      have hnl := nilV
      have hix := idxV4
      have HC := Lib.hid (vVarC ih cx B As ns cs Am nm cm Ac nc cc A n c w0 W0 hE hbm hsum hlen hb0' hk hv)
    case' inr.inl =>
      have hnl := nilV
      have hix := idxV5
      have HC := Lib.hid (vConstC ih cx B As ns cs Am nm cm Ac nc cc A n c w0 W0 hE hbm hsum hlen hb0' hk hv)
    case' inr.inr =>
      have hnl := nilV
      have hix := idxV6
      have HC := Lib.hid (vMetaC ih cx B As ns cs Am nm cm Ac nc cc A n c w0 W0 hE hbm hsum hlen hb0' hk hv)
    all_goals
      clear hE hbm hsum hlen hb0' hk hv hb0
      generalize cmV W cx _ = R at *
      go_enter Tryz.func51, Tryz.ntmps51
      go_wp2_with fail
      clear hW
      refine HC.out.mono ?_
      rintro e w8 ⟨k4, h4, A4, n4, c4, rfl, hrd, hb8⟩
      have z2 := HX2.out.keep hb8 HX2.out.lt
      clear r0 r1 r2 f0 f1 f2 c0 c1 c2 d0 d1 d2
      obtain ⟨r0, r1, r2⟩ := z2.three
      have f0 := z2.frozen 0
      have f1 := z2.frozen 1
      have f2 := z2.frozen 2
      obtain ⟨y0, y1, y2⟩ := (z2.put3 (.int .i64 k4) (.int .i64 h4) (.slice A4 n4 c4)).three
      have HRD := Lib.hid hrd
      have HB8 := Lib.hid hb8
      clear z2 hrd hb8
      go_wp2_with fail
      refine bodyPost_ret (v := .tuple #[.agg #[.int .i64 k4, .int .i64 h4, .slice A4 n4 c4], .int .i64 (erV R)]) (by simp [results, Tryz.results51, go_sem, y0, y1, y2]) rfl ?_
      exact HFIN.out w8 k4 h4 A4 n4 c4 HRD.out HB8.out
  · have HEQ := Lib.hid (cm_none (W := W) (cx := cx) (h := h) (xs := xs) hk3.1 hk3.2.1 hk3.2.2)
    have hkc := kind_cases (nodV hbm.nod).1
    have hk7 : k = 0 ∨ k = 1 ∨ k = 2 ∨ k = 3 := by omega
    clear hE hbm hsum hlen hb0' hk hv hb0 hkc hb
    have hnl := nilV0
    have hi0 := idxV0
    have hi1 := idxV1
    have hi2 := idxV2
    have hi3 := idxV3
    rcases hk7 with rfl | rfl | rfl | rfl
    all_goals
      go_enter Tryz.func51, Tryz.ntmps51
      go_wp2_with fail
      clear hW
      refine bodyPost_ret (v := .tuple #[.agg #[.int .i64 0, .int .i64 0, .slice none 0 0], .int .i64 3]) (by simp [results, Tryz.results51, go_sem, r0, r1, r2]) rfl ?_
      first | exact spE_err0 HEQ.out HBW.out | exact spE_err HEQ.out HBW.out (p := w.heap.size + 1 + 1) (by omega) _ _ _
end Go.Proofs.YtmkahbbcagfbhaaGreatDoor
/-
  Contracts of package check's lam and term. No statement is proved here.
-/
namespace Go.Proofs.YtmkahbbcagfbhaaGreatDoor
open Go.ChangeShapes Go.WideShapes Go.ChangeAt Go.RowKit
set_option linter.unusedVariables false
theorem rd_lamV {w : World} {h : Int} {x : T} {A : Option Addr} {n c : Nat} (hv : Rd w (.node 3 h [x]) (.agg #[.int .i64 3, .int .i64 h, .slice A n c])) : ∃ b o k g A1 n1 c1, A = some ⟨b, o, none⟩ ∧ n = 1 ∧ 1 ≤ c ∧ c ≤ maxLen ∧
    w.cell? ⟨b, o, none⟩ = some (.int .i64 k) ∧ w.cell? ⟨b, o + 1, none⟩ = some (.int .i64 g) ∧ w.cell? ⟨b, o + 2, none⟩ = some (.slice A1 n1 c1) ∧ Rd w x (.agg #[.int .i64 k, .int .i64 g, .slice A1 n1 c1]) := by
  obtain ⟨A', n', c', e, _, _, h3, h4, h5, h6⟩ := Rd_node.1 hv
  have e' : A = A' ∧ n = n' ∧ c = c' := by simpa using e
  obtain ⟨rfl, rfl, rfl⟩ := e'
  obtain ⟨b, o, k, g, A1, n1, c1, rfl, c0, d0, e0, r0⟩ := (h6 0 x rfl).full
  simp at h3
  exact ⟨b, o, k, g, A1, n1, c1, rfl, h3.symm, by omega, h5, by simpa using c0, by simpa using d0, by simpa using e0, r0⟩
set_option maxRecDepth 100000 in
set_option maxHeartbeats 16000000 in
theorem vLamC {W : WV} {x : T} {hh : Int} (ih : TmC W x) (cx : List T) (a : T) (B : Int) (As : Option Addr) (ns cs : Nat) (Am : Option Addr) (nm cm : Nat) (Ac : Option Addr) (nc cc : Nat) (A : Option Addr) (n c : Nat) (ka ga : Int) (Aa : Option Addr) (na ca : Nat) (w : World)
    (hE : EnvV W cx B) (hbm : WkV W (.node 3 hh [x])) (hba : BdV B a) (hsum : B + nd (.node 3 hh [x]) * dlV ≤ hiV) (hlen : cx.length + nd (.node 3 hh [x]) ≤ 1000000) (hk : CkV w W cx As ns cs Am nm cm Ac nc cc) (hv : Rd w (.node 3 hh [x]) (.agg #[.int .i64 3, .int .i64 hh, .slice A n c])) (ha : Rd w a (.agg #[.int .i64 ka, .int .i64 ga, .slice Aa na ca])) :
    Calls Tryz.prog 50 #[.agg #[.slice As ns cs, .slice Am nm cm, .slice Ac nc cc], .agg #[.int .i64 3, .int .i64 hh, .slice A n c], .agg #[.int .i64 ka, .int .i64 ga, .slice Aa na ca]] w fun e w' => e = .returned (.int .i64 (tmV W (.node 3 hh [x]) cx a)) ∧ Below w.heap.size w w' := by
  obtain ⟨W0, hW⟩ : ∃ W0, ((w.alloc (.cells #[.slice As ns cs, .slice Am nm cm, .slice Ac nc cc] 63)).alloc (.cells #[.int .i64 3, .int .i64 hh, .slice A n c] 36)).alloc (.cells #[.int .i64 ka, .int .i64 ga, .slice Aa na ca] 36) = W0 := ⟨_, rfl⟩
  have hb : Below w.heap.size w W0 := by rw [← hW]; exact (((Below.refl _ _).alloc (Nat.le_refl _) _).alloc (by simp) _).alloc (by simp; omega) _
  have x0 : Box W0 w.heap.size 63 #[.slice As ns cs, .slice Am nm cm, .slice Ac nc cc] := by rw [← hW]; exact ((Box.new _ _ _).alloc _).alloc _
  have x1 : Box W0 (w.heap.size + 1) 36 #[.int .i64 3, .int .i64 hh, .slice A n c] := by rw [← hW]; exact ((Box.new (w.alloc _) _ _).at (by simp)).alloc _
  have x2 : Box W0 (w.heap.size + 1 + 1) 36 #[.int .i64 ka, .int .i64 ga, .slice Aa na ca] := by rw [← hW]; exact (Box.new ((w.alloc _).alloc _) _ _).at (by simp)
  obtain ⟨c0, c1, c2⟩ := x0.three
  obtain ⟨d0, d1, d2⟩ := x1.three
  obtain ⟨a0, a1, a2⟩ := x2.three
  have hkd := (rdF_kind ha).1
  have HB := Lib.hid hb
  by_cases hk1 : ka = 1
  case' neg =>
    have hd : (ka != 1) = true := by simpa using hk1
    have HEQ := Lib.hid (show tmV W (.node 3 hh [x]) cx a = 3 by rw [tm_lam, if_neg (by rw [hkd]; exact hk1)])
    rw [HEQ.out]
    go_enter Tryz.func50, Tryz.ntmps50
    go_wp2_with fail
    clear hW
    go_ret
    exact ⟨rfl, HB.out⟩
  subst hk1
  obtain ⟨p, q, rfl, hbp, hbq⟩ := hba.pi hkd
  obtain ⟨bb, ob, cb, ev, hc2, hcm2, ⟨kp, gp, Ap, np, cp, p0, p1, p2, hrp⟩, ⟨kq, gq, Aq, nq, cq, q0, q1, q2, hrq⟩⟩ := rd_pi ha
  have ev' : ga = 0 ∧ Aa = some ⟨bb, ob, none⟩ ∧ na = 2 ∧ ca = cb := by simpa using ev
  obtain ⟨rfl, rfl, rfl, rfl⟩ := ev'
  obtain ⟨bx, ox, kx, gx, Ax, nx, cx', rfl, rfl, hc1, hcm1, v0, v1, v2, hrx⟩ := rd_lamV hv
  unfold maxLen at hcm1 hcm2
  have HEQ := Lib.hid (show tmV W (.node 3 hh [x]) cx (.node 1 0 [p, q]) = tmV W x (cx ++ [p]) q by rw [tm_lam]; rfl)
  rw [HEQ.out]
  replace p0 := (hb.cell (cell_lt p0)).trans p0
  replace p1 := (hb.cell (cell_lt p1)).trans p1
  replace p2 := (hb.cell (cell_lt p2)).trans p2
  replace q0 := (hb.cell (cell_lt q0)).trans q0
  replace q1 := (hb.cell (cell_lt q1)).trans q1
  replace q2 := (hb.cell (cell_lt q2)).trans q2
  replace v0 := (hb.cell (cell_lt v0)).trans v0
  replace v1 := (hb.cell (cell_lt v1)).trans v1
  replace v2 := (hb.cell (cell_lt v2)).trans v2
  have hcl := hk.cx.len
  rw [nd, ndL, ndL] at hsum hlen
  have HMO : Hid (∀ W' : World, Below W0.heap.size W0 W' → Calls Tryz.prog 71 #[.agg #[.slice As ns cs, .slice Am nm cm, .slice Ac nc cc], .agg #[.int .i64 kp, .int .i64 gp, .slice Ap np cp]] W' (MoreV As Am ns cs nm cm nc (cx ++ [p]) W')) := Lib.hid fun W' h' =>
    moreC cx p As Am Ac ns cs nm cm nc cc _ _ _ _ _ W' (hk.cx.keep (hb.trans (h'.mono hb.size))) (Rd.keep (hb.trans (h'.mono hb.size)) _ _ hrp) (by omega)
  have HTM : Hid (∀ (W' : World) (g cap : Nat), Below W0.heap.size W0 W' → CLV W' (cx ++ [p]) (some ⟨g, 0, none⟩) (nc + 1) cap → Calls Tryz.prog 32 #[.agg #[.slice As ns cs, .slice Am nm cm, .slice (some ⟨g, 0, none⟩) (nc + 1) cap], .agg #[.int .i64 kx, .int .i64 gx, .slice Ax nx cx'], .agg #[.int .i64 kq, .int .i64 gq, .slice Aq nq cq]] W' fun e w' => e = .returned (.int .i64 (tmV W x (cx ++ [p]) q)) ∧ Below W'.heap.size W' w') := Lib.hid fun W' g cap h' hcl' =>
    have hb' := hb.trans (h'.mono hb.size)
    ih (cx ++ [p]) q B As ns cs Am nm cm _ _ _ _ _ W' (hE.more hbp) (hbm.arg (by simp)) hbq (by unfold dlV hiV at *; omega) (by rw [List.length_append, List.length_singleton]; omega) ⟨hk.sg.keep hb', hk.ms.keep hb', hcl'⟩ (Rd.keep hb' _ _ hrx) (Rd.keep hb' _ _ hrq)
  generalize tmV W x (cx ++ [p]) q = R at *
  clear hE hbm hba hsum hlen hk hv ha hbp hbq hrp hrq hrx ev hb hkd HEQ
  go_enter Tryz.func50, Tryz.ntmps50
  go_wp2_with fail
  clear hW
  have HKS : Hid (∀ w' : World, Below W0.heap.size W0 w' → (fun w' => w'.cell? ⟨w.heap.size, 0, none⟩ = some (.slice As ns cs) ∧ w'.cell? ⟨w.heap.size, 1, none⟩ = some (.slice Am nm cm) ∧ w'.cell? ⟨w.heap.size, 2, none⟩ = some (.slice Ac nc cc) ∧ w'.cell? ⟨w.heap.size + 1, 2, none⟩ = some (.slice (some ⟨bx, ox, none⟩) 1 c) ∧ w'.cell? ⟨w.heap.size + 1 + 1, 2, none⟩ = some (.slice (some ⟨bb, ob, none⟩) 2 ca) ∧ w'.cell? ⟨bb, ob, none⟩ = some (.int .i64 kp) ∧ w'.cell? ⟨bb, ob + 1, none⟩ = some (.int .i64 gp) ∧ w'.cell? ⟨bb, ob + 2, none⟩ = some (.slice Ap np cp) ∧ w'.cell? ⟨bb, ob + 3, none⟩ = some (.int .i64 kq) ∧ w'.cell? ⟨bb, ob + 4, none⟩ = some (.int .i64 gq) ∧ w'.cell? ⟨bb, ob + 5, none⟩ = some (.slice Aq nq cq) ∧ w'.cell? ⟨bx, ox, none⟩ = some (.int .i64 kx) ∧ w'.cell? ⟨bx, ox + 1, none⟩ = some (.int .i64 gx) ∧ w'.cell? ⟨bx, ox + 2, none⟩ = some (.slice Ax nx cx')) w') := Lib.hid fun w' h => ⟨(h.cell (cell_lt c0)).trans c0, (h.cell (cell_lt c1)).trans c1, (h.cell (cell_lt c2)).trans c2, (h.cell (cell_lt d2)).trans d2, (h.cell (cell_lt a2)).trans a2, (h.cell (cell_lt p0)).trans p0, (h.cell (cell_lt p1)).trans p1, (h.cell (cell_lt p2)).trans p2, (h.cell (cell_lt q0)).trans q0, (h.cell (cell_lt q1)).trans q1, (h.cell (cell_lt q2)).trans q2, (h.cell (cell_lt v0)).trans v0, (h.cell (cell_lt v1)).trans v1, (h.cell (cell_lt v2)).trans v2⟩
  have hbd : Below W0.heap.size W0 W0.drew := (Below.refl _ W0).drew
  refine wp_region_held_drew (S := fun w' => w'.cell? ⟨w.heap.size, 0, none⟩ = some (.slice As ns cs) ∧ w'.cell? ⟨w.heap.size, 1, none⟩ = some (.slice Am nm cm) ∧ w'.cell? ⟨w.heap.size, 2, none⟩ = some (.slice Ac nc cc) ∧ w'.cell? ⟨w.heap.size + 1, 2, none⟩ = some (.slice (some ⟨bx, ox, none⟩) 1 c) ∧ w'.cell? ⟨w.heap.size + 1 + 1, 2, none⟩ = some (.slice (some ⟨bb, ob, none⟩) 2 ca) ∧ w'.cell? ⟨bb, ob, none⟩ = some (.int .i64 kp) ∧ w'.cell? ⟨bb, ob + 1, none⟩ = some (.int .i64 gp) ∧ w'.cell? ⟨bb, ob + 2, none⟩ = some (.slice Ap np cp) ∧ w'.cell? ⟨bb, ob + 3, none⟩ = some (.int .i64 kq) ∧ w'.cell? ⟨bb, ob + 4, none⟩ = some (.int .i64 gq) ∧ w'.cell? ⟨bb, ob + 5, none⟩ = some (.slice Aq nq cq) ∧ w'.cell? ⟨bx, ox, none⟩ = some (.int .i64 kx) ∧ w'.cell? ⟨bx, ox + 1, none⟩ = some (.int .i64 gx) ∧ w'.cell? ⟨bx, ox + 2, none⟩ = some (.slice Ax nx cx')) (by kernel_rfl) (HKS.out _ hbd) (fun hS => ?_)
  simp only [List.size_toArray, List.length_cons, List.length_nil, Nat.reduceAdd]
  refine wpAnyH_take (i := 0) (v := .agg #[.slice As ns cs, .slice Am nm cm, .slice Ac nc cc]) rfl (by kernel_rfl) (by kernel_rfl) (by kernel_rfl) (fun _ _ _ h => h) (Or.inl ⟨by rfl, ?_⟩) hS ?_
  · intro w' hSw
    obtain ⟨s0, s1, s2, s3, s4, s5, s6, s7, s8, s9, s10, s11, s12, s13⟩ := hSw
    go_simp
  try simp only [Act.put, List.setIfInBounds_toArray]
  refine wpAnyH_take (i := 1) (v := .pointer (some ⟨w.heap.size + 1 + 1, 2, none⟩)) rfl (by kernel_rfl) (by kernel_rfl) (by kernel_rfl) (fun _ _ _ h => h) (Or.inl ⟨by rfl, ?_⟩) hS ?_
  · intro w' hSw
    obtain ⟨s0, s1, s2, s3, s4, s5, s6, s7, s8, s9, s10, s11, s12, s13⟩ := hSw
    go_simp
  try simp only [Act.put]
  refine wpAnyH_take (i := 2) (v := .slice (some ⟨bb, ob, none⟩) 2 ca) rfl (by kernel_rfl) (by kernel_rfl) (by kernel_rfl) (fun _ _ _ h => h) (Or.inl ⟨by rfl, ?_⟩) hS ?_
  · intro w' hSw
    obtain ⟨s0, s1, s2, s3, s4, s5, s6, s7, s8, s9, s10, s11, s12, s13⟩ := hSw
    go_simp
  try simp only [Act.put]
  refine wpAnyH_take (i := 3) (v := .pointer (some ⟨bb, ob, none⟩)) rfl (by kernel_rfl) (by kernel_rfl) (by kernel_rfl) (fun _ _ _ h => h) (Or.inl ⟨by rfl, ?_⟩) hS ?_
  · intro w' hSw
    obtain ⟨s0, s1, s2, s3, s4, s5, s6, s7, s8, s9, s10, s11, s12, s13⟩ := hSw
    go_simp
  try simp only [Act.put]
  refine wpAnyH_take (i := 4) (v := .agg #[.int .i64 kp, .int .i64 gp, .slice Ap np cp]) rfl (by kernel_rfl) (by kernel_rfl) (by kernel_rfl) (fun _ _ _ h => h) (Or.inl ⟨by rfl, ?_⟩) hS ?_
  · intro w' hSw
    obtain ⟨s0, s1, s2, s3, s4, s5, s6, s7, s8, s9, s10, s11, s12, s13⟩ := hSw
    go_simp
  try simp only [Act.put]
  refine wpAnyH_take (i := 6) (v := .pointer (some ⟨w.heap.size + 1, 2, none⟩)) rfl (by kernel_rfl) (by kernel_rfl) (by kernel_rfl) (fun _ _ _ h => h) (Or.inl ⟨by rfl, ?_⟩) hS ?_
  · intro w' hSw
    obtain ⟨s0, s1, s2, s3, s4, s5, s6, s7, s8, s9, s10, s11, s12, s13⟩ := hSw
    go_simp
  try simp only [Act.put]
  refine wpAnyH_take (i := 7) (v := .slice (some ⟨bx, ox, none⟩) 1 c) rfl (by kernel_rfl) (by kernel_rfl) (by kernel_rfl) (fun _ _ _ h => h) (Or.inl ⟨by rfl, ?_⟩) hS ?_
  · intro w' hSw
    obtain ⟨s0, s1, s2, s3, s4, s5, s6, s7, s8, s9, s10, s11, s12, s13⟩ := hSw
    go_simp
  try simp only [Act.put]
  refine wpAnyH_take (i := 8) (v := .pointer (some ⟨bx, ox, none⟩)) rfl (by kernel_rfl) (by kernel_rfl) (by kernel_rfl) (fun _ _ _ h => h) (Or.inl ⟨by rfl, ?_⟩) hS ?_
  · intro w' hSw
    obtain ⟨s0, s1, s2, s3, s4, s5, s6, s7, s8, s9, s10, s11, s12, s13⟩ := hSw
    go_simp
  try simp only [Act.put]
  refine wpAnyH_take (i := 9) (v := .agg #[.int .i64 kx, .int .i64 gx, .slice Ax nx cx']) rfl (by kernel_rfl) (by kernel_rfl) (by kernel_rfl) (fun _ _ _ h => h) (Or.inl ⟨by rfl, ?_⟩) hS ?_
  · intro w' hSw
    obtain ⟨s0, s1, s2, s3, s4, s5, s6, s7, s8, s9, s10, s11, s12, s13⟩ := hSw
    go_simp
  try simp only [Act.put]
  refine wpAnyH_take (i := 10) (v := .pointer (some ⟨w.heap.size + 1 + 1, 2, none⟩)) rfl (by kernel_rfl) (by kernel_rfl) (by kernel_rfl) (fun _ _ _ h => h) (Or.inl ⟨by rfl, ?_⟩) hS ?_
  · intro w' hSw
    obtain ⟨s0, s1, s2, s3, s4, s5, s6, s7, s8, s9, s10, s11, s12, s13⟩ := hSw
    go_simp
  try simp only [Act.put]
  refine wpAnyH_take (i := 11) (v := .slice (some ⟨bb, ob, none⟩) 2 ca) rfl (by kernel_rfl) (by kernel_rfl) (by kernel_rfl) (fun _ _ _ h => h) (Or.inl ⟨by rfl, ?_⟩) hS ?_
  · intro w' hSw
    obtain ⟨s0, s1, s2, s3, s4, s5, s6, s7, s8, s9, s10, s11, s12, s13⟩ := hSw
    go_simp
  try simp only [Act.put]
  refine wpAnyH_take (i := 12) (v := .pointer (some ⟨bb, ob + 3, none⟩)) rfl (by kernel_rfl) (by kernel_rfl) (by kernel_rfl) (fun _ _ _ h => h) (Or.inl ⟨by rfl, ?_⟩) hS ?_
  · intro w' hSw
    obtain ⟨s0, s1, s2, s3, s4, s5, s6, s7, s8, s9, s10, s11, s12, s13⟩ := hSw
    go_simp
  try simp only [Act.put]
  refine wpAnyH_take (i := 13) (v := .agg #[.int .i64 kq, .int .i64 gq, .slice Aq nq cq]) rfl (by kernel_rfl) (by kernel_rfl) (by kernel_rfl) (fun _ _ _ h => h) (Or.inl ⟨by rfl, ?_⟩) hS ?_
  · intro w' hSw
    obtain ⟨s0, s1, s2, s3, s4, s5, s6, s7, s8, s9, s10, s11, s12, s13⟩ := hSw
    go_simp
  try simp only [Act.put]
  refine wpAnyH_ready (rs := [5]) (by kernel_rfl) (by simp) ?_
  refine AllReadyH.cons rfl (fun KN hK => ?_) AllReadyH.nil
  go_simp
  refine (HMO.out _ hbd).mono ?_
  rintro e w8 ⟨g8, cap8, rfl, hcl8, hb8⟩
  have hb8' : Below W0.heap.size W0 w8 := hbd.trans (hb8.mono hbd.size)
  refine hK.out _ _ (HKS.out _ hb8') (fun hS => ?_)
  clear hK KN
  try simp only [Act.put, List.setIfInBounds_toArray, List.set_cons_zero, List.set_cons_succ]
  clear hb8
  refine wpAnyH_ready (rs := [14]) (by kernel_rfl) (by simp) ?_
  refine AllReadyH.cons rfl (fun KN hK => ?_) AllReadyH.nil
  go_simp
  refine (HTM.out w8 g8 cap8 hb8' hcl8).mono ?_
  rintro e w9 ⟨rfl, hb9⟩
  have hb9' : Below W0.heap.size W0 w9 := hb8'.trans (hb9.mono hb8'.size)
  refine hK.out _ _ (HKS.out _ hb9') (fun hS => ?_)
  clear hK KN
  try simp only [Act.put, List.setIfInBounds_toArray, List.set_cons_zero, List.set_cons_succ]
  refine wpAnyH_take (i := 15) (v := .int .i64 R) rfl (by kernel_rfl) (by kernel_rfl) (by kernel_rfl) (fun _ _ _ h => h) (Or.inl ⟨by rfl, ?_⟩) hS ?_
  · intro w' hSw
    obtain ⟨s0, s1, s2, s3, s4, s5, s6, s7, s8, s9, s10, s11, s12, s13⟩ := hSw
    go_simp
  try simp only [Act.put, List.setIfInBounds_toArray]
  refine wpAnyH_done (by kernel_rfl) ?_ _
  try simp only [List.setIfInBounds_toArray]
  try simp only [List.getElem_toArray, List.getElem_cons_succ, List.getElem_cons_zero, List.set_cons_zero, List.set_cons_succ]
  have HBF := Lib.hid (HB.out.trans (hb9'.mono HB.out.size))
  clear hS HKS hbd hb9' hb9 hb8' hcl8 x0 x1 x2 c0 c1 c2 d0 d1 d2 a0 a1 a2 p0 p1 p2 q0 q1 q2 v0 v1 v2
  go_wp2_with fail
  refine bodyPost_ret (v := .int .i64 R) (by simp [results, Tryz.results50, go_sem]) rfl ?_
  exact ⟨rfl, HBF.out⟩
end Go.Proofs.YtmkahbbcagfbhaaGreatDoor
/-
  Contracts of package check's term. No statement is proved here.
-/
namespace Go.Proofs.YtmkahbbcagfbhaaGreatDoor
open Go.ChangeShapes Go.WideShapes Go.ChangeAt Go.RowKit
set_option linter.unusedVariables false
set_option maxRecDepth 100000 in
set_option maxHeartbeats 16000000 in
theorem vTermC (W : WV) (m : T) : TmC W m := by
  induction m using T.ind with
  | step k h xs ih =>
    intro cx a B As ns cs Am nm cm Ac nc cc vm va w hE hbm hba hsum hlen hk hv ha
    obtain ⟨A, n, c, rfl, hrest⟩ := Rd_node.1 hv
    clear hrest
    obtain ⟨ka, ga, Aa, na, ca, rfl⟩ := ha.full
    obtain ⟨W0, hW⟩ : ∃ W0, ((w.alloc (.cells #[.slice As ns cs, .slice Am nm cm, .slice Ac nc cc] 63)).alloc (.cells #[.int .i64 k, .int .i64 h, .slice A n c] 36)).alloc (.cells #[.int .i64 ka, .int .i64 ga, .slice Aa na ca] 36) = W0 := ⟨_, rfl⟩
    have hb : Below w.heap.size w W0 := by rw [← hW]; exact (((Below.refl _ _).alloc (Nat.le_refl _) _).alloc (by simp) _).alloc (by simp; omega) _
    have x0 : Box W0 w.heap.size 63 #[.slice As ns cs, .slice Am nm cm, .slice Ac nc cc] := by rw [← hW]; exact ((Box.new _ _ _).alloc _).alloc _
    have x1 : Box W0 (w.heap.size + 1) 36 #[.int .i64 k, .int .i64 h, .slice A n c] := by rw [← hW]; exact ((Box.new (w.alloc _) _ _).at (by simp)).alloc _
    have x2 : Box W0 (w.heap.size + 1 + 1) 36 #[.int .i64 ka, .int .i64 ga, .slice Aa na ca] := by rw [← hW]; exact (Box.new ((w.alloc _).alloc _) _ _).at (by simp)
    obtain ⟨c0, c1, c2⟩ := x0.three
    obtain ⟨d0, d1, d2⟩ := x1.three
    obtain ⟨a0, a1, a2⟩ := x2.three
    have hkd := (rdF_kind ha).1
    have HB := Lib.hid hb
    by_cases hk3 : k = 3
    case' pos =>
      subst hk3
      obtain ⟨rfl, x, rfl, _⟩ := lamV hbm.nod
      have HL := Lib.hid (vLamC (ih x (by simp)) cx a B As ns cs Am nm cm Ac nc cc A n c ka ga Aa na ca W0 hE hbm hba hsum hlen (hk.keep hb) (Rd.keep hb _ _ hv) (Rd.keep hb _ _ ha))
      generalize tmV W (.node 3 0 [x]) cx a = R at *
      clear hE hbm hba hsum hlen hk hv ha hb hkd ih x0 x1 x2
      go_enter Tryz.func32, Tryz.ntmps32
      go_wp2_with fail
      clear hW
      refine HL.out.mono ?_
      rintro e w1 ⟨rfl, hb1⟩
      go_wp2_with fail
      go_ret
      exact ⟨rfl, HB.out.trans (hb1.mono HB.out.size)⟩
    have e3 : (k == 3) = false := by simpa using hk3
    have hka : kdQ a = ka := hkd
    by_cases hk2 : ka = 2
    case' neg =>
      have hd : (ka != 2) = true := by simpa using hk2
      have HEQ := Lib.hid (show tmV W (.node k h xs) cx a = 3 by rw [tm_neu W hk3, if_neg (by rw [hka]; exact hk2)])
      rw [HEQ.out]
      clear hE hbm hba hsum hlen hk hv ha hb hkd ih x0 x1 x2
      go_enter Tryz.func32, Tryz.ntmps32
      go_wp2_with fail
      clear hW
      go_ret
      exact ⟨rfl, HB.out⟩
    subst hk2
    have HEQ := Lib.hid (show tmV W (.node k h xs) cx a = enV a (cmV W cx (.node k h xs)) by rw [tm_neu W hk3, if_pos hka])
    rw [HEQ.out]
    have HC := Lib.hid (vComesC ih cx B As ns cs Am nm cm Ac nc cc A n c w W0 hE hbm hsum hlen hb hk hv)
    have HER := Lib.hid (fun e (he : cmV W cx (.node k h xs) = .error e) => cm_err he)
    have HA := Lib.hid (Rd.keep hb _ _ ha)
    generalize cmV W cx (.node k h xs) = R at *
    have HZE := Lib.hid (show ∀ er, R = .error er → er = enV a R from fun er e => by subst e; rfl)
    have HZO := Lib.hid (show ∀ t, R = .ok t → (if samB t a = true then 0 else 3) = enV a R from fun t e => by subst e; rfl)
    generalize enV a R = Z at *
    have X2 := Lib.hid x2
    clear hE hbm hba hsum hlen hk hv ha hb hkd ih HEQ x0 x1 x2
    go_enter Tryz.func32, Tryz.ntmps32
    go_wp2_with fail
    clear hW
    refine HC.out.mono ?_
    rintro e w1 ⟨k4, h4, A4, n4, c4, rfl, hrd, hb1⟩
    clear c0 c1 c2 d0 d1 d2 a0 a1 a2
    have HB1 := Lib.hid (HB.out.trans (hb1.mono HB.out.size))
    replace X2 := Lib.hid (X2.out.keep hb1 X2.out.lt)
    have HA1 := Lib.hid (Rd.keep hb1 _ _ HA.out)
    cases R with
    | error er =>
      have hne := HER.out er rfl
      have hd : (er != 0) = true := by simpa using hne
      clear hb1 hrd
      simp only [erV]
      go_wp2_with fail
      go_ret
      exact ⟨ret_int (HZE.out er rfl), HB1.out.alloc HB1.out.size _⟩
    | ok t =>
      have hrt := RdF.rd _ _ (hrd t rfl)
      obtain ⟨W2, hW2⟩ : ∃ W2, w1.alloc (.cells #[.int .i64 k4, .int .i64 h4, .slice A4 n4 c4] 36) = W2 := ⟨_, rfl⟩
      have hb2 : Below w1.heap.size w1 W2 := by rw [← hW2]; exact (Below.refl _ _).alloc (Nat.le_refl _) _
      have z2 : Box W2 w1.heap.size 36 #[.int .i64 k4, .int .i64 h4, .slice A4 n4 c4] := by rw [← hW2]; exact Box.new _ _ _
      have HSM := Lib.hid (termSame t a _ _ W2 (Rd.keep hb2 _ _ hrt) (Rd.keep hb2 _ _ HA1.out))
      have HB2 := Lib.hid (HB1.out.trans (hb2.mono HB1.out.size))
      obtain ⟨b0, b1, b2⟩ := (X2.out.keep hb2 X2.out.lt).three
      obtain ⟨y0, y1, y2⟩ := z2.three
      clear hb1 hrd hb2 hrt z2
      have HSE := Lib.hid (HZO.out t rfl)
      simp only [erV]
      generalize samB t a = r at *
      go_wp2_with fail
      refine HSM.out.mono ?_
      rintro e w3 ⟨rfl, hb3⟩
      have HB3 := Lib.hid (HB2.out.trans (hb3.mono HB2.out.size))
      clear hb3 HSM b0 b1 b2 y0 y1 y2 hW2
      cases r
      · go_wp2_with fail
        go_ret
        exact ⟨ret_int HSE.out, HB3.out⟩
      · go_wp2_with fail
        go_ret
        exact ⟨ret_int HSE.out, HB3.out⟩
end Go.Proofs.YtmkahbbcagfbhaaGreatDoor
/-
  Contract of package check's Term. No statement is proved here.
-/
namespace Go.Proofs.YtmkahbbcagfbhaaGreatDoor
open Go.ChangeShapes Go.WideShapes Go.ChangeAt Go.RowKit
set_option linter.unusedVariables false
/-- what is wrong with a term of a type -/
def ckT (W : WV) (cx : List T) (m a : T) : Int := if mayV W cx [m, a] = true then tmV W m cx a else 1
theorem mayV_iff (W : WV) (cx l : List T) : mayV W cx l = true ↔ cx.length ≤ 1000 ∧ (∀ t ∈ cx, myB t = true) ∧ (∀ t ∈ l, myB t = true) ∧ (∀ t ∈ W.sg, myB t = true) ∧ ∀ m ∈ W.ms, (∀ t ∈ m.1, myB t = true) ∧ myB m.2 = true := by
  simp only [mayV, mmB, Bool.and_eq_true, decide_eq_true_eq, List.all_eq_true]
/-- the Heads of all that is handed in are low, as far as it may be -/
structure LoV (W : WV) (cx : List T) : Prop where
  sg : ∀ t ∈ W.sg, myB t = true → okT loV t
  ms : ∀ m ∈ W.ms, (∀ e ∈ m.1, myB e = true → okT loV e) ∧ (myB m.2 = true → okT loV m.2)
  cx : ∀ t ∈ cx, myB t = true → okT loV t
theorem env_of {W : WV} {cx l : List T} (L : LoV W cx) (h : mayV W cx l = true) : EnvV W cx loV := by
  obtain ⟨_, h2, _, h4, h5⟩ := (mayV_iff W cx l).1 h
  exact ⟨fun t ht => ⟨h4 t ht, L.sg t ht (h4 t ht)⟩, fun m hm => ⟨fun e he => ⟨(h5 m hm).1 e he, (L.ms m hm).1 e he ((h5 m hm).1 e he)⟩, (h5 m hm).2, (L.ms m hm).2 (h5 m hm).2⟩, fun t ht => ⟨h2 t ht, L.cx t ht (h2 t ht)⟩, Int.le_refl _⟩
theorem clv_two {w : World} {p : Nat} {ty : TypeId} {t u : T} {k h k2 h2 : Int} {A A2 : Option Addr} {n c n2 c2 : Nat} (hb : Box w p ty #[.int .i64 k, .int .i64 h, .slice A n c, .int .i64 k2, .int .i64 h2, .slice A2 n2 c2]) (hr : Rd w t (.agg #[.int .i64 k, .int .i64 h, .slice A n c])) (hr2 : Rd w u (.agg #[.int .i64 k2, .int .i64 h2, .slice A2 n2 c2])) :
    CLV w [t, u] (some ⟨p, 0, none⟩) 2 2 := ⟨rfl, Nat.le_refl _, by unfold maxLen; omega, rd_two hb hr hr2⟩
theorem clv_one {w : World} {p : Nat} {ty : TypeId} {t : T} {k h : Int} {A : Option Addr} {n c : Nat} (hb : Box w p ty #[.int .i64 k, .int .i64 h, .slice A n c]) (hr : Rd w t (.agg #[.int .i64 k, .int .i64 h, .slice A n c])) :
    CLV w [t] (some ⟨p, 0, none⟩) 1 1 := ⟨rfl, Nat.le_refl _, by unfold maxLen; omega, rd_one (k := 0) (h := 0) hb hr⟩
set_option maxRecDepth 100000 in
set_option maxHeartbeats 8000000 in
theorem vCheckTermC (W : WV) (cx : List T) (m a : T) (As : Option Addr) (ns cs : Nat) (Am : Option Addr) (nm cm : Nat) (Ac : Option Addr) (nc cc : Nat) (vm va : Value) (w : World) (hk : CkV w W cx As ns cs Am nm cm Ac nc cc) (hm : Rd w m vm) (ha : Rd w a va)
    (hL : LoV W cx) (hlm : myB m = true → okT loV m) (hla : myB a = true → okT loV a) :
    Calls Tryz.prog 13 #[.slice As ns cs, .slice Am nm cm, .slice Ac nc cc, vm, va] w fun e w' => e = .returned (.int .i64 (ckT W cx m a)) ∧ Below w.heap.size w w' := by
  obtain ⟨k, h, A, n, c, rfl⟩ := hm.full
  obtain ⟨k2, h2, A2, n2, c2, rfl⟩ := ha.full
  obtain ⟨W0, hW⟩ : ∃ W0, ((w.alloc (.cells #[.int .i64 k, .int .i64 h, .slice A n c] 36)).alloc (.cells #[.int .i64 k2, .int .i64 h2, .slice A2 n2 c2] 36)).alloc (.cells #[.slice As ns cs, .slice Am nm cm, .slice Ac nc cc] 63) = W0 := ⟨_, rfl⟩
  have hb : Below w.heap.size w W0 := by rw [← hW]; exact (((Below.refl _ _).alloc (Nat.le_refl _) _).alloc (by simp) _).alloc (by simp; omega) _
  have x0 : Box W0 w.heap.size 36 #[.int .i64 k, .int .i64 h, .slice A n c] := by rw [← hW]; exact ((Box.new _ _ _).alloc _).alloc _
  have x1 : Box W0 (w.heap.size + 1) 36 #[.int .i64 k2, .int .i64 h2, .slice A2 n2 c2] := by rw [← hW]; exact ((Box.new (w.alloc _) _ _).at (by simp)).alloc _
  have x2 : Box W0 (w.heap.size + 1 + 1) 63 #[.slice As ns cs, .slice Am nm cm, .slice Ac nc cc] := by rw [← hW]; exact (Box.new ((w.alloc _).alloc _) _ _).at (by simp)
  obtain ⟨W4, hW4⟩ : ∃ W4, W0.alloc (.cells #[.int .i64 k, .int .i64 h, .slice A n c, .int .i64 k2, .int .i64 h2, .slice A2 n2 c2] 36) = W4 := ⟨_, rfl⟩
  have hb4 : Below W0.heap.size W0 W4 := by rw [← hW4]; exact (Below.refl _ _).alloc (Nat.le_refl _) _
  have x4 : Box W4 W0.heap.size 36 #[.int .i64 k, .int .i64 h, .slice A n c, .int .i64 k2, .int .i64 h2, .slice A2 n2 c2] := by rw [← hW4]; exact Box.new _ _ _
  have hbw := hb.trans (hb4.mono hb.size)
  have HMY := Lib.hid (vMayC W cx [m, a] As Am Ac _ ns cs nm cm nc cc 2 2 W4 (hk.keep hbw).sg (hk.keep hbw).ms (hk.keep hbw).cx (clv_two x4 (Rd.keep hbw _ _ hm) (Rd.keep hbw _ _ ha)))
  have X0 := Lib.hid (x0.keep hb4 x0.lt)
  have X1 := Lib.hid (x1.keep hb4 x1.lt)
  have X2 := Lib.hid (x2.keep hb4 x2.lt)
  have HB := Lib.hid hbw
  have HTM : Hid (mayV W cx [m, a] = true → ∀ W' : World, Below W4.heap.size W4 W' → Calls Tryz.prog 32 #[.agg #[.slice As ns cs, .slice Am nm cm, .slice Ac nc cc], .agg #[.int .i64 k, .int .i64 h, .slice A n c], .agg #[.int .i64 k2, .int .i64 h2, .slice A2 n2 c2]] W' fun e w' => e = .returned (.int .i64 (tmV W m cx a)) ∧ Below W'.heap.size W' w') := Lib.hid fun hy W' h' => by
    obtain ⟨y1, y2, y3, y4, y5⟩ := (mayV_iff W cx [m, a]).1 hy
    have ym := y3 m (by simp)
    have ya := y3 a (by simp)
    have hnd := ((myB_iff m).1 ym).2.1
    exact vTermC W m cx a loV As ns cs Am nm cm Ac nc cc _ _ W' (env_of hL hy) ⟨ym, .inr (hlm ym)⟩ ⟨ya, hla ya⟩ (by unfold loV dlV hiV; omega) (by omega) (hk.keep (hbw.trans (h'.mono hbw.size))) (Rd.keep (hbw.trans (h'.mono hbw.size)) _ _ hm) (Rd.keep (hbw.trans (h'.mono hbw.size)) _ _ ha)
  obtain ⟨c0, c1, c2⟩ := x0.three
  obtain ⟨d0, d1, d2⟩ := x1.three
  obtain ⟨e0, e1, e2⟩ := x2.three
  have HCT : Hid (ckT W cx m a = if mayV W cx [m, a] = true then tmV W m cx a else 1) := Lib.hid rfl
  generalize ckT W cx m a = R at *
  generalize tmV W m cx a = S at *
  clear hk hm ha hL hlm hla hb hb4 hbw x0 x1 x2 x4
  generalize mayV W cx [m, a] = r at *
  go_enter Tryz.func13, Tryz.ntmps13
  go_wp2_with fail
  clear hW hW4
  refine HMY.out.mono ?_
  rintro e w1 ⟨rfl, hb1⟩
  have HB1 := Lib.hid (HB.out.trans (hb1.mono HB.out.size))
  obtain ⟨p0, p1, p2⟩ := (X0.out.keep hb1 X0.out.lt).three
  obtain ⟨q0, q1, q2⟩ := (X1.out.keep hb1 X1.out.lt).three
  obtain ⟨s0, s1, s2⟩ := (X2.out.keep hb1 X2.out.lt).three
  cases r
  · have HC := Lib.hid (show 1 = R by rw [HCT.out]; rfl)
    clear hb1 HTM HCT
    go_wp2_with fail
    go_ret
    exact ⟨ret_int HC.out, HB1.out⟩
  · have HC := Lib.hid (show S = R by rw [HCT.out]; rfl)
    have HT := Lib.hid (HTM.out rfl w1 hb1)
    clear hb1 HTM HCT
    go_wp2_with fail
    refine HT.out.mono ?_
    rintro e w3 ⟨rfl, hb3⟩
    have HB3 := Lib.hid (HB1.out.trans (hb3.mono HB1.out.size))
    clear hb3 HT
    go_wp2_with fail
    go_ret
    exact ⟨ret_int HC.out, HB3.out⟩
end Go.Proofs.YtmkahbbcagfbhaaGreatDoor
