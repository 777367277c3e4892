/- Texts of one proof, put together. No statement is proved here. -/
import Derived.Test.YtbbjjdnnlnabaaaGreatPkC
import Derived.Test.YtbbjjdnnlnabaaaGreatPkP
import Derived.Test.YtbbjjdnnlnabaaaGreatPkQ
import Derived.Test.YtbbjjdnnlnabaaaGreatPkRq
import Derived.Test.YtbbjjdnnlnabaaaGreatZt
namespace Go.Proofs.YtbbjjdnnlnabaaaGreat
open Go.RowKit
set_option linter.unusedVariables false
set_option linter.unusedSimpArgs false
def ag0 : T → T | .node _ _ xs => xs.headD (.node 0 0 [])
def ag1 : T → T | .node _ _ xs => xs.tail.headD (.node 0 0 [])
structure WV where
  sg : List T
  ms : List (List T × T)
def enV (a : T) : Except Int T → Int
  | .error e => e
  | .ok t => if samB t a = true then 0 else 3
def hdV (W : WV) (k h : Int) (cx : List T) : Except Int T :=
  if k = 4 then (if h < cx.length then .ok (upT (h + 1) (cx.getD (cx.length - 1 - h.toNat) (.node 0 0 [])) 0) else .error 2)
  else if h < W.sg.length then (if kiB (W.sg.getD h.toNat (.node 0 0 [])) = true then .error 2 else .ok (W.sg.getD h.toNat (.node 0 0 []))) else .error 2
def mdV (W : WV) (h : Int) : List T × T := W.ms.getD h.toNat ([], .node 0 0 [])
def apV (t : T) (L : List T) (n : Int) : Except Int T := if apE t L n = 0 then .ok (apT t L n) else .error (apE t L n)
mutual
def tmV (W : WV) : T → List T → T → Int
  | .node k h xs, cx, a =>
    if k = 3 then (if kdQ a = 1 then lmV W xs (cx ++ [ag0 a]) (ag1 a) else 3)
    else if kdQ a = 2 then enV a (
      if k = 4 ∨ k = 5 then (match hdV W k h cx with | .error e => .error e | .ok t => spV W xs cx t)
      else if k = 6 then (
        if h < W.ms.length then (
          if xs.length = (mdV W h).1.length then (if mtV W xs [] cx (mdV W h).1 = 0 then apV (mdV W h).2 xs cx.length else .error (mtV W xs [] cx (mdV W h).1))
          else .error 3)
        else .error 2)
      else .error 3)
    else 3
def lmV (W : WV) : List T → List T → T → Int
  | [], _, _ => 3
  | x :: _, cx, a => tmV W x cx a
def spV (W : WV) : List T → List T → T → Except Int T
  | [], _, t => .ok t
  | x :: xs, cx, t =>
    if kdQ t = 1 then (
      if tmV W x cx (ag0 t) = 0 then (if apE (ag1 t) [x] 0 = 0 then spV W xs cx (apT (ag1 t) [x] 0) else .error (apE (ag1 t) [x] 0))
      else .error (tmV W x cx (ag0 t)))
    else .error 3
def mtV (W : WV) : List T → List T → List T → List T → Int
  | [], _, _, _ => 0
  | x :: xs, dn, cx, es =>
    if apE (es.headD (.node 0 0 [])) dn cx.length = 0 then (
      if tmV W x cx (apT (es.headD (.node 0 0 [])) dn cx.length) = 0 then mtV W xs (dn ++ [x]) cx es.tail
      else tmV W x cx (apT (es.headD (.node 0 0 [])) dn cx.length))
    else apE (es.headD (.node 0 0 [])) dn cx.length
end
def cmV (W : WV) (cx : List T) : T → Except Int T
  | .node k h xs =>
    if k = 4 ∨ k = 5 then (match hdV W k h cx with | .error e => .error e | .ok t => spV W xs cx t)
    else if k = 6 then (
      if h < W.ms.length then (
        if xs.length = (mdV W h).1.length then (if mtV W xs [] cx (mdV W h).1 = 0 then apV (mdV W h).2 xs cx.length else .error (mtV W xs [] cx (mdV W h).1))
        else .error 3)
      else .error 2)
    else .error 3
theorem tm_lam (W : WV) (h : Int) (x : T) (xs cx : List T) (a : T) : tmV W (.node 3 h (x :: xs)) cx a = if kdQ a = 1 then tmV W x (cx ++ [ag0 a]) (ag1 a) else 3 := by
  rw [tmV, if_pos rfl, lmV]
theorem tm_neu (W : WV) {k h : Int} {xs cx : List T} {a : T} (hk : k ≠ 3) : tmV W (.node k h xs) cx a = if kdQ a = 2 then enV a (cmV W cx (.node k h xs)) else 3 := by
  rw [tmV, if_neg hk, cmV]
theorem en_ok {a : T} {r : Except Int T} (h : enV a r = 0) (he : ∀ e, r = .error e → e ≠ 0) : ∃ t, r = .ok t ∧ samB t a = true := by
  cases r with
  | error e => exact absurd h (he e rfl)
  | ok t =>
    refine ⟨t, rfl, ?_⟩
    rw [enV] at h
    by_cases hs : samB t a = true
    · exact hs
    · rw [if_neg hs] at h; cases h
theorem hd_err {W : WV} {k h : Int} {cx : List T} {e : Int} (hh : hdV W k h cx = .error e) : e ≠ 0 := by
  unfold hdV at hh
  split at hh
  · split at hh
    · cases hh
    · cases hh; omega
  · split at hh
    · split at hh
      · cases hh; omega
      · cases hh
    · cases hh; omega
theorem sp_err (W : WV) : ∀ (xs cx : List T) (t : T) (e : Int), spV W xs cx t = .error e → e ≠ 0
  | [], _, _, e, h => by rw [spV] at h; cases h
  | x :: xs, cx, t, e, h => by
    rw [spV] at h
    split at h
    · split at h
      · split at h
        · exact sp_err W xs cx _ e h
        · rename_i h1
          cases h; exact h1
      · rename_i h1
        cases h; exact h1
    · cases h; omega
theorem ap_errV {t : T} {L : List T} {n e : Int} (h : apV t L n = .error e) : e ≠ 0 := by
  unfold apV at h
  split at h
  · cases h
  · rename_i h1
    cases h; exact h1
theorem cm_err {W : WV} {cx : List T} {t : T} {e : Int} (h : cmV W cx t = .error e) : e ≠ 0 := by
  obtain ⟨k, hd, xs⟩ := t
  rw [cmV] at h
  split at h
  · split at h
    · rename_i e' h'
      cases h
      exact hd_err h'
    · exact sp_err _ _ _ _ _ h
  · split at h
    · split at h
      · split at h
        · split at h
          · exact ap_errV h
          · rename_i h1
            cases h; exact h1
        · cases h; omega
      · cases h; omega
    · cases h; omega
theorem tm_neu_ok {W : WV} {k h : Int} {xs cx : List T} {a : T} (hk : k ≠ 3) (ht : tmV W (.node k h xs) cx a = 0) : kdQ a = 2 ∧ ∃ t, cmV W cx (.node k h xs) = .ok t ∧ samB t a = true := by
  rw [tm_neu W hk] at ht
  by_cases hq : kdQ a = 2
  · rw [if_pos hq] at ht
    exact ⟨hq, en_ok ht fun e => cm_err⟩
  · rw [if_neg hq] at ht; cases ht
/-! ### What has a type is scoped -/
theorem sp_all {W : WV} : ∀ (xs cx : List T) (t t' : T), spV W xs cx t = .ok t' → ∀ x ∈ xs, ∃ a, tmV W x cx a = 0
  | [], _, _, _, _, x, hx => by cases hx
  | y :: xs, cx, t, t', h, x, hx => by
    rw [spV] at h
    split at h
    · split at h
      · rename_i h1
        split at h
        · rcases List.mem_cons.1 hx with rfl | hx
          · exact ⟨_, h1⟩
          · exact sp_all xs cx _ _ h x hx
        · cases h
      · cases h
    · cases h
theorem mt_all {W : WV} : ∀ (xs dn cx es : List T), mtV W xs dn cx es = 0 → ∀ x ∈ xs, ∃ a, tmV W x cx a = 0
  | [], _, _, _, _, x, hx => by cases hx
  | y :: xs, dn, cx, es, h, x, hx => by
    rw [mtV] at h
    split at h
    · split at h
      · rename_i h1
        rcases List.mem_cons.1 hx with rfl | hx
        · exact ⟨_, h1⟩
        · exact mt_all xs _ cx _ h x hx
      · rename_i h1
        exact absurd h h1
    · rename_i h1
      exact absurd h h1
theorem nodV {k h : Int} {xs : List T} (h1 : nodB (.node k h xs) = true) : okN k h xs.length = true ∧ ∀ x ∈ xs, nodB x = true := by
  rw [nodB, Bool.and_eq_true] at h1
  exact ⟨h1.1, fun x hx => nodL_mem h1.2 hx⟩
theorem lamV {h : Int} {xs : List T} (h1 : nodB (.node 3 h xs) = true) : h = 0 ∧ ∃ x, xs = [x] ∧ nodB x = true := by
  obtain ⟨h2, h3⟩ := nodV h1
  have hl : h = 0 ∧ xs.length = 1 := by
    rcases okN_cases h2 with ⟨e, _⟩ | ⟨e, _⟩ | ⟨e, e2, he⟩ | ⟨e, he⟩ | ⟨e, he⟩ | ⟨e, he⟩ | ⟨e, he⟩ <;> first | exact ⟨e2, he⟩ | omega
  obtain ⟨x, rfl⟩ := List.length_eq_one_iff.1 hl.2
  exact ⟨hl.1, x, rfl, h3 x (List.mem_cons_self ..)⟩
theorem piV {h : Int} {xs : List T} (h1 : nodB (.node 1 h xs) = true) : h = 0 ∧ ∃ x y, xs = [x, y] ∧ nodB x = true ∧ nodB y = true := by
  obtain ⟨h2, h3⟩ := nodV h1
  have hl : h = 0 ∧ xs.length = 2 := by
    rcases okN_cases h2 with ⟨e, _⟩ | ⟨e, e2, he⟩ | ⟨e, _⟩ | ⟨e, he⟩ | ⟨e, he⟩ | ⟨e, he⟩ | ⟨e, he⟩ <;> first | exact ⟨e2, he⟩ | omega
  match xs, hl.2 with
  | [x, y], _ => exact ⟨hl.1, x, y, rfl, h3 x (List.mem_cons_self ..), h3 y (List.mem_cons_of_mem _ (List.mem_cons_self ..))⟩
theorem headV {k h : Int} {xs : List T} (h1 : nodB (.node k h xs) = true) : 0 ≤ h := by
  rcases okN_cases (nodV h1).1 with ⟨e, e2, _⟩ | ⟨e, e2, he⟩ | ⟨e, e2, _⟩ | ⟨e, he⟩ | ⟨e, he⟩ | ⟨e, he⟩ | ⟨e, he⟩ <;> omega
theorem tm_scoped {W : WV} (m : T) : ∀ (cx : List T) (a : T), nodB m = true → tmV W m cx a = 0 → scC m cx.length W.ms.length := by
  induction m using T.ind with
  | step k h xs ih =>
    intro cx a hn ht
    by_cases hk : k = 3
    · subst hk
      obtain ⟨rfl, x, rfl, hx⟩ := lamV hn
      rw [tm_lam] at ht
      by_cases hq : kdQ a = 1
      · rw [if_pos hq] at ht
        have g := ih x (List.mem_cons_self ..) _ _ hx ht
        rw [scC, scCL, scCL]
        refine ⟨fun e => by omega, fun e => by omega, ?_, trivial⟩
        rw [List.length_append] at g
        simp only [List.length_cons, List.length_nil, Nat.zero_add] at g
        rw [bd, if_pos ⟨.inr rfl, rfl⟩]
        exact g
      · rw [if_neg hq] at ht; cases ht
    · obtain ⟨_, t, hc, _⟩ := tm_neu_ok hk ht
      have hkids : (∀ x ∈ xs, ∃ a, tmV W x cx a = 0) → k ≠ 1 → scCL k xs.length xs 0 cx.length W.ms.length := fun hall hk1 => by
        refine scL_of fun j x hx => ?_
        have hm := List.mem_of_getElem? hx
        obtain ⟨b, hb⟩ := hall x hm
        rw [bd_var ⟨hk1, hk⟩, Int.add_zero]
        exact ih x hm cx b ((nodV hn).2 x hm) hb
      rw [scC]
      rw [cmV] at hc
      by_cases hk45 : k = 4 ∨ k = 5
      · rw [if_pos hk45] at hc
        split at hc
        · cases hc
        · rename_i t0 ht0
          refine ⟨fun e => ?_, fun e => by omega, hkids (sp_all _ _ _ _ hc) (by omega)⟩
          rw [hdV, if_pos e] at ht0
          by_cases hl : h < cx.length
          · exact hl
          · rw [if_neg hl] at ht0; cases ht0
      · rw [if_neg hk45] at hc
        by_cases hk6 : k = 6
        · rw [if_pos hk6] at hc
          by_cases hl : h < W.ms.length
          · rw [if_pos hl] at hc
            split at hc
            · split at hc
              · rename_i hmt
                exact ⟨fun e => by omega, fun e => hl, hkids (mt_all _ _ _ _ hmt) (by omega)⟩
              · cases hc
            · cases hc
          · rw [if_neg hl] at hc; cases hc
        · rw [if_neg hk6] at hc; cases hc
end Go.Proofs.YtbbjjdnnlnabaaaGreat
namespace Go.Proofs.YtbbjjdnnlnabaaaGreat
open Go.ChangeShapes Go.WideShapes Go.ChangeAt Go.RowKit
set_option linter.unusedVariables false
set_option linter.unusedSimpArgs false
set_option maxRecDepth 100000
set_option maxHeartbeats 4000000
structure CLV (w : World) (xs : List T) (A : Option Addr) (n c : Nat) : Prop where
  len : xs.length = n
  le : n ≤ c
  cap : c ≤ maxLen
  at_ : ∀ i x, xs[i]? = some x → RdAt w A i x
theorem CLV.keep {w w' : World} {xs : List T} {A : Option Addr} {n c : Nat} (h : CLV w xs A n c) (hb : Below w.heap.size w w') : CLV w' xs A n c :=
  ⟨h.len, h.le, h.cap, fun i x hx => (h.at_ i x hx).keep hb⟩
def MAt (w : World) (A : Option Addr) (i : Nat) (x : List T × T) : Prop :=
  ∃ b o A1 n1 c1 k h A2 n2 c2 p, A = some ⟨b, o, none⟩ ∧ w.cell? ⟨b, o + i * 5, none⟩ = some (.slice A1 n1 c1) ∧ w.cell? ⟨b, o + i * 5 + 1, none⟩ = some (.int .i64 k) ∧ w.cell? ⟨b, o + i * 5 + 2, none⟩ = some (.int .i64 h) ∧
    w.cell? ⟨b, o + i * 5 + 3, none⟩ = some (.slice A2 n2 c2) ∧ w.cell? ⟨b, o + i * 5 + 4, none⟩ = some (.bool p) ∧ CLV w x.1 A1 n1 c1 ∧ Rd w x.2 (.agg #[.int .i64 k, .int .i64 h, .slice A2 n2 c2])
structure ML (w : World) (ms : List (List T × T)) (A : Option Addr) (n c : Nat) : Prop where
  len : ms.length = n
  le : n ≤ c
  cap : c ≤ maxLen
  at_ : ∀ i x, ms[i]? = some x → MAt w A i x
theorem MAt.keep {w w' : World} {A : Option Addr} {i : Nat} {x : List T × T} (h : MAt w A i x) (hb : Below w.heap.size w w') : MAt w' A i x := by
  obtain ⟨b, o, A1, n1, c1, k, g, A2, n2, c2, p, rfl, d0, d1, d2, d3, d4, hl, hr⟩ := h
  exact ⟨b, o, A1, n1, c1, k, g, A2, n2, c2, p, rfl, (hb.cell (cell_lt d0)).trans d0, (hb.cell (cell_lt d1)).trans d1, (hb.cell (cell_lt d2)).trans d2, (hb.cell (cell_lt d3)).trans d3, (hb.cell (cell_lt d4)).trans d4, hl.keep hb, Rd.keep hb _ _ hr⟩
theorem ML.keep {w w' : World} {ms : List (List T × T)} {A : Option Addr} {n c : Nat} (h : ML w ms A n c) (hb : Below w.heap.size w w') : ML w' ms A n c :=
  ⟨h.len, h.le, h.cap, fun i x hx => (h.at_ i x hx).keep hb⟩
def mmB (x : List T × T) : Bool := x.1.all myB && myB x.2
def mayV (W : WV) (cx l : List T) : Bool := decide (cx.length ≤ 1000) && (cx.all myB && (l.all myB && (W.sg.all myB && W.ms.all mmB)))
theorem vMay1C (x : T) (v : Value) (w : World) (hv : Rd w x v) :
    Calls Tryz.prog 79 #[v] w fun e w' => e = .returned (.bool (!myB x)) ∧ Below w.heap.size w w' := by
  obtain ⟨k, h, A, n, c, rfl⟩ := hv.full
  have hb : Below w.heap.size w (w.alloc (.cells #[.int .i64 k, .int .i64 h, .slice A n c] 39)) := (Below.refl _ _).alloc (Nat.le_refl _) _
  have HM := Lib.hid (myC x _ _ (Rd.keep hb _ _ hv))
  clear hv
  generalize myB x = r at *
  go_enter Tryz.func79, Tryz.ntmps79
  go_wp2_with fail
  refine HM.out.mono ?_
  rintro e w1 ⟨rfl, hb1⟩
  go_wp2_with fail
  go_ret
  exact ⟨rfl, hb.trans (hb1.mono hb.size)⟩
theorem vIndexC (xs : List T) (A : Option Addr) (n c : Nat) (w : World) (hx : CLV w xs A n c) :
    Calls Tryz.prog 86 #[.slice A n c, .func (.func 79) #[] #[]] w fun e w' => ∃ i : Int, e = .returned (.int .i64 i) ∧ decide (0 ≤ i) = (!xs.all myB) ∧ Below w.heap.size w w' := by
  have hm := hx.cap
  have hc := hx.le
  unfold maxLen at hm
  have HX := Lib.hid hx; clear hx
  go_enter Tryz.func86, Tryz.ntmps86
  go_wp2_with fail
  go_loopw [8] (fun i wr => ∃ (j : Nat), j ≤ n ∧ i = .int .i64 j ∧ Hid ((xs.drop j).all myB = xs.all myB) ∧ Below w.heap.size w wr) (fun i _ => n - (Go.RowKit.intOf i).toNat)
  case atStart => exact ⟨0, Nat.zero_le _, rfl, Lib.hid (by simp), Below.refl _ _⟩
  case round =>
    obtain ⟨j, hj, rfl, HS, hb⟩ := hrel
    by_cases hlt : j < n
    · obtain ⟨x, ht⟩ := at_of HX.out.len hlt
      obtain ⟨b, o, k2, h2, A2, n2, c2', rfl, c0, c1, c2, hr⟩ := (RdAt.keep hb (HX.out.at_ j x ht)).full
      have HT := Lib.hid ht; clear ht
      have hi0 : (0 : Int) ≤ j := by omega
      have hi1 : (j : Int) < n := by omega
      have HM := Lib.hid (vMay1C x _ wr hr)
      clear hr
      have HS' := HS.out
      rw [drop_at HT.out, List.all_cons] at HS'
      have HS := Lib.hid HS'; clear HS'
      generalize myB x = r at *
      go_wp2_with fail
      clear c0 c1 c2
      refine HM.out.mono ?_
      rintro e w1 ⟨rfl, hb1⟩
      have hbw : Below w.heap.size w w1 := hb.trans (hb1.mono hb.size)
      clear hb1 HM
      cases r
      · go_wp2_with fail
        go_ret
        exact ⟨_, rfl, by rw [← HS.out]; simp, hbw⟩
      · go_wp2_with fail
        go_roundw
        case rel => exact ⟨j + 1, by omega, by go_num, Lib.hid (by simpa using HS.out), hbw⟩
        case measure => simp [Go.RowKit.intOf]; omega
    · go_wp2_with fail
      go_ret
      exact ⟨_, rfl, by have := HS.out; rw [drop_all HX.out.len (by omega)] at this; rw [← this]; simp, hb⟩
theorem vContainsC (xs : List T) (A : Option Addr) (n c : Nat) (w : World) (hx : CLV w xs A n c) :
    Calls Tryz.prog 67 #[.slice A n c, .func (.func 79) #[] #[]] w fun e w' => e = .returned (.bool (!xs.all myB)) ∧ Below w.heap.size w w' := by
  have HI := Lib.hid (vIndexC xs A n c w hx)
  clear hx
  generalize (!xs.all myB) = r at *
  go_enter Tryz.func67, Tryz.ntmps67
  go_wp2_with fail
  refine HI.out.mono ?_
  rintro e w1 ⟨i, rfl, hi, hb1⟩
  go_wp2_with fail
  go_ret
  exact ⟨ret_bool (by first | exact hi | rfl | simp), hb1⟩
theorem vAllC (xs : List T) (A : Option Addr) (n c : Nat) (w : World) (hx : CLV w xs A n c) :
    Calls Tryz.prog 58 #[.slice A n c] w fun e w' => e = .returned (.bool (xs.all myB)) ∧ Below w.heap.size w w' := by
  have HI := Lib.hid (vContainsC xs A n c w hx)
  clear hx
  generalize xs.all myB = r at *
  go_enter Tryz.func58, Tryz.ntmps58
  go_wp2_with fail
  refine HI.out.mono ?_
  rintro e w1 ⟨rfl, hb1⟩
  go_wp2_with fail
  go_ret
  exact ⟨ret_bool (by simp), hb1⟩
theorem vMayC (W : WV) (cx l : List T) (As Am Ac Al : Option Addr) (ns cs nm cm nc cc nl cl : Nat) (w : World) (hs : DL w W.sg As ns cs) (hm : ML w W.ms Am nm cm) (hc : CLV w cx Ac nc cc) (hl : CLV w l Al nl cl) :
    Calls Tryz.prog 46 #[.agg #[.slice As ns cs, .slice Am nm cm, .slice Ac nc cc], .slice Al nl cl] w fun e w' => e = .returned (.bool (mayV W cx l)) ∧ Below w.heap.size w w' := by
  have hncl := hc.len
  have hccap := hc.cap
  have hcle := hc.le
  have hscap := hs.cap
  have hsle := hs.le
  have hmcap := hm.cap
  have hmle := hm.le
  unfold maxLen at hccap hscap hmcap
  obtain ⟨W0, hW0⟩ : ∃ W0, w.alloc (.cells #[.slice As ns cs, .slice Am nm cm, .slice Ac nc cc] 75) = W0 := ⟨_, rfl⟩
  have hb : Below w.heap.size w W0 := by rw [← hW0]; exact (Below.refl _ _).alloc (Nat.le_refl _) _
  have x0 : Box W0 w.heap.size 75 #[.slice As ns cs, .slice Am nm cm, .slice Ac nc cc] := by rw [← hW0]; exact Box.new _ _ _
  have HCX := Lib.hid (fun W' (h' : Below w.heap.size w W') => vAllC cx Ac nc cc W' (hc.keep h'))
  have HL := Lib.hid (fun W' (h' : Below w.heap.size w W') => vAllC l Al nl cl W' (hl.keep h'))
  have HS := Lib.hid hs; clear hs
  have HM := Lib.hid hm; clear hm
  have HW := Lib.hid hW0; clear hW0
  clear hc hl
  have hR : mayV W cx l = (decide (nc ≤ 1000) && (cx.all myB && (l.all myB && (W.sg.all myB && W.ms.all mmB)))) := by rw [mayV, hncl]
  obtain ⟨R, hRR⟩ : ∃ R, mayV W cx l = R := ⟨_, rfl⟩
  rw [hRR] at hR ⊢
  have HR := Lib.hid hR
  clear hR hRR hncl
  generalize cx.all myB = r1 at *
  generalize l.all myB = r2 at *
  obtain ⟨c0, c1, c2⟩ := x0.three
  by_cases hgt : 1000 < nc
  · have d1 : decide ((1000 : Int) < (nc : Int)) = true := by simp; omega
    have HR' := Lib.hid (show R = false by rw [HR.out, decide_eq_false (by omega)]; rfl)
    go_enter Tryz.func46, Tryz.ntmps46
    go_wp2_with fail
    try rw [HW.out]
    go_wp2_with fail
    go_ret
    exact ⟨ret_bool HR'.out.symm, hb⟩
  have d1 : decide ((1000 : Int) < (nc : Int)) = false := by simp; omega
  have HR1 := Lib.hid (show R = (r1 && (r2 && (W.sg.all myB && W.ms.all mmB))) by rw [HR.out, decide_eq_true (by omega)]; rfl)
  clear HR
  go_enter Tryz.func46, Tryz.ntmps46
  go_wp2_with fail
  try rw [HW.out]
  clear HW
  go_wp2_with fail
  refine (HCX.out W0 hb).mono ?_
  rintro e w1 ⟨rfl, hb1⟩
  have HB1 := Lib.hid (hb.trans (hb1.mono hb.size))
  have X1 := Lib.hid (x0.keep hb1 x0.lt)
  clear hb hb1 x0 c0 c1 c2 HCX
  cases r1
  · go_wp2_with fail
    go_ret
    exact ⟨ret_bool (by rw [HR1.out]; rfl), HB1.out⟩
  have HR2 := Lib.hid (show R = (r2 && (W.sg.all myB && W.ms.all mmB)) by rw [HR1.out, Bool.true_and])
  clear HR1
  go_wp2_with fail
  refine (HL.out w1 HB1.out).mono ?_
  rintro e w2 ⟨rfl, hb1⟩
  have HB2 := Lib.hid (HB1.out.trans (hb1.mono HB1.out.size))
  have X2 := Lib.hid (X1.out.keep hb1 X1.out.lt)
  clear hb1 HB1 X1 HL
  cases r2
  · go_wp2_with fail
    go_ret
    exact ⟨ret_bool (by rw [HR2.out]; rfl), HB2.out⟩
  have HR3 := Lib.hid (show R = (W.sg.all myB && W.ms.all mmB) by rw [HR2.out, Bool.true_and])
  clear HR2
  obtain ⟨c0, c1, c2⟩ := X2.out.three
  go_wp2_with fail
  clear c0 c1 c2
  go_loopw [27] (fun i wr => ∃ (j : Nat), j ≤ ns ∧ i = .int .i64 j ∧ Hid ((W.sg.drop j).all myB = W.sg.all myB) ∧ Hid (Box wr w.heap.size 75 #[.slice As ns cs, .slice Am nm cm, .slice Ac nc cc]) ∧ Hid (Below w.heap.size w wr)) (fun i _ => ns - (Go.RowKit.intOf i).toNat)
  case atStart => exact ⟨0, Nat.zero_le _, rfl, Lib.hid (by simp), X2, HB2⟩
  case round =>
    clear X2 HB2
    obtain ⟨j, hj, rfl, HJ, X2, HB2⟩ := hrel
    by_cases hlt : j < ns
    · obtain ⟨x, hx⟩ := at_of HS.out.len hlt
      obtain ⟨b1, o1, s1, k1, h1, A1, n1, c1, rfl, e0, e1, e2, e3, hr1⟩ := (HS.out.at_ j x hx).keep HB2.out
      have HJ' := HJ.out
      rw [drop_at hx, List.all_cons] at HJ'
      have HJ1 := Lib.hid HJ'; clear HJ' hx HJ
      obtain ⟨Wa, hWa⟩ : ∃ Wa, wr.alloc (.cells #[.string s1, .int .i64 k1, .int .i64 h1, .slice A1 n1 c1] 60) = Wa := ⟨_, rfl⟩
      have hbA : Below wr.heap.size wr Wa := by rw [← hWa]; exact (Below.refl _ _).alloc (Nat.le_refl _) _
      have z5 : Box Wa wr.heap.size 60 #[.string s1, .int .i64 k1, .int .i64 h1, .slice A1 n1 c1] := by rw [← hWa]; exact Box.new _ _ _
      have a1 : Wa.cell? ⟨wr.heap.size, 1, none⟩ = some (.int .i64 k1) := z5.cell 1
      have a2 : Wa.cell? ⟨wr.heap.size, 2, none⟩ = some (.int .i64 h1) := z5.cell 2
      have a3 : Wa.cell? ⟨wr.heap.size, 3, none⟩ = some (.slice A1 n1 c1) := z5.cell 3
      have HMY := Lib.hid (myC x _ Wa (Rd.keep hbA _ _ hr1))
      have HBA := Lib.hid (HB2.out.trans (hbA.mono HB2.out.size))
      have XA := Lib.hid (X2.out.keep hbA X2.out.lt)
      have hi0 : (0 : Int) ≤ j := by omega
      have hi1 : (j : Int) < ns := by omega
      clear hr1 z5 hbA HB2 X2
      generalize myB x = r at *
      subst hWa
      go_wp2_with fail
      refine HMY.out.mono ?_
      rintro e w3 ⟨rfl, hb3⟩
      have HB3 := Lib.hid (HBA.out.trans (hb3.mono HBA.out.size))
      have X3 := Lib.hid (XA.out.keep hb3 XA.out.lt)
      clear hb3 HBA XA HMY a1 a2 a3 e0 e1 e2 e3
      cases r
      · go_wp2_with fail
        go_ret
        exact ⟨ret_bool (by rw [HR3.out, ← HJ1.out]; rfl), HB3.out⟩
      · go_wp2_with fail
        go_roundw
        case rel => exact ⟨j + 1, by omega, by go_num, Lib.hid (by simpa using HJ1.out), X3, HB3⟩
        case measure => simp [Go.RowKit.intOf]; omega
    · have e := HJ.out
      rw [drop_all HS.out.len (by omega)] at e
      have HR4 := Lib.hid (show R = W.ms.all mmB by rw [HR3.out, ← e]; rfl)
      clear e HJ HR3
      obtain ⟨c0, c1, c2⟩ := X2.out.three
      go_wp2_with fail
      clear c0 c1 c2
      go_loopw [39] (fun i wr => ∃ (j : Nat), j ≤ nm ∧ i = .int .i64 j ∧ Hid ((W.ms.drop j).all mmB = W.ms.all mmB) ∧ Hid (Below w.heap.size w wr)) (fun i _ => nm - (Go.RowKit.intOf i).toNat)
      case atStart => exact ⟨0, Nat.zero_le _, rfl, Lib.hid (by simp), HB2⟩
      case round =>
        clear X2 HB2
        obtain ⟨i, hi, rfl, HJ, HB2⟩ := hrel
        by_cases hlt : i < nm
        · obtain ⟨x, hx⟩ := at_of HM.out.len hlt
          obtain ⟨b1, o1, A0, n0, c0, k1, h1, A1, n1, c1, pb, rfl, e0, e1, e2, e3, e4, hl1, hr1⟩ := (HM.out.at_ i x hx).keep HB2.out
          have HJ' := HJ.out
          rw [drop_at hx, List.all_cons] at HJ'
          have HJ1 := Lib.hid HJ'; clear HJ' hx HJ
          obtain ⟨Wa, hWa⟩ : ∃ Wa, wr.alloc (.cells #[.slice A0 n0 c0, .int .i64 k1, .int .i64 h1, .slice A1 n1 c1, .bool pb] 42) = Wa := ⟨_, rfl⟩
          have hbA : Below wr.heap.size wr Wa := by rw [← hWa]; exact (Below.refl _ _).alloc (Nat.le_refl _) _
          have z5 : Box Wa wr.heap.size 42 #[.slice A0 n0 c0, .int .i64 k1, .int .i64 h1, .slice A1 n1 c1, .bool pb] := by rw [← hWa]; exact Box.new _ _ _
          have a0 : Wa.cell? ⟨wr.heap.size, 0, none⟩ = some (.slice A0 n0 c0) := z5.cell 0
          have HMY := Lib.hid (vAllC x.1 _ _ _ Wa (hl1.keep hbA))
          have HMR := Lib.hid (fun W' (h' : Below Wa.heap.size Wa W') => myC x.2 _ W' (Rd.keep (hbA.trans (h'.mono hbA.size)) _ _ hr1))
          have HBA := Lib.hid (HB2.out.trans (hbA.mono HB2.out.size))
          have Z5 := Lib.hid z5
          have hi0 : (0 : Int) ≤ i := by omega
          have hi1 : (i : Int) < nm := by omega
          have HMM := Lib.hid (show mmB x = (x.1.all myB && myB x.2) from rfl)
          clear hr1 z5 hbA HB2
          generalize mmB x = r at *
          generalize x.1.all myB = r1 at *
          generalize myB x.2 = r2 at *
          subst hWa
          go_wp2_with fail
          refine HMY.out.mono ?_
          rintro e w3 ⟨rfl, hb3⟩
          have HB3 := Lib.hid (HBA.out.trans (hb3.mono HBA.out.size))
          have Z3 := Lib.hid (Z5.out.keep hb3 Z5.out.lt)
          have HMR3 := Lib.hid (HMR.out w3 hb3)
          have b1' : w3.cell? ⟨wr.heap.size, 1, none⟩ = some (.int .i64 k1) := Z3.out.cell 1
          have b2' : w3.cell? ⟨wr.heap.size, 2, none⟩ = some (.int .i64 h1) := Z3.out.cell 2
          have b3' : w3.cell? ⟨wr.heap.size, 3, none⟩ = some (.slice A1 n1 c1) := Z3.out.cell 3
          clear hb3 HBA Z5 HMY HMR a0 e0 e1 e2 e3 e4 hl1
          cases r1
          · go_wp2_with fail
            go_ret
            exact ⟨ret_bool (by rw [HR4.out, ← HJ1.out, HMM.out]; rfl), HB3.out⟩
          · go_wp2_with fail
            refine HMR3.out.mono ?_
            rintro e w4 ⟨rfl, hb4⟩
            have HB4 := Lib.hid (HB3.out.trans (hb4.mono HB3.out.size))
            clear hb4 HB3 HMR3 b1' b2' b3' Z3
            cases r2
            · go_wp2_with fail
              go_ret
              exact ⟨ret_bool (by rw [HR4.out, ← HJ1.out, HMM.out]; rfl), HB4.out⟩
            · go_wp2_with fail
              go_roundw
              case rel => exact ⟨i + 1, by omega, by go_num, Lib.hid (by have := HJ1.out; rw [HMM.out] at this; simpa using this), HB4⟩
              case measure => simp [Go.RowKit.intOf]; omega
        · have e := HJ.out
          rw [drop_all HM.out.len (by omega)] at e
          have HR5 := Lib.hid (show R = true by rw [HR4.out, ← e]; rfl)
          clear e HJ HR4
          go_wp2_with fail
          go_ret
          exact ⟨ret_bool HR5.out.symm, HB2.out⟩
def rawV (w : World) (b o m : Nat) : List Value := (List.range m).map fun q => (w.cell? ⟨b, o + q, none⟩).getD undef
theorem rawV_len (w : World) (b o m : Nat) : (rawV w b o m).length = m := by simp [rawV]
theorem rawV_at {w : World} {b o m q : Nat} (hq : q < m) : (rawV w b o m)[q]? = some ((w.cell? ⟨b, o + q, none⟩).getD undef) := by
  unfold rawV
  rw [List.getElem?_map, List.getElem?_range hq]
  rfl
theorem rawV_cell {w : World} {b o n c : Nat} {L : List T} (hx : CLV w L (some ⟨b, o, none⟩) n c) {q : Nat} (hq : q < n * 3) : ∃ u, w.cell? ⟨b, o + q, none⟩ = some u ∧ u.oneCell' = true := by
  have hlt : q / 3 < n := by omega
  obtain ⟨t, ht⟩ := at_of hx.len hlt
  obtain ⟨b', o', k, h, A', n', c', e, c0, c1, c2, _⟩ := (hx.at_ _ t ht).full
  have e' : b = b' ∧ o = o' := by simpa using e
  obtain ⟨rfl, rfl⟩ := e'
  have h3 : q % 3 = 0 ∨ q % 3 = 1 ∨ q % 3 = 2 := by omega
  rcases h3 with h3 | h3 | h3
  · exact ⟨_, by rw [show o + q = o + q / 3 * 3 by omega]; exact c0, rfl⟩
  · exact ⟨_, by rw [show o + q = o + q / 3 * 3 + 1 by omega]; exact c1, rfl⟩
  · exact ⟨_, by rw [show o + q = o + q / 3 * 3 + 2 by omega]; exact c2, rfl⟩
theorem rdV_row {w W' W9 : World} {xs : List T} {x : T} {A : Option Addr} {n g cap base : Nat} {c : Nat} {olds : List Value} {k h : Int} {A2 : Option Addr} {n2 c2 : Nat} (hx : CLV w xs A n c) (hk : Below w.heap.size w W')
    (holds : ∀ b o q u, A = some ⟨b, o, none⟩ → q < n * 3 → w.cell? ⟨b, o + q, none⟩ = some u → olds[q]? = some u) (hol : olds.length = n * 3) (hr : Rd w x (.agg #[.int .i64 k, .int .i64 h, .slice A2 n2 c2]))
    (hrow : W9.ownsRow base 39 3 (.slice (some ⟨g, 0, none⟩) (n + 1) cap) (n + 1) (olds ++ [.int .i64 k, .int .i64 h, .slice A2 n2 c2])) (hgg : W'.heap[g]? = W9.heap[g]?) : CLV W' (xs ++ [x]) (some ⟨g, 0, none⟩) (n + 1) cap := by
  have hcell : ∀ q u, (olds ++ [.int .i64 k, .int .i64 h, .slice A2 n2 c2])[q]? = some u → W'.cell? ⟨g, 0 + q, none⟩ = some u := fun q u hu => by
    have := hrow.cells (g := g) rfl q u hu
    rw [addr_add] at this
    exact (World.cell?_of_block hgg).trans this
  have hcap : n + 1 ≤ cap ∧ cap ≤ maxLen := by
    rcases hrow.2 with ⟨h0, _⟩ | ⟨g', cap', cur, hv, _, _, h1, h2, _⟩
    · cases h0
    · cases hv; exact ⟨h1, h2⟩
  refine ⟨by simp [hx.len], hcap.1, hcap.2, fun i t hi => ?_⟩
  by_cases hlt : i < n
  · rw [List.getElem?_append_left (by rw [hx.len]; omega)] at hi
    obtain ⟨b', o', k2, h2, A2', n2', c2', e1, d0, d1, d2, hr⟩ := (hx.at_ i t hi).full
    have get : ∀ q u, q < n * 3 → w.cell? ⟨b', o' + q, none⟩ = some u → W'.cell? ⟨g, 0 + q, none⟩ = some u := fun q u hq hu => by
      refine hcell q u ?_
      rw [List.getElem?_append_left (by omega)]
      exact holds b' o' q u e1 hq hu
    exact ⟨g, 0, _, _, _, rfl, get _ _ (by omega) d0, by rw [Nat.add_assoc]; exact get _ _ (by omega) d1, by rw [Nat.add_assoc]; exact get _ _ (by omega) d2, Rd.keep hk _ _ hr⟩
  · have hin : i = n := by have := (List.getElem?_eq_some_iff.1 hi).1; simp [hx.len] at this; omega
    subst hin
    rw [List.getElem?_append_right (by rw [hx.len]; omega), hx.len, Nat.sub_self] at hi
    obtain rfl : x = t := by simpa using hi
    have get : ∀ q u, [Value.int .i64 k, .int .i64 h, .slice A2 n2 c2][q]? = some u → W'.cell? ⟨g, 0 + (i * 3 + q), none⟩ = some u := fun q u hu => hcell _ u (by rw [List.getElem?_append_right (by omega), hol, show i * 3 + q - i * 3 = q by omega]; exact hu)
    exact ⟨g, 0, _, _, _, rfl, get 0 _ rfl, by rw [Nat.add_assoc]; exact get 1 _ rfl, by rw [Nat.add_assoc]; exact get 2 _ rfl, Rd.keep hk _ _ hr⟩
theorem termAppV {w W : World} {xs : List T} {A : Option Addr} {n c : Nat} (hx : CLV w xs A n c) (hn : n ≤ 2000000) (hb : Below w.heap.size w W) {P : Nat} {k h : Int} {A2 : Option Addr} {n2 c2 : Nat} {x : T}
    (hP : W.heap[P]? = some (.cells #[.int .i64 k, .int .i64 h, .slice A2 n2 c2] 39 (0, 0))) (hr : Rd w x (.agg #[.int .i64 k, .int .i64 h, .slice A2 n2 c2])) (hA : A = none → n = 0) :
    ∃ g cap w', (Builtin.append_ #[24, 24] 24 #[.slice A n n, .slice (some ⟨P, 0, none⟩) 1 1]).run Tryz.prog W = .ok (.slice (some ⟨g, 0, none⟩) (n + 1) cap) w' ∧ (∀ W9 : World, Below w.heap.size w W9 → W9.heap[g]? = w'.heap[g]? → CLV W9 (xs ++ [x]) (some ⟨g, 0, none⟩) (n + 1) cap) ∧ Below W.heap.size W w' ∧ W.heap.size ≤ g := by
  obtain ⟨i0, hi, hz0, hz1, hz2⟩ := info_parts infoTerm
  have hnews := World.news_of_block hP
  have h1 : ∀ u ∈ [Value.int .i64 k, .int .i64 h, .slice A2 n2 c2], u.oneCell' = true := by intro u hu; simp at hu; rcases hu with rfl | rfl | rfl <;> rfl
  have tail : ∀ (olds : List Value) (v' : Value) (w' : World), (∀ b o q u, A = some ⟨b, o, none⟩ → q < n * 3 → w.cell? ⟨b, o + q, none⟩ = some u → olds[q]? = some u) → olds.length = n * 3 → w'.ownsRow W.heap.size 39 3 v' (n + 1) (olds ++ [.int .i64 k, .int .i64 h, .slice A2 n2 c2]) → W.grownBy w' none →
      ∃ g cap, v' = .slice (some ⟨g, 0, none⟩) (n + 1) cap ∧ (∀ W9 : World, Below w.heap.size w W9 → W9.heap[g]? = w'.heap[g]? → CLV W9 (xs ++ [x]) (some ⟨g, 0, none⟩) (n + 1) cap) ∧ Below W.heap.size W w' ∧ W.heap.size ≤ g := fun olds v' w' ho hol how hgr => by
    obtain ⟨g, cap, rfl, hg, _⟩ := how.form (by omega)
    have hbw : Below W.heap.size W w' := below_grown (Below.refl _ _) hgr (fun r hr => by cases hr) (Nat.le_refl _)
    exact ⟨g, cap, rfl, fun W9 h9 hgg => rdV_row hx h9 ho hol hr how hgg, hbw, hg⟩
  rcases Nat.eq_zero_or_pos n with rfl | hp
  · cases A with
    | none =>
      obtain ⟨g, cap, w', hrun, how, hgr, _, _⟩ := run_append_lies (P := Tryz.prog) W 24 24 W.heap.size 39 i0 _ 3 40 Tryz.underlying24 hi hz0 hz1 hz2 rfl (by omega) (.slice none 0 0) 0 []
        (World.ownsRow_nil _ _ _ _) ⟨P, 0, none⟩ 1 1 [.int .i64 k, .int .i64 h, .slice A2 n2 c2] rfl hnews h1 (by omega) (by unfold maxLen; omega) (by omega) (Nat.le_refl _) _ rfl
      rw [Nat.zero_add] at hrun how
      obtain ⟨g', cap', e, h2, h3, h4⟩ := tail [] _ _ (fun b o q u _ hq => by omega) rfl (by rw [Nat.zero_add]; exact how) hgr
      rw [Nat.zero_add] at e
      cases e
      exact ⟨g, cap, w', by rw [Nat.zero_add]; exact hrun, h2, h3, h4⟩
    | some a =>
      obtain ⟨v', w', hrun, how, hgr⟩ := run_append_arg_grows (P := Tryz.prog) W 24 24 39 i0 _ 3 40 Tryz.underlying24 hi hz0 hz1 hz2 rfl (by omega) a 0 0 [] rfl (fun j u hu => by simp at hu) ⟨P, 0, none⟩ 1 1 [.int .i64 k, .int .i64 h, .slice A2 n2 c2] rfl hnews (by omega) (by unfold maxLen; omega) (by omega)
      obtain ⟨g, cap, rfl, h2, h3, h4⟩ := tail [] v' w' (fun b o q u _ hq => by omega) rfl how hgr
      exact ⟨g, cap, w', hrun, h2, h3, h4⟩
  · cases A with
    | none => have := hA rfl; omega
    | some a =>
      obtain ⟨t, ht⟩ := at_of hx.len hp
      obtain ⟨b, o, _, _, _, _, _, e, _⟩ := (hx.at_ 0 t ht).full
      cases e
      have hxW := hx.keep hb
      have hol : (rawV W b o (n * 3)).length = n * 3 := rawV_len _ _ _ _
      obtain ⟨v', w', hrun, how, hgr⟩ := run_append_arg_grows (P := Tryz.prog) W 24 24 39 i0 _ 3 40 Tryz.underlying24 hi hz0 hz1 hz2 rfl (by omega) ⟨b, o, none⟩ n n (rawV W b o (n * 3)) hol (fun j u hu => by
          have hq : j < n * 3 := by have := (List.getElem?_eq_some_iff.1 hu).1; rwa [rawV_len] at this
          obtain ⟨u', h1, _⟩ := rawV_cell hxW hq
          rw [rawV_at hq, h1] at hu
          rw [addr_add, h1]
          simpa using hu) ⟨P, 0, none⟩ 1 1 [.int .i64 k, .int .i64 h, .slice A2 n2 c2] rfl hnews (by omega) (by unfold maxLen; omega) (by omega)
      obtain ⟨g, cap, rfl, h2, h3, h4⟩ := tail _ v' w' (fun b' o' q u e hq hu => by
          cases e
          rw [rawV_at hq, (hb.cell (cell_lt hu)).trans hu]
          rfl) hol how hgr
      exact ⟨g, cap, w', hrun, h2, h3, h4⟩
def MoreV (As Am : Option Addr) (ns cs nm cm n : Nat) (xs : List T) (w : World) (e : Ending) (w' : World) : Prop :=
  ∃ g cap, e = .returned (.agg #[.slice As ns cs, .slice Am nm cm, .slice (some ⟨g, 0, none⟩) (n + 1) cap]) ∧ CLV w' xs (some ⟨g, 0, none⟩) (n + 1) cap ∧ Below w.heap.size w w'
theorem clv_none {w : World} {xs : List T} {n c : Nat} (h : CLV w xs none n c) : n = 0 := by
  rcases Nat.eq_zero_or_pos n with e | hp
  · exact e
  · obtain ⟨t, ht⟩ := at_of h.len hp
    obtain ⟨b, o, _, _, _, _, _, e, _⟩ := (h.at_ 0 t ht).full
    cases e
theorem moreC (cx : List T) (x : T) (As Am Ac : Option Addr) (ns cs nm cm nc cc : Nat) (k h : Int) (A : Option Addr) (n c : Nat) (w : World) (hc : CLV w cx Ac nc cc) (hx : Rd w x (.agg #[.int .i64 k, .int .i64 h, .slice A n c])) (hn : nc ≤ 2000000) :
    Calls Tryz.prog 91 #[.agg #[.slice As ns cs, .slice Am nm cm, .slice Ac nc cc], .agg #[.int .i64 k, .int .i64 h, .slice A n c]] w (MoreV As Am ns cs nm cm nc (cx ++ [x]) w) := by
  have hcle := hc.le
  have hcap := hc.cap
  unfold maxLen at hcap
  have hnone : Ac = none → nc = 0 := fun e => by subst e; exact clv_none hc
  obtain ⟨W, hW⟩ : ∃ W, ((w.alloc (.cells #[.slice As ns cs, .slice Am nm cm, .slice Ac nc cc] 75)).alloc (.cells #[.int .i64 k, .int .i64 h, .slice A n c] 39)).alloc (.cells #[.slice none 0 0, .slice none 0 0, .slice none 0 0] 75) = W := ⟨_, rfl⟩
  have hb : Below w.heap.size w W := by rw [← hW]; exact (((Below.refl _ _).alloc (Nat.le_refl _) _).alloc (by simp) _).alloc (by simp; omega) _
  have x0 : Box W w.heap.size 75 #[.slice As ns cs, .slice Am nm cm, .slice Ac nc cc] := by rw [← hW]; exact ((Box.new _ _ _).alloc _).alloc _
  have x1 : Box W (w.heap.size + 1) 39 #[.int .i64 k, .int .i64 h, .slice A n c] := by rw [← hW]; exact ((Box.new (w.alloc _) _ _).at (by simp)).alloc _
  have x2 : Box W (w.heap.size + 1 + 1) 75 #[.slice none 0 0, .slice none 0 0, .slice none 0 0] := by rw [← hW]; exact (Box.new ((w.alloc _).alloc _) _ _).at (by simp)
  have HX := Lib.hid hx
  have HC := Lib.hid hc
  have HB := Lib.hid hb
  have HNN := Lib.hid hnone
  have HW := Lib.hid hW; clear hW hx hc hb hnone
  obtain ⟨c0, c1, c2⟩ := x0.three
  obtain ⟨d0, d1, d2⟩ := x1.three
  go_enter Tryz.func91, Tryz.ntmps91
  go_wp2_with fail
  rw [HW.out]
  clear HW
  go_wp2_with fail
  have HKS : Hid (∀ w' : World, Below W.heap.size W w' → (fun w' => w'.cell? ⟨w.heap.size, 2, none⟩ = some (.slice Ac nc cc) ∧ w'.cell? ⟨w.heap.size + 1, 0, none⟩ = some (.int .i64 k) ∧ w'.cell? ⟨w.heap.size + 1, 1, none⟩ = some (.int .i64 h) ∧ w'.cell? ⟨w.heap.size + 1, 2, none⟩ = some (.slice A n c)) w') := Lib.hid fun w' h => ⟨(h.cell (cell_lt c2)).trans c2, (h.cell (cell_lt d0)).trans d0, (h.cell (cell_lt d1)).trans d1, (h.cell (cell_lt d2)).trans d2⟩
  have hbd : Below W.heap.size W W.drew := (Below.refl _ W).drew
  have hS := HKS.out _ hbd
  refine wp_region_cut rfl (by kernel_rfl) (by kernel_rfl) ?_
  refine wpAny_of_held (S := fun w' => w'.cell? ⟨w.heap.size, 2, none⟩ = some (.slice Ac nc cc) ∧ w'.cell? ⟨w.heap.size + 1, 0, none⟩ = some (.int .i64 k) ∧ w'.cell? ⟨w.heap.size + 1, 1, none⟩ = some (.int .i64 h) ∧ w'.cell? ⟨w.heap.size + 1, 2, none⟩ = some (.slice A n c)) _ _ _ _ ?_
  simp only [List.pop_toArray, List.dropLast, List.size_toArray, List.length_cons, List.length_nil, Nat.reduceAdd, Nat.reduceSub]
  refine zzT (i := 0) (v := .pointer (some ⟨w.heap.size, 2, none⟩)) rfl hS ?_
  try simp only [Act.put, List.setIfInBounds_toArray]
  refine zzT (i := 1) (v := .slice Ac nc cc) rfl hS ?_
  try simp only [Act.put]
  refine zzT (i := 2) (v := .int .i64 nc) rfl hS ?_
  try simp only [Act.put]
  refine zzT (i := 3) (v := .int .i64 nc) rfl hS ?_
  try simp only [Act.put]
  refine zzT (i := 4) (v := .slice Ac nc nc) rfl hS ?_
  try simp only [Act.put]
  refine zzT (i := 5) (v := .agg #[.int .i64 k, .int .i64 h, .slice A n c]) rfl hS ?_
  try simp only [Act.put]
  refine wpAnyH_ready (rs := [6]) (by kernel_rfl) (by simp) ?_
  refine AllReadyH.cons rfl (fun KN hK => ?_) AllReadyH.nil
  go_simp
  have hb5 : Below W.heap.size W (W.alloc (.cells #[.int .i64 k, .int .i64 h, .slice A n c] 39)).drew := ((Below.refl _ W).alloc (Nat.le_refl _) _).drew
  refine hK.out _ _ (HKS.out _ hb5) (fun hS => ?_)
  clear hK KN
  try simp only [Act.put, zzP]
  obtain ⟨W5, hW5⟩ : ∃ W5, (W.alloc (.cells #[.int .i64 k, .int .i64 h, .slice A n c] 39)).drew = W5 := ⟨_, rfl⟩
  have hbl : W5.heap[W.heap.size]? = some (.cells #[.int .i64 k, .int .i64 h, .slice A n c] 39 (0, 0)) := by rw [← hW5]; exact heap_alloc_new W _
  rw [hW5] at hb5 hS ⊢
  clear hW5
  refine wpAnyH_ready (rs := [7]) (by kernel_rfl) (by simp) ?_
  refine AllReadyH.cons rfl (fun KN hK => ?_) AllReadyH.nil
  obtain ⟨g7, cap7, w7, hrun7, hcl7, hb7, hg7⟩ := termAppV HC.out hn (HB.out.trans (hb5.mono HB.out.size)) hbl HX.out HNN.out
  have hb7' := hb5.trans (hb7.mono hb5.size)
  refine Lib.wp_append_run _ (.tmp 13) (.tmp 15) 24 24 rfl _ _ rfl rfl _ _ hrun7 ?_
  refine hK.out _ _ (HKS.out _ hb7') (fun hS => ?_)
  clear hK KN
  try simp only [Act.put, List.setIfInBounds_toArray]
  refine zzT (i := 8) (v := .pointer (some ⟨w.heap.size, 2, none⟩)) rfl hS ?_
  try simp only [Act.put]
  refine wpAnyH_done (by kernel_rfl) ?_ _
  show wpList _ _ _ _ _ _
  have z0 := x0.keep hb7' x0.lt
  have z2 := x2.keep hb7' x2.lt
  obtain ⟨q0, q1, q2⟩ := z0.three
  have f2 := z0.frozen 2
  obtain ⟨r0, r1, r2⟩ := z2.three
  have g0 := z2.frozen 0
  have g1 := z2.frozen 1
  have g2 := z2.frozen 2
  have l0 := z0.lt
  have l2 := z2.lt
  have HB7 := Lib.hid (HB.out.trans (hb7'.mono HB.out.size))
  have HC7 := Lib.hid hcl7
  have hg := hb5.size
  have hl3 := x2.lt
  have hg6 := HB.out.size
  clear hb7' hb7 hb5 hbd hcl7 z0 z2 x0 x1 x2 hS HKS hbl c0 c1 c2 d0 d1 d2
  go_wp2_with fail
  refine bodyPost_ret (v := .agg #[.slice As ns cs, .slice Am nm cm, .slice (some ⟨g7, 0, none⟩) (nc + 1) cap7]) (by simp [results, Tryz.results91, go_sem, r0, r1, r2]) rfl ?_
  have hb8 : Below w.heap.size w (w7.setCell ⟨w.heap.size, 2, none⟩ (.slice (some ⟨g7, 0, none⟩) (nc + 1) cap7)) := HB7.out.setCell (by dsimp only; omega) _
  have hbf := below_set3 hb8 (a := w.heap.size + 1 + 1) (by omega) (.slice As ns cs) (.slice Am nm cm) (.slice (some ⟨g7, 0, none⟩) (nc + 1) cap7)
  refine ⟨g7, cap7, rfl, HC7.out _ hbf ?_, hbf⟩
  exact (heap_other3 _ _ _ _ _ _ (by omega)).trans (Below.heap_setCell _ _ _ _ (by dsimp only; omega))
structure TRowV (W0 : World) (A : Option Addr) (n : Nat) (w : World) (v : Value) (olds : List Value) : Prop where
  own : w.ownsRow W0.heap.size 39 3 v n olds
  len : olds.length = n * 3
  at_ : ∀ b o q u, A = some ⟨b, o, none⟩ → q < n * 3 → W0.cell? ⟨b, o + q, none⟩ = some u → olds[q]? = some u
theorem TRowV.kept {W0 : World} {A : Option Addr} {n : Nat} {w w' : World} {v : Value} {olds : List Value} (h : TRowV W0 A n w v olds) (hb : Below w.heap.size w w') : TRowV W0 A n w' v olds :=
  ⟨h.own.kept (grown_of_below hb) (own_none _), h.len, h.at_⟩
theorem termApp1V {W0 W : World} {xs : List T} {A : Option Addr} {n c : Nat} (h : CLV W0 xs A n c) (hn : n ≤ 100000) (hb : Below W0.heap.size W0 W) :
    ∃ A' c' w' olds, (Builtin.append_ #[24, 24] 24 #[.slice none 0 0, .slice A n c]).run Tryz.prog W = .ok (.slice A' n c') w' ∧ TRowV W0 A n w' (.slice A' n c') olds ∧ Below W.heap.size W w' := by
  obtain ⟨i0, hi, hz0, hz1, hz2⟩ := info_parts infoTerm
  rcases Nat.eq_zero_or_pos n with rfl | hp
  · refine ⟨none, 0, W, [], ?_, ⟨World.ownsRow_nil _ _ _ _, rfl, fun b o q u _ hq => by omega⟩, Below.refl _ _⟩
    cases A <;> simp [Builtin.append_, run_underlying Tryz.underlying24, sizeOf, typeInfo, hi, Builtin.lenOf, Builtin.firstCells, loadCells, loadCellsFrom]
  · obtain ⟨t, ht⟩ := at_of h.len hp
    obtain ⟨b, o, _, _, _, _, _, e, _⟩ := (h.at_ 0 t ht).full
    subst e
    have hxW := h.keep hb
    obtain ⟨g, cap, w', hrun, how, hgr, _, _⟩ := run_append_lies (P := Tryz.prog) W 24 24 W0.heap.size 39 i0 _ 3 40 Tryz.underlying24 hi hz0 hz1 hz2 rfl (by omega) (.slice none 0 0) 0 []
      (World.ownsRow_nil _ _ _ _) ⟨b, o, none⟩ n c (rawV W b o (n * 3)) (rawV_len _ _ _ _) (fun j u hu => by
          have hq : j < n * 3 := by have := (List.getElem?_eq_some_iff.1 hu).1; rwa [rawV_len] at this
          obtain ⟨u', h1, _⟩ := rawV_cell hxW hq
          rw [rawV_at hq, h1] at hu
          rw [addr_add, h1]
          simpa using hu) (fun u hu => by
          obtain ⟨q, hq⟩ := List.getElem?_of_mem hu
          have hlt : q < n * 3 := by have := (List.getElem?_eq_some_iff.1 hq).1; rwa [rawV_len] at this
          obtain ⟨u', h1, h2⟩ := rawV_cell hxW hlt
          rw [rawV_at hlt, h1] at hq
          cases hq
          exact h2) hp (by unfold maxLen; omega) (by omega) hb.size _ rfl
    rw [Nat.zero_add] at hrun how
    rw [List.nil_append] at how
    refine ⟨some ⟨g, 0, none⟩, cap, w', _, hrun, ⟨how, rawV_len _ _ _ _, fun b' o' q u e hq hu => ?_⟩, below_grown (Below.refl _ _) hgr (fun r hr => by cases hr) (Nat.le_refl _)⟩
    cases e
    rw [rawV_at hq, (hb.cell (cell_lt hu)).trans hu]
    rfl
theorem termApp2V {W0 W : World} {xs : List T} {A : Option Addr} {n c : Nat} (h : CLV W0 xs A n c) (hn : n ≤ 100000) (hb : Below W0.heap.size W0 W) {v : Value} {olds : List Value} (hr : TRowV W0 A n W v olds) {P : Nat} {k g : Int} {A2 : Option Addr} {n2 c2 : Nat} {x : T}
    (hP : W.heap[P]? = some (.cells #[.int .i64 k, .int .i64 g, .slice A2 n2 c2] 39 (0, 0))) (hx : Rd W0 x (.agg #[.int .i64 k, .int .i64 g, .slice A2 n2 c2])) :
    ∃ q cap w', (Builtin.append_ #[24, 24] 24 #[v, .slice (some ⟨P, 0, none⟩) 1 1]).run Tryz.prog W = .ok (.slice (some ⟨q, 0, none⟩) (n + 1) cap) w' ∧ CLV w' (xs ++ [x]) (some ⟨q, 0, none⟩) (n + 1) cap ∧ Below W0.heap.size W0 w' := by
  obtain ⟨i0, hi, hz0, hz1, hz2⟩ := info_parts infoTerm
  obtain ⟨q, cap, w', hrun, how, hgr, _, _⟩ := run_append_lies (P := Tryz.prog) W 24 24 W0.heap.size 39 i0 _ 3 40 Tryz.underlying24 hi hz0 hz1 hz2 rfl (by omega) v n olds
    hr.own ⟨P, 0, none⟩ 1 1 [.int .i64 k, .int .i64 g, .slice A2 n2 c2] rfl (World.news_of_block hP) (by intro u hu; simp at hu; rcases hu with rfl | rfl | rfl <;> rfl) (by omega) (by unfold maxLen; omega) (by omega) hb.size _ rfl
  have hbw : Below W0.heap.size W0 w' := below_grown hb hgr (fun r hr' => (hr.own.lt r hr').1) hb.size
  exact ⟨q, cap, w', hrun, rdV_row h hbw hr.at_ hr.len hx how rfl, hbw⟩
end Go.Proofs.YtbbjjdnnlnabaaaGreat
namespace Go.Proofs.YtbbjjdnnlnabaaaGreat
open Go.ChangeShapes Go.WideShapes Go.ChangeAt Go.RowKit
set_option linter.unusedVariables false
set_option linter.unusedSimpArgs false
structure BdV (B : Int) (t : T) : Prop where
  my : myB t = true
  ok : okT B t
abbrev dlV : Int := 41944088576
abbrev loV : Int := 1099511627776
theorem BdV.mono {B C : Int} {t : T} (h : B ≤ C) (b : BdV B t) : BdV C t := ⟨b.my, okT_mono h t b.ok⟩
theorem BdV.nod {B : Int} {t : T} (b : BdV B t) : nodB t = true := ((myB_iff t).1 b.my).1
theorem dp_memV {t : T} : ∀ {xs : List T}, t ∈ xs → dp t ≤ dpL xs
  | x :: xs, h => by
    rw [dpL]
    rcases List.mem_cons.1 h with rfl | h
    · omega
    · have := dp_memV h; omega
theorem BdV.arg {B k h : Int} {xs : List T} (b : BdV B (.node k h xs)) {x : T} (hx : x ∈ xs) : BdV B x := by
  obtain ⟨h1, h2, h3⟩ := (myB_iff _).1 b.my
  have h4 := b.ok
  rw [okT] at h4
  rw [nd] at h2
  rw [dp] at h3
  have := nd_mem hx
  have := dp_memV hx
  exact ⟨(myB_iff _).2 ⟨(nodV h1).2 x hx, by omega, by omega⟩, okL_mem h4.2 hx⟩
mutual
theorem sc_ok {B M : Int} : ∀ (t : T) (V : Int), nodB t = true → scC t V M → V + dp t ≤ B → okT B t
  | .node k h xs, V, hn, hs, hb => by
    rw [scC] at hs
    rw [dp] at hb
    rw [okT]
    exact ⟨fun e => ⟨headV hn, by have := hs.1 e; omega⟩, sc_okL k _ xs 0 V (nodV hn).2 hs.2.2 (by omega)⟩
theorem sc_okL {B M : Int} (k : Int) (n : Nat) : ∀ (xs : List T) (i : Nat) (V : Int), (∀ x ∈ xs, nodB x = true) → scCL k n xs i V M → V + 1 + dpL xs ≤ B → okL B xs
  | [], _, _, _, _, _ => by rw [okL]; trivial
  | x :: xs, i, V, hn, hs, hb => by
    rw [scCL] at hs
    rw [dpL] at hb
    rw [okL]
    have hbd : 0 ≤ bd k n i ∧ bd k n i ≤ 1 := by unfold bd; split <;> omega
    exact ⟨sc_ok x _ (hn x (by simp)) hs.1 (by omega), sc_okL k n xs (i + 1) V (fun y hy => hn y (by simp [hy])) hs.2 (by omega)⟩
end
theorem tm_low {W : WV} {m a : T} {cx : List T} (hm : myB m = true) (hc : (cx.length : Int) ≤ 1000000) (h : tmV W m cx a = 0) : okT loV m := by
  have h1 := (myB_iff m).1 hm
  exact sc_ok m _ h1.1 (tm_scoped m cx a h1.1 h) (by have := h1.2.2; unfold loV; omega)
structure WkV (W : WV) (t : T) : Prop where
  my : myB t = true
  ok : W.ms = [] ∨ okT loV t
theorem WkV.nod {W : WV} {t : T} (b : WkV W t) : nodB t = true := ((myB_iff t).1 b.my).1
theorem WkV.arg {W : WV} {k h : Int} {xs : List T} (b : WkV W (.node k h xs)) {x : T} (hx : x ∈ xs) : WkV W x := by
  obtain ⟨h1, h2, h3⟩ := (myB_iff _).1 b.my
  rw [nd] at h2
  rw [dp] at h3
  have := nd_mem hx
  have := dp_memV hx
  refine ⟨(myB_iff _).2 ⟨(nodV h1).2 x hx, by omega, by omega⟩, b.ok.imp id fun h4 => ?_⟩
  rw [okT] at h4
  exact okL_mem h4.2 hx
theorem BdV.wk {W : WV} {t : T} (b : BdV loV t) : WkV W t := ⟨b.my, .inr b.ok⟩
theorem WkV.bd {W : WV} {t : T} (b : WkV W t) (h : W.ms ≠ []) : BdV loV t := ⟨b.my, b.ok.resolve_left h⟩
theorem BdV.pi {B : Int} {a : T} (b : BdV B a) (hk : kdQ a = 1) : ∃ x y, a = .node 1 0 [x, y] ∧ BdV B x ∧ BdV B y := by
  obtain ⟨k, h, xs⟩ := a
  rw [kdQ] at hk
  subst hk
  obtain ⟨rfl, x, y, rfl, _, _⟩ := piV b.nod
  exact ⟨x, y, rfl, b.arg (by simp), b.arg (by simp)⟩
theorem bd_ap {B n : Int} {t : T} {L : List T} (bt : BdV B t) (bl : ∀ x ∈ L, BdV B x) (he : apE t L n = 0) : BdV (B + dlV) (apT t L n) := by
  by_cases hc : (myB t && sbB L n) = true
  · have h1 : apE t L n = anE (apR t L n) := by unfold apE; rw [if_pos hc]
    have h2 : apT t L n = anT (apR t L n) := by unfold apT; rw [if_pos hc]
    rw [h1] at he
    rw [h2]
    have hs : 0 ≤ n ∧ n ≤ 1048576 := by
      rw [Bool.and_eq_true] at hc
      have := hc.2
      unfold sbB at this
      simp only [Bool.and_eq_true, decide_eq_true_eq] at this
      omega
    cases hr : apR t L n with
    | error e =>
      rw [hr] at he
      have hr' : ap fl L n 0 t 0 = .error e := hr
      exact absurd he (ap_err _ _ _ _ _ _ _ hr')
    | ok p =>
      obtain ⟨t', n'⟩ := p
      rw [hr, anE] at he
      by_cases hm : myB t' = true
      · rw [anT, if_pos hm]
        have hg := ap_good (B := B + 1048576) fl L n 0 t 0 (Nat.le_refl _) (by omega) ⟨fun y hy => (bl y hy).my, fun y hy => okT_mono (by unfold btB; omega) _ (bl y hy).ok, hs.1, hs.2⟩ ⟨bt.nod, okT_mono (by unfold btB; omega) _ bt.ok⟩ t' n' hr
        exact ⟨hm, okT_mono (by unfold btB dlV; omega) _ hg.2.2.1.ok⟩
      · rw [if_neg hm] at he; cases he
  · have h1 : apE t L n = 1 := by unfold apE; rw [if_neg hc]
    rw [h1] at he
    cases he
theorem bd_up {B b : Int} {t : T} (bt : BdV B t) (hb : 0 ≤ b) : BdV (B + b) (upT b t 0) := by
  obtain ⟨h1, h2, h3⟩ := (myB_iff _).1 bt.my
  exact ⟨(myB_iff _).2 ⟨nodB_up hb _ _ h1, by rw [nd_up]; exact h2, by rw [dp_up]; exact h3⟩, okT_up hb _ _ bt.ok⟩
structure EnvV (W : WV) (cx : List T) (B : Int) : Prop where
  sg : ∀ t ∈ W.sg, BdV loV t
  ms : ∀ m ∈ W.ms, (∀ e ∈ m.1, BdV loV e) ∧ BdV loV m.2
  cx : ∀ t ∈ cx, BdV B t
  lo : loV ≤ B
theorem EnvV.more {W : WV} {cx : List T} {B : Int} (h : EnvV W cx B) {a : T} (ha : BdV B a) : EnvV W (cx ++ [a]) B :=
  ⟨h.sg, h.ms, fun t ht => by
    rcases List.mem_append.1 ht with ht | ht
    · exact h.cx t ht
    · rw [List.mem_singleton.1 ht]; exact ha, h.lo⟩
theorem EnvV.mono {W : WV} {cx : List T} {B C : Int} (h : EnvV W cx B) (hl : B ≤ C) : EnvV W cx C := ⟨h.sg, h.ms, fun t ht => (h.cx t ht).mono hl, Int.le_trans h.lo hl⟩
/-! ### What is handed to the contracts -/
structure CkV (w : World) (W : WV) (cx : List T) (As : Option Addr) (ns cs : Nat) (Am : Option Addr) (nm cm : Nat) (Ac : Option Addr) (nc cc : Nat) : Prop where
  sg : DL w W.sg As ns cs
  ms : ML w W.ms Am nm cm
  cx : CLV w cx Ac nc cc
theorem CkV.keep {w w' : World} {W : WV} {cx : List T} {As : Option Addr} {ns cs : Nat} {Am : Option Addr} {nm cm : Nat} {Ac : Option Addr} {nc cc : Nat} (h : CkV w W cx As ns cs Am nm cm Ac nc cc) (hb : Below w.heap.size w w') : CkV w' W cx As ns cs Am nm cm Ac nc cc :=
  ⟨h.sg.keep hb, h.ms.keep hb, h.cx.keep hb⟩
abbrev hiV : Int := 281474976710656
def TmC (W : WV) (m : T) : Prop := ∀ (cx : List T) (a : T) (B : Int) (As : Option Addr) (ns cs : Nat) (Am : Option Addr) (nm cm : Nat) (Ac : Option Addr) (nc cc : Nat) (vm va : Value) (w : World),
  EnvV W cx B → WkV W m → BdV B a → B + nd m * dlV ≤ hiV → cx.length + nd m ≤ 1000000 → CkV w W cx As ns cs Am nm cm Ac nc cc → Rd w m vm → Rd w a va →
    Calls Tryz.prog 53 #[.agg #[.slice As ns cs, .slice Am nm cm, .slice Ac nc cc], vm, va] w fun e w' => e = .returned (.int .i64 (tmV W m cx a)) ∧ Below w.heap.size w w'
def erV : Except Int T → Int
  | .error e => e
  | .ok _ => 0
def SpE (ok : Nat → Prop) (r : Except Int T) (w : World) (e : Ending) (w' : World) : Prop :=
  ∃ k h A n c, e = .returned (.tuple #[.agg #[.int .i64 k, .int .i64 h, .slice A n c], .int .i64 (erV r)]) ∧ (∀ t, r = .ok t → RdF (fun b => (ok b ∧ b < w.heap.size) ∨ w.heap.size ≤ b) w' t (.agg #[.int .i64 k, .int .i64 h, .slice A n c])) ∧ Below w.heap.size w w'
end Go.Proofs.YtbbjjdnnlnabaaaGreat
namespace Go.Proofs.YtbbjjdnnlnabaaaGreat
open Go.ChangeShapes Go.WideShapes Go.ChangeAt Go.RowKit
set_option linter.unusedVariables false
set_option linter.unusedSimpArgs false
set_option maxRecDepth 100000
set_option maxHeartbeats 8000000
theorem drop_at' {α : Type} {l : List α} {j : Nat} {x : α} (h : l[j]? = some x) : l.drop j = x :: l.drop (j + 1) := by
  obtain ⟨h1, h2⟩ := List.getElem?_eq_some_iff.1 h
  rw [List.drop_eq_getElem_cons h1, h2]
theorem eMay1 (t : T) (v : Value) (w : World) (hv : Rd w t v) (hs : nd t ≤ 1048576) :
    Calls Tryz.prog 55 #[v] w fun e w' => e = .returned (.bool (myB t)) ∧ Below w.heap.size w w' := by
  rw [← mayB_my hs]
  exact refMay t v w hv
theorem eAllC (xs : List T) (A : Option Addr) (n c : Nat) (w : World) (hx : CLV w xs A n c) (hs : ∀ x ∈ xs, nd x ≤ 1048576) :
    Calls Tryz.prog 63 #[.slice A n c] w fun e w' => e = .returned (.bool (xs.all myB)) ∧ Below w.heap.size w w' := by
  have hm := hx.cap
  have hc := hx.le
  unfold maxLen at hm
  have HX := Lib.hid hx; clear hx
  obtain ⟨R, hR⟩ : ∃ R, xs.all myB = R := ⟨_, rfl⟩
  have HR := Lib.hid hR
  rw [hR]
  clear hR
  go_enter Tryz.func63, Tryz.ntmps63
  go_wp2_with fail
  go_loopw [3] (fun i wr => ∃ (j : Nat), j ≤ n ∧ i = .int .i64 j ∧ Hid ((xs.drop j).all myB = R) ∧ Hid (Below w.heap.size w wr)) (fun i _ => n - (Go.RowKit.intOf i).toNat)
  case atStart => exact ⟨0, Nat.zero_le _, rfl, Lib.hid (by simpa using HR.out), Lib.hid (Below.refl _ _)⟩
  case round =>
    obtain ⟨j, hj, rfl, HS, HB⟩ := hrel
    by_cases hlt : j < n
    · obtain ⟨x, ht⟩ := at_of HX.out.len hlt
      obtain ⟨b, o, k2, h2, A2, n2, c2', rfl, c0, c1, c2, hr⟩ := (RdAt.keep HB.out (HX.out.at_ j x ht)).full
      have hi0 : (0 : Int) ≤ j := by omega
      have hi1 : (j : Int) < n := by omega
      have dj : decide ((j : Int) < (n : Int)) = true := by simp; omega
      have hsj : IntKind.i64.wrap ((j : Int) + 1) = ((j + 1 : Nat) : Int) := by rw [wrapEq, wrap_small (by omega) (by omega)]; omega
      have HM := Lib.hid (eMay1 x _ wr hr (hs x (List.mem_of_getElem? ht)))
      have HS' := HS.out
      rw [drop_at ht, List.all_cons] at HS'
      have HS := Lib.hid HS'; clear HS' ht hr
      generalize myB x = r at *
      go_wp2_with fail
      clear c0 c1 c2
      refine HM.out.mono ?_
      rintro e w1 ⟨rfl, hb1⟩
      have HB1 := Lib.hid (HB.out.trans (hb1.mono HB.out.size))
      clear hb1 HM
      cases r
      · go_wp2_with fail
        go_ret
        exact ⟨ret_bool (by rw [← HS.out]; rfl), HB1.out⟩
      · go_wp2_with fail
        go_roundw
        case rel => exact ⟨j + 1, by omega, by go_num, Lib.hid (by simpa using HS.out), HB1⟩
        case measure => simp [Go.RowKit.intOf]; omega
    · obtain rfl : j = n := by omega
      have dj : decide ((j : Int) < (j : Int)) = false := by simp
      have HQ := Lib.hid (show true = R by rw [← HS.out, drop_all HX.out.len (by omega)]; rfl)
      go_wp2_with fail
      go_ret
      exact ⟨ret_bool HQ.out, HB.out⟩
theorem e_may_eq (W : WV) (cx l : List T) : mayV W cx l = (decide (cx.length ≤ 1000) && (W.sg.all myB && (W.ms.all mmB && (cx.all myB && l.all myB)))) := by
  unfold mayV
  cases decide (cx.length ≤ 1000) <;> cases cx.all myB <;> cases l.all myB <;> cases W.sg.all myB <;> cases W.ms.all mmB <;> rfl
structure SzE (W : WV) (cx : List T) : Prop where
  sg : ∀ t ∈ W.sg, nd t ≤ 1048576
  ms : ∀ m ∈ W.ms, (∀ e ∈ m.1, nd e ≤ 1048576) ∧ nd m.2 ≤ 1048576
  cx : ∀ t ∈ cx, nd t ≤ 1048576
theorem eMayC (W : WV) (cx l : List T) (As Am Ac Al : Option Addr) (ns cs nm cm nc cc nl cl : Nat) (w : World) (hs : DL w W.sg As ns cs) (hm : ML w W.ms Am nm cm) (hc : CLV w cx Ac nc cc) (hl : CLV w l Al nl cl) (hz : SzE W cx) (hlz : ∀ t ∈ l, nd t ≤ 1048576) :
    Calls Tryz.prog 48 #[.slice As ns cs, .slice Am nm cm, .slice Ac nc cc, .slice Al nl cl] w fun e w' => e = .returned (.bool (mayV W cx l)) ∧ Below w.heap.size w w' := by
  have hccap := hc.cap
  have hcle := hc.le
  have hscap := hs.cap
  have hsle := hs.le
  have hmcap := hm.cap
  have hmle := hm.le
  have hcl := hc.len
  unfold maxLen at hccap hscap hmcap
  have HCX := Lib.hid (fun W' (h' : Below w.heap.size w W') => eAllC cx Ac nc cc W' (hc.keep h') hz.cx)
  have HL := Lib.hid (fun W' (h' : Below w.heap.size w W') => eAllC l Al nl cl W' (hl.keep h') hlz)
  have HS := Lib.hid hs; clear hs
  have HM := Lib.hid hm; clear hm
  have HZ := Lib.hid hz; clear hz
  clear hc hl
  have hR : mayV W cx l = (decide (nc ≤ 1000) && (W.sg.all myB && (W.ms.all mmB && (cx.all myB && l.all myB)))) := by rw [e_may_eq, hcl]
  obtain ⟨R, hRR⟩ : ∃ R, mayV W cx l = R := ⟨_, rfl⟩
  rw [hRR] at hR ⊢
  have HR := Lib.hid hR
  clear hR hRR hcl
  generalize cx.all myB = r1 at *
  generalize l.all myB = r2 at *
  by_cases hgt : 1000 < nc
  · have d1 : decide ((1000 : Int) < (nc : Int)) = true := by simp; omega
    have HR' := Lib.hid (show R = false by rw [HR.out, decide_eq_false (by omega)]; rfl)
    go_enter Tryz.func48, Tryz.ntmps48
    go_wp2_with fail
    go_ret
    exact ⟨ret_bool HR'.out.symm, Below.refl _ _⟩
  have d1 : decide ((1000 : Int) < (nc : Int)) = false := by simp; omega
  have HR1 := Lib.hid (show R = (W.sg.all myB && (W.ms.all mmB && (r1 && r2))) by rw [HR.out, decide_eq_true (by omega)]; rfl)
  clear HR
  go_enter Tryz.func48, Tryz.ntmps48
  go_wp2_with fail
  go_loopw [9] (fun i wr => ∃ (j : Nat), j ≤ ns ∧ i = .int .i64 j ∧ Hid (R = ((W.sg.drop j).all myB && (W.ms.all mmB && (r1 && r2)))) ∧ Hid (Below w.heap.size w wr)) (fun i _ => ns - (Go.RowKit.intOf i).toNat)
  case atStart => exact ⟨0, Nat.zero_le _, rfl, Lib.hid (by simpa using HR1.out), Lib.hid (Below.refl _ _)⟩
  case round =>
    clear HR1
    obtain ⟨j, hj, rfl, HJ, HB⟩ := hrel
    by_cases hlt : j < ns
    · obtain ⟨x, hx⟩ := at_of HS.out.len hlt
      obtain ⟨b1, o1, s1, k1, h1, A1, n1, c1, rfl, e0, e1, e2, e3, hr1⟩ := (HS.out.at_ j x hx).keep HB.out
      have hi0 : (0 : Int) ≤ j := by omega
      have hi1 : (j : Int) < ns := by omega
      have dj : decide ((j : Int) < (ns : Int)) = true := by simp; omega
      have hsj : IntKind.i64.wrap ((j : Int) + 1) = ((j + 1 : Nat) : Int) := by rw [wrapEq, wrap_small (by omega) (by omega)]; omega
      have HMY := Lib.hid (eMay1 x _ wr hr1 (HZ.out.sg x (List.mem_of_getElem? hx)))
      have HJ' := HJ.out
      rw [drop_at hx, List.all_cons] at HJ'
      have HJ1 := Lib.hid HJ'; clear HJ' hx hr1
      generalize myB x = r at *
      go_wp2_with fail
      clear e0 e1 e2 e3
      refine HMY.out.mono ?_
      rintro e w3 ⟨rfl, hb3⟩
      have HB3 := Lib.hid (HB.out.trans (hb3.mono HB.out.size))
      clear hb3 HMY
      cases r
      · go_wp2_with fail
        go_ret
        exact ⟨ret_bool (by rw [HJ1.out]; rfl), HB3.out⟩
      · go_wp2_with fail
        go_roundw
        case rel => exact ⟨j + 1, by omega, by go_num, Lib.hid (by simpa using HJ1.out), HB3⟩
        case measure => simp [Go.RowKit.intOf]; omega
    · obtain rfl : j = ns := by omega
      have dj : decide ((j : Int) < (j : Int)) = false := by simp
      have HR2 := Lib.hid (show R = (W.ms.all mmB && (r1 && r2)) by rw [HJ.out, drop_all HS.out.len (by omega)]; rfl)
      clear HJ
      go_wp2_with fail
      go_loopw [11] (fun i wr => ∃ (i' : Nat), i' ≤ nm ∧ i = .int .i64 i' ∧ Hid (R = ((W.ms.drop i').all mmB && (r1 && r2))) ∧ Hid (Below w.heap.size w wr)) (fun i _ => nm - (Go.RowKit.intOf i).toNat)
      case atStart => exact ⟨0, Nat.zero_le _, rfl, Lib.hid (by simpa using HR2.out), HB⟩
      case round =>
        clear HB HR2 dj
        obtain ⟨i, hi, rfl, HJ, HB⟩ := hrel
        by_cases hlt : i < nm
        · obtain ⟨x, hx⟩ := at_of HM.out.len hlt
          obtain ⟨b1, o1, A0, n0, c0, k1, h1, A1, n1, c1, pb, rfl, e0, e1, e2, e3, e4, hl1, hr1⟩ := (HM.out.at_ i x hx).keep HB.out
          have hi0 : (0 : Int) ≤ i := by omega
          have hi1 : (i : Int) < nm := by omega
          have di : decide ((i : Int) < (nm : Int)) = true := by simp; omega
          have hsi : IntKind.i64.wrap ((i : Int) + 1) = ((i + 1 : Nat) : Int) := by rw [wrapEq, wrap_small (by omega) (by omega)]; omega
          have hzm := HZ.out.ms x (List.mem_of_getElem? hx)
          have HA := Lib.hid (eAllC x.1 _ _ _ wr hl1 hzm.1)
          have HMY := Lib.hid (fun W' (h' : Below wr.heap.size wr W') => eMay1 x.2 _ W' (Rd.keep h' _ _ hr1) hzm.2)
          have HJ' := HJ.out
          rw [drop_at' hx, List.all_cons, mmB] at HJ'
          have HJ1 := Lib.hid HJ'; clear HJ' hx hr1 hl1 hzm
          generalize x.1.all myB = ra at *
          generalize myB x.2 = rb at *
          go_wp2_with fail
          refine HA.out.mono ?_
          rintro e w3 ⟨rfl, hb3⟩
          have HB3 := Lib.hid (HB.out.trans (hb3.mono HB.out.size))
          replace e1 := (hb3.cell (cell_lt e1)).trans e1
          replace e2 := (hb3.cell (cell_lt e2)).trans e2
          replace e3 := (hb3.cell (cell_lt e3)).trans e3
          have HMY3 := Lib.hid (HMY.out w3 hb3)
          clear hb3 HA HMY e0 e4
          go_wp2_with fail
          clear e1 e2 e3
          refine HMY3.out.mono ?_
          rintro e w4 ⟨rfl, hb4⟩
          have HB4 := Lib.hid (HB3.out.trans (hb4.mono HB3.out.size))
          clear hb4 HMY3
          cases ra
          · go_wp2_with fail
            go_ret
            exact ⟨ret_bool (by rw [HJ1.out]; rfl), HB4.out⟩
          cases rb
          · go_wp2_with fail
            go_ret
            exact ⟨ret_bool (by rw [HJ1.out]; rfl), HB4.out⟩
          go_wp2_with fail
          go_roundw
          case rel => exact ⟨i + 1, by omega, by go_num, Lib.hid (by simpa using HJ1.out), HB4⟩
          case measure => simp [Go.RowKit.intOf]; omega
        · obtain rfl : i = nm := by omega
          have di : decide ((i : Int) < (i : Int)) = false := by simp
          have HR3 := Lib.hid (show R = (r1 && r2) by rw [HJ.out, List.drop_of_length_le (by rw [HM.out.len]; omega)]; rfl)
          clear HJ
          go_wp2_with fail
          refine (HCX.out wr HB.out).mono ?_
          rintro e w5 ⟨rfl, hb5⟩
          have HB5 := Lib.hid (HB.out.trans (hb5.mono HB.out.size))
          clear hb5
          go_wp2_with fail
          refine (HL.out w5 HB5.out).mono ?_
          rintro e w6 ⟨rfl, hb6⟩
          have HB6 := Lib.hid (HB5.out.trans (hb6.mono HB5.out.size))
          clear hb6
          cases r1
          · go_wp2_with fail
            go_ret
            exact ⟨ret_bool (by rw [HR3.out]; rfl), HB6.out⟩
          · go_wp2_with fail
            go_ret
            exact ⟨ret_bool (by rw [HR3.out]; rfl), HB6.out⟩
def MoE (cx : List T) (nc : Nat) (w : World) (e : Ending) (w' : World) : Prop := ∃ g cap, e = .returned (.slice (some ⟨g, 0, none⟩) (nc + 1) cap) ∧ CLV w' cx (some ⟨g, 0, none⟩) (nc + 1) cap ∧ Below w.heap.size w w'
theorem eMoreC (cx : List T) (a : T) (Ac : Option Addr) (nc cc : Nat) (v : Value) (w : World) (hc : CLV w cx Ac nc cc) (hv : Rd w a v) (hn : nc ≤ 100000) :
    Calls Tryz.prog 64 #[.slice Ac nc cc, v] w (MoE (cx ++ [a]) nc w) := by
  obtain ⟨k, h, A2, n2, c2, rfl⟩ := hv.full
  obtain ⟨W, hW⟩ : ∃ W, w.alloc (.cells #[.int .i64 k, .int .i64 h, .slice A2 n2 c2] 39) = W := ⟨_, rfl⟩
  have hb : Below w.heap.size w W := by rw [← hW]; exact (Below.refl _ _).alloc (Nat.le_refl _) _
  have z5 : Box W w.heap.size 39 #[.int .i64 k, .int .i64 h, .slice A2 n2 c2] := by rw [← hW]; exact Box.new _ _ _
  obtain ⟨a0, a1, a2⟩ := z5.three
  have HC := Lib.hid (hc.keep hb)
  have HV := Lib.hid (Rd.keep hb _ _ hv)
  have HB := Lib.hid hb
  clear hc hv hb z5
  go_enter Tryz.func64, Tryz.ntmps64
  go_wp2_with fail
  try rw [hW]
  clear hW
  have HKS : Hid (∀ w' : World, Below W.heap.size W w' → (fun w' => w'.cell? ⟨w.heap.size, 0, none⟩ = some (.int .i64 k) ∧ w'.cell? ⟨w.heap.size, 1, none⟩ = some (.int .i64 h) ∧ w'.cell? ⟨w.heap.size, 2, none⟩ = some (.slice A2 n2 c2)) w') := Lib.hid fun w' h => ⟨(h.cell (cell_lt a0)).trans a0, (h.cell (cell_lt a1)).trans a1, (h.cell (cell_lt a2)).trans a2⟩
  have hbd : Below W.heap.size W W.drew := (Below.refl _ W).drew
  refine zzR HKS hbd (fun hS => ?_)
  simp only [List.size_toArray, List.length_cons, List.length_nil, Nat.reduceAdd]
  refine zzT (i := 0) (v := .slice Ac nc cc) rfl hS ?_
  try simp only [Act.put, zzP]
  refine zzT (i := 2) (v := .agg #[.int .i64 k, .int .i64 h, .slice A2 n2 c2]) rfl hS ?_
  try simp only [Act.put, zzP]
  refine wpAnyH_ready (rs := [1, 3]) (by kernel_rfl) (by simp) ?_
  refine AllReadyH.cons rfl (fun KN hK => ?_) (AllReadyH.cons rfl (fun KN hK => ?_) AllReadyH.nil)
  · obtain ⟨A5, c5, w55, olds5, hrun5, hrow5, hb5⟩ := termApp1V HC.out (by omega) hbd
    have hb5' := hbd.trans (hb5.mono hbd.size)
    refine Lib.wp_append_run _ (.const (.slice none 0 0)) (.tmp 5) 24 24 rfl _ _ rfl rfl _ _ hrun5 ?_
    refine hK.out _ _ (HKS.out _ hb5') (fun hS => ?_)
    clear hK KN
    try simp only [Act.put, zzP]
    refine wpAnyH_ready (rs := [3]) (by kernel_rfl) (by simp) ?_
    refine AllReadyH.cons rfl (fun KN hK => ?_) AllReadyH.nil
    go_simp
    have hbB : Below W.heap.size W (w55.alloc (.cells #[.int .i64 k, .int .i64 h, .slice A2 n2 c2] 39)) := hb5'.alloc hb5'.size _
    refine hK.out _ _ (HKS.out _ hbB) (fun hS => ?_)
    clear hK KN
    try simp only [Act.put, zzP]
    have hrowB := hrow5.kept (show Below w55.heap.size w55 (w55.alloc (.cells #[.int .i64 k, .int .i64 h, .slice A2 n2 c2] 39)) from (Below.refl _ _).alloc (Nat.le_refl _) _)
    have hPB := heap_alloc_new w55 (.cells #[.int .i64 k, .int .i64 h, .slice A2 n2 c2] 39)
    clear hrow5 hb5 hb5' hrun5
    generalize w55.alloc (.cells #[.int .i64 k, .int .i64 h, .slice A2 n2 c2] 39) = w66 at *
    generalize w55.heap.size = P6 at *
    refine wpAnyH_ready (rs := [4]) (by kernel_rfl) (by simp) ?_
    refine AllReadyH.cons rfl (fun KN hK => ?_) AllReadyH.nil
    obtain ⟨g7, cap7, w77, hrun7, hcl7, hb7⟩ := termApp2V HC.out (by omega) hbB hrowB hPB HV.out
    refine Lib.wp_append_run _ (.tmp 6) (.tmp 8) 24 24 rfl _ _ rfl rfl _ _ hrun7 ?_
    refine hK.out _ _ (HKS.out _ hb7) (fun hS => ?_)
    clear hK KN
    try simp only [Act.put, zzP]
    clear hbB hrowB hPB hrun7
    refine zzT (i := 5) (v := .slice (some ⟨g7, 0, none⟩) (nc + 1) cap7) rfl hS ?_
    try simp only [Act.put, zzP]
    refine wpAnyH_done (by kernel_rfl) ?_ _
    try simp only [List.setIfInBounds_toArray]
    try simp only [zzP]
    have HBF := Lib.hid (HB.out.trans (hb7.mono HB.out.size))
    have HC7 := Lib.hid hcl7
    clear hb7 hcl7 hS HKS hbd
    go_wp2_with fail
    go_ret
    exact ⟨_, _, rfl, HC7.out, HBF.out⟩
  · go_simp
    have hb5 : Below W.heap.size W (W.alloc (.cells #[.int .i64 k, .int .i64 h, .slice A2 n2 c2] 39)).drew := ((Below.refl _ W).alloc (Nat.le_refl _) _).drew
    refine hK.out _ _ (HKS.out _ hb5) (fun hS => ?_)
    clear hK KN
    try simp only [Act.put, zzP]
    have hP5 : (W.alloc (.cells #[.int .i64 k, .int .i64 h, .slice A2 n2 c2] 39)).drew.heap[W.heap.size]? = some (.cells #[.int .i64 k, .int .i64 h, .slice A2 n2 c2] 39 (0, 0)) := heap_alloc_new W _
    have hl5 : W.heap.size < (W.alloc (.cells #[.int .i64 k, .int .i64 h, .slice A2 n2 c2] 39)).drew.heap.size := (Array.getElem?_eq_some_iff.1 hP5).1
    obtain ⟨P6, hP6⟩ : ∃ p, W.heap.size = p := ⟨_, rfl⟩
    rw [hP6] at hP5 hl5
    try rw [hP6]
    clear hP6
    generalize (W.alloc (.cells #[.int .i64 k, .int .i64 h, .slice A2 n2 c2] 39)).drew = w55 at *
    refine wpAnyH_ready (rs := [1]) (by kernel_rfl) (by simp) ?_
    refine AllReadyH.cons rfl (fun KN hK => ?_) AllReadyH.nil
    obtain ⟨A5, c5, w66, olds5, hrun5, hrowB, hb6⟩ := termApp1V HC.out (by omega) hb5
    have hbB := hb5.trans (hb6.mono hb5.size)
    refine Lib.wp_append_run _ (.const (.slice none 0 0)) (.tmp 5) 24 24 rfl _ _ rfl rfl _ _ hrun5 ?_
    refine hK.out _ _ (HKS.out _ hbB) (fun hS => ?_)
    clear hK KN
    try simp only [Act.put, zzP]
    have hPB := (hb6.block P6 hl5).trans hP5
    clear hb5 hP5 hl5 hb6 hrun5
    refine wpAnyH_ready (rs := [4]) (by kernel_rfl) (by simp) ?_
    refine AllReadyH.cons rfl (fun KN hK => ?_) AllReadyH.nil
    obtain ⟨g7, cap7, w77, hrun7, hcl7, hb7⟩ := termApp2V HC.out (by omega) hbB hrowB hPB HV.out
    refine Lib.wp_append_run _ (.tmp 6) (.tmp 8) 24 24 rfl _ _ rfl rfl _ _ hrun7 ?_
    refine hK.out _ _ (HKS.out _ hb7) (fun hS => ?_)
    clear hK KN
    try simp only [Act.put, zzP]
    clear hbB hrowB hPB hrun7
    refine zzT (i := 5) (v := .slice (some ⟨g7, 0, none⟩) (nc + 1) cap7) rfl hS ?_
    try simp only [Act.put, zzP]
    refine wpAnyH_done (by kernel_rfl) ?_ _
    try simp only [List.setIfInBounds_toArray]
    try simp only [zzP]
    have HBF := Lib.hid (HB.out.trans (hb7.mono HB.out.size))
    have HC7 := Lib.hid hcl7
    clear hb7 hcl7 hS HKS hbd
    go_wp2_with fail
    go_ret
    exact ⟨_, _, rfl, HC7.out, HBF.out⟩
end Go.Proofs.YtbbjjdnnlnabaaaGreat
