/-
  Texts of one proof, put together. No statement is proved here.
-/
import Derived.Test.YtkakfckjmmmjgaaGreatPkA
import Derived.ScopeJumps
import Derived.Laws.CopyRow
import Derived.Lib.SlBuf
import Derived.Test.YtkakfckjmmmjgaaGreatSa
import Derived.Test.YtkakfckjmmmjgaaGreatPc
import Derived.Laws.AppendOwnNone
import Derived.Test.YtkakfckjmmmjgaaGreatOl

/-
  Patterns that are held against terms, as a plain function; binds in memory. No statement is proved here.
-/
namespace Go.Proofs.YtkakfckjmmmjgaaGreat
open Go.ChangeShapes Go.WideShapes Go.ChangeAt Go.RowKit
set_option linter.unusedVariables false

/-- what a meta is: something, and what -/
abbrev BT := Bool × T
def noB : BT := (false, .node 0 0 [])
/-- is a term a variable -/
def vaB (ri : List Bool) : T → Bool
  | .node k h xs => if k = 6 then decide (h < ri.length) && ri.getD h.toNat false else decide (k = 4) && decide (xs.length = 0)
/-- is a meta something -/
def thI (bs : List BT) (h : Int) : Bool := decide (h < bs.length) && (bs.getD h.toNat noB).1
/-- what some metas are, all others noughts -/
def thL (bs : List BT) (ms : List Int) : List T := (List.range bs.length).map fun (i : Nat) => if ((i : Nat) : Int) ∈ ms then (bs.getD i noB).2 else .node 0 0 []
mutual
/-- the metas of a term, in order -/
def mts : T → List Int
  | .node k h xs => (if k = 6 then [h] else []) ++ mtsL xs
def mtsL : List T → List Int
  | [] => []
  | x :: xs => mts x ++ mtsL xs
end
mutual
theorem mts_eq : ∀ (t : T) (b : Int), (nds t b).flatMap mt1 = mts t
  | .node k h xs, b => by rw [nds, List.flatMap_cons, mts, mts_eqL k xs.length xs 0 b]; rfl
theorem mts_eqL (k : Int) (n : Nat) : ∀ (xs : List T) (i : Nat) (b : Int), (ndsL k n xs i b).flatMap mt1 = mtsL xs
  | [], _, _ => by rw [ndsL, mtsL]; rfl
  | t :: ts, i, b => by rw [ndsL, mtsL, List.flatMap_append, mts_eq t, mts_eqL k n ts]
end
mutual
theorem mts_pos : ∀ (t : T), nodB t = true → ∀ m ∈ mts t, 0 ≤ m
  | .node k h xs, e, m, hm => by
    rw [nodB, Bool.and_eq_true] at e
    rw [mts, List.mem_append] at hm
    rcases hm with hm | hm
    · split at hm
      · rename_i hk
        subst hk
        rw [List.mem_singleton] at hm
        subst hm
        have := e.1
        simp [okN] at this
        omega
      · cases hm
    · exact mts_posL xs e.2 m hm
theorem mts_posL : ∀ (xs : List T), nodL xs = true → ∀ m ∈ mtsL xs, 0 ≤ m
  | [], _, m, hm => by rw [mtsL] at hm; cases hm
  | t :: ts, e, m, hm => by
    rw [nodL, Bool.and_eq_true] at e
    rw [mtsL, List.mem_append] at hm
    rcases hm with hm | hm
    · exact mts_pos t e.1 m hm
    · exact mts_posL ts e.2 m hm
end
/-- the metas of a term, rising -/
def mtO (t : T) : List Int := rs (mts t)
theorem mtO_pos {t : T} (h : nodB t = true) : ∀ m ∈ mtO t, 0 ≤ m := fun m hm => mts_pos t h m (mem_rs.1 hm)
theorem mtO_eq (t : T) : rs ((nds t 0).flatMap mt1) = mtO t := by rw [mtO, mts_eq]
/-- what a meta that is something is held against: the error -/
def cmpR (bs : List BT) (p t : T) (n : Int) : Int :=
  if (mtO p).all (thI bs) = true then
    match fiR (thL bs (mtO p)) n p with
    | .error e => e
    | .ok u => if samB u t then 0 else 6
  else 5
/-- a meta that is nothing yet -/
def becR (pa ri : List Bool) (bs : List BT) (h : Int) (xs : List T) (t : T) (n : Int) : Except Int (List BT) :=
  match ptn n [] xs with
  | none => .error 5
  | some vs =>
    match ivR t vs n with
    | .error e => .error (if e = 7 then 6 else e)
    | .ok u => if (pa.getD h.toNat false && !vaB ri t) = true then .error 6 else .ok (bs.set h.toNat (true, u))
/-- a meta -/
def hdM (pa ri : List Bool) (bs : List BT) (h : Int) (xs : List T) (t : T) (n : Int) : Except Int (List BT) :=
  if (bs.length : Int) ≤ h then .error 2
  else if (bs.getD h.toNat noB).1 = true then (if cmpR bs (.node 6 h xs) t n = 0 then .ok bs else .error (cmpR bs (.node 6 h xs) t n))
  else becR pa ri bs h xs t n
mutual
/-- a node of the pattern against one of the term -/
def hdT (pa ri : List Bool) : T → T → Int → List BT → Except Int (List BT)
  | .node k h xs, .node k' h' ys, n, bs =>
    if k = 6 then hdM pa ri bs h xs (.node k' h' ys) n
    else if k = k' ∧ h = h' ∧ xs.length = ys.length then hdL pa ri k xs.length xs ys 0 n bs
    else .error 6
def hdL (pa ri : List Bool) (k : Int) (m : Nat) : List T → List T → Nat → Int → List BT → Except Int (List BT)
  | [], _, _, _, bs => .ok bs
  | x :: xs, ys, i, n, bs =>
    match ys with
    | [] => .ok bs
    | y :: ys =>
      match hdT pa ri x y (n + bd k m i) bs with
      | .error e => .error e
      | .ok bs' => hdL pa ri k m xs ys (i + 1) n bs'
end
/-- a bind as it is told -/
def ownB (x : BT) : BT := if x.1 = true then x else noB
def myA (x : BT) : Bool := !x.1 || myB x.2
/-- may the arguments be -/
def mtA (p t : T) (n : Int) (bs : List BT) (pa : List Bool) : Bool :=
  decide (0 ≤ n) && decide (n ≤ 1000) && decide (bs.length ≤ 200) && decide (bs.length = pa.length) && (myB p && (myB t && bs.all myA))
/-- what Match tells -/
def mtR (p t : T) (n : Int) (bs : List BT) (pa ri : List Bool) : Except Int (List BT) :=
  if mtA p t n bs pa = true then
    match hdT pa ri p t n bs with
    | .error e => .error e
    | .ok bs' => .ok (bs'.map ownB)
  else .error 1

/-! ### Binds in memory -/
/-- one bind of a list, its term in blocks that are ok -/
def BAt (ok : Nat → Prop) (w : World) (A : Option Addr) (i : Nat) (x : BT) : Prop :=
  ∃ b o k h A' n c, A = some ⟨b, o, none⟩ ∧ w.cell? ⟨b, o + i * 4, none⟩ = some (.bool x.1) ∧ w.cell? ⟨b, o + i * 4 + 1, none⟩ = some (.int .i64 k) ∧ w.cell? ⟨b, o + i * 4 + 2, none⟩ = some (.int .i64 h) ∧
    w.cell? ⟨b, o + i * 4 + 3, none⟩ = some (.slice A' n c) ∧ RdF ok w x.2 (.agg #[.int .i64 k, .int .i64 h, .slice A' n c])
/-- a list of binds that is handed in -/
structure BL (ok : Nat → Prop) (w : World) (bs : List BT) (A : Option Addr) (n c : Nat) : Prop where
  len : bs.length = n
  le : n ≤ c
  cap : c ≤ maxLen
  at_ : ∀ i x, bs[i]? = some x → BAt ok w A i x
theorem rdF_any {w : World} : ∀ (t : T) (v : Value), Rd w t v → RdF (fun _ => True) w t v := by
  refine T.ind fun k h xs ih v hv => ?_
  obtain ⟨A, n, c, rfl, h1, h2, h3, h4, h5, h6⟩ := Rd_node.1 hv
  refine RdF_node.2 ⟨A, n, c, rfl, h1, h2, h3, h4, h5, fun i t ht => ?_⟩
  obtain ⟨b, o, v0, v1, v2, rfl, c0, c1, c2, hr⟩ := h6 i t ht
  exact ⟨b, o, v0, v1, v2, rfl, trivial, c0, c1, c2, ih t (List.mem_of_getElem? ht) _ hr⟩
/-- it lies in the heap -/
theorem rdF_heap {w : World} {ok : Nat → Prop} : ∀ (t : T) (v : Value), RdF ok w t v → RdF (fun b => ok b ∧ b < w.heap.size) w t v := by
  refine T.ind fun k h xs ih v hv => ?_
  obtain ⟨A, n, c, rfl, h1, h2, h3, h4, h5, h6⟩ := RdF_node.1 hv
  refine RdF_node.2 ⟨A, n, c, rfl, h1, h2, h3, h4, h5, fun i t ht => ?_⟩
  obtain ⟨b, o, v0, v1, v2, rfl, hb, c0, c1, c2, hr⟩ := h6 i t ht
  exact ⟨b, o, v0, v1, v2, rfl, ⟨hb, cell_lt c0⟩, c0, c1, c2, ih t (List.mem_of_getElem? ht) _ hr⟩
theorem BAt.keep {ok : Nat → Prop} {w w' : World} {A : Option Addr} {i : Nat} {x : BT} (h : BAt ok w A i x) (hb : Below w.heap.size w w') : BAt ok w' A i x := by
  obtain ⟨b, o, k, g, A', n, c, rfl, c0, c1, c2, c3, hr⟩ := h
  exact ⟨b, o, k, g, A', n, c, rfl, (hb.cell (cell_lt c0)).trans c0, (hb.cell (cell_lt c1)).trans c1, (hb.cell (cell_lt c2)).trans c2, (hb.cell (cell_lt c3)).trans c3, RdF.moveX (fun b hb' hl => ⟨hb', hb.block b hl⟩) _ _ hr⟩
theorem BL.keep {ok : Nat → Prop} {w w' : World} {bs : List BT} {A : Option Addr} {n c : Nat} (h : BL ok w bs A n c) (hb : Below w.heap.size w w') : BL ok w' bs A n c :=
  ⟨h.len, h.le, h.cap, fun i x hx => (h.at_ i x hx).keep hb⟩
theorem BAt.any {ok : Nat → Prop} {w : World} {A : Option Addr} {i : Nat} {x : BT} (h : BAt ok w A i x) : BAt (fun _ => True) w A i x := by
  obtain ⟨b, o, k, g, A', n, c, rfl, c0, c1, c2, c3, hr⟩ := h
  exact ⟨b, o, k, g, A', n, c, rfl, c0, c1, c2, c3, rdF_any _ _ (RdF.rd _ _ hr)⟩
/-- a list of Booleans in memory -/
structure LB (w : World) (ps : List Bool) (A : Option Addr) (n c : Nat) : Prop where
  len : ps.length = n
  le : n ≤ c
  cap : c ≤ maxLen
  at_ : ∀ i x, ps[i]? = some x → ∃ b o, A = some ⟨b, o, none⟩ ∧ w.cell? ⟨b, o + i, none⟩ = some (.bool x)
theorem LB.keep {w w' : World} {ps : List Bool} {A : Option Addr} {n c : Nat} (h : LB w ps A n c) (hb : Below w.heap.size w w') : LB w' ps A n c :=
  ⟨h.len, h.le, h.cap, fun i x hx => by obtain ⟨b, o, e, hc⟩ := h.at_ i x hx; exact ⟨b, o, e, (hb.cell (cell_lt hc)).trans hc⟩⟩

/-- the cells of a block of binds -/
def BCs (ok : Nat → Prop) (w : World) (cs : Array Value) (bs : List BT) : Prop :=
  ∀ i x, bs[i]? = some x → ∃ k h A n c, cs[i * 4]? = some (.bool x.1) ∧ cs[i * 4 + 1]? = some (.int .i64 k) ∧ cs[i * 4 + 2]? = some (.int .i64 h) ∧ cs[i * 4 + 3]? = some (.slice A n c) ∧ RdF ok w x.2 (.agg #[.int .i64 k, .int .i64 h, .slice A n c])
/-- what the pattern's metas are so far -/
structure MSt (pa ri : List Bool) (Bk pm : Nat) (Ap : Option Addr) (np cp : Nat) (Ar : Option Addr) (nr cr : Nat) (N : Nat) (bs : List BT) (w : World) : Prop where
  ptr : Box w pm 54 #[.slice (some ⟨Bk, 0, none⟩) N N, .slice Ap np cp, .slice Ar nr cr]
  row : ∃ cs, Box w Bk 43 cs ∧ cs.size = N * 4 ∧ BCs (fun b => b ≠ Bk) w cs bs
  len : bs.length = N
  few : N ≤ 200
  ne : Bk ≠ pm
theorem MSt.cells {pa ri : List Bool} {Bk pm : Nat} {Ap : Option Addr} {np cp : Nat} {Ar : Option Addr} {nr cr : Nat} {N : Nat} {bs : List BT} {w : World} (h : MSt pa ri Bk pm Ap np cp Ar nr cr N bs w) (i : Nat) (x : BT) (hx : bs[i]? = some x) : BAt (fun b => b ≠ Bk) w (some ⟨Bk, 0, none⟩) i x := by
  obtain ⟨cs, hb, hs, hc⟩ := h.row
  obtain ⟨k, g, A, n, c, e0, e1, e2, e3, hr⟩ := hc i x hx
  refine ⟨Bk, 0, k, g, A, n, c, rfl, ?_, ?_, ?_, ?_, hr⟩
  · rw [Nat.zero_add, hb.cell]; exact e0
  · rw [Nat.zero_add, hb.cell]; exact e1
  · rw [Nat.zero_add, hb.cell]; exact e2
  · rw [Nat.zero_add, hb.cell]; exact e3
theorem MSt.keep {pa ri : List Bool} {Bk pm : Nat} {Ap : Option Addr} {np cp : Nat} {Ar : Option Addr} {nr cr : Nat} {N : Nat} {bs : List BT} {w w' : World} (h : MSt pa ri Bk pm Ap np cp Ar nr cr N bs w) (hb : Below w.heap.size w w') : MSt pa ri Bk pm Ap np cp Ar nr cr N bs w' := by
  obtain ⟨cs, hr, hs, hc⟩ := h.row
  refine ⟨h.ptr.keep hb h.ptr.lt, ⟨cs, hr.keep hb hr.lt, hs, fun i x hx => ?_⟩, h.len, h.few, h.ne⟩
  obtain ⟨k, g, A, n, c, e0, e1, e2, e3, hr⟩ := hc i x hx
  exact ⟨k, g, A, n, c, e0, e1, e2, e3, RdF.moveX (fun b hb' hl => ⟨hb', hb.block b hl⟩) _ _ hr⟩
end Go.Proofs.YtkakfckjmmmjgaaGreat

/-
  Contracts of package match's small functions: mayNot, nothing, variable, and slices.ContainsFunc with mayNot and with nothing. No statement is proved here.
-/
namespace Go.Proofs.YtkakfckjmmmjgaaGreat
open Go.ChangeShapes Go.WideShapes Go.ChangeAt Go.RowKit
set_option linter.unusedVariables false

theorem hMayC (x : BT) (k h : Int) (A : Option Addr) (n c : Nat) (w : World) (hv : Rd w x.2 (.agg #[.int .i64 k, .int .i64 h, .slice A n c])) :
    Calls Tryz.prog 24 #[.agg #[.bool x.1, .int .i64 k, .int .i64 h, .slice A n c]] w fun e w' => e = .returned (.bool (!myA x)) ∧ Below w.heap.size w w' := by
  obtain ⟨b, t⟩ := x
  have hb : Below w.heap.size w (w.alloc (.cells #[.bool b, .int .i64 k, .int .i64 h, .slice A n c] 43)) := (Below.refl _ _).alloc (Nat.le_refl _) _
  have HM := Lib.hid (myC t _ _ (Rd.keep hb _ _ hv))
  clear hv
  cases b
  · go_enter Tryz.func24, Tryz.ntmps24
    go_wp2_with fail
    go_ret
    exact ⟨ret_bool (by simp [myA]), hb⟩
  · have e : (!myA (true, t)) = !myB t := by simp [myA]
    rw [e]
    generalize myB t = r at *
    go_enter Tryz.func24, Tryz.ntmps24
    go_wp2_with fail
    refine HM.out.mono ?_
    rintro e w1 ⟨rfl, hb1⟩
    go_wp2_with fail
    go_ret
    exact ⟨rfl, hb.trans (hb1.mono hb.size)⟩

theorem hNothC (b : Bool) (k h : Int) (A : Option Addr) (n c : Nat) (w : World) :
    Calls Tryz.prog 30 #[.agg #[.bool b, .int .i64 k, .int .i64 h, .slice A n c]] w fun e w' => e = .returned (.bool (!b)) ∧ Below w.heap.size w w' := by
  have hb : Below w.heap.size w (w.alloc (.cells #[.bool b, .int .i64 k, .int .i64 h, .slice A n c] 43)) := (Below.refl _ _).alloc (Nat.le_refl _) _
  go_enter Tryz.func30, Tryz.ntmps30
  go_wp2_with fail
  go_ret
  exact ⟨rfl, hb⟩

theorem hIndexC (ok : Nat → Prop) (bs : List BT) (A : Option Addr) (n c : Nat) (w : World) (hx : BL ok w bs A n c) :
    Calls Tryz.prog 39 #[.slice A n c, .func (.func 24) #[] #[]] w fun e w' => ∃ i : Int, e = .returned (.int .i64 i) ∧ decide (0 ≤ i) = (!bs.all myA) ∧ Below w.heap.size w w' := by
  have hm := hx.cap
  have hc := hx.le
  unfold maxLen at hm
  have HX := Lib.hid hx; clear hx
  go_enter Tryz.func39, Tryz.ntmps39
  go_wp2_with fail
  go_loopw [8] (fun i wr => ∃ (j : Nat), j ≤ n ∧ i = .int .i64 j ∧ Hid ((bs.drop j).all myA = bs.all myA) ∧ Below w.heap.size w wr) (fun i _ => n - (intOf i).toNat)
  case atStart => exact ⟨0, Nat.zero_le _, rfl, Lib.hid (by simp), Below.refl _ _⟩
  case round =>
    obtain ⟨j, hj, rfl, HS, hb⟩ := hrel
    by_cases hlt : j < n
    · obtain ⟨x, ht⟩ := at_of HX.out.len hlt
      obtain ⟨b, o, k2, h2, A2, n2, c2', rfl, c0, c1, c2, c3, hr⟩ := (HX.out.at_ j x ht).keep hb
      have HT := Lib.hid ht; clear ht
      have hi0 : (0 : Int) ≤ j := by omega
      have hi1 : (j : Int) < n := by omega
      have HM := Lib.hid (hMayC x k2 h2 A2 n2 c2' wr (RdF.rd _ _ hr))
      clear hr
      have HS' := HS.out
      rw [drop_at HT.out, List.all_cons] at HS'
      have HS := Lib.hid HS'; clear HS'
      generalize myA x = r at *
      generalize x.1 = bx at *
      go_wp2_with fail
      clear c0 c1 c2 c3
      refine HM.out.mono ?_
      rintro e w1 ⟨rfl, hb1⟩
      have hbw : Below w.heap.size w w1 := hb.trans (hb1.mono hb.size)
      clear hb1 HM
      cases r
      · go_wp2_with fail
        go_ret
        exact ⟨_, rfl, by rw [← HS.out]; simp, hbw⟩
      · go_wp2_with fail
        go_roundw
        case rel => exact ⟨j + 1, by omega, by go_num, Lib.hid (by simpa using HS.out), hbw⟩
        case measure => simp [intOf]; omega
    · go_wp2_with fail
      go_ret
      exact ⟨_, rfl, by have := HS.out; rw [drop_all HX.out.len (by omega)] at this; rw [← this]; simp, hb⟩
theorem hContainsC (ok : Nat → Prop) (bs : List BT) (A : Option Addr) (n c : Nat) (w : World) (hx : BL ok w bs A n c) :
    Calls Tryz.prog 23 #[.slice A n c, .func (.func 24) #[] #[]] w fun e w' => e = .returned (.bool (!bs.all myA)) ∧ Below w.heap.size w w' := by
  have HI := Lib.hid (hIndexC ok bs A n c w hx)
  clear hx
  generalize (!bs.all myA) = r at *
  go_enter Tryz.func23, Tryz.ntmps23
  go_wp2_with fail
  refine HI.out.mono ?_
  rintro e w1 ⟨i, rfl, hi, hb1⟩
  go_wp2_with fail
  go_ret
  exact ⟨ret_bool (by first | exact hi | rfl | simp), hb1⟩

/-! ### variable -/
/-- the matching's block, as far as it is not written -/
structure MPt (ri : List Bool) (pm : Nat) (Vb Vp : Value) (Ar : Option Addr) (nr cr : Nat) (w : World) : Prop where
  ptr : Box w pm 54 #[Vb, Vp, .slice Ar nr cr]
  rig : LB w ri Ar nr cr
set_option maxHeartbeats 2000000 in
theorem hVarC (ri : List Bool) (pm : Nat) (Vb Vp : Value) (Ar : Option Addr) (nr cr : Nat) (t : T) (v : Value) (w : World) (hm : MPt ri pm Vb Vp Ar nr cr w) (hv : Rd w t v) (hno : nodB t = true) :
    Calls Tryz.prog 72 #[.pointer (some ⟨pm, 0, none⟩), v] w fun e w' => e = .returned (.bool (vaB ri t)) ∧ Below w.heap.size w w' := by
  obtain ⟨k, h, xs⟩ := t
  obtain ⟨A, n, c, rfl, hk, hh, hn, hc, hcm, hx⟩ := Rd_node.1 hv
  clear hx hv
  have hb : Below w.heap.size w (w.alloc (.cells #[.int .i64 k, .int .i64 h, .slice A n c] 24)) := (Below.refl _ _).alloc (Nat.le_refl _) _
  have x0 := Box.new w 24 #[.int .i64 k, .int .i64 h, .slice A n c]
  have xp := hm.ptr.alloc (.cells #[.int .i64 k, .int .i64 h, .slice A n c] 24)
  have hrig := hm.rig.keep hb
  have hcr := hrig.le
  have hcm2 := hrig.cap
  have hlen := hrig.len
  clear hm
  obtain ⟨W, hW⟩ : ∃ W, w.alloc (.cells #[.int .i64 k, .int .i64 h, .slice A n c] 24) = W := ⟨_, rfl⟩
  rw [hW] at hb x0 xp hrig
  have HW := Lib.hid hW; clear hW
  obtain ⟨a0, a1, a2⟩ := x0.three
  obtain ⟨p0, p1, p2⟩ := xp.three
  by_cases hk6 : k = 6
  · subst hk6
    have hh0 : 0 ≤ h := by
      have := (node_parts hno).1
      simp [okN] at this
      omega
    clear hno
    by_cases hlt : h < nr
    · have hd : decide (h < (nr : Int)) = true := by simpa using hlt
      obtain ⟨z, hz⟩ : ∃ z, ri[h.toNat]? = some z := ⟨_, List.getElem?_eq_getElem (by omega)⟩
      obtain ⟨b, o, rfl, cz⟩ := hrig.at_ _ _ hz
      have e : vaB ri (.node 6 h xs) = z := by
        rw [vaB, if_pos rfl, hlen, List.getD_eq_getElem?_getD, hz, hd]; rfl
      rw [e]
      clear e hz hrig
      have q0 := Past.cell a0
      have q1 := Past.cell a1
      have q2 := Past.cell a2
      have r0 := Past.cell p0
      have r1 := Past.cell p1
      have r2 := Past.cell p2
      have qz := Past.cell cz
      go_enter Tryz.func72, Tryz.ntmps72
      go_wp2_with fail
      rw [HW.out]
      go_wp2_with fail
      refine wp_region_past (by kernel_rfl) (by kernel_rfl) ?_
      repeat (go_big_quiet_step (fail))
      refine wpQuiet_nil ?_
      rintro _ ⟨z1, rfl⟩
      obtain ⟨w1, hb1⟩ := z1
      clear q0 q1 q2 r0 r1 r2 qz
      go_wp2_with fail
      go_ret
      exact ⟨rfl, hb.trans (hb1.mono hb.size)⟩
    · have hd : decide (h < (nr : Int)) = false := by simpa using hlt
      have e : vaB ri (.node 6 h xs) = false := by
        rw [vaB, if_pos rfl, hlen, hd]; rfl
      rw [e]
      clear e hrig
      have q0 := Past.cell a0
      have q1 := Past.cell a1
      have q2 := Past.cell a2
      have r0 := Past.cell p0
      have r1 := Past.cell p1
      have r2 := Past.cell p2
      go_enter Tryz.func72, Tryz.ntmps72
      go_wp2_with fail
      rw [HW.out]
      go_wp2_with fail
      refine wp_region_past (by kernel_rfl) (by kernel_rfl) ?_
      repeat (go_big_quiet_step (fail))
      refine wpQuiet_nil ?_
      rintro _ ⟨z1, rfl⟩
      obtain ⟨w1, hb1⟩ := z1
      clear q0 q1 q2 r0 r1 r2
      go_wp2_with fail
      go_ret
      exact ⟨rfl, hb.trans (hb1.mono hb.size)⟩
  · have hd : (k == 6) = false := by simpa using hk6
    have e : vaB ri (.node k h xs) = (decide (k = 4) && decide (xs.length = 0)) := by rw [vaB, if_neg hk6]
    rw [e]
    clear e hrig hno
    by_cases hk4 : k = 4
    · subst hk4
      by_cases hn0 : n = 0
      · subst hn0
        go_enter Tryz.func72, Tryz.ntmps72
        go_wp2_with fail
        rw [HW.out]
        go_wp2_with fail
        go_ret
        exact ⟨ret_bool (by simp [hn]), hb⟩
      · have e0 : ((n : Int) == 0) = false := by rw [beq_eq_false_iff_ne]; omega
        go_enter Tryz.func72, Tryz.ntmps72
        go_wp2_with fail
        rw [HW.out]
        go_wp2_with fail
        go_ret
        exact ⟨ret_bool (by simp [hn, hn0]), hb⟩
    · have hd4 : (k == 4) = false := by simpa using hk4
      go_enter Tryz.func72, Tryz.ntmps72
      go_wp2_with fail
      rw [HW.out]
      go_wp2_with fail
      go_ret
      exact ⟨ret_bool (by simp [hk4]), hb⟩
end Go.Proofs.YtkakfckjmmmjgaaGreat

/-
  Contract of package match's theta. No statement is proved here.
-/
namespace Go.Proofs.YtkakfckjmmmjgaaGreat
open Go.ChangeShapes Go.WideShapes Go.ChangeAt Go.RowKit
set_option linter.unusedVariables false

theorem made3 (a b c : Value) (n i : Nat) (hi : i < n) : (madeCells #[a, b, c] (n * 3))[i * 3]? = some a ∧ (madeCells #[a, b, c] (n * 3))[i * 3 + 1]? = some b ∧ (madeCells #[a, b, c] (n * 3))[i * 3 + 2]? = some c := by
  have h1 : i * 3 % 3 = 0 := by omega
  have h2 : (i * 3 + 1) % 3 = 1 := by omega
  have h3 : (i * 3 + 2) % 3 = 2 := by omega
  refine ⟨?_, ?_, ?_⟩
  · simp [madeCells, hi]
  · have : i * 3 + 1 < n * 3 := by omega
    simp [madeCells, this, h2]
  · have : i * 3 + 2 < n * 3 := by omega
    simp [madeCells, this, h3]
/-- a row of noughts -/
theorem kids_made {w : World} {ok : Nat → Prop} (n : Nat) (ts : List T) (ht : ∀ i t, ts[i]? = some t → i < n ∧ t = .node 0 0 []) : Kids w ok (madeCells #[.int .i64 0, .int .i64 0, .slice none 0 0] (n * 3)) ts := fun i t h => by
  obtain ⟨hi, rfl⟩ := ht i t h
  obtain ⟨h1, h2, h3⟩ := made3 (.int .i64 0) (.int .i64 0) (.slice none 0 0) n i hi
  exact ⟨0, 0, none, 0, 0, h1, h2, h3, rd_nought⟩
/-- one of a row turns -/
theorem Kids.turn {w w' : World} {ok : Nat → Prop} {cs : Array Value} {xs ys : List T} {j : Nat} {t : T} {k h : Int} {A : Option Addr} {n c : Nat} (hk : Kids w ok cs xs) (hm : ∀ b, ok b → b < w.heap.size → w'.heap[b]? = w.heap[b]?)
    (hr : RdF ok w t (.agg #[.int .i64 k, .int .i64 h, .slice A n c])) (hsz : j * 3 + 2 < cs.size) (hy : ∀ i u, ys[i]? = some u → if i = j then u = t else xs[i]? = some u) :
    Kids w' ok (((cs.setIfInBounds (j * 3) (.int .i64 k)).setIfInBounds (j * 3 + 1) (.int .i64 h)).setIfInBounds (j * 3 + 2) (.slice A n c)) ys := by
  intro i u hu
  have hiu := hy i u hu
  by_cases hij : i = j
  · subst hij
    rw [if_pos rfl] at hiu
    subst hiu
    refine ⟨k, h, A, n, c, ?_, ?_, ?_, RdF.move (fun _ h => h) hm _ _ hr⟩
    all_goals simp only [Array.getElem?_setIfInBounds]
    · rw [if_neg (by omega), if_neg (by omega), if_pos trivial, if_pos (by omega)]
    · rw [if_neg (by omega), if_pos trivial, if_pos (by simp; omega)]
    · rw [if_pos trivial, if_pos (by simp; omega)]
  · rw [if_neg hij] at hiu
    obtain ⟨k', h', A', n', c', e0, e1, e2, hr'⟩ := hk i u hiu
    refine ⟨k', h', A', n', c', ?_, ?_, ?_, RdF.move (fun _ h => h) hm _ _ hr'⟩
    all_goals simp only [Array.getElem?_setIfInBounds]
    · rw [if_neg (by omega), if_neg (by omega), if_neg (by omega)]; exact e0
    · rw [if_neg (by omega), if_neg (by omega), if_neg (by omega)]; exact e1
    · rw [if_neg (by omega), if_neg (by omega), if_neg (by omega)]; exact e2
theorem thL_len (bs : List BT) (ms : List Int) : (thL bs ms).length = bs.length := by simp [thL]
theorem thL_at {bs : List BT} {ms : List Int} {i : Nat} {u : T} (h : (thL bs ms)[i]? = some u) : i < bs.length ∧ u = if (i : Int) ∈ ms then (bs.getD i noB).2 else .node 0 0 [] := by
  have hi : i < bs.length := by have := (List.getElem?_eq_some_iff.1 h).1; simpa [thL] using this
  refine ⟨hi, ?_⟩
  rw [List.getD_eq_getElem?_getD, List.getElem?_eq_getElem hi, Option.getD_some]
  simp [thL, hi] at h
  exact h.symm
theorem thL_next {bs : List BT} {ms : List Int} {j : Nat} {m : Int} (hm : ms[j]? = some m) (h0 : 0 ≤ m) (i : Nat) (u : T) (h : (thL bs (ms.take (j + 1)))[i]? = some u) : if i = m.toNat then u = (bs.getD m.toNat noB).2 else (thL bs (ms.take j))[i]? = some u := by
  obtain ⟨hi, hu⟩ := thL_at h
  have et : ms.take (j + 1) = ms.take j ++ [m] := by rw [List.take_add_one, hm]; rfl
  by_cases e : i = m.toNat
  · rw [if_pos e]
    rw [if_pos (by rw [et, List.mem_append, List.mem_singleton]; exact .inr (by omega))] at hu
    rw [hu, e]
  · rw [if_neg e]
    have hne : ¬ (i : Int) = m := by omega
    have hiff : ((i : Int) ∈ ms.take (j + 1)) ↔ ((i : Int) ∈ ms.take j) := by rw [et, List.mem_append, List.mem_singleton]; exact ⟨fun h => h.resolve_right hne, .inl⟩
    rw [hu]
    simp [thL, hi, hiff]

/-- what holds at the head of theta's loop -/
structure ThW (bs : List BT) (ms : List Int) (N : Nat) (w : World) (j : Nat) (wr : World) (cs : Array Value) : Prop where
  row : Box wr w.heap.size 24 cs
  size : cs.size = N * 3
  kids : Kids wr (fun b => b < w.heap.size) cs (thL bs (ms.take j))
  all : (ms.take j).all (thI bs) = true
  below : Below w.heap.size w wr

set_option maxRecDepth 100000 in
set_option maxHeartbeats 4000000 in
theorem hThetaC {pa ri : List Bool} {Bk pm : Nat} {Ap : Option Addr} {np cp : Nat} {Ar : Option Addr} {nr cr : Nat} {N : Nat} {bs : List BT} (ms : List Int) (A : Option Addr) (c : Nat) (w : World) (hst : MSt pa ri Bk pm Ap np cp Ar nr cr N bs w) (hns : Ns w (.slice A ms.length c) ms) (h0 : ∀ m ∈ ms, 0 ≤ m) :
    Calls Tryz.prog 70 #[.pointer (some ⟨pm, 0, none⟩), .slice A ms.length c] w fun e w' => Below w.heap.size w w' ∧
      ((ms.all (thI bs) = true ∧ ∃ p, e = .returned (.tuple #[.slice (some ⟨p, 0, none⟩) N N, .bool true]) ∧ ∀ i x, (thL bs ms)[i]? = some x → RdAt w' (some ⟨p, 0, none⟩) i x) ∨
       (ms.all (thI bs) = false ∧ e = .returned (.tuple #[.slice none 0 0, .bool false]))) := by
  have hN := hst.few
  have hlen := hst.len
  obtain ⟨i0, hi, hz0, hz1, hz2⟩ := info_parts infoTerm
  have hmk : ∀ W : World, (Instr.makeSlice 22 (.int .i64 (N : Int)) (.int .i64 (N : Int))).run Tryz.prog W = .ok (.slice (some ⟨W.heap.size, 0, none⟩) N N) (W.alloc (.cells (madeCells #[.int .i64 0, .int .i64 0, .slice none 0 0] (N * 3)) 24)) := by
    intro W
    have := run_make W 22 24 i0 _ Tryz.underlying22 hi hz0 .i64 .i64 (N : Int) (N : Int) (by omega) (Int.le_refl _) (by rw [hz2]; omega) (by omega)
    rw [hz1] at this
    simpa [Value.cells] using this
  clear hi hz0 hz1 hz2
  obtain ⟨L, hL⟩ : ∃ L, ms.length = L := ⟨_, rfl⟩
  obtain ⟨A', c', e, hc1, hc2, hx⟩ := hns
  have e' : A = A' ∧ c = c' := by simpa using e
  obtain ⟨rfl, rfl⟩ := e'
  rw [hL] at e hc1 ⊢
  clear e
  have hm2 := hc2
  unfold maxLen at hm2
  have HX := Lib.hid hx; clear hx
  have HL := Lib.hid hL; clear hL
  have H0 := Lib.hid h0; clear h0
  obtain ⟨p0, p1, p2⟩ := hst.ptr.three
  have HST := Lib.hid hst; clear hst
  have HLEN := Lib.hid hlen; clear hlen
  go_enter Tryz.func70, Tryz.ntmps70
  go_wp2_with fail
  have hcs := size_madeCells #[.int .i64 0, .int .i64 0, .slice none 0 0] (N * 3)
  have hk0 : Kids (w.alloc (.cells (madeCells #[.int .i64 0, .int .i64 0, .slice none 0 0] (N * 3)) 24)) (fun b => b < w.heap.size) (madeCells #[.int .i64 0, .int .i64 0, .slice none 0 0] (N * 3)) (thL bs (ms.take 0)) := kids_made N _ fun i t ht => by
    obtain ⟨h1, h2⟩ := thL_at ht
    exact ⟨by rw [← HLEN.out]; exact h1, by simpa using h2⟩
  generalize madeCells #[.int .i64 0, .int .i64 0, .slice none 0 0] (N * 3) = cs0 at *
  have hI : ThW bs ms N w 0 (w.alloc (.cells cs0 24)) cs0 := ⟨Box.new w _ cs0, hcs, hk0, rfl, (Below.refl _ w).alloc (Nat.le_refl _) _⟩
  have HI := Lib.hid hI; clear hI hcs hmk hk0 p0 p1 p2
  go_loopw [17] (fun i wr => ∃ (j : Nat) (cs : Array Value), j ≤ L ∧ i = .int .i64 j ∧ Hid (ThW bs ms N w j wr cs)) (fun i _ => L - (Go.RowKit.intOf i).toNat)
  case atStart => exact ⟨0, cs0, Nat.zero_le _, rfl, HI⟩
  case round =>
    clear HI
    obtain ⟨j, cs, hj, rfl, HI⟩ := hrel
    by_cases hlt : j < L
    · obtain ⟨m, hm⟩ := at_of HL.out hlt
      obtain ⟨b, o, rfl, cm⟩ := HX.out j m hm
      have cm := (HI.out.below.cell (cell_lt cm)).trans cm
      have hm0 := H0.out m (List.mem_of_getElem? hm)
      have HM := Lib.hid hm; clear hm
      have hi0 : (0 : Int) ≤ j := by omega
      have hi1 : (j : Int) < L := by omega
      have pt := HST.out.ptr.keep HI.out.below HST.out.ptr.lt
      have lrow := HI.out.row.lt
      obtain ⟨p0, p1, p2⟩ := pt.three
      by_cases hmN : m < N
      · have hd : decide ((N : Int) ≤ m) = false := by simpa using hmN
        obtain ⟨x, hx⟩ := at_of (k := m.toNat) HLEN.out (by omega)
        have hgx : bs.getD m.toNat noB = x := by rw [List.getD_eq_getElem?_getD, hx]; rfl
        obtain ⟨b2, o2, k2, h2, A2, n2, c2', e2, d0, d1, d2, d3, hr⟩ := HST.out.cells _ x hx
        obtain ⟨rfl, rfl⟩ : Bk = b2 ∧ 0 = o2 := by simpa using e2
        clear e2
        rw [Nat.zero_add] at d0 d1 d2 d3
        have d0 := (HI.out.below.cell (cell_lt d0)).trans d0
        have d1 := (HI.out.below.cell (cell_lt d1)).trans d1
        have d2 := (HI.out.below.cell (cell_lt d2)).trans d2
        have d3 := (HI.out.below.cell (cell_lt d3)).trans d3
        have hr' := RdF.moveX (ok' := fun b => b < w.heap.size) (w' := wr) (fun b hb hl => ⟨hl, HI.out.below.block b hl⟩) _ _ hr
        have HR := Lib.hid hr'; clear hr hr'
        have htI : thI bs m = x.1 := by rw [thI, HLEN.out, hgx, decide_eq_true hmN, Bool.true_and]
        have HT := Lib.hid htI; clear htI
        have HG := Lib.hid hgx; clear hgx hx
        obtain ⟨bx, tx⟩ := x
        simp only at d0 HT HR
        go_wp2_with fail
        clear d0
        refine (hNothC bx k2 h2 A2 n2 c2' wr).mono ?_
        rintro e w1 ⟨rfl, hb1⟩
        cases bx
        · go_wp2_with fail
          go_ret2
          refine ⟨HI.out.below.trans (hb1.mono HI.out.below.size), .inr ⟨?_, rfl⟩⟩
          rw [Bool.eq_false_iff]
          intro hall
          have := List.all_eq_true.1 hall m (List.mem_of_getElem? HM.out)
          rw [HT.out] at this
          cases this
        · have q0 := (hb1.cell (cell_lt p0)).trans p0
          have e1 := (hb1.cell (cell_lt d1)).trans d1
          have e2 := (hb1.cell (cell_lt d2)).trans d2
          have e3 := (hb1.cell (cell_lt d3)).trans d3
          have row1 := HI.out.row.keep hb1 lrow
          have hsz := HI.out.size
          obtain ⟨u0, hu0⟩ := row1.there (i := m.toNat * 3) (by omega)
          obtain ⟨u1, hu1⟩ := row1.there (i := m.toNat * 3 + 1) (by omega)
          obtain ⟨u2, hu2⟩ := row1.there (i := m.toNat * 3 + 2) (by omega)
          have f0 := row1.frozen (m.toNat * 3)
          have f1 := row1.frozen (m.toNat * 3 + 1)
          have f2 := row1.frozen (m.toNat * 3 + 2)
          have hb2 := HI.out.below.trans (hb1.mono HI.out.below.size)
          have hs1 := hb1.size
          have HB1 := Lib.hid hb1
          have HB2 := Lib.hid hb2
          have HRO := Lib.hid row1
          clear p0 p1 p2 d1 d2 d3 hb1 hb2 row1 cm pt
          go_wp2_with fail
          go_roundw
          case rel =>
            have hset : ∀ g, g ≠ w.heap.size → (((w1.setCell ⟨w.heap.size, m.toNat * 3, none⟩ (.int .i64 k2)).setCell ⟨w.heap.size, m.toNat * 3 + 1, none⟩ (.int .i64 h2)).setCell ⟨w.heap.size, m.toNat * 3 + 2, none⟩ (.slice A2 n2 c2')).heap[g]? = w1.heap[g]? := fun g hg => by
              rw [Below.heap_setCell _ _ _ _ hg, Below.heap_setCell _ _ _ _ hg, Below.heap_setCell _ _ _ _ hg]
            refine ⟨j + 1, _, by omega, by go_num, Lib.hid ⟨((HRO.out.setAt _ _).setAt _ _).setAt _ _, by simp [hsz], ?_, ?_, ?_⟩⟩
            · refine Kids.turn (xs := thL bs (ms.take j)) (w := w1) (fun i u hu => ?_) (fun g hg _ => hset g (by omega)) (RdF.moveX (fun b hb hl => ⟨hb, HB1.out.block b hl⟩) _ _ HR.out) (by omega) fun i u hu => ?_
              · obtain ⟨k', h', A', n', c', e0, e1, e2, hr'⟩ := HI.out.kids i u hu
                exact ⟨k', h', A', n', c', e0, e1, e2, RdF.moveX (fun b hb hl => ⟨hb, HB1.out.block b hl⟩) _ _ hr'⟩
              · have := thL_next HM.out hm0 i u hu
                rw [HG.out] at this
                exact this
            · rw [List.take_add_one, HM.out, List.all_append, HI.out.all]
              simp [HT.out]
            · exact ⟨HB2.out.os, HB2.out.tape, HB2.out.output, by simpa [World.setCell] using HB2.out.size, fun g hg => (hset g (by omega)).trans (HB2.out.block g hg)⟩
          case measure => simp [Go.RowKit.intOf]; omega
      · have hd : decide ((N : Int) ≤ m) = true := by simpa using hmN
        go_wp2_with fail
        go_ret2
        refine ⟨HI.out.below, .inr ?_⟩
        exact ⟨⟨m, List.mem_of_getElem? HM.out, by rw [thI, HLEN.out, decide_eq_false (by omega), Bool.false_and]⟩, rfl⟩
    · obtain rfl : j = L := by omega
      have hta : ms.take j = ms := List.take_of_length_le (by have := HL.out; omega)
      go_wp2_with fail
      go_ret2
      refine ⟨HI.out.below, .inl ⟨by have := HI.out.all; rwa [hta] at this, _, rfl, fun i x hx => ?_⟩⟩
      have hx' : (thL bs (ms.take j))[i]? = some x := by rw [hta]; exact hx
      obtain ⟨k', h', A', n', c', e0, e1, e2, hr'⟩ := HI.out.kids i x hx'
      refine ⟨w.heap.size, 0, _, _, _, rfl, ?_, ?_, ?_, RdF.rd _ _ hr'⟩
      · rw [Nat.zero_add, HI.out.row.cell]; exact e0
      · rw [Nat.zero_add, HI.out.row.cell]; exact e1
      · rw [Nat.zero_add, HI.out.row.cell]; exact e2
end Go.Proofs.YtkakfckjmmmjgaaGreat

/-
  Contracts of package match's compare, become and holdMeta. No statement is proved here.
-/
namespace Go.Proofs.YtkakfckjmmmjgaaGreat
open Go.ChangeShapes Go.WideShapes Go.ChangeAt Go.RowKit
set_option linter.unusedVariables false

set_option maxRecDepth 100000 in
set_option maxHeartbeats 4000000 in
theorem hCompareC {pa ri : List Bool} {Bk pm : Nat} {Ap : Option Addr} {np cp : Nat} {Ar : Option Addr} {nr cr : Nat} {N : Nat} {bs : List BT} (p t : T) (n : Int) (vp vt : Value) (w : World)
    (hst : MSt pa ri Bk pm Ap np cp Ar nr cr N bs w) (hp : Rd w p vp) (ht : Rd w t vt) (hop : okT 2199023255552 p) (hmp : myB p = true) (hob : ∀ x ∈ bs, x.1 = true → okT 2199023255552 x.2) :
    Calls Tryz.prog 55 #[.pointer (some ⟨pm, 0, none⟩), vp, vt, .int .i64 n] w fun e w' => e = .returned (.int .i64 (cmpR bs p t n)) ∧ Below w.heap.size w w' := by
  obtain ⟨k, h, A, np', cp', rfl⟩ := hp.full
  obtain ⟨k2, h2, A2, nt, ct, rfl⟩ := ht.full
  obtain ⟨W, hW⟩ : ∃ W, (w.alloc (.cells #[.int .i64 k, .int .i64 h, .slice A np' cp'] 24)).alloc (.cells #[.int .i64 k2, .int .i64 h2, .slice A2 nt ct] 24) = W := ⟨_, rfl⟩
  have hb : Below w.heap.size w W := by rw [← hW]; exact ((Below.refl _ _).alloc (Nat.le_refl _) _).alloc (by simp) _
  have xP : Box W w.heap.size 24 #[.int .i64 k, .int .i64 h, .slice A np' cp'] := by rw [← hW]; exact (Box.new _ _ _).alloc _
  have xT : Box W (w.heap.size + 1) 24 #[.int .i64 k2, .int .i64 h2, .slice A2 nt ct] := by rw [← hW]; exact (Box.new (w.alloc _) _ _).at (by simp)
  have HWW := Lib.hid hW; clear hW
  have HST := Lib.hid (hst.keep hb); clear hst
  have HP := Lib.hid (Rd.keep hb _ _ hp); clear hp
  have HT := Lib.hid (Rd.keep hb _ _ ht); clear ht
  have hnd : nd p ≤ 1048576 := by have := ((myB_iff p).1 hmp).2.1; omega
  have HPOS := Lib.hid (mtO_pos ((myB_iff p).1 hmp).1)
  have HOP := Lib.hid hop; clear hop
  have HMP := Lib.hid hmp; clear hmp
  have HOB := Lib.hid hob; clear hob
  obtain ⟨a0, a1, a2⟩ := xP.three
  go_enter Tryz.func55, Tryz.ntmps55
  go_wp2_with fail
  rw [HWW.out]
  clear HWW
  go_wp2_with fail
  refine (oMetasC p _ W HP.out hnd).mono ?_
  rintro e w1 ⟨u, rfl, hns, hb1⟩
  replace xP := xP.keep hb1 xP.lt
  replace xT := xT.keep hb1 xT.lt
  have HST := Lib.hid (HST.out.keep hb1)
  have HP := Lib.hid (Rd.keep hb1 _ _ HP.out)
  have HT := Lib.hid (Rd.keep hb1 _ _ HT.out)
  replace hb := hb.trans (hb1.mono hb.size)
  clear hb1 a0 a1 a2
  rw [mtO_eq] at hns
  obtain ⟨Am, cm, rfl, hrest⟩ := id hns
  clear hrest
  go_wp2_with fail
  refine (hThetaC (mtO p) Am cm w1 HST.out hns HPOS.out).mono ?_
  rintro e w2 ⟨hb1, ⟨hall, q, rfl, hth⟩ | ⟨hall, rfl⟩⟩
  · replace xP := xP.keep hb1 xP.lt
    replace xT := xT.keep hb1 xT.lt
    have HST := Lib.hid (HST.out.keep hb1)
    have HP := Lib.hid (Rd.keep hb1 _ _ HP.out)
    have HT := Lib.hid (Rd.keep hb1 _ _ HT.out)
    replace hb := hb.trans (hb1.mono hb.size)
    clear hb1 hns
    have hthI : ThI (thL bs (mtO p)) w2 (some ⟨q, 0, none⟩) N N := ⟨fun x hx _ => by
        obtain ⟨i, hi⟩ := List.getElem?_of_mem hx
        obtain ⟨hl, rfl⟩ := thL_at hi
        split
        · rename_i hm
          have h1 := List.all_eq_true.1 hall _ hm
          rw [thI, Int.toNat_natCast] at h1
          simp only [Bool.and_eq_true] at h1
          refine HOB.out _ ?_ h1.2
          rw [List.getD_eq_getElem?_getD, List.getElem?_eq_getElem hl]
          exact List.getElem_mem hl
        · rw [okT, okL]; exact ⟨fun h => by omega, trivial⟩, by rw [thL_len, HST.out.len], Nat.le_refl _, by have := HST.out.few; unfold maxLen; omega, hth⟩
    have HTH := Lib.hid hthI; clear hthI hth
    have HC : Hid (cmpR bs p t n = match fiR (thL bs (mtO p)) n p with
      | .error e => e
      | .ok u => if samB u t then 0 else 6) := Lib.hid (by rw [cmpR, if_pos hall] <;> cases fiR (thL bs (mtO p)) n p <;> rfl)
    clear hall
    obtain ⟨a0, a1, a2⟩ := xP.three
    obtain ⟨c0, c1, c2⟩ := xT.three
    go_wp2_with fail
    refine (FillC (n := n) w2 HTH.out HP.out (fun _ => HOP.out)).mono ?_
    generalize fiR (thL bs (mtO p)) n p = R at *
    intro e w3 hE
    have hb1 := hE.below
    replace xT := xT.keep hb1 xT.lt
    have HT := Lib.hid (Rd.keep hb1 _ _ HT.out)
    replace hb := hb.trans (hb1.mono hb.size)
    clear a0 a1 a2 c0 c1 c2
    cases R with
    | error ec =>
      obtain ⟨rfl, hne, _⟩ := hE
      have hne' : (ec != 0) = true := by simpa using hne
      have HE : Hid (cmpR bs p t n = ec) := Lib.hid HC.out
      clear hb1
      go_wp2_with fail
      go_ret
      exact ⟨ret_int HE.out.symm, hb.alloc hb.size _⟩
    | ok u =>
      obtain ⟨k3, h3, A3, n3, c3, rfl, hr, _⟩ := hE
      have hbA : Below w3.heap.size w3 (w3.alloc (.cells #[.int .i64 k3, .int .i64 h3, .slice A3 n3 c3] 24)) := (Below.refl _ _).alloc (Nat.le_refl _) _
      have HS := Lib.hid (termSame u t _ _ _ (Rd.keep hbA _ _ (RdF.rd _ _ hr)) (Rd.keep hbA _ _ HT.out))
      have HC' : Hid (cmpR bs p t n = if samB u t then 0 else 6) := Lib.hid HC.out
      clear hr hb1 HC
      generalize samB u t = s at *
      obtain ⟨c0, c1, c2⟩ := xT.three
      have lT := xT.lt
      replace hb := hb.trans (hbA.mono hb.size)
      clear hbA
      go_wp2_with fail
      refine HS.out.mono ?_
      rintro e w4 ⟨rfl, hb1⟩
      replace hb := hb.trans (hb1.mono hb.size)
      clear hb1
      cases s
      · go_wp2_with fail
        go_ret
        exact ⟨ret_int HC'.out.symm, hb⟩
      · go_wp2_with fail
        go_ret
        exact ⟨ret_int HC'.out.symm, hb⟩
  · replace hb := hb.trans (hb1.mono hb.size)
    have HC : Hid (cmpR bs p t n = 5) := Lib.hid (by rw [cmpR, if_neg (by rw [hall]; exact Bool.false_ne_true)])
    clear hb1 hall
    go_wp2_with fail
    go_ret
    exact ⟨ret_int HC.out.symm, hb⟩
end Go.Proofs.YtkakfckjmmmjgaaGreat

/-
  Contract of package match's become. No statement is proved here.
-/
namespace Go.Proofs.YtkakfckjmmmjgaaGreat
open Go.ChangeShapes Go.WideShapes Go.ChangeAt Go.RowKit
set_option linter.unusedVariables false

/-- how a node is held -/
def HEn (pa ri : List Bool) (Bk pm : Nat) (Ap : Option Addr) (np cp : Nat) (Ar : Option Addr) (nr cr : Nat) (N : Nat) (w : World) (R : Except Int (List BT)) (e : Ending) (w' : World) : Prop :=
  match R with
  | .error ec => e = .returned (.int .i64 ec) ∧ ec ≠ 0 ∧ Fr (fun b => b = Bk) w w'
  | .ok bs => e = .returned (.int .i64 0) ∧ MSt pa ri Bk pm Ap np cp Ar nr cr N bs w' ∧ Fr (fun b => b = Bk) w w'
theorem Hen.err {pa ri : List Bool} {Bk pm : Nat} {Ap : Option Addr} {np cp : Nat} {Ar : Option Addr} {nr cr : Nat} {N : Nat} {w w' : World} {R : Except Int (List BT)} {ec : Int} (h : R = .error ec) (hne : ec ≠ 0) (hb : Below w.heap.size w w') : HEn pa ri Bk pm Ap np cp Ar nr cr N w R (.returned (.int .i64 ec)) w' := by
  subst h
  exact ⟨rfl, hne, Fr.below hb⟩
/-- what is told of a meta lies in blocks of its own -/
theorem MSt.put {pa ri : List Bool} {Bk pm : Nat} {Ap : Option Addr} {np cp : Nat} {Ar : Option Addr} {nr cr : Nat} {N : Nat} {bs : List BT} {w w' : World} {j : Nat} {u : T} {k h : Int} {A : Option Addr} {n c : Nat}
    (hs : MSt pa ri Bk pm Ap np cp Ar nr cr N bs w) (hj : j < N) (hr : RdF (fun b => b ≠ Bk) w u (.agg #[.int .i64 k, .int .i64 h, .slice A n c]))
    (hw : w' = (((w.setCell ⟨Bk, j * 4, none⟩ (.bool true)).setCell ⟨Bk, j * 4 + 1, none⟩ (.int .i64 k)).setCell ⟨Bk, j * 4 + 2, none⟩ (.int .i64 h)).setCell ⟨Bk, j * 4 + 3, none⟩ (.slice A n c)) :
    MSt pa ri Bk pm Ap np cp Ar nr cr N (bs.set j (true, u)) w' ∧ Fr (fun b => b = Bk) w w' := by
  have hset : ∀ g, g ≠ Bk → w'.heap[g]? = w.heap[g]? := fun g hg => by
    rw [hw, Below.heap_setCell _ _ _ _ hg, Below.heap_setCell _ _ _ _ hg, Below.heap_setCell _ _ _ _ hg, Below.heap_setCell _ _ _ _ hg]
  obtain ⟨cs, hb, hsz, hc⟩ := hs.row
  refine ⟨⟨(hset _ fun e => hs.ne e.symm).trans hs.ptr, ⟨((((cs.setIfInBounds (j * 4) (.bool true)).setIfInBounds (j * 4 + 1) (.int .i64 k)).setIfInBounds (j * 4 + 2) (.int .i64 h)).setIfInBounds (j * 4 + 3) (.slice A n c)), ?_, by simp [hsz], ?_⟩, by rw [List.length_set]; exact hs.len, hs.few, hs.ne⟩, ⟨by rw [hw]; rfl, by rw [hw]; rfl, by rw [hw]; rfl, by rw [hw]; simp [World.setCell], fun g _ hx => hset g hx⟩⟩
  · rw [hw]
    exact (((hb.setAt _ _).setAt _ _).setAt _ _).setAt _ _
  · intro i x hx
    by_cases hij : i = j
    · subst hij
      rw [List.getElem?_set_self (by rw [hs.len]; exact hj)] at hx
      cases hx
      refine ⟨k, h, A, n, c, ?_, ?_, ?_, ?_, RdF.moveX (fun b hb' _ => ⟨hb', hset b hb'⟩) _ _ hr⟩
      all_goals simp only [Array.getElem?_setIfInBounds]
      · rw [if_neg (by omega), if_neg (by omega), if_neg (by omega), if_pos trivial, if_pos (by omega)]
      · rw [if_neg (by omega), if_neg (by omega), if_pos trivial, if_pos (by simp; omega)]
      · rw [if_neg (by omega), if_pos trivial, if_pos (by simp; omega)]
      · rw [if_pos trivial, if_pos (by simp; omega)]
    · rw [List.getElem?_set_ne (fun e => hij e.symm)] at hx
      obtain ⟨k', h', A', n', c', e0, e1, e2, e3, hr'⟩ := hc i x hx
      refine ⟨k', h', A', n', c', ?_, ?_, ?_, ?_, RdF.moveX (fun b hb' _ => ⟨hb', hset b hb'⟩) _ _ hr'⟩
      all_goals simp only [Array.getElem?_setIfInBounds]
      · rw [if_neg (by omega), if_neg (by omega), if_neg (by omega), if_neg (by omega)]; exact e0
      · rw [if_neg (by omega), if_neg (by omega), if_neg (by omega), if_neg (by omega)]; exact e1
      · rw [if_neg (by omega), if_neg (by omega), if_neg (by omega), if_neg (by omega)]; exact e2
      · rw [if_neg (by omega), if_neg (by omega), if_neg (by omega), if_neg (by omega)]; exact e3
theorem ivR_err {t : T} {vs : List Int} {n e : Int} (h : ivR t vs n = .error e) : e = 1 ∨ e = 7 := by
  rw [ivR] at h
  split at h
  · cases hr : rn (igW vs n) t 0 with
    | none => rw [hr] at h; cases h; exact .inr rfl
    | some u => rw [hr] at h; cases h
  · cases h; exact .inl rfl

set_option maxRecDepth 100000 in
set_option maxHeartbeats 8000000 in
theorem hBecomeC {pa ri : List Bool} {Bk pm : Nat} {Ap : Option Addr} {np cp : Nat} {Ar : Option Addr} {nr cr : Nat} {N : Nat} {bs : List BT} (h : Int) (xs : List T) (t : T) (n : Int) (vp vt : Value) (w : World)
    (hst : MSt pa ri Bk pm Ap np cp Ar nr cr N bs w) (hpa : LB w pa Ap np cp) (hri : LB w ri Ar nr cr) (hpN : pa.length = N) (hp : Rd w (.node 6 h xs) vp) (ht : Rd w t vt) (hh : 0 ≤ h) (hN : h < N) (hx1 : xs.length ≤ 1048576) (hmt : myB t = true) :
    Calls Tryz.prog 56 #[.pointer (some ⟨pm, 0, none⟩), vp, vt, .int .i64 n] w (HEn pa ri Bk pm Ap np cp Ar nr cr N w (becR pa ri bs h xs t n)) := by
  obtain ⟨A, mp, cp', rfl, hk0, hh0, hl, hc, hcm, hx⟩ := Rd_node.1 hp
  obtain ⟨k2, h2, A2, nt, ct, rfl⟩ := ht.full
  clear hp hk0 hh0
  have hnd : nd t ≤ 1048576 := by have := ((myB_iff t).1 hmt).2.1; omega
  have hnt := ((myB_iff t).1 hmt).1
  obtain ⟨W, hW⟩ : ∃ W, (w.alloc (.cells #[.int .i64 6, .int .i64 h, .slice A mp cp'] 24)).alloc (.cells #[.int .i64 k2, .int .i64 h2, .slice A2 nt ct] 24) = W := ⟨_, rfl⟩
  have hb : Below w.heap.size w W := by rw [← hW]; exact ((Below.refl _ _).alloc (Nat.le_refl _) _).alloc (by simp) _
  have xP : Box W w.heap.size 24 #[.int .i64 6, .int .i64 h, .slice A mp cp'] := by rw [← hW]; exact (Box.new _ _ _).alloc _
  have xT : Box W (w.heap.size + 1) 24 #[.int .i64 k2, .int .i64 h2, .slice A2 nt ct] := by rw [← hW]; exact (Box.new (w.alloc _) _ _).at (by simp)
  have HWW := Lib.hid hW; clear hW
  have HX : Hid (∀ i x, xs[i]? = some x → RdAt W A i x) := Lib.hid fun i x hx' => RdAt.keep hb (hx i x hx')
  have HST0 : Hid (Bk < w.heap.size) := by obtain ⟨cs, hrow, _⟩ := hst.row; exact Lib.hid hrow.lt
  have HST := Lib.hid (hst.keep hb); clear hst
  have HPA := Lib.hid (hpa.keep hb); clear hpa
  have HRI := Lib.hid (hri.keep hb); clear hri
  have HT := Lib.hid (Rd.keep hb _ _ ht); clear ht hx
  obtain ⟨R, hR⟩ : ∃ R, R = becR pa ri bs h xs t n := ⟨_, rfl⟩
  rw [← hR]
  rw [becR] at hR
  have HR := Lib.hid hR; clear hR
  obtain ⟨a0, a1, a2⟩ := xP.three
  go_enter Tryz.func56, Tryz.ntmps56
  go_wp2_with fail
  rw [HWW.out]
  clear HWW
  go_wp2_with fail
  refine (oPatternC xs A mp cp' n W hl hc hcm (by omega) HX.out).mono ?_
  generalize ptn n [] xs = O at *
  rintro e w1 (⟨vs, v, rfl, rfl, hns, hb1⟩ | ⟨rfl, rfl, hb1⟩)
  · replace xP := xP.keep hb1 xP.lt
    replace xT := xT.keep hb1 xT.lt
    have HST := Lib.hid (HST.out.keep hb1)
    have HPA := Lib.hid (HPA.out.keep hb1)
    have HRI := Lib.hid (HRI.out.keep hb1)
    have HT := Lib.hid (Rd.keep hb1 _ _ HT.out)
    replace hb := hb.trans (hb1.mono hb.size)
    clear hb1 a0 a1 a2 HX
    obtain ⟨Av, cv, rfl, hv1, hv2, hv3⟩ := hns
    have HV3 := Lib.hid hv3; clear hv3
    obtain ⟨c0, c1, c2⟩ := xT.three
    go_wp2_with fail
    refine (InvertC t vs Av vs.length cv n _ w1 HT.out hnd rfl hv1 hv2 HV3.out).mono ?_
    have HI : Hid (∀ ec, ivR t vs n = .error ec → ec = 1 ∨ ec = 7) := Lib.hid fun ec he => ivR_err he
    generalize ivR t vs n = Q at *
    rintro e w2 ⟨k3, h3, A3, n3, c3, rfl, hr, hb1⟩
    replace xP := xP.keep hb1 xP.lt
    replace xT := xT.keep hb1 xT.lt
    have HST := Lib.hid (HST.out.keep hb1)
    have HPA := Lib.hid (HPA.out.keep hb1)
    have HRI := Lib.hid (HRI.out.keep hb1)
    have HT := Lib.hid (Rd.keep hb1 _ _ HT.out)
    have lw1 := hb.size
    have lBk : Bk < w1.heap.size := by obtain ⟨cs, hrow, _⟩ := HST.out.row; have hx' := HST0.out; omega
    have s1 := hb1.size
    replace hb := hb.trans (hb1.mono hb.size)
    clear c0 c1 c2 HV3
    have hbA : Below w2.heap.size w2 (w2.alloc (.cells #[.int .i64 k3, .int .i64 h3, .slice A3 n3 c3] 24)) := (Below.refl _ _).alloc (Nat.le_refl _) _
    cases Q with
    | error ec =>
      dsimp only [ivE]
      have hbB := hb.trans (hbA.mono hb.size)
      rcases HI.out ec rfl with rfl | rfl
      · go_wp2_with fail
        go_ret
        exact Hen.err HR.out (by decide) hbB
      · go_wp2_with fail
        go_ret
        exact Hen.err HR.out (by decide) hbB
    | ok u =>
      dsimp only [ivE]
      have xU := Box.new w2 24 #[.int .i64 k3, .int .i64 h3, .slice A3 n3 c3]
      obtain ⟨z, hz⟩ := at_of (k := h.toNat) hpN (by omega)
      obtain ⟨b2, o2, rfl, cz⟩ := HPA.out.at_ _ _ hz
      have hgz : pa.getD h.toNat false = z := by rw [List.getD_eq_getElem?_getD, hz]; rfl
      have HR2 : Hid (R = if (z && !vaB ri t) = true then .error 6 else .ok (bs.set h.toNat (true, u))) := Lib.hid (by rw [← hgz]; exact HR.out)
      clear HI hz hgz HR
      have XU := Lib.hid xU
      have XP := Lib.hid (xP.keep hbA xP.lt)
      have XT := Lib.hid (xT.keep hbA xT.lt)
      have CZ := Lib.hid ((hbA.cell (cell_lt cz)).trans cz)
      have HST := Lib.hid (HST.out.keep hbA)
      have HRI := Lib.hid (HRI.out.keep hbA)
      have HT := Lib.hid (Rd.keep hbA _ _ HT.out)
      have HU := Lib.hid (RdF.moveX (ok' := fun b => w1.heap.size ≤ b) (fun b hb' hl => ⟨hb', hbA.block b hl⟩) _ _ hr)
      have hle := HPA.out.le
      have hcap := HPA.out.cap
      have hlen := HPA.out.len
      clear xU xP xT cz HPA hr
      go_wp2_with fail
      obtain ⟨W3, hW3⟩ : ∃ W3, w2.alloc (.cells #[.int .i64 k3, .int .i64 h3, .slice A3 n3 c3] 24) = W3 := ⟨_, rfl⟩
      rw [hW3] at hbA XU XP XT CZ HST HRI HT HU ⊢
      clear hW3
      obtain ⟨a0, a1, a2⟩ := XP.out.three
      obtain ⟨c0, c1, c2⟩ := XT.out.three
      obtain ⟨p0, p1, p2⟩ := HST.out.ptr.three
      have q0 := Past.cell a0
      have q1 := Past.cell a1
      have q2 := Past.cell a2
      have r0 := Past.cell c0
      have r1 := Past.cell c1
      have r2 := Past.cell c2
      have t0 := Past.cell p0
      have t1 := Past.cell p1
      have t2 := Past.cell p2
      have qz := Past.cell CZ.out
      have hiN : h < (np : Int) := by omega
      cases z
      · refine wp_region_past (by kernel_rfl) (by kernel_rfl) ?_
        repeat (go_big_quiet_step (fail))
        refine wpQuiet_nil ?_
        rintro _ ⟨z1, rfl⟩
        obtain ⟨W4, hb4⟩ := z1
        dsimp only
        have HR3 : Hid (R = .ok (bs.set h.toNat (true, u))) := Lib.hid (by have := HR2.out; simpa using this)
        clear q0 q1 q2 r0 r1 r2 t0 t1 t2 qz a0 a1 a2 c0 c1 c2 p0 p1 p2 HR2
        have hb3 := hb.trans (hbA.mono hb.size)
        have hbW := hb3.trans (hb4.mono hb3.size)
        have XU' := XU.out.keep hb4 XU.out.lt
        have XP' := XP.out.keep hb4 XP.out.lt
        have HST' := Lib.hid (HST.out.keep hb4)
        have HU' := Lib.hid (RdF.moveX (ok' := fun b => w1.heap.size ≤ b) (fun b hb' hl => ⟨hb', hb4.block b hl⟩) _ _ HU.out)
        obtain ⟨a0, a1, a2⟩ := XP'.three
        obtain ⟨p0, p1, p2⟩ := HST'.out.ptr.three
        obtain ⟨d0, d1, d2⟩ := XU'.three
        have q1 := Past.cell a1
        have t0 := Past.cell p0
        have r0 := Past.cell d0
        have r1 := Past.cell d1
        have r2 := Past.cell d2
        clear hb4
        go_wp2_with fail
        refine wp_region_class_tail (C := fun w' => ∃ z : Past W4, w' = z.wd) 9 (by kernel_rfl) (by kernel_rfl) ⟨⟨W4.drew, (Below.refl _ _).drew⟩, rfl⟩ ?_
        simp only [List.take_succ_cons, List.take_zero, List.drop_succ_cons, List.drop_zero]
        repeat (go_big_quiet_step (fail))
        refine wpQuiet_nil ?_
        rintro _ ⟨z2, rfl⟩
        obtain ⟨W5, hb5⟩ := z2
        dsimp only
        have hbX := hbW.trans (hb5.mono hbW.size)
        have HST5 := Lib.hid (HST'.out.keep hb5)
        have HU5 := Lib.hid (RdF.moveX (ok' := fun b => b ≠ Bk) (fun b hb' hl => ⟨by have := lBk; omega, hb5.block b hl⟩) _ _ HU'.out)
        clear q1 t0 r0 r1 r2 a0 a1 a2 p0 p1 p2 d0 d1 d2 hb5
        obtain ⟨cs, hrow, hsz, hcs⟩ := HST5.out.row
        clear hcs
        obtain ⟨u0, hu0⟩ := hrow.there (i := h.toNat * 4) (by omega)
        obtain ⟨u1, hu1⟩ := hrow.there (i := h.toNat * 4 + 1) (by omega)
        obtain ⟨u2, hu2⟩ := hrow.there (i := h.toNat * 4 + 2) (by omega)
        obtain ⟨u3, hu3⟩ := hrow.there (i := h.toNat * 4 + 3) (by omega)
        have f0 := hrow.frozen (h.toNat * 4)
        have f1 := hrow.frozen (h.toNat * 4 + 1)
        have f2 := hrow.frozen (h.toNat * 4 + 2)
        have f3 := hrow.frozen (h.toNat * 4 + 3)
        have HBX := Lib.hid hbX
        clear hb3 hbW hbX hrow
        go_wp2_with fail
        go_ret
        rw [HR3.out]
        obtain ⟨h1, h2⟩ := HST5.out.put (j := h.toNat) (by omega) HU5.out rfl
        exact ⟨rfl, h1, (Fr.below HBX.out).trans h2 fun _ _ e => e⟩
      · have HV := Lib.hid fun W' (h' : Below W3.heap.size W3 W') => hVarC ri pm _ _ Ar nr cr t _ W' ⟨HST.out.ptr.keep h' HST.out.ptr.lt, HRI.out.keep h'⟩ (Rd.keep h' _ _ HT.out) hnt
        generalize vaB ri t = vb at *
        refine wp_region_past (by kernel_rfl) (by kernel_rfl) ?_
        repeat (go_big_quiet_step ((exact calls_past (HV.out _ (Past.h _)))))
        refine wpQuiet_nil ?_
        rintro _ ⟨z1, rfl⟩
        obtain ⟨W4, hb4⟩ := z1
        dsimp only
        clear q0 q1 q2 r0 r1 r2 t0 t1 t2 qz a0 a1 a2 c0 c1 c2 p0 p1 p2 HV
        cases vb
        · have HR3 : Hid (R = .error 6) := Lib.hid HR2.out
          have hb3 := hb.trans (hbA.mono hb.size)
          have hbW := hb3.trans (hb4.mono hb3.size)
          clear HR2
          go_wp2_with fail
          go_ret
          exact Hen.err HR3.out (by decide) hbW
        · have HR3 : Hid (R = .ok (bs.set h.toNat (true, u))) := Lib.hid HR2.out
          clear HR2
          have hb3 := hb.trans (hbA.mono hb.size)
          have hbW := hb3.trans (hb4.mono hb3.size)
          have XU' := XU.out.keep hb4 XU.out.lt
          have XP' := XP.out.keep hb4 XP.out.lt
          have HST' := Lib.hid (HST.out.keep hb4)
          have HU' := Lib.hid (RdF.moveX (ok' := fun b => w1.heap.size ≤ b) (fun b hb' hl => ⟨hb', hb4.block b hl⟩) _ _ HU.out)
          obtain ⟨a0, a1, a2⟩ := XP'.three
          obtain ⟨p0, p1, p2⟩ := HST'.out.ptr.three
          obtain ⟨d0, d1, d2⟩ := XU'.three
          have q1 := Past.cell a1
          have t0 := Past.cell p0
          have r0 := Past.cell d0
          have r1 := Past.cell d1
          have r2 := Past.cell d2
          clear hb4
          go_wp2_with fail
          refine wp_region_class_tail (C := fun w' => ∃ z : Past W4, w' = z.wd) 9 (by kernel_rfl) (by kernel_rfl) ⟨⟨W4.drew, (Below.refl _ _).drew⟩, rfl⟩ ?_
          simp only [List.take_succ_cons, List.take_zero, List.drop_succ_cons, List.drop_zero]
          repeat (go_big_quiet_step (fail))
          refine wpQuiet_nil ?_
          rintro _ ⟨z2, rfl⟩
          obtain ⟨W5, hb5⟩ := z2
          dsimp only
          have hbX := hbW.trans (hb5.mono hbW.size)
          have HST5 := Lib.hid (HST'.out.keep hb5)
          have HU5 := Lib.hid (RdF.moveX (ok' := fun b => b ≠ Bk) (fun b hb' hl => ⟨by have := lBk; omega, hb5.block b hl⟩) _ _ HU'.out)
          clear q1 t0 r0 r1 r2 a0 a1 a2 p0 p1 p2 d0 d1 d2 hb5
          obtain ⟨cs, hrow, hsz, hcs⟩ := HST5.out.row
          clear hcs
          obtain ⟨u0, hu0⟩ := hrow.there (i := h.toNat * 4) (by omega)
          obtain ⟨u1, hu1⟩ := hrow.there (i := h.toNat * 4 + 1) (by omega)
          obtain ⟨u2, hu2⟩ := hrow.there (i := h.toNat * 4 + 2) (by omega)
          obtain ⟨u3, hu3⟩ := hrow.there (i := h.toNat * 4 + 3) (by omega)
          have f0 := hrow.frozen (h.toNat * 4)
          have f1 := hrow.frozen (h.toNat * 4 + 1)
          have f2 := hrow.frozen (h.toNat * 4 + 2)
          have f3 := hrow.frozen (h.toNat * 4 + 3)
          have HBX := Lib.hid hbX
          clear hb3 hbW hbX hrow
          go_wp2_with fail
          go_ret
          rw [HR3.out]
          obtain ⟨h1, h2⟩ := HST5.out.put (j := h.toNat) (by omega) HU5.out rfl
          exact ⟨rfl, h1, (Fr.below HBX.out).trans h2 fun _ _ e => e⟩
  · replace hb := hb.trans (hb1.mono hb.size)
    clear hb1
    go_wp2_with fail
    go_ret
    exact Hen.err HR.out (by decide) hb
end Go.Proofs.YtkakfckjmmmjgaaGreat

/-
  Contracts of package match's holdMeta and hold. No statement is proved here.
-/
namespace Go.Proofs.YtkakfckjmmmjgaaGreat
open Go.ChangeShapes Go.WideShapes Go.ChangeAt Go.RowKit
set_option linter.unusedVariables false

theorem HEn.move {pa ri : List Bool} {Bk pm : Nat} {Ap : Option Addr} {np cp : Nat} {Ar : Option Addr} {nr cr : Nat} {N : Nat} {w0 w w' : World} {R : Except Int (List BT)} {e : Ending} (h : HEn pa ri Bk pm Ap np cp Ar nr cr N w R e w') (hf : Fr (fun b => b = Bk) w0 w) : HEn pa ri Bk pm Ap np cp Ar nr cr N w0 R e w' := by
  cases R with
  | error ec => exact ⟨h.1, h.2.1, hf.trans h.2.2 fun _ _ e => e⟩
  | ok bs => exact ⟨h.1, h.2.1, hf.trans h.2.2 fun _ _ e => e⟩
theorem HEn.uni {pa ri : List Bool} {Bk pm : Nat} {Ap : Option Addr} {np cp : Nat} {Ar : Option Addr} {nr cr : Nat} {N : Nat} {w w' : World} {R : Except Int (List BT)} {e : Ending} (h : HEn pa ri Bk pm Ap np cp Ar nr cr N w R e w') : ∃ ec, e = .returned (.int .i64 ec) ∧ Fr (fun b => b = Bk) w w' ∧ (∀ v, v = .int .i64 ec → HEn pa ri Bk pm Ap np cp Ar nr cr N w R (.returned v) w') := by
  cases R with
  | error ec => obtain ⟨rfl, h1, h2⟩ := h; exact ⟨ec, rfl, h2, fun v e => by subst e; exact ⟨rfl, h1, h2⟩⟩
  | ok bs => obtain ⟨rfl, h1, h2⟩ := h; exact ⟨0, rfl, h2, fun v e => by subst e; exact ⟨rfl, h1, h2⟩⟩
theorem len_nd : ∀ xs : List T, xs.length ≤ ndL xs
  | [] => Nat.le_refl _
  | .node k h ys :: xs => by rw [ndL, nd, List.length_cons]; have := len_nd xs; omega
/-- the binds' terms are of no great heads -/
def okBs (bs : List BT) : Prop := ∀ x ∈ bs, x.1 = true → okT 2199023255552 x.2 ∧ myB x.2 = true

set_option maxRecDepth 100000 in
set_option maxHeartbeats 8000000 in
theorem hMetaC {pa ri : List Bool} {Bk pm : Nat} {Ap : Option Addr} {np cp : Nat} {Ar : Option Addr} {nr cr : Nat} {N : Nat} {bs : List BT} (h : Int) (xs : List T) (t : T) (n : Int) (vp vt : Value) (w : World)
    (hst : MSt pa ri Bk pm Ap np cp Ar nr cr N bs w) (hpa : LB w pa Ap np cp) (hri : LB w ri Ar nr cr) (hpN : pa.length = N) (hp : Rd w (.node 6 h xs) vp) (ht : Rd w t vt) (hmp : myB (.node 6 h xs) = true) (hop : okT 2199023255552 (.node 6 h xs)) (hmt : myB t = true) (hob : okBs bs) :
    Calls Tryz.prog 40 #[.pointer (some ⟨pm, 0, none⟩), vp, vt, .int .i64 n] w (HEn pa ri Bk pm Ap np cp Ar nr cr N w (hdM pa ri bs h xs t n)) := by
  have hnod := ((myB_iff _).1 hmp)
  have hh : 0 ≤ h := by
    have := (node_parts hnod.1).1
    simp [okN] at this
    omega
  have hx1 : xs.length ≤ 1048576 := by
    have h1 := hnod.2.1
    rw [nd] at h1
    have h2 := len_nd xs
    omega
  have hlen := hst.len
  obtain ⟨A, mp, cp', rfl, _⟩ := Rd_node.1 hp
  obtain ⟨k2, h2, A2, nt, ct, rfl⟩ := ht.full
  obtain ⟨W, hW⟩ : ∃ W, (w.alloc (.cells #[.int .i64 6, .int .i64 h, .slice A mp cp'] 24)).alloc (.cells #[.int .i64 k2, .int .i64 h2, .slice A2 nt ct] 24) = W := ⟨_, rfl⟩
  have hb : Below w.heap.size w W := by rw [← hW]; exact ((Below.refl _ _).alloc (Nat.le_refl _) _).alloc (by simp) _
  have xP : Box W w.heap.size 24 #[.int .i64 6, .int .i64 h, .slice A mp cp'] := by rw [← hW]; exact (Box.new _ _ _).alloc _
  have xT : Box W (w.heap.size + 1) 24 #[.int .i64 k2, .int .i64 h2, .slice A2 nt ct] := by rw [← hW]; exact (Box.new (w.alloc _) _ _).at (by simp)
  have HWW := Lib.hid hW; clear hW
  have HST := Lib.hid (hst.keep hb); clear hst
  have HPA := Lib.hid (hpa.keep hb); clear hpa
  have HRI := Lib.hid (hri.keep hb); clear hri
  have HP := Lib.hid (Rd.keep hb _ _ hp); clear hp
  have HT := Lib.hid (Rd.keep hb _ _ ht); clear ht
  have HOB := Lib.hid hob; clear hob
  have HOP := Lib.hid hop; clear hop hnod
  have HMP := Lib.hid hmp; clear hmp
  have HMT := Lib.hid hmt; clear hmt
  obtain ⟨R, hR⟩ : ∃ R, R = hdM pa ri bs h xs t n := ⟨_, rfl⟩
  rw [← hR]
  rw [hdM, hlen] at hR
  obtain ⟨a0, a1, a2⟩ := xP.three
  obtain ⟨p0, p1, p2⟩ := HST.out.ptr.three
  go_enter Tryz.func40, Tryz.ntmps40
  go_wp2_with fail
  rw [HWW.out]
  clear HWW
  have q0 := Past.cell a0
  have q1 := Past.cell a1
  have q2 := Past.cell a2
  have t0 := Past.cell p0
  have t1 := Past.cell p1
  have t2 := Past.cell p2
  refine wp_region_past (by kernel_rfl) (by kernel_rfl) ?_
  repeat (go_big_quiet_step (fail))
  refine wpQuiet_nil ?_
  rintro _ ⟨z1, rfl⟩
  obtain ⟨W4, hb4⟩ := z1
  dsimp only
  clear q0 q1 q2 t0 t1 t2 a0 a1 a2 p0 p1 p2
  replace xP := xP.keep hb4 xP.lt
  replace xT := xT.keep hb4 xT.lt
  replace hb := hb.trans (hb4.mono hb.size)
  have HST := Lib.hid (HST.out.keep hb4)
  have HPA := Lib.hid (HPA.out.keep hb4)
  have HRI := Lib.hid (HRI.out.keep hb4)
  have HP := Lib.hid (Rd.keep hb4 _ _ HP.out)
  have HT := Lib.hid (Rd.keep hb4 _ _ HT.out)
  clear hb4
  by_cases hhN : (N : Int) ≤ h
  · have hd : decide ((N : Int) ≤ h) = true := by simpa using hhN
    rw [if_pos hhN] at hR
    have HR := Lib.hid hR; clear hR
    go_wp2_with fail
    go_ret
    exact Hen.err HR.out (by decide) hb
  · have hd : decide ((N : Int) ≤ h) = false := by simpa using hhN
    rw [if_neg hhN] at hR
    obtain ⟨x, hx⟩ := at_of (k := h.toNat) hlen (by omega)
    have hgx : bs.getD h.toNat noB = x := by rw [List.getD_eq_getElem?_getD, hx]; rfl
    rw [hgx] at hR
    have HR := Lib.hid hR; clear hR
    obtain ⟨b2, o2, k3, h3, A3, n3, c3, e2, d0, d1, d2, d3, hr⟩ := HST.out.cells _ x hx
    obtain ⟨rfl, rfl⟩ : Bk = b2 ∧ 0 = o2 := by simpa using e2
    rw [Nat.zero_add] at d0
    clear e2 d1 d2 d3 hr hgx hx
    obtain ⟨bx, tx⟩ := x
    dsimp only at d0 HR
    obtain ⟨a0, a1, a2⟩ := xP.three
    obtain ⟨p0, p1, p2⟩ := HST.out.ptr.three
    go_wp2_with fail
    have q1 := Past.cell a1
    have t0 := Past.cell p0
    have r0 := Past.cell d0
    refine wp_region_past (by kernel_rfl) (by kernel_rfl) ?_
    repeat (go_big_quiet_step (fail))
    refine wpQuiet_nil ?_
    rintro _ ⟨z1, rfl⟩
    obtain ⟨W5, hb4⟩ := z1
    dsimp only
    clear q1 t0 r0 a0 a1 a2 p0 p1 p2 d0
    replace xP := xP.keep hb4 xP.lt
    replace xT := xT.keep hb4 xT.lt
    replace hb := hb.trans (hb4.mono hb.size)
    have HST := Lib.hid (HST.out.keep hb4)
    have HPA := Lib.hid (HPA.out.keep hb4)
    have HRI := Lib.hid (HRI.out.keep hb4)
    have HP := Lib.hid (Rd.keep hb4 _ _ HP.out)
    have HT := Lib.hid (Rd.keep hb4 _ _ HT.out)
    clear hb4
    obtain ⟨a0, a1, a2⟩ := xP.three
    obtain ⟨c0, c1, c2⟩ := xT.three
    have HB := Lib.hid hb; clear hb
    cases bx
    · rw [if_neg (by decide)] at HR
      go_wp2_with fail
      refine (hBecomeC h xs t n _ _ W5 HST.out HPA.out HRI.out hpN HP.out HT.out hh (by omega) hx1 HMT.out).mono ?_
      rw [← HR.out]
      intro e w1 hE
      obtain ⟨ec, rfl, hfr, hE'⟩ := hE.uni
      have HE := Lib.hid ((hE' _ rfl).move (Fr.below HB.out))
      clear hE hE' hfr
      go_wp2_with fail
      go_ret
      exact HE.out
    · rw [if_pos rfl] at HR
      go_wp2_with fail
      refine (hCompareC (.node 6 h xs) t n _ _ W5 HST.out HP.out HT.out HOP.out HMP.out fun x hx h1 => (HOB.out x hx h1).1).mono ?_
      generalize cmpR bs (.node 6 h xs) t n = ec at *
      rintro e w1 ⟨rfl, hb1⟩
      have HBX := Lib.hid (HB.out.trans (hb1.mono HB.out.size))
      have HST := Lib.hid (HST.out.keep hb1)
      clear hb1
      go_wp2_with fail
      go_ret
      rw [HR.out]
      by_cases he : ec = 0
      · rw [if_pos he, he]
        exact ⟨rfl, HST.out, Fr.below HBX.out⟩
      · rw [if_neg he]
        exact ⟨rfl, he, Fr.below HBX.out⟩
end Go.Proofs.YtkakfckjmmmjgaaGreat

/-
  Contracts of package match's holdArgs and hold. No statement is proved here.
-/
namespace Go.Proofs.YtkakfckjmmmjgaaGreat
open Go.ChangeShapes Go.WideShapes Go.ChangeAt Go.RowKit
set_option linter.unusedVariables false

/-- a scope with one label, that is come to first, too -/
theorem wp_scope_once {P : Program} {Q : Exit → Act → World → Prop} {a : Act} {w : World} {c rest : Code} (l : Nat) (J : Act → World → Prop) (μ : Act → World → Nat) (hf : findLabel c l = some (Code.skip.seq rest))
    (pass : ∀ a w, J a w → rest.wp P (Exit.jump l (fun a' w' => J a' w' ∧ μ a' w' < μ a w) Q) a w) (first : (∀ a w, J a w → rest.wp P (Exit.jump l J Q) a w) → c.wp P (Exit.jump l J Q) a w) : (Code.scope c).wp P Q a w :=
  wp_scope_jumps l J μ hf (first fun a w h => wp_mono (pass a w h) fun e a w he => by
    cases e with
    | goto l' => exact ⟨he.1, he.2.1⟩
    | normal => exact he
    | exit id => exact he
    | ret => exact he
    | panic ch => exact he
    | outgrown => exact he) fun a w h => wp_seq (wp_skip (pass a w h))
/-- what is asked of what hold is called with -/
structure HoA (pa ri : List Bool) (Bk pm : Nat) (Ap : Option Addr) (np cp : Nat) (Ar : Option Addr) (nr cr : Nat) (N : Nat) (wB : World) : Prop where
  bk : wB.heap.size ≤ Bk
  hm : wB.heap.size ≤ pm
  lp : LB wB pa Ap np cp
  lr : LB wB ri Ar nr cr
  pN : pa.length = N
/-- a term, as far as hold asks -/
structure HoT (t : T) : Prop where
  my : myB t = true
  ok : okT 2199021158400 t
theorem HoT.part {k h : Int} {xs : List T} (ht : HoT (.node k h xs)) : ∀ x ∈ xs, HoT x ∧ dp x < dp (.node k h xs) := fun x hx => by
  obtain ⟨h1, h2, h3⟩ := (myB_iff _).1 ht.my
  rw [nd] at h2
  have h4 := nd_mem hx
  have h5 := dpL_mem hx
  rw [dp] at h3 ⊢
  exact ⟨⟨(myB_iff _).2 ⟨(node_parts h1).2 x hx, by omega, by omega⟩, ok_parts ht.ok x hx⟩, by omega⟩
/-- hold's contract for one node of the pattern -/
def HoC (p : T) : Prop :=
  ∀ (pa ri : List Bool) (Bk pm : Nat) (Ap : Option Addr) (np cp : Nat) (Ar : Option Addr) (nr cr N : Nat) (wB w : World) (t : T) (n : Int) (bs : List BT) (vp vt : Value), HoA pa ri Bk pm Ap np cp Ar nr cr N wB → Below wB.heap.size wB w →
    MSt pa ri Bk pm Ap np cp Ar nr cr N bs w → Rd wB p vp → Rd wB t vt → HoT p → HoT t → okBs bs → 0 ≤ n → n + dp p ≤ 4000 →
    Calls Tryz.prog 25 #[.pointer (some ⟨pm, 0, none⟩), vp, vt, .int .i64 n] w (HEn pa ri Bk pm Ap np cp Ar nr cr N w (hdT pa ri p t n bs))
theorem ptn_len {below : Int} : ∀ (l : List T) (seen zs : List Int), ptn below seen l = some zs → zs.length = seen.length + l.length
  | [], seen, zs, h => by rw [ptn] at h; cases h; simp
  | .node k h' xs :: ts, seen, zs, h => by
    by_cases hp : pt1 seen below (.node k h' xs) = true
    · rw [ptn_step hp] at h
      have := ptn_len ts _ zs h
      simp at this ⊢
      omega
    · rw [ptn_stop (by simpa using hp)] at h
      cases h
/-- what Invert tells -/
theorem iv_told {t u : T} {vs : List Int} {n : Int} (ht : HoT t) (hl : vs.length ≤ 1048576) (h : ivR t vs n = .ok u) : ivT (igo vs n) t 0 = some u ∧ (okT 2199023255552 u ∧ myB u = true) ∧ (0 ≤ n ∧ n ≤ 1000) ∧ vB n [] vs = true := by
  have hs : nd t ≤ 1048576 := by have := ((myB_iff t).1 ht.my).2.1; omega
  rw [ivR] at h
  split at h
  · rename_i hc
    simp only [Bool.and_eq_true, decide_eq_true_eq] at hc
    obtain ⟨⟨⟨h1, h2⟩, h3⟩, h4⟩ := hc
    rw [rn_iv (M := 2199021158400) (g := igo vs n) (by omega) (fun x h0 hx => ⟨igW_eq h0 (by omega) ⟨h1, h2⟩ (by omega), fun y hy => by have := igo_bd (M := 2199021158400) (by omega) hx h1 hy; omega⟩) t 0 ht.ok (by omega) (by omega)] at h
    cases hi : ivT (igo vs n) t 0 with
    | none => rw [hi] at h; cases h
    | some v =>
      rw [hi] at h
      cases h
      have hg : ∀ x, 0 ≤ x → x ≤ 2199021158400 → ∀ y, igo vs n x = some y → 0 ≤ y ∧ y ≤ x + 1048576 := fun x h0 hx y hy => by
        unfold igo at hy
        split at hy
        · cases hy; omega
        · have := pls_lt hy; omega
      exact ⟨rfl, ⟨okT_mono (by omega) _ (ok_iv (M := 2199021158400) (B := 1048576) hg (by omega) t 0 u (Int.le_refl _) ht.ok hi), my_iv (fun x h0 hx y hy => (hg x h0 hx y hy).1) ht.ok ht.my hi⟩, ⟨h1, h2⟩, h4⟩
  · cases h
theorem okBs_set {bs : List BT} {j : Nat} {u : T} (h : okBs bs) (hu : okT 2199023255552 u ∧ myB u = true) : okBs (bs.set j (true, u)) := fun x hx h1 => by
  rcases List.mem_or_eq_of_mem_set hx with hx | rfl
  · exact h x hx h1
  · exact hu
theorem okBs_meta {pa ri : List Bool} {h : Int} {xs : List T} {t : T} {n : Int} {bs bs' : List BT} (hp : HoT (.node 6 h xs)) (ht : HoT t) (hb : okBs bs) (he : hdM pa ri bs h xs t n = .ok bs') : okBs bs' := by
  have hx1 : xs.length ≤ 1048576 := by
    have h1 := ((myB_iff _).1 hp.my).2.1
    rw [nd] at h1
    have h2 := len_nd xs
    omega
  rw [hdM] at he
  split at he
  · cases he
  · split at he
    · split at he
      · cases he; exact hb
      · cases he
    · rw [becR] at he
      cases hq : ptn n [] xs with
      | none => rw [hq] at he; cases he
      | some vs =>
        rw [hq] at he
        have hl := ptn_len xs [] vs hq
        try simp only at he
        cases hi : ivR t vs n with
        | error e => rw [hi] at he; cases he
        | ok u =>
          rw [hi] at he
          try simp only at he
          split at he
          · cases he
          · cases he
            exact okBs_set hb (iv_told ht (by simp at hl; omega) hi).2.1
mutual
theorem okBs_keep {pa ri : List Bool} : ∀ (p t : T) (n : Int) (bs bs' : List BT), HoT p → HoT t → okBs bs → hdT pa ri p t n bs = .ok bs' → okBs bs'
  | .node k h xs, .node k' h' ys, n, bs, bs', hp, ht, hb, he => by
    rw [hdT] at he
    split at he
    · rename_i hk
      subst hk
      exact okBs_meta hp ht hb he
    · split at he
      · exact okBs_keepL k xs.length xs ys 0 n bs bs' (fun x hx => (hp.part x hx).1) (fun x hx => (ht.part x hx).1) hb he
      · cases he
theorem okBs_keepL {pa ri : List Bool} (k : Int) (m : Nat) : ∀ (xs ys : List T) (i : Nat) (n : Int) (bs bs' : List BT), (∀ x ∈ xs, HoT x) → (∀ x ∈ ys, HoT x) → okBs bs → hdL pa ri k m xs ys i n bs = .ok bs' → okBs bs'
  | [], ys, i, n, bs, bs', _, _, hb, he => by rw [hdL] at he; cases he; exact hb
  | x :: xs, [], i, n, bs, bs', _, _, hb, he => by rw [hdL] at he; cases he; exact hb
  | x :: xs, y :: ys, i, n, bs, bs', hp, ht, hb, he => by
    rw [hdL] at he
    try simp only at he
    cases h1 : hdT pa ri x y (n + bd k m i) bs with
    | error e => rw [h1] at he; cases he
    | ok b1 =>
      rw [h1] at he
      exact okBs_keepL k m xs ys (i + 1) n b1 bs' (fun z hz => hp z (List.mem_cons_of_mem _ hz)) (fun z hz => ht z (List.mem_cons_of_mem _ hz)) (okBs_keep x y _ bs b1 (hp x (List.mem_cons_self ..)) (ht y (List.mem_cons_self ..)) hb h1) he
end
/-- what holds at the head of holdArgs' loop -/
structure HaI (pa ri : List Bool) (Bk pm : Nat) (Ap : Option Addr) (np cp : Nat) (Ar : Option Addr) (nr cr : Nat) (N : Nat) (k : Int) (m : Nat) (xs ys : List T) (n : Int) (R : Except Int (List BT)) (w : World) (j : Nat) (bs : List BT) (wr : World) : Prop where
  st : MSt pa ri Bk pm Ap np cp Ar nr cr N bs wr
  ok : okBs bs
  fr : Fr (fun b => b = Bk) w wr
  eq : hdL pa ri k m (xs.drop j) (ys.drop j) j n bs = R
set_option maxRecDepth 100000 in
set_option maxHeartbeats 8000000 in
theorem hArgsC {pa ri : List Bool} {Bk pm : Nat} {Ap : Option Addr} {np cp : Nat} {Ar : Option Addr} {nr cr : Nat} {N : Nat} {wB : World} (k h k' h' : Int) (xs ys : List T) (hF : ∀ x ∈ xs, HoC x) (n : Int) (bs : List BT) (vp vt : Value) (w : World)
    (ha : HoA pa ri Bk pm Ap np cp Ar nr cr N wB) (hb : Below wB.heap.size wB w) (hst : MSt pa ri Bk pm Ap np cp Ar nr cr N bs w) (hp : Rd wB (.node k h xs) vp) (ht : Rd wB (.node k' h' ys) vt) (hP : HoT (.node k h xs)) (hT : HoT (.node k' h' ys)) (hob : okBs bs)
    (hl : xs.length = ys.length) (hn0 : 0 ≤ n) (hn1 : n + dp (.node k h xs) ≤ 4000) :
    Calls Tryz.prog 41 #[.pointer (some ⟨pm, 0, none⟩), vp, vt, .int .i64 n] w (HEn pa ri Bk pm Ap np cp Ar nr cr N w (hdL pa ri k xs.length xs ys 0 n bs)) := by
  obtain ⟨A, m, c, rfl, hk0, hh0, hlx, hc, hcm, hx⟩ := Rd_node.1 hp
  obtain ⟨A2, m2, c2, rfl, hk2, hh2, hly, hc2, hcm2, hy⟩ := Rd_node.1 ht
  obtain rfl : m = m2 := by omega
  clear hk0 hh0 hk2 hh2 hp ht
  obtain ⟨W, hW⟩ : ∃ W, (w.alloc (.cells #[.int .i64 k, .int .i64 h, .slice A m c] 24)).alloc (.cells #[.int .i64 k', .int .i64 h', .slice A2 m c2] 24) = W := ⟨_, rfl⟩
  have hbW : Below w.heap.size w W := by rw [← hW]; exact ((Below.refl _ _).alloc (Nat.le_refl _) _).alloc (by simp) _
  have xP : Box W w.heap.size 24 #[.int .i64 k, .int .i64 h, .slice A m c] := by rw [← hW]; exact (Box.new _ _ _).alloc _
  have xT : Box W (w.heap.size + 1) 24 #[.int .i64 k', .int .i64 h', .slice A2 m c2] := by rw [← hW]; exact (Box.new (w.alloc _) _ _).at (by simp)
  have HWW := Lib.hid hW; clear hW
  have hbk : Bk < w.heap.size := by obtain ⟨cs, hrow, _⟩ := hst.row; exact hrow.lt
  have hcm' := hcm
  unfold maxLen at hcm'
  have HX := Lib.hid hx; clear hx
  have HY := Lib.hid hy; clear hy
  have HLX := Lib.hid hlx
  have HLY := Lib.hid hly
  have HB := Lib.hid hb; clear hb
  have HA := Lib.hid ha; clear ha
  have HF := Lib.hid hF; clear hF
  have HPP := Lib.hid hP; clear hP
  have HTT := Lib.hid hT; clear hT
  have HN1 := Lib.hid hn1; clear hn1
  rw [hlx]
  obtain ⟨R, hR⟩ : ∃ R, hdL pa ri k m xs ys 0 n bs = R := ⟨_, rfl⟩
  rw [hR]
  have hI : HaI pa ri Bk pm Ap np cp Ar nr cr N k m xs ys n R W 0 bs W := ⟨hst.keep hbW, hob, Fr.refl _ _, by rw [List.drop_zero, List.drop_zero]; exact hR⟩
  have HI := Lib.hid hI
  have HBW := Lib.hid hbW
  clear hI hR hst hob hbW hlx hly hl
  have HXP := Lib.hid xP
  have HXT := Lib.hid xT
  clear xP xT
  go_enter Tryz.func41, Tryz.ntmps41
  go_wp2_with fail
  rw [HWW.out]
  clear HWW
  refine wp_scope_once 0 (fun a' w' => ∃ (j : Nat) (bs : List BT) (u10 u11 u12 u13 u14 u15 u16 u17 u18 u19 u20 u21 u22 u23 u24 u25 u26 u27 u28 u29 u30 u31 u32 u33 u34 u35 u36 u37 : Value), a' = { tmps := #[.pointer (some ⟨pm, 0, none⟩), .agg #[.int .i64 k, .int .i64 h, .slice A m c], .agg #[.int .i64 k', .int .i64 h', .slice A2 m c2], .int .i64 n, undef, .pointer (some ⟨w.heap.size, 0, none⟩), .pointer (some ⟨w.heap.size + 1, 0, none⟩), undef, .int .i64 0, .int .i64 (j : Nat), u10, u11, u12, u13, u14, u15, u16, u17, u18, u19, u20, u21, u22, u23, u24, u25, u26, u27, u28, u29, u30, u31, u32, u33, u34, u35, u36, u37], defers := [] } ∧ j ≤ m ∧ Hid (HaI pa ri Bk pm Ap np cp Ar nr cr N k m xs ys n R W j bs w')) (fun a' _ => m - (Go.RowKit.intOf (a'.tmps.getD 9 undef)).toNat) rfl ?_ (fun hrest => ?_)
  · rintro a' wr ⟨j, bs, u10, u11, u12, u13, u14, u15, u16, u17, u18, u19, u20, u21, u22, u23, u24, u25, u26, u27, u28, u29, u30, u31, u32, u33, u34, u35, u36, u37, rfl, hj, HI⟩
    have hBr : Below wB.heap.size wB wr := (HB.out.trans (HBW.out.mono HB.out.size)).trans ((HI.out.fr.to_below (B := wB.heap.size) (fun i e => by rw [e]; exact HA.out.bk) (by have := HB.out.size; have := HBW.out.size; omega)))
    have xP := HXP.out.fr HI.out.fr (by omega)
    have xT := HXT.out.fr HI.out.fr (by omega)
    obtain ⟨a0, a1, a2⟩ := xP.three
    obtain ⟨b0, b1, b2⟩ := xT.three
    by_cases hlt : j < m
    · have e0 : ((j : Int) == (m : Int)) = false := by rw [beq_eq_false_iff_ne]; omega
      obtain ⟨x, hx⟩ := at_of HLX.out hlt
      obtain ⟨y, hy⟩ := at_of HLY.out hlt
      obtain ⟨bb, o, k3, h3, A3, n3, c3, rfl, d0, d1, d2, hrx⟩ := (HX.out j x hx).full
      obtain ⟨bb2, o2, k4, h4, A4, n4, c4, rfl, g0, g1, g2, hry⟩ := (HY.out j y hy).full
      have d0 := (hBr.cell (cell_lt d0)).trans d0
      have d1 := (hBr.cell (cell_lt d1)).trans d1
      have d2 := (hBr.cell (cell_lt d2)).trans d2
      have g0 := (hBr.cell (cell_lt g0)).trans g0
      have g1 := (hBr.cell (cell_lt g1)).trans g1
      have g2 := (hBr.cell (cell_lt g2)).trans g2
      have heq := HI.out.eq
      rw [drop_at hx, drop_at hy, hdL] at heq
      have HEQ := Lib.hid heq; clear heq
      have hxm := List.mem_of_getElem? hx
      have hpx := HPP.out.part x hxm
      have hty := (HTT.out.part y (List.mem_of_getElem? hy)).1
      have hbd : 0 ≤ bd k m j ∧ bd k m j ≤ 1 := by rw [bd_bdn]; have := bdn_le k m j; omega
      obtain ⟨s, hs⟩ : ∃ s, s = n + bd k m j := ⟨_, rfl⟩
      have hsum : IntKind.i64.wrap (n + bd k m j) = s := by have := HN1.out; have := hpx.2; rw [hs, wrapEq, wrap_small (by omega) (by omega)]
      rw [← hs] at HEQ
      have HC := Lib.hid fun W' (h' : Below wr.heap.size wr W') => HF.out x hxm pa ri Bk pm Ap np cp Ar nr cr N wB W' y s bs _ _ HA.out (hBr.trans (h'.mono hBr.size)) (HI.out.st.keep h') hrx hry hpx.1 hty HI.out.ok (by omega) (by have := HN1.out; have := hpx.2; omega)
      have HK := Lib.hid fun bs' => okBs_keep (pa := pa) (ri := ri) x y s bs bs' hpx.1 hty HI.out.ok
      clear hs hrx hry hxm hpx hty hbd
      have HBD := Lib.hid fun W' => boundC k h (some ⟨bb, o, none⟩) m c hc hcm j (by unfold maxLen; omega) W'
      generalize bd k m j = β at *
      generalize hdT pa ri x y s bs = R1 at *
      have hi0 : (0 : Int) ≤ j := by omega
      have hi1 : (j : Int) < m := by omega
      have HBR := Lib.hid hBr; clear hBr
      have HX1 := Lib.hid hx; clear hx
      have HY1 := Lib.hid hy; clear hy
      go_wp2_with fail
      have p0 := Past.cell a0
      have p1 := Past.cell a1
      have p2 := Past.cell a2
      have q0 := Past.cell b0
      have q1 := Past.cell b1
      have q2 := Past.cell b2
      have r0 := Past.cell d0
      have r1 := Past.cell d1
      have r2 := Past.cell d2
      have s0 := Past.cell g0
      have s1 := Past.cell g1
      have s2 := Past.cell g2
      refine wp_region_class_tail (C := fun w' => ∃ z : Past wr, w' = z.wd) 16 (by kernel_rfl) (by kernel_rfl) ⟨⟨wr.drew, (Below.refl _ _).drew⟩, rfl⟩ ?_
      simp only [List.take_succ_cons, List.take_zero, List.drop_succ_cons, List.drop_zero]
      repeat (go_big_quiet_step ((go_at_call 57; exact calls_past (HBD.out _))))
      refine wpQuiet_nil ?_
      rintro _ ⟨z, rfl⟩
      obtain ⟨w5, hb5⟩ := z
      dsimp only
      clear p0 p1 p2 q0 q1 q2 r0 r1 r2 s0 s1 s2 a0 a1 a2 b0 b1 b2 d0 d1 d2 g0 g1 g2
      go_wp2_with fail
      refine (HC.out _ hb5).mono ?_
      intro e w6 hE
      have hfr := HI.out.fr.then hb5
      cases R1 with
      | error ec =>
        obtain ⟨rfl, hne, hf⟩ := hE
        have hne' : (ec != 0) = true := by simpa using hne
        have HFR := Lib.hid ((Fr.below HBW.out).trans (hfr.trans hf fun _ _ e => e) fun _ _ e => e)
        clear hfr hf hb5
        go_wp2_with fail
        simp only [Exit.jump]
        go_ret
        rw [← HEQ.out]
        exact ⟨rfl, hne, HFR.out⟩
      | ok bs1 =>
        obtain ⟨rfl, hst1, hf⟩ := hE
        have hI1 : HaI pa ri Bk pm Ap np cp Ar nr cr N k m xs ys n R W (j + 1) bs1 w6 := ⟨hst1, HK.out bs1 rfl, hfr.trans hf fun _ _ e => e, HEQ.out⟩
        have HI1 := Lib.hid hI1
        clear hI1 hst1 hfr hf hb5
        go_wp2_with fail
        go_step3
        have ej : (j : Int) + 1 = ((j + 1 : Nat) : Int) := by omega
        rw [ej]
        refine ⟨rfl, ⟨j + 1, bs1, _, _, _, _, _, _, _, _, _, _, _, _, _, _, _, _, _, _, _, _, _, _, _, _, _, _, _, _, rfl, by omega, HI1⟩, ?_⟩
        simp [Go.RowKit.intOf]
        omega
    · obtain rfl : j = m := by omega
      have heq := HI.out.eq
      rw [drop_all HLX.out (Nat.le_refl _), hdL] at heq
      have HST := Lib.hid HI.out.st
      have HFR := Lib.hid ((Fr.below (X := fun b => b = Bk) HBW.out).trans HI.out.fr fun _ _ e => e)
      have HEQ := Lib.hid heq; clear heq
      clear hBr
      go_wp2_with fail
      simp only [Exit.jump]
      go_ret
      rw [← HEQ.out]
      exact ⟨rfl, HST.out, HFR.out⟩
  · go_wp2_with fail
    go_step3
    rename_i hk
    exact hk _ _ (hrest _ _ ⟨0, bs, undef, undef, undef, undef, undef, undef, undef, undef, undef, undef, undef, undef, undef, undef, undef, undef, undef, undef, undef, undef, undef, undef, undef, undef, undef, undef, undef, undef, rfl, Nat.zero_le _, HI⟩)

set_option maxRecDepth 100000 in
set_option maxHeartbeats 8000000 in
theorem holdC : ∀ p, HoC p := by
  refine T.ind fun k h xs ih => ?_
  intro pa ri Bk pm Ap np cp Ar nr cr N wB w t n bs vp vt ha hb hst hp ht hP hT hob hn0 hn1
  obtain ⟨k', h', ys⟩ := t
  have hpw := Rd.keep hb _ _ hp
  have htw := Rd.keep hb _ _ ht
  obtain ⟨A, m, c, rfl, hk0, hh0, hlx, hc, hcm, hx⟩ := Rd_node.1 hp
  obtain ⟨A2, m2, c2, rfl, hk2, hh2, hly, hc2, hcm2, hy⟩ := Rd_node.1 ht
  clear hk0 hh0 hk2 hh2 hx hy
  obtain ⟨W, hW⟩ : ∃ W, (w.alloc (.cells #[.int .i64 k, .int .i64 h, .slice A m c] 24)).alloc (.cells #[.int .i64 k', .int .i64 h', .slice A2 m2 c2] 24) = W := ⟨_, rfl⟩
  have hbW : Below w.heap.size w W := by rw [← hW]; exact ((Below.refl _ _).alloc (Nat.le_refl _) _).alloc (by simp) _
  have xP : Box W w.heap.size 24 #[.int .i64 k, .int .i64 h, .slice A m c] := by rw [← hW]; exact (Box.new _ _ _).alloc _
  have xT : Box W (w.heap.size + 1) 24 #[.int .i64 k', .int .i64 h', .slice A2 m2 c2] := by rw [← hW]; exact (Box.new (w.alloc _) _ _).at (by simp)
  have HWW := Lib.hid hW; clear hW
  have hBW := hb.trans (hbW.mono hb.size)
  have HST := Lib.hid (hst.keep hbW); clear hst
  have HPA := Lib.hid (ha.lp.keep hBW)
  have HRI := Lib.hid (ha.lr.keep hBW)
  have HP := Lib.hid (Rd.keep hbW _ _ hpw); clear hpw
  have HT := Lib.hid (Rd.keep hbW _ _ htw); clear htw
  have HIH := Lib.hid ih; clear ih
  have HP0 := Lib.hid hp; clear hp
  have HT0 := Lib.hid ht; clear ht
  have HA := Lib.hid ha; clear ha
  have HOB := Lib.hid hob; clear hob
  have HPP := Lib.hid hP; clear hP
  have HTT := Lib.hid hT; clear hT
  have HLX := Lib.hid hlx; clear hlx
  have HLY := Lib.hid hly; clear hly
  have HB := Lib.hid hb; clear hb
  have HBW := Lib.hid hbW; clear hbW
  have HBB := Lib.hid hBW; clear hBW
  have HN1 := Lib.hid hn1; clear hn1
  obtain ⟨R, hR⟩ : ∃ R, R = hdT pa ri (.node k h xs) (.node k' h' ys) n bs := ⟨_, rfl⟩
  rw [← hR]
  rw [hdT, HLX.out, HLY.out] at hR
  have HR := Lib.hid hR; clear hR
  obtain ⟨a0, a1, a2⟩ := xP.three
  obtain ⟨c0, c1, c2⟩ := xT.three
  by_cases hk : k = 6
  · subst hk
    have HR1 := Lib.hid (HR.out.trans (if_pos rfl)); clear HR
    go_enter Tryz.func25, Tryz.ntmps25
    go_wp2_with fail
    rw [HWW.out]
    clear HWW
    go_wp2_with fail
    refine (hMetaC h xs _ n _ _ W HST.out HPA.out HRI.out HA.out.pN HP.out HT.out HPP.out.my (okT_mono (by omega) _ HPP.out.ok) HTT.out.my HOB.out).mono ?_
    rw [← HR1.out]
    intro e w1 hE
    obtain ⟨ec, rfl, hfr, hE'⟩ := hE.uni
    have HE := Lib.hid ((hE' _ rfl).move (Fr.below HBW.out))
    clear hE hE' hfr
    go_wp2_with fail
    go_ret
    exact HE.out
  · have hd : (k == 6) = false := by simpa using hk
    have HR1 := Lib.hid (HR.out.trans (if_neg hk)); clear HR
    clear hk
    by_cases hkk : k = k'
    · subst hkk
      by_cases hhh : h = h'
      · subst hhh
        by_cases hmm : m = m2
        · subst hmm
          have HR2 := Lib.hid (HR1.out.trans (if_pos ⟨rfl, rfl, rfl⟩)); clear HR1
          go_enter Tryz.func25, Tryz.ntmps25
          go_wp2_with fail
          rw [HWW.out]
          clear HWW
          go_wp2_with fail
          refine (hArgsC k h k h xs ys HIH.out n bs _ _ W HA.out HBB.out HST.out HP0.out HT0.out HPP.out HTT.out HOB.out (by rw [HLX.out, HLY.out]) hn0 HN1.out).mono ?_
          rw [HLX.out, ← HR2.out]
          intro e w1 hE
          obtain ⟨ec, rfl, hfr, hE'⟩ := hE.uni
          have HE := Lib.hid ((hE' _ rfl).move (Fr.below HBW.out))
          clear hE hE' hfr
          go_wp2_with fail
          go_ret
          exact HE.out
        · have e0 : ((m : Int) != (m2 : Int)) = true := by simp; omega
          have HR2 := Lib.hid (HR1.out.trans (if_neg fun e => hmm e.2.2)); clear HR1
          go_enter Tryz.func25, Tryz.ntmps25
          go_wp2_with fail
          rw [HWW.out]
          clear HWW
          go_wp2_with fail
          go_ret
          exact Hen.err HR2.out (by decide) HBW.out
      · have e0 : (h != h') = true := by simpa using hhh
        have HR2 := Lib.hid (HR1.out.trans (if_neg fun e => hhh e.2.1)); clear HR1
        go_enter Tryz.func25, Tryz.ntmps25
        go_wp2_with fail
        rw [HWW.out]
        clear HWW
        go_wp2_with fail
        go_ret
        exact Hen.err HR2.out (by decide) HBW.out
    · have e0 : (k != k') = true := by simpa using hkk
      have HR2 := Lib.hid (HR1.out.trans (if_neg fun e => hkk e.1)); clear HR1
      go_enter Tryz.func25, Tryz.ntmps25
      go_wp2_with fail
      rw [HWW.out]
      clear HWW
      go_wp2_with fail
      go_ret
      exact Hen.err HR2.out (by decide) HBW.out
end Go.Proofs.YtkakfckjmmmjgaaGreat

/-
  Contracts of package match's own and Whole's like. No statement is proved here.
-/
namespace Go.Proofs.YtkakfckjmmmjgaaGreat
open Go.ChangeShapes Go.WideShapes Go.ChangeAt Go.RowKit
set_option linter.unusedVariables false

theorem infoBind : (Tryz.prog.info? 43).map (fun i => (i.zero, i.size, i.bytes)) = some (some (.agg #[.bool false, .int .i64 0, .int .i64 0, .slice none 0 0]), 4, 48) := by kernel_rfl
/-- a row of binds, by their places -/
def BFs (ok : Nat → Prop) (w : World) (cs : Array Value) (n : Nat) (f : Nat → BT) : Prop :=
  ∀ i, i < n → ∃ k h A m c, cs[i * 4]? = some (.bool (f i).1) ∧ cs[i * 4 + 1]? = some (.int .i64 k) ∧ cs[i * 4 + 2]? = some (.int .i64 h) ∧ cs[i * 4 + 3]? = some (.slice A m c) ∧ RdF ok w (f i).2 (.agg #[.int .i64 k, .int .i64 h, .slice A m c])
theorem made4 (a b c d : Value) (n i : Nat) (hi : i < n) : (madeCells #[a, b, c, d] (n * 4))[i * 4]? = some a ∧ (madeCells #[a, b, c, d] (n * 4))[i * 4 + 1]? = some b ∧ (madeCells #[a, b, c, d] (n * 4))[i * 4 + 2]? = some c ∧ (madeCells #[a, b, c, d] (n * 4))[i * 4 + 3]? = some d := by
  have h1 : i * 4 % 4 = 0 := by omega
  have h2 : (i * 4 + 1) % 4 = 1 := by omega
  have h3 : (i * 4 + 2) % 4 = 2 := by omega
  have h4 : (i * 4 + 3) % 4 = 3 := by omega
  refine ⟨?_, ?_, ?_, ?_⟩
  · simp [madeCells, hi]
  · have : i * 4 + 1 < n * 4 := by omega
    simp [madeCells, this, h2]
  · have : i * 4 + 2 < n * 4 := by omega
    simp [madeCells, this, h3]
  · have : i * 4 + 3 < n * 4 := by omega
    simp [madeCells, this, h4]
theorem bfs_made {w : World} {ok : Nat → Prop} (n : Nat) : BFs ok w (madeCells #[.bool false, .int .i64 0, .int .i64 0, .slice none 0 0] (n * 4)) n (fun _ => noB) := fun i hi => by
  obtain ⟨h1, h2, h3, h4⟩ := made4 (.bool false) (.int .i64 0) (.int .i64 0) (.slice none 0 0) n i hi
  exact ⟨0, 0, none, 0, 0, h1, h2, h3, h4, rd_nought⟩
theorem BFs.move {w w' : World} {ok ok' : Nat → Prop} {cs : Array Value} {n : Nat} {f g : Nat → BT} (h : BFs ok w cs n f) (hm : ∀ b, ok b → b < w.heap.size → ok' b ∧ w'.heap[b]? = w.heap[b]?) (hg : ∀ i, i < n → g i = f i) : BFs ok' w' cs n g := fun i hi => by
  obtain ⟨k, h', A, m, c, e0, e1, e2, e3, hr⟩ := h i hi
  rw [hg i hi]
  exact ⟨k, h', A, m, c, e0, e1, e2, e3, RdF.moveX hm _ _ hr⟩
/-- one of a row turns -/
theorem BFs.turn {w w' : World} {ok : Nat → Prop} {cs : Array Value} {N : Nat} {f g : Nat → BT} {j : Nat} {b : Bool} {k h : Int} {A : Option Addr} {n c : Nat} (hk : BFs ok w cs N f) (hm : ∀ b, ok b → b < w.heap.size → w'.heap[b]? = w.heap[b]?)
    (hb : (g j).1 = b) (hr : RdF ok w (g j).2 (.agg #[.int .i64 k, .int .i64 h, .slice A n c])) (hsz : cs.size = N * 4) (hg : ∀ i, i < N → i ≠ j → g i = f i) :
    BFs ok w' ((((cs.setIfInBounds (j * 4) (.bool b)).setIfInBounds (j * 4 + 1) (.int .i64 k)).setIfInBounds (j * 4 + 2) (.int .i64 h)).setIfInBounds (j * 4 + 3) (.slice A n c)) N g := by
  intro i hi
  by_cases hij : i = j
  · subst hij
    refine ⟨k, h, A, n, c, ?_, ?_, ?_, ?_, RdF.move (fun _ h => h) hm _ _ hr⟩
    all_goals simp only [Array.getElem?_setIfInBounds]
    · rw [if_neg (by omega), if_neg (by omega), if_neg (by omega), if_pos trivial, if_pos (by omega), hb]
    · rw [if_neg (by omega), if_neg (by omega), if_pos trivial, if_pos (by simp; omega)]
    · rw [if_neg (by omega), if_pos trivial, if_pos (by simp; omega)]
    · rw [if_pos trivial, if_pos (by simp; omega)]
  · rw [hg i hi hij]
    obtain ⟨k', h', A', n', c', e0, e1, e2, e3, hr'⟩ := hk i hi
    refine ⟨k', h', A', n', c', ?_, ?_, ?_, ?_, RdF.move (fun _ h => h) hm _ _ hr'⟩
    all_goals simp only [Array.getElem?_setIfInBounds]
    · rw [if_neg (by omega), if_neg (by omega), if_neg (by omega), if_neg (by omega)]; exact e0
    · rw [if_neg (by omega), if_neg (by omega), if_neg (by omega), if_neg (by omega)]; exact e1
    · rw [if_neg (by omega), if_neg (by omega), if_neg (by omega), if_neg (by omega)]; exact e2
    · rw [if_neg (by omega), if_neg (by omega), if_neg (by omega), if_neg (by omega)]; exact e3
theorem BFs.list {w : World} {ok : Nat → Prop} {cs : Array Value} {n p : Nat} {ty : TypeId} {bs : List BT} (h : BFs ok w cs n (fun i => bs.getD i noB)) (hb : Box w p ty cs) (hl : bs.length = n) (hn : n ≤ 1000) : BL ok w bs (some ⟨p, 0, none⟩) n n :=
  ⟨hl, Nat.le_refl _, by unfold maxLen; omega, fun i x hx => by
    have hi := (List.getElem?_eq_some_iff.1 hx).1
    obtain ⟨k, h', A, m, c, e0, e1, e2, e3, hr⟩ := h i (by omega)
    simp only [List.getD_eq_getElem?_getD, hx, Option.getD_some] at e0 hr
    refine ⟨p, 0, k, h', A, m, c, rfl, ?_, ?_, ?_, ?_, hr⟩
    · rw [Nat.zero_add, hb.cell]; exact e0
    · rw [Nat.zero_add, hb.cell]; exact e1
    · rw [Nat.zero_add, hb.cell]; exact e2
    · rw [Nat.zero_add, hb.cell]; exact e3⟩
/-- what holds at the head of own's loop -/
structure OwI (bs : List BT) (N : Nat) (w : World) (j : Nat) (wr : World) (cs : Array Value) : Prop where
  row : Box wr w.heap.size 43 cs
  size : cs.size = N * 4
  kids : BFs (fun b => w.heap.size < b) wr cs N (fun i => if i < j then ownB (bs.getD i noB) else noB)
  below : Below w.heap.size w wr

set_option maxRecDepth 100000 in
set_option maxHeartbeats 4000000 in
theorem hOwnC (ok : Nat → Prop) (bs : List BT) (A : Option Addr) (N c : Nat) (w : World) (hx : BL ok w bs A N c) (hN : N ≤ 200) (hw : ∀ x ∈ bs, x.1 = true → nd x.2 ≤ 1048576) :
    Calls Tryz.prog 26 #[.slice A N c] w fun e w' => ∃ p, e = .returned (.slice (some ⟨p, 0, none⟩) N N) ∧ BL (fun b => w.heap.size ≤ b) w' (bs.map ownB) (some ⟨p, 0, none⟩) N N ∧ Below w.heap.size w w' := by
  obtain ⟨i0, hi, hz0, hz1, hz2⟩ := info_parts infoBind
  have hmk : ∀ W : World, (Instr.makeSlice 25 (.int .i64 (N : Int)) (.int .i64 (N : Int))).run Tryz.prog W = .ok (.slice (some ⟨W.heap.size, 0, none⟩) N N) (W.alloc (.cells (madeCells #[.bool false, .int .i64 0, .int .i64 0, .slice none 0 0] (N * 4)) 43)) := by
    intro W
    have := run_make W 25 43 i0 _ Tryz.underlying25 hi hz0 .i64 .i64 (N : Int) (N : Int) (by omega) (Int.le_refl _) (by rw [hz2]; omega) (by omega)
    rw [hz1] at this
    simpa [Value.cells] using this
  clear hi hz0 hz1 hz2
  have hle := hx.le
  have hcap := hx.cap
  unfold maxLen at hcap
  have hlen := hx.len
  have HX := Lib.hid hx; clear hx
  have HW := Lib.hid hw; clear hw
  go_enter Tryz.func26, Tryz.ntmps26
  go_wp2_with fail
  have hcs := size_madeCells #[.bool false, .int .i64 0, .int .i64 0, .slice none 0 0] (N * 4)
  have hk0 : BFs (fun b => w.heap.size < b) (w.alloc (.cells (madeCells #[.bool false, .int .i64 0, .int .i64 0, .slice none 0 0] (N * 4)) 43)) (madeCells #[.bool false, .int .i64 0, .int .i64 0, .slice none 0 0] (N * 4)) N (fun i => if i < 0 then ownB (bs.getD i noB) else noB) :=
    (bfs_made (w := w) (ok := fun b => w.heap.size < b) N).move (fun b hb hl => by omega) (fun i _ => by simp)
  generalize madeCells #[.bool false, .int .i64 0, .int .i64 0, .slice none 0 0] (N * 4) = cs0 at *
  have hI : OwI bs N w 0 (w.alloc (.cells cs0 43)) cs0 := ⟨Box.new w _ cs0, hcs, hk0, (Below.refl _ w).alloc (Nat.le_refl _) _⟩
  have HI := Lib.hid hI; clear hI hcs hmk hk0
  go_loopw [11] (fun i wr => ∃ (j : Nat) (cs : Array Value), j ≤ N ∧ i = .int .i64 j ∧ Hid (OwI bs N w j wr cs)) (fun i _ => N - (Go.RowKit.intOf i).toNat)
  case atStart => exact ⟨0, cs0, Nat.zero_le _, rfl, HI⟩
  case round =>
    clear HI
    obtain ⟨j, cs, hj, rfl, HI⟩ := hrel
    by_cases hlt : j < N
    · obtain ⟨x, hx⟩ := at_of HX.out.len hlt
      obtain ⟨b, o, k2, h2, A2, n2, c2, rfl, d0, d1, d2, d3, hr⟩ := HX.out.at_ j x hx
      have d0 := (HI.out.below.cell (cell_lt d0)).trans d0
      have d1 := (HI.out.below.cell (cell_lt d1)).trans d1
      have d2 := (HI.out.below.cell (cell_lt d2)).trans d2
      have d3 := (HI.out.below.cell (cell_lt d3)).trans d3
      have HR := Lib.hid (Rd.keep HI.out.below _ _ (RdF.rd _ _ hr)); clear hr
      have hgx : bs.getD j noB = x := by rw [List.getD_eq_getElem?_getD, hx]; rfl
      have hwx := HW.out x (List.mem_of_getElem? hx)
      have HG := Lib.hid hgx; clear hgx hx
      obtain ⟨bx, tx⟩ := x
      dsimp only at d0 HR hwx
      have HWX := Lib.hid hwx; clear hwx
      have hi0 : (0 : Int) ≤ j := by omega
      have hi1 : (j : Int) < N := by omega
      have lrow := HI.out.row.lt
      cases bx
      · go_wp2_with fail
        go_roundw
        case rel =>
          have hbA := HI.out.below.alloc HI.out.below.size (.cells #[.bool false, .int .i64 k2, .int .i64 h2, .slice A2 n2 c2] 43)
          refine ⟨j + 1, cs, by omega, by go_num, Lib.hid ⟨HI.out.row.alloc _, HI.out.size, HI.out.kids.move (fun b hb hl => ⟨hb, Below.heap_alloc _ _ _ hl⟩) fun i hi => ?_, hbA⟩⟩
          by_cases h1 : i < j
          · rw [if_pos h1, if_pos (by omega)]
          · rw [if_neg h1]
            by_cases h2 : i = j
            · subst h2
              rw [if_pos (by omega), HG.out]; rfl
            · rw [if_neg (by omega)]
        case measure => simp [Go.RowKit.intOf]; omega
      · have hbA : Below wr.heap.size wr (wr.alloc (.cells #[.bool true, .int .i64 k2, .int .i64 h2, .slice A2 n2 c2] 43)) := (Below.refl _ _).alloc (Nat.le_refl _) _
        have hO := Lib.hid (termOwn tx _ _ (Rd.keep hbA _ _ HR.out) (by have := wd_nd tx; have := HWX.out rfl; omega))
        have row1 := HI.out.row.keep hbA lrow
        have hb1 := HI.out.below.trans (hbA.mono HI.out.below.size)
        have HK := Lib.hid (HI.out.kids.move (ok' := fun b => w.heap.size < b) (fun b hb hl => ⟨hb, hbA.block b hl⟩) fun i _ => rfl)
        have hsz := HI.out.size
        have HBA := Lib.hid hbA; clear hbA
        have sz1 : wr.heap.size < (wr.alloc (.cells #[.bool true, .int .i64 k2, .int .i64 h2, .slice A2 n2 c2] 43)).heap.size := by simp
        go_wp2_with fail
        refine hO.out.mono ?_
        generalize wr.alloc (.cells #[.bool true, .int .i64 k2, .int .i64 h2, .slice A2 n2 c2] 43) = Wa at *
        rintro e w1 ⟨v, rfl, how, hbo⟩
        obtain ⟨k3, h3, A3, n3, c3, rfl⟩ := how.full
        have HO := Lib.hid how.rdF; clear how hO
        have lz : w.heap.size < Wa.heap.size := by omega
        have row2 := row1.keep hbo lz
        have HB2 := Lib.hid (hb1.trans (hbo.mono hb1.size))
        have HK2 := Lib.hid (HK.out.move (ok' := fun b => w.heap.size < b) (fun b hb hl => ⟨hb, hbo.block b hl⟩) fun i _ => rfl)
        have hbo1 := hbo.size
        clear hbo row1 d0 d1 d2 d3
        obtain ⟨u0, hu0⟩ := row2.there (i := j * 4) (by omega)
        obtain ⟨u1, hu1⟩ := row2.there (i := j * 4 + 1) (by omega)
        obtain ⟨u2, hu2⟩ := row2.there (i := j * 4 + 2) (by omega)
        obtain ⟨u3, hu3⟩ := row2.there (i := j * 4 + 3) (by omega)
        have f0 := row2.frozen (j * 4)
        have f1 := row2.frozen (j * 4 + 1)
        have f2 := row2.frozen (j * 4 + 2)
        have f3 := row2.frozen (j * 4 + 3)
        have HRO := Lib.hid row2; clear row2 hb1
        go_wp2_with fail
        go_roundw
        case rel =>
          have hset : ∀ g, g ≠ w.heap.size → ((((w1.setCell ⟨w.heap.size, j * 4, none⟩ (.bool true)).setCell ⟨w.heap.size, j * 4 + 1, none⟩ (.int .i64 k3)).setCell ⟨w.heap.size, j * 4 + 2, none⟩ (.int .i64 h3)).setCell ⟨w.heap.size, j * 4 + 3, none⟩ (.slice A3 n3 c3)).heap[g]? = w1.heap[g]? := fun g hg => by
            rw [Below.heap_setCell _ _ _ _ hg, Below.heap_setCell _ _ _ _ hg, Below.heap_setCell _ _ _ _ hg, Below.heap_setCell _ _ _ _ hg]
          refine ⟨j + 1, _, by omega, by go_num, Lib.hid ⟨(((HRO.out.setAt _ _).setAt _ _).setAt _ _).setAt _ _, by simp [hsz], ?_, ?_⟩⟩
          · refine HK2.out.turn (fun g hg _ => hset g (by omega)) ?_ ?_ hsz fun i hi hij => ?_
            · rw [if_pos (by omega), HG.out]; rfl
            · rw [if_pos (by omega), HG.out]
              exact RdF.moveX (fun b hb hl => ⟨by omega, rfl⟩) _ _ HO.out
            · by_cases h1 : i < j
              · rw [if_pos h1, if_pos (by omega)]
              · rw [if_neg h1, if_neg (by omega)]
          · exact ⟨HB2.out.os, HB2.out.tape, HB2.out.output, by simpa [World.setCell] using HB2.out.size, fun g hg => (hset g (by omega)).trans (HB2.out.block g hg)⟩
        case measure => simp [Go.RowKit.intOf]; omega
    · obtain rfl : j = N := by omega
      have HL := Lib.hid hlen
      go_wp2_with fail
      go_ret
      refine ⟨_, rfl, BFs.list (p := w.heap.size) (HI.out.kids.move (ok' := fun b => w.heap.size ≤ b) (fun b hb hl => ⟨by omega, rfl⟩) fun i hi => ?_) HI.out.row (by rw [List.length_map]; exact HL.out) (by omega), HI.out.below⟩
      rw [if_pos hi, List.getD_eq_getElem?_getD, List.getD_eq_getElem?_getD, List.getElem?_map]
      cases bs[i]? <;> rfl
end Go.Proofs.YtkakfckjmmmjgaaGreat

/-
  Contract of package match's Match. No statement is proved here.
-/
namespace Go.Proofs.YtkakfckjmmmjgaaGreat
open Go.ChangeShapes Go.WideShapes Go.ChangeAt Go.RowKit
set_option linter.unusedVariables false

theorem sizeBind : (Tryz.prog.info? 43).map (·.size) = some 4 := by kernel_rfl
/-- binds are copied -/
theorem run_copy_binds (w : World) (ty : TypeId) (g N c : Nat) (A : Option Addr) (cur : Array Value) (t : TypeId) (cs : List Value) (hg : w.heap[g]? = some (.cells cur t (0, 0))) (hsz : cur.size = N * 4) (hcs : cs.length = N * 4)
    (hsrc : ∀ j v, cs[j]? = some v → ∃ b o, A = some ⟨b, o, none⟩ ∧ w.cell? ⟨b, o + j, none⟩ = some v) (h1 : ∀ v ∈ cs, v.oneCell' = true) :
    (Builtin.copy_ #[25, 25] ty #[.slice (some ⟨g, 0, none⟩) N N, .slice A N c]).run Tryz.prog w = .ok (goInt N) (w.setRow g cs.toArray) := by
  have hu := Tryz.underlying25
  have hs := sizeBind
  have hmin : Nat.min N N = N := Nat.min_self N
  cases hq : Tryz.prog.info? 43 with
  | none => simp [hq] at hs
  | some i =>
    have hi : i.size = 4 := by simpa [hq] using hs
    have hst := run_storeCells_at Tryz.prog g 0 t cs 0 cur w hg (by omega) h1
    have hd : cur.toList.drop (N * 4) = [] := List.drop_of_length_le (by simp; omega)
    cases A with
    | none =>
      have hN : N = 0 := by
        rcases Nat.eq_zero_or_pos N with h | h
        · exact h
        · obtain ⟨v, hv⟩ : ∃ v, cs[0]? = some v := ⟨_, List.getElem?_eq_getElem (by omega)⟩
          obtain ⟨_, _, e, _⟩ := hsrc 0 v hv
          cases e
      subst hN
      have hc0 : cs = [] := List.length_eq_zero_iff.1 (by omega)
      subst hc0
      have hcur : cur = #[] := by simpa using hsz
      subst hcur
      simp [Builtin.copy_, run_underlying hu, Builtin.lenOf, Builtin.firstCells, sizeOf, typeInfo, hq, storeCells, setRow_self w g _ t (0, 0) hg]
    | some a =>
      have hl := run_loadCells_list (P := Tryz.prog) w a cs fun j v hv => by
        obtain ⟨b, o, e, hc⟩ := hsrc j v hv
        cases e
        have : (⟨b, o, none⟩ : Addr).add j = ⟨b, o + j, none⟩ := by unfold Addr.add; split <;> simp_all
        rw [this]; exact hc
      rw [hcs] at hl
      simp [Builtin.copy_, run_underlying hu, Builtin.lenOf, Builtin.firstCells, sizeOf, typeInfo, hq, hi, hmin, hl, hst, hcs, hd]
/-- the cells of binds -/
theorem BL.raw {ok : Nat → Prop} {w : World} {bs : List BT} {A : Option Addr} {N c : Nat} (h : BL ok w bs A N c) : ∃ cs : List Value, cs.length = N * 4 ∧ (∀ j v, cs[j]? = some v → ∃ b o, A = some ⟨b, o, none⟩ ∧ w.cell? ⟨b, o + j, none⟩ = some v) ∧ (∀ v ∈ cs, v.oneCell' = true) ∧ BFs ok w cs.toArray N (fun i => bs.getD i noB) := by
  have key : ∀ (n : Nat), n ≤ N → ∃ cs : List Value, cs.length = n * 4 ∧ (∀ j v, cs[j]? = some v → ∃ b o, A = some ⟨b, o, none⟩ ∧ w.cell? ⟨b, o + j, none⟩ = some v) ∧ (∀ v ∈ cs, v.oneCell' = true) ∧ BFs ok w cs.toArray n (fun i => bs.getD i noB) := by
    intro n
    induction n with
    | zero => intro _; exact ⟨[], rfl, fun j v hv => by simp at hv, fun v hv => absurd hv (by simp), fun i hi => by omega⟩
    | succ n ih =>
      intro hn
      obtain ⟨cs, h1, h2, h3, h4⟩ := ih (by omega)
      obtain ⟨x, hx⟩ := at_of h.len (show n < N by omega)
      obtain ⟨b, o, k, g, A', m, c', rfl, d0, d1, d2, d3, hr⟩ := h.at_ n x hx
      have hgx : bs.getD n noB = x := by rw [List.getD_eq_getElem?_getD, hx]; rfl
      refine ⟨cs ++ [.bool x.1, .int .i64 k, .int .i64 g, .slice A' m c'], by simp; omega, fun j v hv => ?_, fun v hv => ?_, fun i hi => ?_⟩
      · by_cases hj : j < cs.length
        · rw [List.getElem?_append_left hj] at hv
          exact h2 j v hv
        · rw [List.getElem?_append_right (by omega)] at hv
          obtain ⟨r, hr'⟩ : ∃ r, r = j - cs.length := ⟨_, rfl⟩
          rw [← hr'] at hv
          refine ⟨b, o, rfl, ?_⟩
          match r, hv with
          | 0, hv => cases hv; rw [show j = n * 4 by omega]; exact d0
          | 1, hv => cases hv; rw [show j = n * 4 + 1 by omega]; exact d1
          | 2, hv => cases hv; rw [show j = n * 4 + 2 by omega]; exact d2
          | 3, hv => cases hv; rw [show j = n * 4 + 3 by omega]; exact d3
      · rcases List.mem_append.1 hv with hv | hv
        · exact h3 v hv
        · simp only [List.mem_cons, List.not_mem_nil, or_false] at hv
          rcases hv with rfl | rfl | rfl | rfl <;> rfl
      · have hsz : cs.toArray.size = n * 4 := by simpa using h1
        by_cases hin : i < n
        · obtain ⟨k', g', A2, m2, c2, e0, e1, e2, e3, hr'⟩ := h4 i hin
          refine ⟨k', g', A2, m2, c2, ?_, ?_, ?_, ?_, hr'⟩
          all_goals rw [List.getElem?_toArray] at *
          all_goals rw [List.getElem?_append_left (by omega)]
          · exact e0
          · exact e1
          · exact e2
          · exact e3
        · obtain rfl : i = n := by omega
          have hr2 : RdF ok w (bs.getD i noB).2 (.agg #[.int .i64 k, .int .i64 g, .slice A' m c']) := by rw [hgx]; exact hr
          refine ⟨k, g, A', m, c', ?_, ?_, ?_, ?_, hr2⟩
          all_goals rw [List.getElem?_toArray, List.getElem?_append_right (by omega), h1]
          · simp only [hgx, Nat.sub_self]; rfl
          · rw [show i * 4 + 1 - i * 4 = 1 by omega]; rfl
          · rw [show i * 4 + 2 - i * 4 = 2 by omega]; rfl
          · rw [show i * 4 + 3 - i * 4 = 3 by omega]; rfl
  exact key N (Nat.le_refl _)

/-- how Match ends -/
def MtE (R : Except Int (List BT)) (w : World) (e : Ending) (w' : World) : Prop :=
  match R with
  | .error ec => e = .returned (.tuple #[.slice none 0 0, .int .i64 ec]) ∧ ec ≠ 0 ∧ Below w.heap.size w w'
  | .ok bs => ∃ p, e = .returned (.tuple #[.slice (some ⟨p, 0, none⟩) bs.length bs.length, .int .i64 0]) ∧ BL (fun b => w.heap.size ≤ b) w' bs (some ⟨p, 0, none⟩) bs.length bs.length ∧ Below w.heap.size w w'
theorem MtE.bad {R : Except Int (List BT)} {w w' : World} {ec : Int} (h : R = .error ec) (hne : ec ≠ 0) (hb : Below w.heap.size w w') : MtE R w (.returned (.tuple #[.slice none 0 0, .int .i64 ec])) w' := by
  subst h
  exact ⟨rfl, hne, hb⟩
theorem BL.heap {ok : Nat → Prop} {w : World} {bs : List BT} {A : Option Addr} {N c : Nat} (h : BL ok w bs A N c) : BL (fun b => b < w.heap.size) w bs A N c :=
  ⟨h.len, h.le, h.cap, fun i x hx => by
    obtain ⟨b, o, k, g, A', n, c, rfl, c0, c1, c2, c3, hr⟩ := h.at_ i x hx
    exact ⟨b, o, k, g, A', n, c, rfl, c0, c1, c2, c3, RdF.moveX (fun b hb _ => ⟨hb.2, rfl⟩) _ _ (rdF_heap _ _ hr)⟩⟩
theorem mtR_bad {p t : T} {n : Int} {bs : List BT} {pa ri : List Bool} (h : mtA p t n bs pa = false) : mtR p t n bs pa ri = .error 1 := by rw [mtR, if_neg (by rw [h]; exact Bool.false_ne_true)]

set_option maxRecDepth 100000 in
set_option maxHeartbeats 8000000 in
theorem MatchC (p t : T) (n : Int) (bs : List BT) (pa ri : List Bool) (vp vt : Value) (A : Option Addr) (N c : Nat) (Ap : Option Addr) (np cp : Nat) (Ar : Option Addr) (nr cr : Nat) (w : World)
    (hp : Rd w p vp) (ht : Rd w t vt) (hbs : BL (fun _ => True) w bs A N c) (hpa : LB w pa Ap np cp) (hri : LB w ri Ar nr cr) (hop : myB p = true → okT 1099511627776 p) (hot : myB t = true → okT 2199021158400 t) (hob : ∀ x ∈ bs, x.1 = true → myB x.2 = true → okT 2199023255552 x.2) :
    Calls Tryz.prog 8 #[vp, vt, .int .i64 n, .slice A N c, .slice Ap np cp, .slice Ar nr cr] w (MtE (mtR p t n bs pa ri) w) := by
  obtain ⟨k, h, A1, n1, c1, rfl⟩ := hp.full
  obtain ⟨k2, h2, A2, n2, c2, rfl⟩ := ht.full
  have hlen := hbs.len
  have hpl := hpa.len
  obtain ⟨W, hW⟩ : ∃ W, (w.alloc (.cells #[.int .i64 k, .int .i64 h, .slice A1 n1 c1] 24)).alloc (.cells #[.int .i64 k2, .int .i64 h2, .slice A2 n2 c2] 24) = W := ⟨_, rfl⟩
  have hb : Below w.heap.size w W := by rw [← hW]; exact ((Below.refl _ _).alloc (Nat.le_refl _) _).alloc (by simp) _
  have xP : Box W w.heap.size 24 #[.int .i64 k, .int .i64 h, .slice A1 n1 c1] := by rw [← hW]; exact (Box.new _ _ _).alloc _
  have xT : Box W (w.heap.size + 1) 24 #[.int .i64 k2, .int .i64 h2, .slice A2 n2 c2] := by rw [← hW]; exact (Box.new (w.alloc _) _ _).at (by simp)
  have HWW := Lib.hid hW; clear hW
  have HP := Lib.hid hp; clear hp
  have HT := Lib.hid ht; clear ht
  have HBS := Lib.hid hbs.heap; clear hbs
  have HPA := Lib.hid hpa; clear hpa
  have HRI := Lib.hid hri; clear hri
  have HOP := Lib.hid hop; clear hop
  have HOT := Lib.hid hot; clear hot
  have HOB := Lib.hid hob; clear hob
  have HLEN := Lib.hid hlen
  have HPL := Lib.hid hpl
  obtain ⟨R, hR⟩ : ∃ R, R = mtR p t n bs pa ri := ⟨_, rfl⟩
  rw [← hR]
  have HR := Lib.hid hR; clear hR
  by_cases h0 : n < 0
  · have d0 : decide (n < 0) = true := by simpa using h0
    have hbad := Lib.hid (HR.out.trans (mtR_bad (by rw [mtA, decide_eq_false (p := 0 ≤ n) (by omega)]; rfl)))
    clear h0 xP xT HR
    go_enter Tryz.func8, Tryz.ntmps8
    go_wp2_with fail
    go_ret2
    rw [HWW.out]
    exact .bad hbad.out (by decide) hb
  have d0 : decide (n < 0) = false := by simpa using h0
  by_cases h1 : 1000 < n
  · have d1 : decide (1000 < n) = true := by simpa using h1
    have hbad := Lib.hid (HR.out.trans (mtR_bad (by rw [mtA, decide_eq_false (p := n ≤ 1000) (by omega), Bool.and_false]; rfl)))
    clear h0 h1 xP xT HR
    go_enter Tryz.func8, Tryz.ntmps8
    go_wp2_with fail
    go_ret2
    rw [HWW.out]
    exact .bad hbad.out (by decide) hb
  have d1 : decide (1000 < n) = false := by simpa using h1
  by_cases h2 : 200 < N
  · have d2 : decide ((200 : Int) < (N : Int)) = true := by simp; omega
    have hbad := Lib.hid (HR.out.trans (mtR_bad (by rw [mtA, hlen, decide_eq_false (p := N ≤ 200) (by omega), Bool.and_false]; rfl)))
    clear h0 h1 h2 xP xT HR
    go_enter Tryz.func8, Tryz.ntmps8
    go_wp2_with fail
    go_ret2
    rw [HWW.out]
    exact .bad hbad.out (by decide) hb
  have d2 : decide ((200 : Int) < (N : Int)) = false := by simp; omega
  by_cases h3 : N ≠ np
  · have d3 : ((N : Int) != (np : Int)) = true := by simp; omega
    have hbad := Lib.hid (HR.out.trans (mtR_bad (by rw [mtA, hlen, hpl, decide_eq_false (p := N = np) h3, Bool.and_false]; rfl)))
    clear h0 h1 h2 h3 xP xT HR
    go_enter Tryz.func8, Tryz.ntmps8
    go_wp2_with fail
    go_ret2
    rw [HWW.out]
    exact .bad hbad.out (by decide) hb
  obtain rfl : N = np := by omega
  have hA0 : mtA p t n bs pa = (myB p && (myB t && bs.all myA)) := by
    rw [mtA, hlen, hpl, decide_eq_true (p := 0 ≤ n) (by omega), decide_eq_true (p := n ≤ 1000) (by omega), decide_eq_true (p := N ≤ 200) (by omega), decide_eq_true (p := N = N) rfl]; rfl
  have HA0 := Lib.hid hA0; clear hA0 h3 hlen hpl
  have hN200 : N ≤ 200 := by omega
  have hn0 : 0 ≤ n := by omega
  have hn1 : n ≤ 1000 := by omega
  clear h0 h1 h2
  obtain ⟨a0, a1, a2⟩ := xP.three
  go_enter Tryz.func8, Tryz.ntmps8
  go_wp2_with fail
  rw [HWW.out]
  clear HWW
  go_wp2_with fail
  refine (myC p _ W (Rd.keep hb _ _ HP.out)).mono ?_
  have HM1 : Hid (∀ b, myB p = b → mtA p t n bs pa = (b && (myB t && bs.all myA))) := Lib.hid fun b e => by rw [← e]; exact HA0.out
  obtain ⟨m1, hm1⟩ : ∃ m1, myB p = m1 := ⟨_, rfl⟩
  rw [hm1]
  have HM := Lib.hid hm1; clear hm1
  rintro e w1 ⟨rfl, hb1⟩
  replace xP := xP.keep hb1 xP.lt
  replace xT := xT.keep hb1 xT.lt
  replace hb := hb.trans (hb1.mono hb.size)
  clear hb1 a0 a1 a2
  cases m1
  · have hbad := Lib.hid (HR.out.trans (mtR_bad (by rw [HM1.out _ HM.out]; rfl)))
    go_wp2_with fail
    go_ret2
    exact .bad hbad.out (by decide) hb
  obtain ⟨a0, a1, a2⟩ := xT.three
  go_wp2_with fail
  refine (myC t _ w1 (Rd.keep hb _ _ HT.out)).mono ?_
  have HM2 : Hid (∀ b, myB t = b → mtA p t n bs pa = (b && bs.all myA)) := Lib.hid fun b e => by rw [← e, HM1.out _ HM.out]; rfl
  obtain ⟨m1, hm1⟩ : ∃ m1, myB t = m1 := ⟨_, rfl⟩
  rw [hm1]
  have HM' := Lib.hid hm1; clear hm1
  rintro e w2 ⟨rfl, hb1⟩
  replace xP := xP.keep hb1 xP.lt
  replace xT := xT.keep hb1 xT.lt
  replace hb := hb.trans (hb1.mono hb.size)
  clear hb1 a0 a1 a2
  cases m1
  · have hbad := Lib.hid (HR.out.trans (mtR_bad (by rw [HM2.out _ HM'.out]; rfl)))
    go_wp2_with fail
    go_ret2
    exact .bad hbad.out (by decide) hb
  go_wp2_with fail
  refine (hContainsC _ bs A N c w2 (HBS.out.keep hb)).mono ?_
  have HM3 : Hid (∀ b, bs.all myA = b → mtA p t n bs pa = b) := Lib.hid fun b e => by rw [← e, HM2.out _ HM'.out]; rfl
  obtain ⟨m1, hm1⟩ : ∃ m1, bs.all myA = m1 := ⟨_, rfl⟩
  rw [hm1]
  have HM'' := Lib.hid hm1; clear hm1
  rintro e w3 ⟨rfl, hb1⟩
  replace xP := xP.keep hb1 xP.lt
  replace xT := xT.keep hb1 xT.lt
  replace hb := hb.trans (hb1.mono hb.size)
  clear hb1
  cases m1
  · have hbad := Lib.hid (HR.out.trans (mtR_bad (HM3.out _ HM''.out)))
    go_wp2_with fail
    go_ret2
    exact .bad hbad.out (by decide) hb
  have hRR : R = match hdT pa ri p t n bs with
    | .error e => .error e
    | .ok bs' => .ok (bs'.map ownB) := HR.out.trans (by rw [mtR, if_pos (HM3.out _ HM''.out)] <;> cases hdT pa ri p t n bs <;> rfl)
  have HRR := Lib.hid hRR; clear hRR HR HM3 HA0
  have hTP : HoT p := ⟨HM.out, okT_mono (by omega) _ (HOP.out HM.out)⟩
  have hTT : HoT t := ⟨HM'.out, HOT.out HM'.out⟩
  have hobs : okBs bs := fun x hx h1 => by
    have := List.all_eq_true.1 HM''.out x hx
    rw [myA, h1] at this
    have hmy : myB x.2 = true := by simpa using this
    exact ⟨HOB.out x hx h1 hmy, hmy⟩
  have HKP := Lib.hid fun bs' => okBs_keep (pa := pa) (ri := ri) p t n bs bs' hTP hTT hobs
  have hnd := ((myB_iff p).1 HM.out).2.2
  have HTP := Lib.hid hTP; clear hTP
  have HTT := Lib.hid hTT; clear hTT
  have HOS := Lib.hid hobs; clear hobs HM1 HM2
  obtain ⟨i0, hi, hz0, hz1, hz2⟩ := info_parts infoBind
  have hmk : ∀ W : World, (Instr.makeSlice 25 (.int .i64 (N : Int)) (.int .i64 (N : Int))).run Tryz.prog W = .ok (.slice (some ⟨W.heap.size, 0, none⟩) N N) (W.alloc (.cells (madeCells #[.bool false, .int .i64 0, .int .i64 0, .slice none 0 0] (N * 4)) 43)) := by
    intro W
    have := run_make W 25 43 i0 _ Tryz.underlying25 hi hz0 .i64 .i64 (N : Int) (N : Int) (by omega) (Int.le_refl _) (by rw [hz2]; omega) (by omega)
    rw [hz1] at this
    simpa [Value.cells] using this
  clear hi hz0 hz1 hz2
  have hcs := size_madeCells #[.bool false, .int .i64 0, .int .i64 0, .slice none 0 0] (N * 4)
  generalize madeCells #[.bool false, .int .i64 0, .int .i64 0, .slice none 0 0] (N * 4) = cs0 at *
  obtain ⟨W2, hW2⟩ : ∃ W2, (w3.alloc (.cells cs0 43)).alloc (.cells #[.slice (some ⟨w3.heap.size, 0, none⟩) N N, .slice Ap N cp, .slice Ar nr cr] 54) = W2 := ⟨_, rfl⟩
  have hb2 : Below w3.heap.size w3 W2 := by rw [← hW2]; exact ((Below.refl _ _).alloc (Nat.le_refl _) _).alloc (by simp) _
  have xB : Box W2 w3.heap.size 43 cs0 := by rw [← hW2]; exact (Box.new _ _ _).alloc _
  have xM : Box W2 (w3.heap.size + 1) 54 #[.slice (some ⟨w3.heap.size, 0, none⟩) N N, .slice Ap N cp, .slice Ar nr cr] := by rw [← hW2]; exact (Box.new (w3.alloc _) _ _).at (by simp)
  have HW2 := Lib.hid hW2; clear hW2
  have s3 := hb.size
  have lP := xP.lt
  have lT := xT.lt
  have hbX := hb.trans (hb2.mono hb.size)
  obtain ⟨cs, hc1, hc2, hc3, hc4⟩ := (HBS.out.keep hbX).raw
  have hcopy := run_copy_binds W2 3 w3.heap.size N c A cs0 _ cs xB hcs hc1 hc2 hc3
  have hoth : ∀ g, g ≠ w3.heap.size → (W2.setRow w3.heap.size cs.toArray).heap[g]? = W2.heap[g]? := fun g hg => setRow_other W2 _ g _ hg
  have hrow : Box (W2.setRow w3.heap.size cs.toArray) w3.heap.size 43 cs.toArray := setRow_heap W2 w3.heap.size cs0 cs.toArray _ _ xB
  have hsz : (W2.setRow w3.heap.size cs.toArray).heap.size = W2.heap.size := by simp [World.setRow]
  have hB3 : Below w3.heap.size w3 (W2.setRow w3.heap.size cs.toArray) := ⟨hb2.os, hb2.tape, hb2.output, by rw [hsz]; exact hb2.size, fun g hg => (hoth g (by omega)).trans (hb2.block g hg)⟩
  have hst : MSt pa ri w3.heap.size (w3.heap.size + 1) Ap N cp Ar nr cr N bs (W2.setRow w3.heap.size cs.toArray) := ⟨(hoth _ (by omega)).trans xM, ⟨_, hrow, by simpa using hc1, fun i x hx => by
      have hi := (List.getElem?_eq_some_iff.1 hx).1
      obtain ⟨k', h', A', m, c', e0, e1, e2, e3, hr⟩ := hc4 i (by have := HLEN.out; omega)
      simp only [List.getD_eq_getElem?_getD, hx, Option.getD_some] at e0 hr
      exact ⟨k', h', A', m, c', e0, e1, e2, e3, RdF.moveX (fun b hb' hl => ⟨by omega, hoth b (by omega)⟩) _ _ hr⟩⟩, HLEN.out, hN200, by omega⟩
  have HST := Lib.hid hst
  have hcopy' : (Builtin.copy_ #[25, 25] 3 #[.slice (some ⟨w3.heap.size, 0, none⟩) N N, .slice A N c]).run Tryz.prog ((w3.alloc (.cells cs0 43)).alloc (.cells #[.slice (some ⟨w3.heap.size, 0, none⟩) N N, .slice Ap N cp, .slice Ar nr cr] 54)) = .ok (goInt N) (W2.setRow w3.heap.size cs.toArray) := by
    rw [HW2.out]; exact hcopy
  clear hcopy hst hrow hc1 hc2 hc3 hc4 hoth hb2 hbX
  obtain ⟨W3, hW3⟩ : ∃ W3, W2.setRow w3.heap.size cs.toArray = W3 := ⟨_, rfl⟩
  rw [hW3] at hcopy' HST hB3
  clear hW3
  have hb3 := hb.trans (hB3.mono hb.size)
  obtain ⟨a0, a1, a2⟩ := (xP.keep hB3 lP).three
  obtain ⟨c0, c1', c2'⟩ := (xT.keep hB3 lT).three
  have HB3 := Lib.hid hb3
  have HHH := Lib.hid (holdC p pa ri w3.heap.size (w3.heap.size + 1) Ap N cp Ar nr cr N w W3 t n bs _ _ ⟨s3, by omega, HPA.out, HRI.out, HPL.out⟩ hb3 HST.out HP.out HT.out HTP.out HTT.out HOS.out hn0 (by omega))
  clear hb3 hB3 xP xT xB xM lP lT hsz
  go_wp2_with fail
  refine HHH.out.mono ?_
  clear HHH hcopy'
  generalize hdT pa ri p t n bs = Q at *
  intro e w4 hE
  cases Q with
  | error ec =>
    obtain ⟨rfl, hne, hfr⟩ := hE
    have hne' : (ec != 0) = true := by simpa using hne
    have hbad : Hid (R = .error ec) := Lib.hid HRR.out
    have hb4 := HB3.out.trans (hfr.to_below (B := w.heap.size) (fun i e => by rw [e]; exact s3) HB3.out.size)
    clear hfr a0 a1 a2 c0 c1' c2'
    go_wp2_with fail
    go_ret2
    exact .bad hbad.out hne hb4
  | ok bs' =>
    obtain ⟨rfl, hst4, hfr⟩ := hE
    have HOK : Hid (R = .ok (bs'.map ownB)) := Lib.hid HRR.out
    have hb4 := HB3.out.trans (hfr.to_below (B := w.heap.size) (fun i e => by rw [e]; exact s3) HB3.out.size)
    have hok := HKP.out bs' rfl
    have hl4 := hst4.len
    obtain ⟨p0, p1, p2⟩ := hst4.ptr.three
    have HO := Lib.hid (hOwnC _ bs' (some ⟨w3.heap.size, 0, none⟩) N N w4 ⟨hst4.len, Nat.le_refl _, by unfold maxLen; omega, hst4.cells⟩ hN200 (fun x hx h1 => by have := ((myB_iff _).1 (hok x hx h1).2).2.1; omega))
    clear hfr a0 a1 a2 c0 c1' c2' hst4 hok HRR HKP
    go_wp2_with fail
    refine HO.out.mono ?_
    rintro e w5 ⟨q, rfl, hbl, hb5⟩
    have hbb := hb4.trans (hb5.mono hb4.size)
    have hs4 := hb4.size
    have hR : R = .ok (bs'.map ownB) := HOK.out
    have hll : (bs'.map ownB).length = N := by rw [List.length_map]; exact hl4
    have HBL : Hid (BL (fun b => w.heap.size ≤ b) w5 (bs'.map ownB) (some ⟨q, 0, none⟩) N N) := Lib.hid ⟨hbl.len, hbl.le, hbl.cap, fun i x hx => by
      obtain ⟨b, o, k', g, A', m, c', e, e0, e1, e2, e3, hr⟩ := hbl.at_ i x hx
      exact ⟨b, o, k', g, A', m, c', e, e0, e1, e2, e3, RdF.moveX (fun b hb' _ => ⟨by omega, rfl⟩) _ _ hr⟩⟩
    clear hbl hb5 hb4 p0 p1 p2
    go_wp2_with fail
    refine bodyPost_ret (v := .tuple #[.slice (some ⟨q, 0, none⟩) N N, .int .i64 0]) (by simp [results, Tryz.results8, go_sem]) rfl ?_
    rw [HOK.out]
    exact ⟨q, by rw [hll], by rw [hll]; exact HBL.out, hbb⟩
end Go.Proofs.YtkakfckjmmmjgaaGreat

/-
  The chapter's example of layer 7; lists of binds and Booleans that are made. No statement is proved here.
-/
namespace Go.Proofs.YtkakfckjmmmjgaaGreat
open Go.ChangeShapes Go.WideShapes Go.ChangeAt Go.RowKit
set_option linter.unusedVariables false

theorem bl_nil (ok : Nat → Prop) (w : World) : BL ok w [] none 0 0 := ⟨rfl, Nat.le_refl _, Nat.zero_le _, fun i x h => by simp at h⟩
theorem lb_nil (w : World) : LB w [] none 0 0 := ⟨rfl, Nat.le_refl _, Nat.zero_le _, fun i x h => by simp at h⟩
theorem bl_one {ok : Nat → Prop} {w : World} {q : Nat} {ty : TypeId} (h : Box w q ty #[.bool false, .int .i64 0, .int .i64 0, .slice none 0 0]) : BL ok w [noB] (some ⟨q, 0, none⟩) 1 1 :=
  ⟨rfl, Nat.le_refl _, by unfold maxLen; omega, fun i x hx => by
    match i, hx with
    | 0, hx => cases hx; exact ⟨q, 0, 0, 0, none, 0, 0, rfl, h.cell 0, h.cell 1, h.cell 2, h.cell 3, rd_nought⟩⟩
theorem lb_one {w : World} {q : Nat} {ty : TypeId} {b : Bool} (h : Box w q ty #[.bool b]) : LB w [b] (some ⟨q, 0, none⟩) 1 1 :=
  ⟨rfl, Nat.le_refl _, by unfold maxLen; omega, fun i x hx => by
    match i, hx with
    | 0, hx => cases hx; exact ⟨q, 0, rfl, h.cell 0⟩⟩
theorem make_one (W : World) : (Instr.makeSlice 25 (.int .i64 1) (.int .i64 1)).run Tryz.prog W = .ok (.slice (some ⟨W.heap.size, 0, none⟩) 1 1) (W.alloc (.cells #[.bool false, .int .i64 0, .int .i64 0, .slice none 0 0] 43)) := by
  obtain ⟨i0, hi, hz0, hz1, hz2⟩ := info_parts infoBind
  have := run_make W 25 43 i0 _ Tryz.underlying25 hi hz0 .i64 .i64 1 1 (by omega) (Int.le_refl _) (by rw [hz2]; omega) (by omega)
  rw [hz1] at this
  have e : madeCells #[.bool false, .int .i64 0, .int .i64 0, .slice none 0 0] 4 = #[Value.bool false, .int .i64 0, .int .i64 0, .slice none 0 0] := by kernel_rfl
  simpa [Value.cells, e] using this

theorem MtE.below {R : Except Int (List BT)} {w w' : World} {e : Ending} (h : MtE R w e w') : Below w.heap.size w w' := by
  cases R with
  | error ec => exact h.2.2
  | ok bs => obtain ⟨p, _, _, h⟩ := h; exact h
abbrev amP : T := .node 5 1 [.node 6 0 []]
abbrev amQ : T := .node 5 1 [.node 5 2 []]
theorem am_one : mtR amP amQ 0 [noB] [false] [] = .ok [(true, .node 5 2 [])] := by kernel_rfl
theorem am_two : mtR amQ amP 0 [] [] [] = .error 6 := by kernel_rfl
set_option maxRecDepth 100000 in
set_option maxHeartbeats 4000000 in
theorem awakeH (w : World) : Calls Tryz.prog 5 #[] w fun e w' => e = .returned (.bool true) ∧ Below w.heap.size w w' := by
  have hmk := make_one
  go_enter Tryz.func5, Tryz.ntmps5
  go_wp2_with fail
  obtain ⟨W, hW⟩ : ∃ W, (((w.alloc (.cells #[.int .i64 6, .int .i64 0, .slice none 0 0] 24)).alloc (.cells #[.int .i64 5, .int .i64 1, .slice (some ⟨w.heap.size, 0, none⟩) 1 1] 24)).alloc (.cells #[.int .i64 5, .int .i64 2, .slice none 0 0] 24)).alloc (.cells #[.int .i64 5, .int .i64 1, .slice (some ⟨w.heap.size + 1 + 1, 0, none⟩) 1 1] 24) = W := ⟨_, rfl⟩
  rw [hW]
  have hb : Below w.heap.size w W := by rw [← hW]; exact ((((Below.refl _ _).alloc (Nat.le_refl _) _).alloc (by simp) _).alloc (by simp; omega) _).alloc (by simp; omega) _
  have x0 : Box W w.heap.size 24 #[.int .i64 6, .int .i64 0, .slice none 0 0] := by rw [← hW]; exact (((Box.new _ _ _).alloc _).alloc _).alloc _
  have x1 : Box W (w.heap.size + 1) 24 #[.int .i64 5, .int .i64 1, .slice (some ⟨w.heap.size, 0, none⟩) 1 1] := by rw [← hW]; exact (((Box.new (w.alloc _) _ _).at (by simp)).alloc _).alloc _
  have x2 : Box W (w.heap.size + 1 + 1) 24 #[.int .i64 5, .int .i64 2, .slice none 0 0] := by rw [← hW]; exact ((Box.new ((w.alloc _).alloc _) _ _).at (by simp)).alloc _
  have x3 : Box W (w.heap.size + 1 + 1 + 1) 24 #[.int .i64 5, .int .i64 1, .slice (some ⟨w.heap.size + 1 + 1, 0, none⟩) 1 1] := by rw [← hW]; exact (Box.new (((w.alloc _).alloc _).alloc _) _ _).at (by simp)
  clear hW
  have HP : Hid (Rd W amP (.agg #[.int .i64 5, .int .i64 1, .slice (some ⟨w.heap.size, 0, none⟩) 1 1])) := Lib.hid (rd_node1 x0 (rd_leaf (by decide) (by decide)) (by decide) (by decide))
  have HQ : Hid (Rd W amQ (.agg #[.int .i64 5, .int .i64 1, .slice (some ⟨w.heap.size + 1 + 1, 0, none⟩) 1 1])) := Lib.hid (rd_node1 x2 (rd_leaf (by decide) (by decide)) (by decide) (by decide))
  have H1 : Hid (∀ W' q1 q2, Below W.heap.size W W' → Box W' q1 43 #[.bool false, .int .i64 0, .int .i64 0, .slice none 0 0] → Box W' q2 4 #[.bool false] → Calls Tryz.prog 8 #[.agg #[.int .i64 5, .int .i64 1, .slice (some ⟨w.heap.size, 0, none⟩) 1 1], .agg #[.int .i64 5, .int .i64 1, .slice (some ⟨w.heap.size + 1 + 1, 0, none⟩) 1 1], .int .i64 0, .slice (some ⟨q1, 0, none⟩) 1 1, .slice (some ⟨q2, 0, none⟩) 1 1, .slice none 0 0] W' (fun e w' => MtE (.ok [(true, .node 5 2 [])]) W' e w' ∧ Below W.heap.size W w')) := Lib.hid fun W' q1 q2 hb' h1 h2 => by
    rw [← am_one]
    exact (MatchC amP amQ 0 [noB] [false] [] _ _ _ 1 1 _ 1 1 none 0 0 W' (Rd.keep hb' _ _ HP.out) (Rd.keep hb' _ _ HQ.out) (bl_one h1) (lb_one h2) (lb_nil _) (fun _ => by simp [okT, okL]) (fun _ => by simp [okT, okL]) fun x hx h1 => by rw [List.mem_singleton.1 hx] at h1; cases h1).mono fun e w' h => ⟨h, hb'.trans (h.below.mono hb'.size)⟩
  have H2 : Hid (∀ W', Below W.heap.size W W' → Calls Tryz.prog 8 #[.agg #[.int .i64 5, .int .i64 1, .slice (some ⟨w.heap.size + 1 + 1, 0, none⟩) 1 1], .agg #[.int .i64 5, .int .i64 1, .slice (some ⟨w.heap.size, 0, none⟩) 1 1], .int .i64 0, .slice none 0 0, .slice none 0 0, .slice none 0 0] W' (MtE (.error 6) W')) := Lib.hid fun W' hb' => by
    rw [← am_two]
    exact MatchC amQ amP 0 [] [] [] _ _ none 0 0 none 0 0 none 0 0 W' (Rd.keep hb' _ _ HQ.out) (Rd.keep hb' _ _ HP.out) (bl_nil _ _) (lb_nil _) (lb_nil _) (fun _ => by simp [okT, okL]) (fun _ => by simp [okT, okL]) fun x hx h1 => by cases hx
  have HB := Lib.hid hb; clear hb x0 x2
  obtain ⟨a0, a1, a2⟩ := x1.three
  obtain ⟨c0, c1, c2⟩ := x3.three
  have l1 := x1.lt
  have l3 := x3.lt
  have s1 := HB.out.size
  have hcur : Below W.heap.size W W.drew := (Below.refl _ W).drew
  have HK : Hid (∀ w', Below W.heap.size W w' → (fun w' => w'.cell? ⟨w.heap.size + 1, 0, none⟩ = some (.int .i64 5) ∧ w'.cell? ⟨w.heap.size + 1, 1, none⟩ = some (.int .i64 1) ∧ w'.cell? ⟨w.heap.size + 1, 2, none⟩ = some (.slice (some ⟨w.heap.size, 0, none⟩) 1 1) ∧ w'.cell? ⟨w.heap.size + 1 + 1 + 1, 0, none⟩ = some (.int .i64 5) ∧ w'.cell? ⟨w.heap.size + 1 + 1 + 1, 1, none⟩ = some (.int .i64 1) ∧ w'.cell? ⟨w.heap.size + 1 + 1 + 1, 2, none⟩ = some (.slice (some ⟨w.heap.size + 1 + 1, 0, none⟩) 1 1) ∧ w.heap.size + 1 + 1 + 1 < w'.heap.size) w') := Lib.hid fun w' h => ⟨(x1.keep h l1).three.1, (x1.keep h l1).three.2.1, (x1.keep h l1).three.2.2, (x3.keep h l3).three.1, (x3.keep h l3).three.2.1, (x3.keep h l3).three.2.2, (x3.keep h l3).lt⟩
  go_region_held3 (fun w' => w'.cell? ⟨w.heap.size + 1, 0, none⟩ = some (.int .i64 5) ∧ w'.cell? ⟨w.heap.size + 1, 1, none⟩ = some (.int .i64 1) ∧ w'.cell? ⟨w.heap.size + 1, 2, none⟩ = some (.slice (some ⟨w.heap.size, 0, none⟩) 1 1) ∧ w'.cell? ⟨w.heap.size + 1 + 1 + 1, 0, none⟩ = some (.int .i64 5) ∧ w'.cell? ⟨w.heap.size + 1 + 1 + 1, 1, none⟩ = some (.int .i64 1) ∧ w'.cell? ⟨w.heap.size + 1 + 1 + 1, 2, none⟩ = some (.slice (some ⟨w.heap.size + 1 + 1, 0, none⟩) 1 1) ∧ w.heap.size + 1 + 1 + 1 < w'.heap.size)
    (first | exact HK.out _ hcur | exact HK.out _ (hcur.alloc (by simp) _) | exact HK.out _ ((hcur.alloc (by simp) _).alloc (by simp <;> omega) _))
    (first
      | (go_at_call 8
         refine (H1.out _ _ _ (by first | exact ((((Below.refl _ _).alloc (Nat.le_refl _) _).alloc (by simp) _).drew) | exact (((Below.refl _ _).drew.alloc (by simp) _).alloc (by simp) _)) (by first | exact (Box.new _ _ _).alloc _ | exact (Box.new (W.drew.alloc _) _ _).at (by simp) | exact ((Box.new (World.drew _) _ _).at (by simp)).alloc _) (by first | exact (Box.new _ _ _).alloc _ | exact (Box.new (W.drew.alloc _) _ _).at (by simp) | exact ((Box.new (World.drew _) _ _).at (by simp)).alloc _)).mono ?_
         rintro e w1 ⟨⟨p, rfl, hbl, _⟩, hbw⟩
         replace hcur := hbw
         have HBL := Lib.hid (show BL (fun _ => True) w1 [(true, .node 5 2 [])] (some ⟨p, 0, none⟩) 1 1 from ⟨hbl.len, hbl.le, hbl.cap, fun i x hx => (hbl.at_ i x hx).any⟩); clear hbl))
  all_goals (
    obtain ⟨b', o, k, h, A, n, c, e, d0, d1, d2, d3, hr⟩ := HBL.out.at_ 0 _ rfl
    obtain ⟨rfl, rfl⟩ : p = b' ∧ 0 = o := by simpa using e
    obtain ⟨_, _, _, e3, _⟩ := RdF_node.1 hr
    have e2 : h = 2 := by
      simp at e3
      exact e3.2.1
    subst e2
    simp only [Nat.zero_mul, Nat.add_zero, Nat.zero_add] at d0 d2
    have y1 := x1.keep hcur l1
    have y3 := x3.keep hcur l3
    have lp := cell_lt d0
    dsimp only at lp
    have HC2 := Lib.hid (H2.out _ hcur)
    have HBB := Lib.hid (HB.out.trans (hcur.mono HB.out.size))
    clear e hr e3 d1 d3 HBL H1 H2 a0 a1 a2 c0 c1 c2
    obtain ⟨a0, a1, a2⟩ := y1.three
    obtain ⟨c0, c1, c2⟩ := y3.three
    clear HK hcur
    go_wp2_with fail
    refine HC2.out.mono ?_
    rintro e w2 ⟨rfl, _, hb2⟩
    replace d0 := (hb2.cell (cell_lt d0)).trans d0
    replace d2 := (hb2.cell (cell_lt d2)).trans d2
    have hbf := HBB.out.trans (hb2.mono HBB.out.size)
    clear hb2 a0 a1 a2 c0 c1 c2
    go_wp2_with fail
    go_ret
    exact ⟨rfl, hbf⟩)
end Go.Proofs.YtkakfckjmmmjgaaGreat

/-
  What holds of patterns without metas, and of one meta alone. No statement is proved here.
-/
namespace Go.Proofs.YtkakfckjmmmjgaaGreat
open Go.ChangeShapes Go.WideShapes Go.ChangeAt Go.RowKit
set_option linter.unusedVariables false

mutual
/-- what has no metas is held as it is -/
theorem hd_bare (pa ri : List Bool) : ∀ (p t : T) (n : Int) (bs : List BT), mts p = [] → hdT pa ri p t n bs = if samB p t = true then .ok bs else .error 6
  | .node k h xs, .node k' h' ys, n, bs, hm => by
    rw [mts, List.append_eq_nil_iff] at hm
    have hk : k ≠ 6 := fun e => by rw [if_pos e] at hm; cases hm.1
    rw [hdT, if_neg hk, samB]
    by_cases hc : k = k' ∧ h = h' ∧ xs.length = ys.length
    · rw [if_pos hc, hd_bareL pa ri k xs.length xs ys 0 n bs hm.2 hc.2.2]
      obtain ⟨rfl, rfl, hl⟩ := hc
      simp [hl]
    · rw [if_neg hc, if_neg (by
        intro e
        simp only [Bool.and_eq_true, beq_iff_eq] at e
        exact hc ⟨e.1.1.1, e.1.1.2, e.1.2⟩)]
theorem hd_bareL (pa ri : List Bool) (k : Int) (m : Nat) : ∀ (xs ys : List T) (i : Nat) (n : Int) (bs : List BT), mtsL xs = [] → xs.length = ys.length → hdL pa ri k m xs ys i n bs = if samL xs ys = true then .ok bs else .error 6
  | [], [], i, n, bs, _, _ => by simp [hdL, samL]
  | x :: xs, y :: ys, i, n, bs, hm, hl => by
    rw [mtsL, List.append_eq_nil_iff] at hm
    rw [hdL, samL]
    try simp only
    rw [hd_bare pa ri x y _ bs hm.1]
    cases hs : samB x y with
    | false => simp
    | true =>
      simp only [if_true, Bool.true_and]
      exact hd_bareL pa ri k m xs ys (i + 1) n bs hm.2 (by simpa using hl)
end
theorem mt_bare {t o : T} {n : Int} (ht : myB t = true) (ho : myB o = true) (h0 : 0 ≤ n) (h1 : n ≤ 1000) (hm : mts t = []) : mtR t o n [] [] [] = if samB t o = true then .ok [] else .error 6 := by
  have ha : mtA t o n [] [] = true := by rw [mtA, ht, ho, decide_eq_true h0, decide_eq_true h1]; rfl
  rw [mtR, if_pos ha, hd_bare [] [] t o n [] hm]
  cases samB t o <;> rfl
/-- the error that Match tells -/
def mtE : Except Int (List BT) → Int
  | .ok _ => 0
  | .error e => e
theorem MtE.uni {R : Except Int (List BT)} {w w' : World} {e : Ending} (h : MtE R w e w') : (∃ A n c, e = .returned (.tuple #[.slice A n c, .int .i64 (mtE R)])) ∧ Below w.heap.size w w' := by
  cases R with
  | error ec => exact ⟨⟨_, _, _, h.1⟩, h.2.2⟩
  | ok bs => obtain ⟨p, h1, _, h3⟩ := h; exact ⟨⟨_, _, _, h1⟩, h3⟩
/-- one meta alone -/
def oneA (b va : Bool) : Except Int T → Except Int (List BT)
  | .error e => .error (if e = 7 then 6 else e)
  | .ok u => if (b && !va) = true then .error 6 else .ok [(true, u)]
theorem mt_alone {t : T} {n : Int} {ri : List Bool} {b : Bool} (ht : myB t = true) (h0 : 0 ≤ n) (h1 : n ≤ 1000) : mtR (.node 6 0 []) t n [noB] [b] ri = oneA b (vaB ri t) (ivR t [] n) := by
  obtain ⟨k, h, ys⟩ := t
  have ha : mtA (.node 6 0 []) (.node k h ys) n [noB] [b] = true := by
    rw [mtA, ht, decide_eq_true h0, decide_eq_true h1]; rfl
  rw [mtR, if_pos ha, hdT, if_pos rfl, hdM, if_neg (by decide), if_neg (by decide), becR]
  simp only [ptn]
  cases ivR (.node k h ys) [] n with
  | error e => rfl
  | ok u =>
    show (match (if (b && !vaB ri (.node k h ys)) = true then Except.error 6 else Except.ok [(true, u)] : Except Int (List BT)) with
      | .error e => Except.error e
      | .ok bs' => Except.ok (bs'.map ownB)) = oneA b (vaB ri (.node k h ys)) (.ok u)
    rw [oneA]
    cases b && !vaB ri (.node k h ys) <;> rfl
theorem mt_one {t : T} {n : Int} {ri : List Bool} (ht : HoT t) (h0 : 0 ≤ n) (h1 : n ≤ 1000) : ∃ ok : Bool, ∀ b, mtE (mtR (.node 6 0 []) t n [noB] [b] ri) = if (ok && (!b || vaB ri t)) = true then 0 else 6 := by
  have hs : nd t ≤ 1048576 := by have := ((myB_iff t).1 ht.my).2.1; omega
  have hI : ivR t [] n = ivO (rn (igW [] n) t 0) := by
    rw [ivR, if_pos (by rw [mayB_my hs, ht.my, decide_eq_true h0, decide_eq_true h1]; rfl)]
  cases hr : rn (igW [] n) t 0 with
  | none => exact ⟨false, fun b => by rw [mt_alone ht.my h0 h1, hI, hr]; rfl⟩
  | some u =>
    refine ⟨true, fun b => ?_⟩
    rw [mt_alone ht.my h0 h1, hI, hr]
    simp only [ivO, oneA]
    cases b <;> cases vaB ri t <;> rfl
theorem mtO_nil {t : T} : mtO t = [] ↔ mts t = [] := by
  constructor
  · intro h
    refine List.eq_nil_iff_forall_not_mem.2 fun x hx => ?_
    have : x ∈ mtO t := mem_rs.2 hx
    rw [h] at this
    cases this
  · intro h
    refine List.eq_nil_iff_forall_not_mem.2 fun x hx => ?_
    have : x ∈ mts t := mem_rs.1 hx
    rw [h] at this
    cases this
end Go.Proofs.YtkakfckjmmmjgaaGreat

/-
  Contracts of the document's Same of two lists of binds, and of the law's Few. No statement is proved here.
-/
namespace Go.Proofs.YtkakfckjmmmjgaaGreat
open Go.ChangeShapes Go.WideShapes Go.ChangeAt Go.RowKit
set_option linter.unusedVariables false

def sameL : List BT → List BT → Bool
  | x :: xs, y :: ys => !(x.1 != y.1 || x.1 && !samB x.2 y.2) && sameL xs ys
  | _, _ => true
/-- are two lists of binds the same, where something is told -/
def sameB (a b : List BT) : Bool := decide (a.length = b.length) && sameL a b
set_option maxHeartbeats 4000000 in
theorem refSbC (ok ok' : Nat → Prop) (a b : List BT) (A : Option Addr) (n c : Nat) (A' : Option Addr) (n' c' : Nat) (w : World) (ha : BL ok w a A n c) (hb' : BL ok' w b A' n' c') :
    Calls Tryz.prog 10 #[.slice A n c, .slice A' n' c'] w fun e w' => e = .returned (.bool (sameB a b)) ∧ Below w.heap.size w w' := by
  have hm := ha.cap
  have hc := ha.le
  have hm' := hb'.cap
  have hc' := hb'.le
  unfold maxLen at hm hm'
  have hla := ha.len
  have hlb := hb'.len
  have HX := Lib.hid ha; clear ha
  have HY := Lib.hid hb'; clear hb'
  by_cases hn : n = n'
  · subst hn
    have hs : sameB a b = sameL a b := by rw [sameB, hla, hlb, decide_eq_true rfl]; rfl
    rw [hs]
    clear hs hla hlb
    go_enter Tryz.func10, Tryz.ntmps10
    go_wp2_with fail
    go_loopw [5] (fun i wr => ∃ (j : Nat), j ≤ n ∧ i = .int .i64 j ∧ Hid (sameL (a.drop j) (b.drop j) = sameL a b) ∧ Below w.heap.size w wr) (fun i _ => n - (Go.RowKit.intOf i).toNat)
    case atStart => exact ⟨0, Nat.zero_le _, rfl, Lib.hid (by simp), Below.refl _ _⟩
    case round =>
      obtain ⟨j, hj, rfl, HS, hb⟩ := hrel
      by_cases hlt : j < n
      · obtain ⟨x, hx⟩ := at_of HX.out.len hlt
        obtain ⟨y, hy⟩ := at_of HY.out.len hlt
        obtain ⟨b1, o1, k1, h1, A1, n1, c1, rfl, c0, c1', c2, c3, hr1⟩ := (HX.out.at_ j x hx).keep hb
        obtain ⟨b2, o2, k2, h2, A2, n2, c2', rfl, d0, d1, d2, d3, hr2⟩ := (HY.out.at_ j y hy).keep hb
        have HS' := HS.out
        rw [drop_at hx, drop_at hy, sameL] at HS'
        have HS1 := Lib.hid HS'; clear HS' hx hy HS
        have hi0 : (0 : Int) ≤ j := by omega
        have hi1 : (j : Int) < n := by omega
        have HC := Lib.hid fun W' (h : Below wr.heap.size wr W') => refSame x.2 y.2 _ _ W' (Rd.keep h _ _ (RdF.rd _ _ hr1)) (Rd.keep h _ _ (RdF.rd _ _ hr2))
        clear hr1 hr2
        obtain ⟨x1, x2⟩ := x
        obtain ⟨y1, y2⟩ := y
        dsimp only at c0 d0 HS1 HC
        generalize samB x2 y2 = r at *
        go_wp2_with fail
        have p0 := Past.cell c0
        have p1 := Past.cell c1'
        have p2 := Past.cell c2
        have p3 := Past.cell c3
        have q0 := Past.cell d0
        have q1 := Past.cell d1
        have q2 := Past.cell d2
        have q3 := Past.cell d3
        refine wp_region_past (by kernel_rfl) (by kernel_rfl) ?_
        repeat (go_big_quiet_step ((exact calls_past (HC.out _ (Past.h _)))))
        refine wpQuiet_nil ?_
        rintro _ ⟨z1, rfl⟩
        obtain ⟨w1, hb1⟩ := z1
        dsimp only
        clear p0 p1 p2 p3 q0 q1 q2 q3 HC
        have c0 := (hb1.cell (cell_lt c0)).trans c0
        have d0 := (hb1.cell (cell_lt d0)).trans d0
        replace hb := hb.trans (hb1.mono hb.size)
        clear hb1 c1' c2 c3 d1 d2 d3
        have p0 := Past.cell c0
        have q0 := Past.cell d0
        go_wp2_with fail
        cases x1 <;> cases y1 <;> cases r
        all_goals
          refine wp_region_past (by kernel_rfl) (by kernel_rfl) ?_
          repeat (go_big_quiet_step (fail))
          refine wpQuiet_nil ?_
          rintro _ ⟨z1, rfl⟩
          obtain ⟨w2, hb1⟩ := z1
          dsimp only
          clear p0 q0
          replace hb := hb.trans (hb1.mono hb.size)
          clear hb1 c0 d0
          go_wp2_with fail
          first
            | (go_roundw
               case rel => exact ⟨j + 1, by omega, by go_num, Lib.hid (by simpa using HS1.out), hb⟩
               case measure => simp [Go.RowKit.intOf]; omega)
            | (go_ret
               exact ⟨ret_bool (by rw [← HS1.out]; rfl), hb⟩)
      · go_wp2_with fail
        go_ret
        exact ⟨ret_bool (by rw [← HS.out, drop_all HX.out.len (by omega)]; rfl), hb⟩
  · have hs : sameB a b = false := by rw [sameB, hla, hlb, decide_eq_false hn]; rfl
    have e0 : ((n : Int) != (n' : Int)) = true := by simp; omega
    rw [hs]
    clear hs hla hlb
    go_enter Tryz.func10, Tryz.ntmps10
    go_wp2_with fail
    go_ret
    exact ⟨rfl, Below.refl _ _⟩

/-- few binds, each light -/
def fwB (bs : List BT) (n : Nat) : Bool := decide (n ≤ 60) && bs.all fun x => ltB x.2 2000 80
set_option maxHeartbeats 4000000 in
theorem hFewC (ok : Nat → Prop) (bs : List BT) (A : Option Addr) (n c : Nat) (w : World) (hx : BL ok w bs A n c) :
    Calls Tryz.prog 7 #[.slice A n c] w fun e w' => e = .returned (.bool (fwB bs n)) ∧ Below w.heap.size w w' := by
  have hm := hx.cap
  have hc := hx.le
  unfold maxLen at hm
  have HX := Lib.hid hx; clear hx
  by_cases hgt : 60 < n
  · have d1 : decide ((60 : Int) < (n : Int)) = true := by simp; omega
    have d2 : decide (60 < n) = true := by simpa using hgt
    have hs : fwB bs n = false := by rw [fwB, decide_eq_false (by omega)]; rfl
    rw [hs]
    clear hs hgt
    go_enter Tryz.func7, Tryz.ntmps7
    go_wp2_with fail
    go_ret
    exact ⟨rfl, Below.refl _ _⟩
  · have d1 : decide ((60 : Int) < (n : Int)) = false := by simp; omega
    have d2 : decide (60 < n) = false := by simpa using hgt
    have hs : fwB bs n = bs.all fun x => ltB x.2 2000 80 := by rw [fwB, decide_eq_true (by omega)]; rfl
    rw [hs]
    clear hs
    go_enter Tryz.func7, Tryz.ntmps7
    go_wp2_with fail
    go_loopw [3] (fun i wr => ∃ (j : Nat), j ≤ n ∧ i = .int .i64 j ∧ Hid (((bs.drop j).all fun x => ltB x.2 2000 80) = bs.all fun x => ltB x.2 2000 80) ∧ Below w.heap.size w wr) (fun i _ => n - (Go.RowKit.intOf i).toNat)
    case atStart => exact ⟨0, Nat.zero_le _, rfl, Lib.hid (by simp), Below.refl _ _⟩
    case round =>
      obtain ⟨j, hj, rfl, HS, hb⟩ := hrel
      by_cases hlt : j < n
      · obtain ⟨x, hx⟩ := at_of HX.out.len hlt
        obtain ⟨b1, o1, k1, h1, A1, n1, c1, rfl, c0, c1', c2, c3, hr1⟩ := (HX.out.at_ j x hx).keep hb
        have HS' := HS.out
        rw [drop_at hx, List.all_cons] at HS'
        have HS1 := Lib.hid HS'; clear HS' hx HS
        have hi0 : (0 : Int) ≤ j := by omega
        have hi1 : (j : Int) < n := by omega
        have HC := Lib.hid (refLight x.2 2000 80 _ wr (RdF.rd _ _ hr1))
        clear hr1
        generalize ltB x.2 2000 80 = r at *
        generalize x.1 = x1 at *
        go_wp2_with fail
        refine HC.out.mono ?_
        rintro e w1 ⟨rfl, hb1⟩
        replace hb := hb.trans (hb1.mono hb.size)
        clear hb1 c0 c1' c2 c3 HC
        cases r
        · go_wp2_with fail
          go_ret
          exact ⟨ret_bool (by rw [← HS1.out]; rfl), hb⟩
        · go_wp2_with fail
          go_roundw
          case rel => exact ⟨j + 1, by omega, by go_num, Lib.hid (by simpa using HS1.out), hb⟩
          case measure => simp [Go.RowKit.intOf]; omega
      · go_wp2_with fail
        go_ret
        exact ⟨ret_bool (by rw [← HS.out, drop_all HX.out.len (by omega)]; rfl), hb⟩
end Go.Proofs.YtkakfckjmmmjgaaGreat

/-
  A list of binds that is copied by append; what was something stays so. No statement is proved here.
-/
namespace Go.Proofs.YtkakfckjmmmjgaaGreat
open Go.ChangeShapes Go.WideShapes Go.ChangeAt Go.RowKit
set_option linter.unusedVariables false

/-- 'append([]api.Bind(nil), bs...)' -/
theorem wpList_copy_binds {ok : Nat → Prop} {w : World} {bs : List BT} {A : Option Addr} {n c : Nat} {ops : Array Oper} {rest : List Oper} {o : Oper} {a : Act} {Q : Exit → Act → World → Prop} (hbl : BL ok w bs A n c) (h0 : A = none → c = 0) (hn : n ≤ 1000) (hgd : o.guard = none) (s x : Operand)
    (ho : o.op = .call { callee := .builtin .append, args := #[s, x], argTypes := #[25, 25] }) (hs : a.eval s = .slice none 0 0) (hx : a.eval x = .slice A n c)
    (h : ∀ A' c' w', BL (fun b => b < w.heap.size) w' bs A' n c' → Below w.heap.size w w' → wpList Tryz.prog ops Q rest (a.put o.dst (.slice A' n c')) w') : wpList Tryz.prog ops Q (o :: rest) a w := by
  obtain ⟨i0, hi, hz0, hz1, hz2⟩ := info_parts infoBind
  obtain ⟨cs, h1, h2, h3, h4⟩ := hbl.heap.raw
  cases A with
  | none =>
    have hn0 : n = 0 := by
      rcases Nat.eq_zero_or_pos n with h | h
      · exact h
      · obtain ⟨v, hv⟩ : ∃ v, cs[0]? = some v := ⟨_, List.getElem?_eq_getElem (by omega)⟩
        obtain ⟨_, _, e, _⟩ := h2 0 v hv
        cases e
    subst hn0
    obtain rfl := h0 rfl
    exact wpList_append_own_none hgd s x 25 ho w.heap.size 43 i0 4 Tryz.underlying25 hi (.slice none 0 0) 0 [] hs (World.ownsRow_nil _ _ _ _) hx (h none 0 w ⟨hbl.len, Nat.le_refl _, Nat.zero_le _, fun i x hx => by have := (List.getElem?_eq_some_iff.1 hx).1; have := hbl.len; omega⟩ (Below.refl _ _))
  | some ad =>
    refine wpList_append_own _ hgd s x 25 ho w.heap.size 43 i0 _ 4 48 Tryz.underlying25 hi hz0 hz1 hz2 rfl (by omega) (.slice none 0 0) 0 [] hs (World.ownsRow_nil _ _ _ _) ad n c cs hx h1 (fun j u hu => ?_) h3 (by simp only [maxLen]; omega) (by omega) (Nat.le_refl _) ?_
    · obtain ⟨b, o, e, hc⟩ := h2 j u hu
      cases e
      have : (⟨b, o, none⟩ : Addr).add j = ⟨b, o + j, none⟩ := by unfold Addr.add; split <;> simp_all
      rw [this]; exact hc
    · intro v' w' hown hg _
      rw [Nat.zero_add, List.nil_append] at hown
      have hb : Below w.heap.size w w' := (Below.refl _ w).grown hg (Nat.le_refl _) (by simp [Value.ownBlock])
      rcases hown.2 with ⟨rfl, hn0⟩ | ⟨g, cap, cur, rfl, hbg, hcell, hle, hcm, hcs, htk⟩
      · subst hn0
        exact h none 0 w' ⟨hbl.len, Nat.le_refl _, Nat.zero_le _, fun i x hx => by have := (List.getElem?_eq_some_iff.1 hx).1; have := hbl.len; omega⟩ hb
      · refine h _ cap w' ⟨hbl.len, hle, hcm, fun i y hy => ?_⟩ hb
        have hi' : i < n := by have := (List.getElem?_eq_some_iff.1 hy).1; have := hbl.len; omega
        obtain ⟨k, g', A', m, c', e0, e1, e2, e3, hr⟩ := h4 i hi'
        simp only [List.getD_eq_getElem?_getD, hy, Option.getD_some] at e0 hr
        have key : ∀ q u, q < n * 4 → cs.toArray[q]? = some u → w'.cell? ⟨g, 0 + q, none⟩ = some u := fun q u hq hu => by
          have hbx : Box w' g 43 cur := hcell
          rw [Nat.zero_add, hbx.cell]
          rw [List.getElem?_toArray, ← htk, List.getElem?_take_of_lt hq] at hu
          rw [← Array.getElem?_toList]; exact hu
        refine ⟨g, 0, k, g', A', m, c', rfl, key _ _ (by omega) e0, ?_, ?_, ?_, RdF.moveX (fun b hb' hl => ⟨hl, hb.block b hl⟩) _ _ hr⟩
        · exact key (i * 4 + 1) _ (by omega) e1
        · exact key (i * 4 + 2) _ (by omega) e2
        · exact key (i * 4 + 3) _ (by omega) e3

theorem sameL_refl : ∀ a : List BT, sameL a a = true
  | [] => rfl
  | x :: xs => by rw [sameL, sam_refl, sameL_refl xs]; simp
theorem same_refl (a : List BT) : sameB a a = true := by rw [sameB, sameL_refl]; simp
/-- what was something stays so -/
abbrev KpB (bs bs' : List BT) : Prop := bs'.length = bs.length ∧ ∀ (i : Nat) (x : BT), bs[i]? = some x → x.1 = true → bs'[i]? = some x
theorem KpB.refl (bs : List BT) : KpB bs bs := ⟨rfl, fun _ _ h _ => h⟩
theorem KpB.trans {a b c : List BT} (h : KpB a b) (k : KpB b c) : KpB a c := ⟨k.1.trans h.1, fun i x hx h1 => k.2 i x (h.2 i x hx h1) h1⟩
theorem keep_meta {pa ri : List Bool} {h : Int} {xs : List T} {t : T} {n : Int} {bs bs' : List BT} (he : hdM pa ri bs h xs t n = .ok bs') : KpB bs bs' := by
  rw [hdM] at he
  split at he
  · cases he
  · split at he
    · split at he
      · cases he; exact KpB.refl _
      · cases he
    · rename_i hlt hno
      rw [becR] at he
      cases hq : ptn n [] xs with
      | none => rw [hq] at he; cases he
      | some vs =>
        rw [hq] at he
        try simp only at he
        cases hi : ivR t vs n with
        | error e => rw [hi] at he; cases he
        | ok u =>
          rw [hi] at he
          try simp only at he
          split at he
          · cases he
          · cases he
            refine ⟨List.length_set, fun i x hx h1 => ?_⟩
            have hne : h.toNat ≠ i := fun e => by
              rw [e, List.getD_eq_getElem?_getD, hx, Option.getD_some] at hno
              exact hno h1
            rw [List.getElem?_set_ne hne, hx]
mutual
theorem hd_keep {pa ri : List Bool} : ∀ (p t : T) (n : Int) (bs bs' : List BT), hdT pa ri p t n bs = .ok bs' → KpB bs bs'
  | .node k h xs, .node k' h' ys, n, bs, bs', he => by
    rw [hdT] at he
    split at he
    · exact keep_meta he
    · split at he
      · exact hd_keepL k xs.length xs ys 0 n bs bs' he
      · cases he
theorem hd_keepL {pa ri : List Bool} (k : Int) (m : Nat) : ∀ (xs ys : List T) (i : Nat) (n : Int) (bs bs' : List BT), hdL pa ri k m xs ys i n bs = .ok bs' → KpB bs bs'
  | [], ys, i, n, bs, bs', he => by rw [hdL] at he; cases he; exact KpB.refl _
  | x :: xs, [], i, n, bs, bs', he => by rw [hdL] at he; cases he; exact KpB.refl _
  | x :: xs, y :: ys, i, n, bs, bs', he => by
    rw [hdL] at he
    try simp only at he
    cases h1 : hdT pa ri x y (n + bd k m i) bs with
    | error e => rw [h1] at he; cases he
    | ok b1 =>
      rw [h1] at he
      exact (hd_keep x y _ bs b1 h1).trans (hd_keepL k m xs ys (i + 1) n b1 bs' he)
end
theorem mt_keep {p t : T} {n : Int} {bs bs' : List BT} {pa ri : List Bool} (h : mtR p t n bs pa ri = .ok bs') : KpB bs bs' := by
  rw [mtR] at h
  split at h
  · cases hd : hdT pa ri p t n bs with
    | error e => rw [hd] at h; cases h
    | ok b1 =>
      rw [hd] at h
      cases h
      have hk := hd_keep p t n bs b1 hd
      exact ⟨(List.length_map _).trans hk.1, fun i x hx h1 => by rw [List.getElem?_map, hk.2 i x hx h1, Option.map_some, ownB, if_pos h1]⟩
  · cases h
theorem fw_low {bs : List BT} {n : Nat} (h : fwB bs n = true) : n ≤ 60 ∧ ∀ x ∈ bs, lowB x.2 = true := by
  rw [fwB, Bool.and_eq_true, decide_eq_true_eq] at h
  refine ⟨h.1, fun x hx => ?_⟩
  have := List.all_eq_true.1 h.2 x hx
  rw [ltB] at this
  simp only [Bool.and_eq_true] at this
  exact this.1.1
theorem lt_low {t : T} {s d : Int} (h : ltB t s d = true) : lowB t = true := by
  rw [ltB] at h
  simp only [Bool.and_eq_true] at h
  exact h.1.1
end Go.Proofs.YtkakfckjmmmjgaaGreat

/-
  Arguments' readings that are lists of binds, and of Booleans. No statement is proved here.
-/
namespace Go.Proofs.YtkakfckjmmmjgaaGreat
open Go.ChangeShapes Go.WideShapes Go.ChangeAt Go.RowKit Go.Deep
set_option linter.unusedVariables false
set_option maxRecDepth 100000
section
variable {H : Type} {enc : TypeId × Value → H} {w : World} {base : Nat} {spare : Nat → Bool} {held : Bool}

theorem Tryz.cellsBind : Tryz.prog.cellsOf 43 = 4 := by kernel_rfl
theorem Tryz.cellsBool : Tryz.prog.cellsOf 4 = 1 := by kernel_rfl
theorem trod_bind {fuel : Nat} {cs : List Value} {x : DataW H × List MemPlace} (hx : DataW.trod enc Tryz.prog w base spare held fuel 43 cs = some x) :
    ∃ (y : BT) (v1 v2 v3 : Value), cs = [.bool y.1, v1, v2, v3] ∧ Rd w y.2 (.agg #[v1, v2, v3]) := by
  obtain ⟨ys, n, rfl, hxe, hl, hyl, hf⟩ := DataW.trod_struct Tryz.underlying43 hx
  rw [Tryz.cellsBind] at hl
  match cs, hl with
  | [v0, v1, v2, v3], _ =>
    match ys, hyl with
    | [y0, y1], _ =>
      have h0 : DataW.trod enc Tryz.prog w base spare held n 4 (([v0, v1, v2, v3].drop 0).take (Tryz.prog.cellsOf 4)) = some y0 := hf 0 _ rfl
      have h1 : DataW.trod enc Tryz.prog w base spare held n 24 (([v0, v1, v2, v3].drop 1).take (Tryz.prog.cellsOf 24)) = some y1 := hf 1 _ rfl
      simp only [Tryz.cellsBool, Tryz.cellsTerm, List.drop_zero, List.drop_succ_cons, List.take_succ_cons, List.take_zero] at h0 h1
      obtain ⟨b, e0, _⟩ := DataW.trod_bool Tryz.underlying4 h0
      simp only [List.cons.injEq, and_true] at e0
      subst e0
      obtain ⟨t, u0, u1, u2, e, hr, _, _⟩ := trod_term n _ _ h1
      simp only [List.cons.injEq, and_true] at e
      obtain ⟨rfl, rfl, rfl⟩ := e
      exact ⟨(b, t), _, _, _, rfl, hr⟩
theorem spot_of {a : Addr} {i : Nat} {v v0 : Value} (c0 : w.cell? (a.add i) = some v) (c00 : w.cell? (a.add 0) = some v0) : a.spot = none := by
  have := cell_spot c0
  unfold Addr.add at this
  split at this
  · exact this
  · have := cell_spot c00
    simpa [Addr.add] using this
theorem open_binds {r : Reach} {b0 : Nat} {v : Value} {d : DataW H} {p : List MemPlace} (hv : Value.okWide Tryz.prog w r b0 25 v) (h : DataW.Trod enc Tryz.prog w base spare held 25 v d p) :
    ∃ (xs : List BT) (A : Option Addr) (n c : Nat), v = .slice A n c ∧ BL (fun _ => True) w xs A n c ∧ (A = none → c = 0) := by
  obtain ⟨fuel, hf⟩ := h
  obtain ⟨a0, l0, c0, rfl⟩ := okWide_slice Tryz.underlying25 hv
  rcases DataW.trod_slice Tryz.underlying25 hf with ⟨e2, hy2⟩ | ⟨a, len, cap, elems, rest, m, rfl, e2, hy2, hb, hlc, hm, hel, hat, _, _⟩
  · simp only [Value.cells, List.cons.injEq, and_true] at e2
    exact ⟨[], none, 0, 0, e2, ⟨rfl, Nat.le_refl _, Nat.zero_le _, fun i t ht => by simp at ht⟩, fun _ => rfl⟩
  · simp only [Value.cells, List.cons.injEq, and_true] at e2
    rw [e2]
    have first : ∀ i, i < len → ∃ y : BT, ∃ v1 v2 v3, w.cell? (a.add (i * 4 + 0)) = some (.bool y.1) ∧ w.cell? (a.add (i * 4 + 1)) = some v1 ∧ w.cell? (a.add (i * 4 + 2)) = some v2 ∧ w.cell? (a.add (i * 4 + 3)) = some v3 ∧ Rd w y.2 (.agg #[v1, v2, v3]) := by
      intro i hi
      have hi' := hat i hi
      rw [List.getElem?_eq_getElem (by omega), Option.bind_eq_some_iff] at hi'
      obtain ⟨cs', hcs, htr⟩ := hi'
      obtain ⟨y, u1, u2, u3, rfl, hr⟩ := trod_bind htr
      rw [Tryz.cellsBind] at hcs
      obtain ⟨_, _, hcell⟩ := World.cells?_some hcs
      have c0 := hcell 0 (by omega)
      have c1 := hcell 1 (by omega)
      have c2 := hcell 2 (by omega)
      have c3 := hcell 3 (by omega)
      simp only [List.getElem?_cons_zero, List.getElem?_cons_succ, add_add] at c0 c1 c2 c3
      exact ⟨y, u1, u2, u3, c0, c1, c2, c3, hr⟩
    have each : ∀ i, i < len → ∃ y : BT, BAt (fun _ => True) w (some a) i y := by
      intro i hi
      obtain ⟨y, v1, v2, v3, c0, c1, c2, c3, hr⟩ := first i hi
      obtain ⟨y', _, _, _, c00, _⟩ := first 0 (by omega)
      have hs := spot_of c0 (by simpa using c00)
      obtain ⟨b, o, s⟩ := a
      dsimp only at hs
      subst hs
      rw [addr_add] at c0 c1 c2 c3
      obtain ⟨k, h, A, n, c, e⟩ := hr.full
      simp only [Value.agg.injEq, Array.mk.injEq, List.cons.injEq, and_true] at e
      obtain ⟨rfl, rfl, rfl⟩ := e
      exact ⟨y, b, o, k, h, A, n, c, rfl, c0, by rw [Nat.add_assoc]; exact c1, by rw [Nat.add_assoc]; exact c2, by rw [Nat.add_assoc]; exact c3, rdF_any _ _ hr⟩
    obtain ⟨xs, hxl, hxs⟩ : ∃ xs : List BT, xs.length = len ∧ ∀ i y, xs[i]? = some y → BAt (fun _ => True) w (some a) i y := by
      have key : ∀ n, n ≤ len → ∃ xs : List BT, xs.length = n ∧ ∀ i y, xs[i]? = some y → BAt (fun _ => True) w (some a) i y := by
        intro n
        induction n with
        | zero => intro _; exact ⟨[], rfl, fun i y h => by simp at h⟩
        | succ n ih =>
          intro hn
          obtain ⟨xs, h1, h2⟩ := ih (by omega)
          obtain ⟨y, hy⟩ := each n (by omega)
          refine ⟨xs ++ [y], by simp [h1], fun i z hz => ?_⟩
          by_cases hi : i < n
          · rw [List.getElem?_append_left (by omega)] at hz
            exact h2 i z hz
          · have hin : i < n + 1 := by have := (List.getElem?_eq_some_iff.1 hz).1; simp [h1] at this; omega
            obtain rfl : i = n := by omega
            rw [List.getElem?_append_right (by omega), h1, Nat.sub_self] at hz
            cases hz
            exact hy
      exact key len (Nat.le_refl _)
    exact ⟨xs, some a, len, cap, rfl, ⟨hxl, hlc, hm, hxs⟩, fun h => by cases h⟩
theorem open_bools {r : Reach} {b0 : Nat} {v : Value} {d : DataW H} {p : List MemPlace} (hv : Value.okWide Tryz.prog w r b0 26 v) (h : DataW.Trod enc Tryz.prog w base spare held 26 v d p) :
    ∃ (xs : List Bool) (A : Option Addr) (n c : Nat), v = .slice A n c ∧ LB w xs A n c := by
  obtain ⟨fuel, hf⟩ := h
  obtain ⟨a0, l0, c0, rfl⟩ := okWide_slice Tryz.underlying26 hv
  rcases DataW.trod_slice Tryz.underlying26 hf with ⟨e2, hy2⟩ | ⟨a, len, cap, elems, rest, m, rfl, e2, hy2, hb, hlc, hm, hel, hat, _, _⟩
  · simp only [Value.cells, List.cons.injEq, and_true] at e2
    exact ⟨[], none, 0, 0, e2, rfl, Nat.le_refl _, Nat.zero_le _, fun i t ht => by simp at ht⟩
  · simp only [Value.cells, List.cons.injEq, and_true] at e2
    rw [e2]
    have first : ∀ i, i < len → ∃ y : Bool, w.cell? (a.add i) = some (.bool y) := by
      intro i hi
      have hi' := hat i hi
      rw [List.getElem?_eq_getElem (by omega), Option.bind_eq_some_iff] at hi'
      obtain ⟨cs', hcs, htr⟩ := hi'
      obtain ⟨y, rfl, _⟩ := DataW.trod_bool Tryz.underlying4 htr
      rw [Tryz.cellsBool] at hcs
      obtain ⟨_, _, hcell⟩ := World.cells?_some hcs
      have c0 := hcell 0 (by omega)
      simp only [List.getElem?_cons_zero, add_add, Nat.add_zero, Nat.mul_one] at c0
      exact ⟨y, c0⟩
    have hs : 0 < len → a.spot = none := fun h => by
      obtain ⟨y, hy⟩ := first 0 h
      have := cell_spot hy
      simpa [Addr.add] using this
    have each : ∀ i, i < len → ∃ y : Bool, ∃ b o, some a = some ⟨b, o, none⟩ ∧ w.cell? ⟨b, o + i, none⟩ = some (.bool y) := by
      intro i hi
      obtain ⟨y, c0⟩ := first i hi
      have hs := hs (by omega)
      obtain ⟨b, o, s⟩ := a
      dsimp only at hs
      subst hs
      rw [addr_add] at c0
      exact ⟨y, b, o, rfl, c0⟩
    obtain ⟨xs, hxl, hxs⟩ : ∃ xs : List Bool, xs.length = len ∧ ∀ i y, xs[i]? = some y → ∃ b o, some a = some ⟨b, o, none⟩ ∧ w.cell? ⟨b, o + i, none⟩ = some (.bool y) := by
      have key : ∀ n, n ≤ len → ∃ xs : List Bool, xs.length = n ∧ ∀ i y, xs[i]? = some y → ∃ b o, some a = some ⟨b, o, none⟩ ∧ w.cell? ⟨b, o + i, none⟩ = some (.bool y) := by
        intro n
        induction n with
        | zero => intro _; exact ⟨[], rfl, fun i y h => by simp at h⟩
        | succ n ih =>
          intro hn
          obtain ⟨xs, h1, h2⟩ := ih (by omega)
          obtain ⟨y, hy⟩ := each n (by omega)
          refine ⟨xs ++ [y], by simp [h1], fun i z hz => ?_⟩
          by_cases hi : i < n
          · rw [List.getElem?_append_left (by omega)] at hz
            exact h2 i z hz
          · have hin : i < n + 1 := by have := (List.getElem?_eq_some_iff.1 hz).1; simp [h1] at this; omega
            obtain rfl : i = n := by omega
            rw [List.getElem?_append_right (by omega), h1, Nat.sub_self] at hz
            cases hz
            exact hy
      exact key len (Nat.le_refl _)
    exact ⟨xs, some a, len, cap, rfl, hxl, hlc, hm, hxs⟩
end
end Go.Proofs.YtkakfckjmmmjgaaGreat
