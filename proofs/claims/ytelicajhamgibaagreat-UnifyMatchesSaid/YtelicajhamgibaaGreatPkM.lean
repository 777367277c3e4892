/-
  Texts of one proof, put together. No statement is proved here.
-/
import Derived.Test.YtelicajhamgibaaGreatPkK
import Derived.Test.YtelicajhamgibaaGreatPkB
import Derived.Test.YtelicajhamgibaaGreatPkA
import Derived.ScopeJumps
import Derived.Laws.CopyRow
import Derived.Lib.SlBuf
import Derived.Test.YtelicajhamgibaaGreatOl
import Derived.Test.YtelicajhamgibaaGreatSa
import Derived.Test.YtelicajhamgibaaGreatLast
import Derived.Test.YtelicajhamgibaaGreatRq
import Derived.Deep.AppendLies
import Derived.Deep.RegionHeld3
import Derived.Test.YtelicajhamgibaaGreatPc
import Derived.Laws.AppendOwnNone
import Derived.Test.YtelicajhamgibaaGreatPkS

/-
  Patterns that are held against terms, as a plain function; binds in memory. No statement is proved here.
-/
namespace Go.Proofs.YtelicajhamgibaaGreat
open Go.ChangeShapes Go.WideShapes Go.ChangeAt Go.RowKit
set_option linter.unusedVariables false

/-- is a term a variable -/
def vaB (ri : List Bool) : T → Bool
  | .node k h xs => if k = 6 then decide (h < ri.length) && ri.getD h.toNat false else decide (k = 4) && decide (xs.length = 0)
/-- what some metas are, all others noughts -/
def thL (bs : List BT) (ms : List Int) : List T := (List.range bs.length).map fun (i : Nat) => if ((i : Nat) : Int) ∈ ms then (bs.getD i noB).2 else .node 0 0 []
/-- what a meta that is something is held against: the error -/
def cmpR (bs : List BT) (p t : T) (n : Int) : Int :=
  if (mtO p).all (thI bs) = true then
    match fiR (thL bs (mtO p)) n p with
    | .error e => e
    | .ok u => if samB u t then 0 else 6
  else 5
/-- a meta that is nothing yet -/
def becR (pa ri : List Bool) (bs : List BT) (h : Int) (xs : List T) (t : T) (n : Int) : Except Int (List BT) :=
  match ptn n [] xs with
  | none => .error 5
  | some vs =>
    match ivR t vs n with
    | .error e => .error (if e = 7 then 6 else e)
    | .ok u => if (pa.getD h.toNat false && !vaB ri t) = true then .error 6 else .ok (bs.set h.toNat (true, u))
/-- a meta -/
def hdM (pa ri : List Bool) (bs : List BT) (h : Int) (xs : List T) (t : T) (n : Int) : Except Int (List BT) :=
  if (bs.length : Int) ≤ h then .error 2
  else if (bs.getD h.toNat noB).1 = true then (if cmpR bs (.node 6 h xs) t n = 0 then .ok bs else .error (cmpR bs (.node 6 h xs) t n))
  else becR pa ri bs h xs t n
mutual
/-- a node of the pattern against one of the term -/
def hdT (pa ri : List Bool) : T → T → Int → List BT → Except Int (List BT)
  | .node k h xs, .node k' h' ys, n, bs =>
    if k = 6 then hdM pa ri bs h xs (.node k' h' ys) n
    else if k = k' ∧ h = h' ∧ xs.length = ys.length then hdL pa ri k xs.length xs ys 0 n bs
    else .error 6
def hdL (pa ri : List Bool) (k : Int) (m : Nat) : List T → List T → Nat → Int → List BT → Except Int (List BT)
  | [], _, _, _, bs => .ok bs
  | x :: xs, ys, i, n, bs =>
    match ys with
    | [] => .ok bs
    | y :: ys =>
      match hdT pa ri x y (n + bd k m i) bs with
      | .error e => .error e
      | .ok bs' => hdL pa ri k m xs ys (i + 1) n bs'
end
/-- a bind as it is told -/
def ownB (x : BT) : BT := if x.1 = true then x else noB
def myA (x : BT) : Bool := !x.1 || myB x.2
/-- may the arguments be -/
def mtA (p t : T) (n : Int) (bs : List BT) (pa : List Bool) : Bool :=
  decide (0 ≤ n) && decide (n ≤ 1000) && decide (bs.length ≤ 200) && decide (bs.length = pa.length) && (myB p && (myB t && bs.all myA))
/-- what Match tells -/
def mtR (p t : T) (n : Int) (bs : List BT) (pa ri : List Bool) : Except Int (List BT) :=
  if mtA p t n bs pa = true then
    match hdT pa ri p t n bs with
    | .error e => .error e
    | .ok bs' => .ok (bs'.map ownB)
  else .error 1

/-! ### Binds in memory -/
/-- a list of Booleans in memory -/
structure LB (w : World) (ps : List Bool) (A : Option Addr) (n c : Nat) : Prop where
  len : ps.length = n
  le : n ≤ c
  cap : c ≤ maxLen
  at_ : ∀ i x, ps[i]? = some x → ∃ b o, A = some ⟨b, o, none⟩ ∧ w.cell? ⟨b, o + i, none⟩ = some (.bool x)
theorem LB.keep {w w' : World} {ps : List Bool} {A : Option Addr} {n c : Nat} (h : LB w ps A n c) (hb : Below w.heap.size w w') : LB w' ps A n c :=
  ⟨h.len, h.le, h.cap, fun i x hx => by obtain ⟨b, o, e, hc⟩ := h.at_ i x hx; exact ⟨b, o, e, (hb.cell (cell_lt hc)).trans hc⟩⟩

/-- what the pattern's metas are so far -/
structure MSt (pa ri : List Bool) (Bk pm : Nat) (Ap : Option Addr) (np cp : Nat) (Ar : Option Addr) (nr cr : Nat) (N : Nat) (bs : List BT) (w : World) : Prop where
  ptr : Box w pm 81 #[.slice (some ⟨Bk, 0, none⟩) N N, .slice Ap np cp, .slice Ar nr cr]
  row : ∃ cs, Box w Bk 38 cs ∧ cs.size = N * 4 ∧ BCs (fun b => b ≠ Bk) w cs bs
  len : bs.length = N
  few : N ≤ 200
  ne : Bk ≠ pm
theorem MSt.cells {pa ri : List Bool} {Bk pm : Nat} {Ap : Option Addr} {np cp : Nat} {Ar : Option Addr} {nr cr : Nat} {N : Nat} {bs : List BT} {w : World} (h : MSt pa ri Bk pm Ap np cp Ar nr cr N bs w) (i : Nat) (x : BT) (hx : bs[i]? = some x) : BAt (fun b => b ≠ Bk) w (some ⟨Bk, 0, none⟩) i x := by
  obtain ⟨cs, hb, hs, hc⟩ := h.row
  obtain ⟨k, g, A, n, c, e0, e1, e2, e3, hr⟩ := hc i x hx
  refine ⟨Bk, 0, k, g, A, n, c, rfl, ?_, ?_, ?_, ?_, hr⟩
  · rw [Nat.zero_add, hb.cell]; exact e0
  · rw [Nat.zero_add, hb.cell]; exact e1
  · rw [Nat.zero_add, hb.cell]; exact e2
  · rw [Nat.zero_add, hb.cell]; exact e3
theorem MSt.keep {pa ri : List Bool} {Bk pm : Nat} {Ap : Option Addr} {np cp : Nat} {Ar : Option Addr} {nr cr : Nat} {N : Nat} {bs : List BT} {w w' : World} (h : MSt pa ri Bk pm Ap np cp Ar nr cr N bs w) (hb : Below w.heap.size w w') : MSt pa ri Bk pm Ap np cp Ar nr cr N bs w' := by
  obtain ⟨cs, hr, hs, hc⟩ := h.row
  refine ⟨h.ptr.keep hb h.ptr.lt, ⟨cs, hr.keep hb hr.lt, hs, fun i x hx => ?_⟩, h.len, h.few, h.ne⟩
  obtain ⟨k, g, A, n, c, e0, e1, e2, e3, hr⟩ := hc i x hx
  exact ⟨k, g, A, n, c, e0, e1, e2, e3, RdF.moveX (fun b hb' hl => ⟨hb', hb.block b hl⟩) _ _ hr⟩
end Go.Proofs.YtelicajhamgibaaGreat

/-
  Contracts of package match's small functions: mayNot, nothing, variable, and slices.ContainsFunc with mayNot and with nothing. No statement is proved here.
-/
namespace Go.Proofs.YtelicajhamgibaaGreat
open Go.ChangeShapes Go.WideShapes Go.ChangeAt Go.RowKit
set_option linter.unusedVariables false

theorem hMayC (x : BT) (k h : Int) (A : Option Addr) (n c : Nat) (w : World) (hv : Rd w x.2 (.agg #[.int .i64 k, .int .i64 h, .slice A n c])) :
    Calls Tryz.prog 40 #[.agg #[.bool x.1, .int .i64 k, .int .i64 h, .slice A n c]] w fun e w' => e = .returned (.bool (!myA x)) ∧ Below w.heap.size w w' := by
  obtain ⟨b, t⟩ := x
  have hb : Below w.heap.size w (w.alloc (.cells #[.bool b, .int .i64 k, .int .i64 h, .slice A n c] 38)) := (Below.refl _ _).alloc (Nat.le_refl _) _
  have HM := Lib.hid (myC t _ _ (Rd.keep hb _ _ hv))
  clear hv
  cases b
  · go_enter Tryz.func40, Tryz.ntmps40
    go_wp2_with fail
    go_ret
    exact ⟨ret_bool (by simp [myA]), hb⟩
  · have e : (!myA (true, t)) = !myB t := by simp [myA]
    rw [e]
    generalize myB t = r at *
    go_enter Tryz.func40, Tryz.ntmps40
    go_wp2_with fail
    refine HM.out.mono ?_
    rintro e w1 ⟨rfl, hb1⟩
    go_wp2_with fail
    go_ret
    exact ⟨rfl, hb.trans (hb1.mono hb.size)⟩

theorem hNothC (b : Bool) (k h : Int) (A : Option Addr) (n c : Nat) (w : World) :
    Calls Tryz.prog 139 #[.agg #[.bool b, .int .i64 k, .int .i64 h, .slice A n c]] w fun e w' => e = .returned (.bool (!b)) ∧ Below w.heap.size w w' := by
  have hb : Below w.heap.size w (w.alloc (.cells #[.bool b, .int .i64 k, .int .i64 h, .slice A n c] 38)) := (Below.refl _ _).alloc (Nat.le_refl _) _
  go_enter Tryz.func139, Tryz.ntmps139
  go_wp2_with fail
  go_ret
  exact ⟨rfl, hb⟩

theorem hIndexC (ok : Nat → Prop) (bs : List BT) (A : Option Addr) (n c : Nat) (w : World) (hx : BL ok w bs A n c) :
    Calls Tryz.prog 64 #[.slice A n c, .func (.func 40) #[] #[]] w fun e w' => ∃ i : Int, e = .returned (.int .i64 i) ∧ decide (0 ≤ i) = (!bs.all myA) ∧ Below w.heap.size w w' := by
  have hm := hx.cap
  have hc := hx.le
  unfold maxLen at hm
  have HX := Lib.hid hx; clear hx
  go_enter Tryz.func64, Tryz.ntmps64
  go_wp2_with fail
  go_loopw [8] (fun i wr => ∃ (j : Nat), j ≤ n ∧ i = .int .i64 j ∧ Hid ((bs.drop j).all myA = bs.all myA) ∧ Below w.heap.size w wr) (fun i _ => n - (Go.RowKit.intOf i).toNat)
  case atStart => exact ⟨0, Nat.zero_le _, rfl, Lib.hid (by simp), Below.refl _ _⟩
  case round =>
    obtain ⟨j, hj, rfl, HS, hb⟩ := hrel
    by_cases hlt : j < n
    · obtain ⟨x, ht⟩ := at_of HX.out.len hlt
      obtain ⟨b, o, k2, h2, A2, n2, c2', rfl, c0, c1, c2, c3, hr⟩ := (HX.out.at_ j x ht).keep hb
      have HT := Lib.hid ht; clear ht
      have hi0 : (0 : Int) ≤ j := by omega
      have hi1 : (j : Int) < n := by omega
      have HM := Lib.hid (hMayC x k2 h2 A2 n2 c2' wr (RdF.rd _ _ hr))
      clear hr
      have HS' := HS.out
      rw [drop_at HT.out, List.all_cons] at HS'
      have HS := Lib.hid HS'; clear HS'
      generalize myA x = r at *
      generalize x.1 = bx at *
      go_wp2_with fail
      clear c0 c1 c2 c3
      refine HM.out.mono ?_
      rintro e w1 ⟨rfl, hb1⟩
      have hbw : Below w.heap.size w w1 := hb.trans (hb1.mono hb.size)
      clear hb1 HM
      cases r
      · go_wp2_with fail
        go_ret
        exact ⟨_, rfl, by rw [← HS.out]; simp, hbw⟩
      · go_wp2_with fail
        go_roundw
        case rel => exact ⟨j + 1, by omega, by go_num, Lib.hid (by simpa using HS.out), hbw⟩
        case measure => simp [Go.RowKit.intOf]; omega
    · go_wp2_with fail
      go_ret
      exact ⟨_, rfl, by have := HS.out; rw [drop_all HX.out.len (by omega)] at this; rw [← this]; simp, hb⟩
theorem hContainsC (ok : Nat → Prop) (bs : List BT) (A : Option Addr) (n c : Nat) (w : World) (hx : BL ok w bs A n c) :
    Calls Tryz.prog 39 #[.slice A n c, .func (.func 40) #[] #[]] w fun e w' => e = .returned (.bool (!bs.all myA)) ∧ Below w.heap.size w w' := by
  have HI := Lib.hid (hIndexC ok bs A n c w hx)
  clear hx
  generalize (!bs.all myA) = r at *
  go_enter Tryz.func39, Tryz.ntmps39
  go_wp2_with fail
  refine HI.out.mono ?_
  rintro e w1 ⟨i, rfl, hi, hb1⟩
  go_wp2_with fail
  go_ret
  exact ⟨ret_bool (by first | exact hi | rfl | simp), hb1⟩

/-! ### variable -/
/-- the matching's block, as far as it is not written -/
structure MPt (ri : List Bool) (pm : Nat) (Vb Vp : Value) (Ar : Option Addr) (nr cr : Nat) (w : World) : Prop where
  ptr : Box w pm 81 #[Vb, Vp, .slice Ar nr cr]
  rig : LB w ri Ar nr cr
set_option maxHeartbeats 2000000 in
theorem hVarC (ri : List Bool) (pm : Nat) (Vb Vp : Value) (Ar : Option Addr) (nr cr : Nat) (t : T) (v : Value) (w : World) (hm : MPt ri pm Vb Vp Ar nr cr w) (hv : Rd w t v) (hno : nodB t = true) :
    Calls Tryz.prog 117 #[.pointer (some ⟨pm, 0, none⟩), v] w fun e w' => e = .returned (.bool (vaB ri t)) ∧ Below w.heap.size w w' := by
  obtain ⟨k, h, xs⟩ := t
  obtain ⟨A, n, c, rfl, hk, hh, hn, hc, hcm, hx⟩ := Rd_node.1 hv
  clear hx hv
  have hb : Below w.heap.size w (w.alloc (.cells #[.int .i64 k, .int .i64 h, .slice A n c] 24)) := (Below.refl _ _).alloc (Nat.le_refl _) _
  have x0 := Box.new w 24 #[.int .i64 k, .int .i64 h, .slice A n c]
  have xp := hm.ptr.alloc (.cells #[.int .i64 k, .int .i64 h, .slice A n c] 24)
  have hrig := hm.rig.keep hb
  have hcr := hrig.le
  have hcm2 := hrig.cap
  have hlen := hrig.len
  clear hm
  obtain ⟨W, hW⟩ : ∃ W, w.alloc (.cells #[.int .i64 k, .int .i64 h, .slice A n c] 24) = W := ⟨_, rfl⟩
  rw [hW] at hb x0 xp hrig
  have HW := Lib.hid hW; clear hW
  obtain ⟨a0, a1, a2⟩ := x0.three
  obtain ⟨p0, p1, p2⟩ := xp.three
  by_cases hk6 : k = 6
  · subst hk6
    have hh0 : 0 ≤ h := by
      have := (node_parts hno).1
      simp [okN] at this
      omega
    clear hno
    by_cases hlt : h < nr
    · have hd : decide (h < (nr : Int)) = true := by simpa using hlt
      obtain ⟨z, hz⟩ : ∃ z, ri[h.toNat]? = some z := ⟨_, List.getElem?_eq_getElem (by omega)⟩
      obtain ⟨b, o, rfl, cz⟩ := hrig.at_ _ _ hz
      have e : vaB ri (.node 6 h xs) = z := by
        rw [vaB, if_pos rfl, hlen, List.getD_eq_getElem?_getD, hz, hd]; rfl
      rw [e]
      clear e hz hrig
      have q0 := Past.cell a0
      have q1 := Past.cell a1
      have q2 := Past.cell a2
      have r0 := Past.cell p0
      have r1 := Past.cell p1
      have r2 := Past.cell p2
      have qz := Past.cell cz
      go_enter Tryz.func117, Tryz.ntmps117
      go_wp2_with fail
      rw [HW.out]
      go_wp2_with fail
      refine wp_region_past (by kernel_rfl) (by kernel_rfl) ?_
      repeat (go_big_quiet_step (fail))
      refine wpQuiet_nil ?_
      rintro _ ⟨z1, rfl⟩
      obtain ⟨w1, hb1⟩ := z1
      clear q0 q1 q2 r0 r1 r2 qz
      go_wp2_with fail
      go_ret
      exact ⟨rfl, hb.trans (hb1.mono hb.size)⟩
    · have hd : decide (h < (nr : Int)) = false := by simpa using hlt
      have e : vaB ri (.node 6 h xs) = false := by
        rw [vaB, if_pos rfl, hlen, hd]; rfl
      rw [e]
      clear e hrig
      have q0 := Past.cell a0
      have q1 := Past.cell a1
      have q2 := Past.cell a2
      have r0 := Past.cell p0
      have r1 := Past.cell p1
      have r2 := Past.cell p2
      go_enter Tryz.func117, Tryz.ntmps117
      go_wp2_with fail
      rw [HW.out]
      go_wp2_with fail
      refine wp_region_past (by kernel_rfl) (by kernel_rfl) ?_
      repeat (go_big_quiet_step (fail))
      refine wpQuiet_nil ?_
      rintro _ ⟨z1, rfl⟩
      obtain ⟨w1, hb1⟩ := z1
      clear q0 q1 q2 r0 r1 r2
      go_wp2_with fail
      go_ret
      exact ⟨rfl, hb.trans (hb1.mono hb.size)⟩
  · have hd : (k == 6) = false := by simpa using hk6
    have e : vaB ri (.node k h xs) = (decide (k = 4) && decide (xs.length = 0)) := by rw [vaB, if_neg hk6]
    rw [e]
    clear e hrig hno
    by_cases hk4 : k = 4
    · subst hk4
      by_cases hn0 : n = 0
      · subst hn0
        go_enter Tryz.func117, Tryz.ntmps117
        go_wp2_with fail
        rw [HW.out]
        go_wp2_with fail
        go_ret
        exact ⟨ret_bool (by simp [hn]), hb⟩
      · have e0 : ((n : Int) == 0) = false := by rw [beq_eq_false_iff_ne]; omega
        go_enter Tryz.func117, Tryz.ntmps117
        go_wp2_with fail
        rw [HW.out]
        go_wp2_with fail
        go_ret
        exact ⟨ret_bool (by simp [hn, hn0]), hb⟩
    · have hd4 : (k == 4) = false := by simpa using hk4
      go_enter Tryz.func117, Tryz.ntmps117
      go_wp2_with fail
      rw [HW.out]
      go_wp2_with fail
      go_ret
      exact ⟨ret_bool (by simp [hk4]), hb⟩
end Go.Proofs.YtelicajhamgibaaGreat

/-
  Contract of package match's theta. No statement is proved here.
-/
namespace Go.Proofs.YtelicajhamgibaaGreat
open Go.ChangeShapes Go.WideShapes Go.ChangeAt Go.RowKit
set_option linter.unusedVariables false

theorem made3 (a b c : Value) (n i : Nat) (hi : i < n) : (madeCells #[a, b, c] (n * 3))[i * 3]? = some a ∧ (madeCells #[a, b, c] (n * 3))[i * 3 + 1]? = some b ∧ (madeCells #[a, b, c] (n * 3))[i * 3 + 2]? = some c := by
  have h1 : i * 3 % 3 = 0 := by omega
  have h2 : (i * 3 + 1) % 3 = 1 := by omega
  have h3 : (i * 3 + 2) % 3 = 2 := by omega
  refine ⟨?_, ?_, ?_⟩
  · simp [madeCells, hi]
  · have : i * 3 + 1 < n * 3 := by omega
    simp [madeCells, this, h2]
  · have : i * 3 + 2 < n * 3 := by omega
    simp [madeCells, this, h3]
/-- a row of noughts -/
theorem kids_made {w : World} {ok : Nat → Prop} (n : Nat) (ts : List T) (ht : ∀ i t, ts[i]? = some t → i < n ∧ t = .node 0 0 []) : Kids w ok (madeCells #[.int .i64 0, .int .i64 0, .slice none 0 0] (n * 3)) ts := fun i t h => by
  obtain ⟨hi, rfl⟩ := ht i t h
  obtain ⟨h1, h2, h3⟩ := made3 (.int .i64 0) (.int .i64 0) (.slice none 0 0) n i hi
  exact ⟨0, 0, none, 0, 0, h1, h2, h3, rd_nought⟩
/-- one of a row turns -/
theorem Kids.turn {w w' : World} {ok : Nat → Prop} {cs : Array Value} {xs ys : List T} {j : Nat} {t : T} {k h : Int} {A : Option Addr} {n c : Nat} (hk : Kids w ok cs xs) (hm : ∀ b, ok b → b < w.heap.size → w'.heap[b]? = w.heap[b]?)
    (hr : RdF ok w t (.agg #[.int .i64 k, .int .i64 h, .slice A n c])) (hsz : j * 3 + 2 < cs.size) (hy : ∀ i u, ys[i]? = some u → if i = j then u = t else xs[i]? = some u) :
    Kids w' ok (((cs.setIfInBounds (j * 3) (.int .i64 k)).setIfInBounds (j * 3 + 1) (.int .i64 h)).setIfInBounds (j * 3 + 2) (.slice A n c)) ys := by
  intro i u hu
  have hiu := hy i u hu
  by_cases hij : i = j
  · subst hij
    rw [if_pos rfl] at hiu
    subst hiu
    refine ⟨k, h, A, n, c, ?_, ?_, ?_, RdF.move (fun _ h => h) hm _ _ hr⟩
    all_goals simp only [Array.getElem?_setIfInBounds]
    · rw [if_neg (by omega), if_neg (by omega), if_pos trivial, if_pos (by omega)]
    · rw [if_neg (by omega), if_pos trivial, if_pos (by simp; omega)]
    · rw [if_pos trivial, if_pos (by simp; omega)]
  · rw [if_neg hij] at hiu
    obtain ⟨k', h', A', n', c', e0, e1, e2, hr'⟩ := hk i u hiu
    refine ⟨k', h', A', n', c', ?_, ?_, ?_, RdF.move (fun _ h => h) hm _ _ hr'⟩
    all_goals simp only [Array.getElem?_setIfInBounds]
    · rw [if_neg (by omega), if_neg (by omega), if_neg (by omega)]; exact e0
    · rw [if_neg (by omega), if_neg (by omega), if_neg (by omega)]; exact e1
    · rw [if_neg (by omega), if_neg (by omega), if_neg (by omega)]; exact e2
theorem thL_len (bs : List BT) (ms : List Int) : (thL bs ms).length = bs.length := by simp [thL]
theorem thL_at {bs : List BT} {ms : List Int} {i : Nat} {u : T} (h : (thL bs ms)[i]? = some u) : i < bs.length ∧ u = if (i : Int) ∈ ms then (bs.getD i noB).2 else .node 0 0 [] := by
  have hi : i < bs.length := by have := (List.getElem?_eq_some_iff.1 h).1; simpa [thL] using this
  refine ⟨hi, ?_⟩
  rw [List.getD_eq_getElem?_getD, List.getElem?_eq_getElem hi, Option.getD_some]
  simp [thL, hi] at h
  exact h.symm
theorem thL_next {bs : List BT} {ms : List Int} {j : Nat} {m : Int} (hm : ms[j]? = some m) (h0 : 0 ≤ m) (i : Nat) (u : T) (h : (thL bs (ms.take (j + 1)))[i]? = some u) : if i = m.toNat then u = (bs.getD m.toNat noB).2 else (thL bs (ms.take j))[i]? = some u := by
  obtain ⟨hi, hu⟩ := thL_at h
  have et : ms.take (j + 1) = ms.take j ++ [m] := by rw [List.take_add_one, hm]; rfl
  by_cases e : i = m.toNat
  · rw [if_pos e]
    rw [if_pos (by rw [et, List.mem_append, List.mem_singleton]; exact .inr (by omega))] at hu
    rw [hu, e]
  · rw [if_neg e]
    have hne : ¬ (i : Int) = m := by omega
    have hiff : ((i : Int) ∈ ms.take (j + 1)) ↔ ((i : Int) ∈ ms.take j) := by rw [et, List.mem_append, List.mem_singleton]; exact ⟨fun h => h.resolve_right hne, .inl⟩
    rw [hu]
    simp [thL, hi, hiff]

/-- what holds at the head of theta's loop -/
structure ThW (bs : List BT) (ms : List Int) (N : Nat) (w : World) (j : Nat) (wr : World) (cs : Array Value) : Prop where
  row : Box wr w.heap.size 24 cs
  size : cs.size = N * 3
  kids : Kids wr (fun b => b < w.heap.size) cs (thL bs (ms.take j))
  all : (ms.take j).all (thI bs) = true
  below : Below w.heap.size w wr

set_option maxRecDepth 100000 in
set_option maxHeartbeats 4000000 in
theorem hThetaC {pa ri : List Bool} {Bk pm : Nat} {Ap : Option Addr} {np cp : Nat} {Ar : Option Addr} {nr cr : Nat} {N : Nat} {bs : List BT} (ms : List Int) (A : Option Addr) (c : Nat) (w : World) (hst : MSt pa ri Bk pm Ap np cp Ar nr cr N bs w) (hns : Ns w (.slice A ms.length c) ms) (h0 : ∀ m ∈ ms, 0 ≤ m) :
    Calls Tryz.prog 116 #[.pointer (some ⟨pm, 0, none⟩), .slice A ms.length c] w fun e w' => Below w.heap.size w w' ∧
      ((ms.all (thI bs) = true ∧ ∃ p, e = .returned (.tuple #[.slice (some ⟨p, 0, none⟩) N N, .bool true]) ∧ ∀ i x, (thL bs ms)[i]? = some x → RdAt w' (some ⟨p, 0, none⟩) i x) ∨
       (ms.all (thI bs) = false ∧ e = .returned (.tuple #[.slice none 0 0, .bool false]))) := by
  have hN := hst.few
  have hlen := hst.len
  obtain ⟨i0, hi, hz0, hz1, hz2⟩ := info_parts infoTerm
  have hmk : ∀ W : World, (Instr.makeSlice 22 (.int .i64 (N : Int)) (.int .i64 (N : Int))).run Tryz.prog W = .ok (.slice (some ⟨W.heap.size, 0, none⟩) N N) (W.alloc (.cells (madeCells #[.int .i64 0, .int .i64 0, .slice none 0 0] (N * 3)) 24)) := by
    intro W
    have := run_make W 22 24 i0 _ Tryz.underlying22 hi hz0 .i64 .i64 (N : Int) (N : Int) (by omega) (Int.le_refl _) (by rw [hz2]; omega) (by omega)
    rw [hz1] at this
    simpa [Value.cells] using this
  clear hi hz0 hz1 hz2
  obtain ⟨L, hL⟩ : ∃ L, ms.length = L := ⟨_, rfl⟩
  obtain ⟨A', c', e, hc1, hc2, hx⟩ := hns
  have e' : A = A' ∧ c = c' := by simpa using e
  obtain ⟨rfl, rfl⟩ := e'
  rw [hL] at e hc1 ⊢
  clear e
  have hm2 := hc2
  unfold maxLen at hm2
  have HX := Lib.hid hx; clear hx
  have HL := Lib.hid hL; clear hL
  have H0 := Lib.hid h0; clear h0
  obtain ⟨p0, p1, p2⟩ := hst.ptr.three
  have HST := Lib.hid hst; clear hst
  have HLEN := Lib.hid hlen; clear hlen
  go_enter Tryz.func116, Tryz.ntmps116
  go_wp2_with fail
  have hcs := size_madeCells #[.int .i64 0, .int .i64 0, .slice none 0 0] (N * 3)
  have hk0 : Kids (w.alloc (.cells (madeCells #[.int .i64 0, .int .i64 0, .slice none 0 0] (N * 3)) 24)) (fun b => b < w.heap.size) (madeCells #[.int .i64 0, .int .i64 0, .slice none 0 0] (N * 3)) (thL bs (ms.take 0)) := kids_made N _ fun i t ht => by
    obtain ⟨h1, h2⟩ := thL_at ht
    exact ⟨by rw [← HLEN.out]; exact h1, by simpa using h2⟩
  generalize madeCells #[.int .i64 0, .int .i64 0, .slice none 0 0] (N * 3) = cs0 at *
  have hI : ThW bs ms N w 0 (w.alloc (.cells cs0 24)) cs0 := ⟨Box.new w _ cs0, hcs, hk0, rfl, (Below.refl _ w).alloc (Nat.le_refl _) _⟩
  have HI := Lib.hid hI; clear hI hcs hmk hk0 p0 p1 p2
  go_loopw [17] (fun i wr => ∃ (j : Nat) (cs : Array Value), j ≤ L ∧ i = .int .i64 j ∧ Hid (ThW bs ms N w j wr cs)) (fun i _ => L - (Go.RowKit.intOf i).toNat)
  case atStart => exact ⟨0, cs0, Nat.zero_le _, rfl, HI⟩
  case round =>
    clear HI
    obtain ⟨j, cs, hj, rfl, HI⟩ := hrel
    by_cases hlt : j < L
    · obtain ⟨m, hm⟩ := at_of HL.out hlt
      obtain ⟨b, o, rfl, cm⟩ := HX.out j m hm
      have cm := (HI.out.below.cell (cell_lt cm)).trans cm
      have hm0 := H0.out m (List.mem_of_getElem? hm)
      have HM := Lib.hid hm; clear hm
      have hi0 : (0 : Int) ≤ j := by omega
      have hi1 : (j : Int) < L := by omega
      have pt := HST.out.ptr.keep HI.out.below HST.out.ptr.lt
      have lrow := HI.out.row.lt
      obtain ⟨p0, p1, p2⟩ := pt.three
      by_cases hmN : m < N
      · have hd : decide ((N : Int) ≤ m) = false := by simpa using hmN
        obtain ⟨x, hx⟩ := at_of (k := m.toNat) HLEN.out (by omega)
        have hgx : bs.getD m.toNat noB = x := by rw [List.getD_eq_getElem?_getD, hx]; rfl
        obtain ⟨b2, o2, k2, h2, A2, n2, c2', e2, d0, d1, d2, d3, hr⟩ := HST.out.cells _ x hx
        obtain ⟨rfl, rfl⟩ : Bk = b2 ∧ 0 = o2 := by simpa using e2
        clear e2
        rw [Nat.zero_add] at d0 d1 d2 d3
        have d0 := (HI.out.below.cell (cell_lt d0)).trans d0
        have d1 := (HI.out.below.cell (cell_lt d1)).trans d1
        have d2 := (HI.out.below.cell (cell_lt d2)).trans d2
        have d3 := (HI.out.below.cell (cell_lt d3)).trans d3
        have hr' := RdF.moveX (ok' := fun b => b < w.heap.size) (w' := wr) (fun b hb hl => ⟨hl, HI.out.below.block b hl⟩) _ _ hr
        have HR := Lib.hid hr'; clear hr hr'
        have htI : thI bs m = x.1 := by rw [thI, HLEN.out, hgx, decide_eq_true hmN, Bool.true_and]
        have HT := Lib.hid htI; clear htI
        have HG := Lib.hid hgx; clear hgx hx
        obtain ⟨bx, tx⟩ := x
        simp only at d0 HT HR
        go_wp2_with fail
        clear d0
        refine (hNothC bx k2 h2 A2 n2 c2' wr).mono ?_
        rintro e w1 ⟨rfl, hb1⟩
        cases bx
        · go_wp2_with fail
          go_ret2
          refine ⟨HI.out.below.trans (hb1.mono HI.out.below.size), .inr ⟨?_, rfl⟩⟩
          rw [Bool.eq_false_iff]
          intro hall
          have := List.all_eq_true.1 hall m (List.mem_of_getElem? HM.out)
          rw [HT.out] at this
          cases this
        · have q0 := (hb1.cell (cell_lt p0)).trans p0
          have e1 := (hb1.cell (cell_lt d1)).trans d1
          have e2 := (hb1.cell (cell_lt d2)).trans d2
          have e3 := (hb1.cell (cell_lt d3)).trans d3
          have row1 := HI.out.row.keep hb1 lrow
          have hsz := HI.out.size
          obtain ⟨u0, hu0⟩ := row1.there (i := m.toNat * 3) (by omega)
          obtain ⟨u1, hu1⟩ := row1.there (i := m.toNat * 3 + 1) (by omega)
          obtain ⟨u2, hu2⟩ := row1.there (i := m.toNat * 3 + 2) (by omega)
          have f0 := row1.frozen (m.toNat * 3)
          have f1 := row1.frozen (m.toNat * 3 + 1)
          have f2 := row1.frozen (m.toNat * 3 + 2)
          have hb2 := HI.out.below.trans (hb1.mono HI.out.below.size)
          have hs1 := hb1.size
          have HB1 := Lib.hid hb1
          have HB2 := Lib.hid hb2
          have HRO := Lib.hid row1
          clear p0 p1 p2 d1 d2 d3 hb1 hb2 row1 cm pt
          go_wp2_with fail
          go_roundw
          case rel =>
            have hset : ∀ g, g ≠ w.heap.size → (((w1.setCell ⟨w.heap.size, m.toNat * 3, none⟩ (.int .i64 k2)).setCell ⟨w.heap.size, m.toNat * 3 + 1, none⟩ (.int .i64 h2)).setCell ⟨w.heap.size, m.toNat * 3 + 2, none⟩ (.slice A2 n2 c2')).heap[g]? = w1.heap[g]? := fun g hg => by
              rw [Below.heap_setCell _ _ _ _ hg, Below.heap_setCell _ _ _ _ hg, Below.heap_setCell _ _ _ _ hg]
            refine ⟨j + 1, _, by omega, by go_num, Lib.hid ⟨((HRO.out.setAt _ _).setAt _ _).setAt _ _, by simp [hsz], ?_, ?_, ?_⟩⟩
            · refine Kids.turn (xs := thL bs (ms.take j)) (w := w1) (fun i u hu => ?_) (fun g hg _ => hset g (by omega)) (RdF.moveX (fun b hb hl => ⟨hb, HB1.out.block b hl⟩) _ _ HR.out) (by omega) fun i u hu => ?_
              · obtain ⟨k', h', A', n', c', e0, e1, e2, hr'⟩ := HI.out.kids i u hu
                exact ⟨k', h', A', n', c', e0, e1, e2, RdF.moveX (fun b hb hl => ⟨hb, HB1.out.block b hl⟩) _ _ hr'⟩
              · have := thL_next HM.out hm0 i u hu
                rw [HG.out] at this
                exact this
            · rw [List.take_add_one, HM.out, List.all_append, HI.out.all]
              simp [HT.out]
            · exact ⟨HB2.out.os, HB2.out.tape, HB2.out.output, by simpa [World.setCell] using HB2.out.size, fun g hg => (hset g (by omega)).trans (HB2.out.block g hg)⟩
          case measure => simp [Go.RowKit.intOf]; omega
      · have hd : decide ((N : Int) ≤ m) = true := by simpa using hmN
        go_wp2_with fail
        go_ret2
        refine ⟨HI.out.below, .inr ?_⟩
        exact ⟨⟨m, List.mem_of_getElem? HM.out, by rw [thI, HLEN.out, decide_eq_false (by omega), Bool.false_and]⟩, rfl⟩
    · obtain rfl : j = L := by omega
      have hta : ms.take j = ms := List.take_of_length_le (by have := HL.out; omega)
      go_wp2_with fail
      go_ret2
      refine ⟨HI.out.below, .inl ⟨by have := HI.out.all; rwa [hta] at this, _, rfl, fun i x hx => ?_⟩⟩
      have hx' : (thL bs (ms.take j))[i]? = some x := by rw [hta]; exact hx
      obtain ⟨k', h', A', n', c', e0, e1, e2, hr'⟩ := HI.out.kids i x hx'
      refine ⟨w.heap.size, 0, _, _, _, rfl, ?_, ?_, ?_, RdF.rd _ _ hr'⟩
      · rw [Nat.zero_add, HI.out.row.cell]; exact e0
      · rw [Nat.zero_add, HI.out.row.cell]; exact e1
      · rw [Nat.zero_add, HI.out.row.cell]; exact e2
end Go.Proofs.YtelicajhamgibaaGreat

/-
  Contracts of package match's compare, become and holdMeta. No statement is proved here.
-/
namespace Go.Proofs.YtelicajhamgibaaGreat
open Go.ChangeShapes Go.WideShapes Go.ChangeAt Go.RowKit
set_option linter.unusedVariables false

set_option maxRecDepth 100000 in
set_option maxHeartbeats 4000000 in
theorem hCompareC {pa ri : List Bool} {Bk pm : Nat} {Ap : Option Addr} {np cp : Nat} {Ar : Option Addr} {nr cr : Nat} {N : Nat} {bs : List BT} (p t : T) (n : Int) (vp vt : Value) (w : World)
    (hst : MSt pa ri Bk pm Ap np cp Ar nr cr N bs w) (hp : Rd w p vp) (ht : Rd w t vt) (hop : okT 2199023255552 p) (hmp : myB p = true) (hob : ∀ x ∈ bs, x.1 = true → okT 2199023255552 x.2) :
    Calls Tryz.prog 87 #[.pointer (some ⟨pm, 0, none⟩), vp, vt, .int .i64 n] w fun e w' => e = .returned (.int .i64 (cmpR bs p t n)) ∧ Below w.heap.size w w' := by
  obtain ⟨k, h, A, np', cp', rfl⟩ := hp.full
  obtain ⟨k2, h2, A2, nt, ct, rfl⟩ := ht.full
  obtain ⟨W, hW⟩ : ∃ W, (w.alloc (.cells #[.int .i64 k, .int .i64 h, .slice A np' cp'] 24)).alloc (.cells #[.int .i64 k2, .int .i64 h2, .slice A2 nt ct] 24) = W := ⟨_, rfl⟩
  have hb : Below w.heap.size w W := by rw [← hW]; exact ((Below.refl _ _).alloc (Nat.le_refl _) _).alloc (by simp) _
  have xP : Box W w.heap.size 24 #[.int .i64 k, .int .i64 h, .slice A np' cp'] := by rw [← hW]; exact (Box.new _ _ _).alloc _
  have xT : Box W (w.heap.size + 1) 24 #[.int .i64 k2, .int .i64 h2, .slice A2 nt ct] := by rw [← hW]; exact (Box.new (w.alloc _) _ _).at (by simp)
  have HWW := Lib.hid hW; clear hW
  have HST := Lib.hid (hst.keep hb); clear hst
  have HP := Lib.hid (Rd.keep hb _ _ hp); clear hp
  have HT := Lib.hid (Rd.keep hb _ _ ht); clear ht
  have hnd : nd p ≤ 1048576 := by have := ((myB_iff p).1 hmp).2.1; omega
  have HPOS := Lib.hid (mtO_pos ((myB_iff p).1 hmp).1)
  have HOP := Lib.hid hop; clear hop
  have HMP := Lib.hid hmp; clear hmp
  have HOB := Lib.hid hob; clear hob
  obtain ⟨a0, a1, a2⟩ := xP.three
  go_enter Tryz.func87, Tryz.ntmps87
  go_wp2_with fail
  rw [HWW.out]
  clear HWW
  go_wp2_with fail
  refine (oMetasC p _ W HP.out hnd).mono ?_
  rintro e w1 ⟨u, rfl, hns, hb1⟩
  replace xP := xP.keep hb1 xP.lt
  replace xT := xT.keep hb1 xT.lt
  have HST := Lib.hid (HST.out.keep hb1)
  have HP := Lib.hid (Rd.keep hb1 _ _ HP.out)
  have HT := Lib.hid (Rd.keep hb1 _ _ HT.out)
  replace hb := hb.trans (hb1.mono hb.size)
  clear hb1 a0 a1 a2
  rw [mtO_eq] at hns
  obtain ⟨Am, cm, rfl, hrest⟩ := id hns
  clear hrest
  go_wp2_with fail
  refine (hThetaC (mtO p) Am cm w1 HST.out hns HPOS.out).mono ?_
  rintro e w2 ⟨hb1, ⟨hall, q, rfl, hth⟩ | ⟨hall, rfl⟩⟩
  · replace xP := xP.keep hb1 xP.lt
    replace xT := xT.keep hb1 xT.lt
    have HST := Lib.hid (HST.out.keep hb1)
    have HP := Lib.hid (Rd.keep hb1 _ _ HP.out)
    have HT := Lib.hid (Rd.keep hb1 _ _ HT.out)
    replace hb := hb.trans (hb1.mono hb.size)
    clear hb1 hns
    have hthI : ThI (thL bs (mtO p)) w2 (some ⟨q, 0, none⟩) N N := ⟨fun x hx _ => by
        obtain ⟨i, hi⟩ := List.getElem?_of_mem hx
        obtain ⟨hl, rfl⟩ := thL_at hi
        split
        · rename_i hm
          have h1 := List.all_eq_true.1 hall _ hm
          rw [thI, Int.toNat_natCast] at h1
          simp only [Bool.and_eq_true] at h1
          refine HOB.out _ ?_ h1.2
          rw [List.getD_eq_getElem?_getD, List.getElem?_eq_getElem hl]
          exact List.getElem_mem hl
        · rw [okT, okL]; exact ⟨fun h => by omega, trivial⟩, by rw [thL_len, HST.out.len], Nat.le_refl _, by have := HST.out.few; unfold maxLen; omega, hth⟩
    have HTH := Lib.hid hthI; clear hthI hth
    have HC : Hid (cmpR bs p t n = match fiR (thL bs (mtO p)) n p with
      | .error e => e
      | .ok u => if samB u t then 0 else 6) := Lib.hid (by rw [cmpR, if_pos hall] <;> cases fiR (thL bs (mtO p)) n p <;> rfl)
    clear hall
    obtain ⟨a0, a1, a2⟩ := xP.three
    obtain ⟨c0, c1, c2⟩ := xT.three
    go_wp2_with fail
    refine (FillC (n := n) w2 HTH.out HP.out (fun _ => HOP.out)).mono ?_
    generalize fiR (thL bs (mtO p)) n p = R at *
    intro e w3 hE
    have hb1 := hE.below
    replace xT := xT.keep hb1 xT.lt
    have HT := Lib.hid (Rd.keep hb1 _ _ HT.out)
    replace hb := hb.trans (hb1.mono hb.size)
    clear a0 a1 a2 c0 c1 c2
    cases R with
    | error ec =>
      obtain ⟨rfl, hne, _⟩ := hE
      have hne' : (ec != 0) = true := by simpa using hne
      have HE : Hid (cmpR bs p t n = ec) := Lib.hid HC.out
      clear hb1
      go_wp2_with fail
      go_ret
      exact ⟨ret_int HE.out.symm, hb.alloc hb.size _⟩
    | ok u =>
      obtain ⟨k3, h3, A3, n3, c3, rfl, hr, _⟩ := hE
      have hbA : Below w3.heap.size w3 (w3.alloc (.cells #[.int .i64 k3, .int .i64 h3, .slice A3 n3 c3] 24)) := (Below.refl _ _).alloc (Nat.le_refl _) _
      have HS := Lib.hid (termSame u t _ _ _ (Rd.keep hbA _ _ (RdF.rd _ _ hr)) (Rd.keep hbA _ _ HT.out))
      have HC' : Hid (cmpR bs p t n = if samB u t then 0 else 6) := Lib.hid HC.out
      clear hr hb1 HC
      generalize samB u t = s at *
      obtain ⟨c0, c1, c2⟩ := xT.three
      have lT := xT.lt
      replace hb := hb.trans (hbA.mono hb.size)
      clear hbA
      go_wp2_with fail
      refine HS.out.mono ?_
      rintro e w4 ⟨rfl, hb1⟩
      replace hb := hb.trans (hb1.mono hb.size)
      clear hb1
      cases s
      · go_wp2_with fail
        go_ret
        exact ⟨ret_int HC'.out.symm, hb⟩
      · go_wp2_with fail
        go_ret
        exact ⟨ret_int HC'.out.symm, hb⟩
  · replace hb := hb.trans (hb1.mono hb.size)
    have HC : Hid (cmpR bs p t n = 5) := Lib.hid (by rw [cmpR, if_neg (by rw [hall]; exact Bool.false_ne_true)])
    clear hb1 hall
    go_wp2_with fail
    go_ret
    exact ⟨ret_int HC.out.symm, hb⟩
end Go.Proofs.YtelicajhamgibaaGreat

/-
  Contract of package match's become. No statement is proved here.
-/
namespace Go.Proofs.YtelicajhamgibaaGreat
open Go.ChangeShapes Go.WideShapes Go.ChangeAt Go.RowKit
set_option linter.unusedVariables false

/-- how a node is held -/
def HEn (pa ri : List Bool) (Bk pm : Nat) (Ap : Option Addr) (np cp : Nat) (Ar : Option Addr) (nr cr : Nat) (N : Nat) (w : World) (R : Except Int (List BT)) (e : Ending) (w' : World) : Prop :=
  match R with
  | .error ec => e = .returned (.int .i64 ec) ∧ ec ≠ 0 ∧ Fr (fun b => b = Bk) w w'
  | .ok bs => e = .returned (.int .i64 0) ∧ MSt pa ri Bk pm Ap np cp Ar nr cr N bs w' ∧ Fr (fun b => b = Bk) w w'
theorem Hen.err {pa ri : List Bool} {Bk pm : Nat} {Ap : Option Addr} {np cp : Nat} {Ar : Option Addr} {nr cr : Nat} {N : Nat} {w w' : World} {R : Except Int (List BT)} {ec : Int} (h : R = .error ec) (hne : ec ≠ 0) (hb : Below w.heap.size w w') : HEn pa ri Bk pm Ap np cp Ar nr cr N w R (.returned (.int .i64 ec)) w' := by
  subst h
  exact ⟨rfl, hne, Fr.below hb⟩
/-- what is told of a meta lies in blocks of its own -/
theorem MSt.put {pa ri : List Bool} {Bk pm : Nat} {Ap : Option Addr} {np cp : Nat} {Ar : Option Addr} {nr cr : Nat} {N : Nat} {bs : List BT} {w w' : World} {j : Nat} {u : T} {k h : Int} {A : Option Addr} {n c : Nat}
    (hs : MSt pa ri Bk pm Ap np cp Ar nr cr N bs w) (hj : j < N) (hr : RdF (fun b => b ≠ Bk) w u (.agg #[.int .i64 k, .int .i64 h, .slice A n c]))
    (hw : w' = (((w.setCell ⟨Bk, j * 4, none⟩ (.bool true)).setCell ⟨Bk, j * 4 + 1, none⟩ (.int .i64 k)).setCell ⟨Bk, j * 4 + 2, none⟩ (.int .i64 h)).setCell ⟨Bk, j * 4 + 3, none⟩ (.slice A n c)) :
    MSt pa ri Bk pm Ap np cp Ar nr cr N (bs.set j (true, u)) w' ∧ Fr (fun b => b = Bk) w w' := by
  have hset : ∀ g, g ≠ Bk → w'.heap[g]? = w.heap[g]? := fun g hg => by
    rw [hw, Below.heap_setCell _ _ _ _ hg, Below.heap_setCell _ _ _ _ hg, Below.heap_setCell _ _ _ _ hg, Below.heap_setCell _ _ _ _ hg]
  obtain ⟨cs, hb, hsz, hc⟩ := hs.row
  refine ⟨⟨(hset _ fun e => hs.ne e.symm).trans hs.ptr, ⟨((((cs.setIfInBounds (j * 4) (.bool true)).setIfInBounds (j * 4 + 1) (.int .i64 k)).setIfInBounds (j * 4 + 2) (.int .i64 h)).setIfInBounds (j * 4 + 3) (.slice A n c)), ?_, by simp [hsz], ?_⟩, by rw [List.length_set]; exact hs.len, hs.few, hs.ne⟩, ⟨by rw [hw]; rfl, by rw [hw]; rfl, by rw [hw]; rfl, by rw [hw]; simp [World.setCell], fun g _ hx => hset g hx⟩⟩
  · rw [hw]
    exact (((hb.setAt _ _).setAt _ _).setAt _ _).setAt _ _
  · intro i x hx
    by_cases hij : i = j
    · subst hij
      rw [List.getElem?_set_self (by rw [hs.len]; exact hj)] at hx
      cases hx
      refine ⟨k, h, A, n, c, ?_, ?_, ?_, ?_, RdF.moveX (fun b hb' _ => ⟨hb', hset b hb'⟩) _ _ hr⟩
      all_goals simp only [Array.getElem?_setIfInBounds]
      · rw [if_neg (by omega), if_neg (by omega), if_neg (by omega), if_pos trivial, if_pos (by omega)]
      · rw [if_neg (by omega), if_neg (by omega), if_pos trivial, if_pos (by simp; omega)]
      · rw [if_neg (by omega), if_pos trivial, if_pos (by simp; omega)]
      · rw [if_pos trivial, if_pos (by simp; omega)]
    · rw [List.getElem?_set_ne (fun e => hij e.symm)] at hx
      obtain ⟨k', h', A', n', c', e0, e1, e2, e3, hr'⟩ := hc i x hx
      refine ⟨k', h', A', n', c', ?_, ?_, ?_, ?_, RdF.moveX (fun b hb' _ => ⟨hb', hset b hb'⟩) _ _ hr'⟩
      all_goals simp only [Array.getElem?_setIfInBounds]
      · rw [if_neg (by omega), if_neg (by omega), if_neg (by omega), if_neg (by omega)]; exact e0
      · rw [if_neg (by omega), if_neg (by omega), if_neg (by omega), if_neg (by omega)]; exact e1
      · rw [if_neg (by omega), if_neg (by omega), if_neg (by omega), if_neg (by omega)]; exact e2
      · rw [if_neg (by omega), if_neg (by omega), if_neg (by omega), if_neg (by omega)]; exact e3
theorem ivR_err {t : T} {vs : List Int} {n e : Int} (h : ivR t vs n = .error e) : e = 1 ∨ e = 7 := by
  rw [ivR] at h
  split at h
  · cases hr : rn (igW vs n) t 0 with
    | none => rw [hr] at h; cases h; exact .inr rfl
    | some u => rw [hr] at h; cases h
  · cases h; exact .inl rfl

set_option maxRecDepth 100000 in
set_option maxHeartbeats 8000000 in
theorem hBecomeC {pa ri : List Bool} {Bk pm : Nat} {Ap : Option Addr} {np cp : Nat} {Ar : Option Addr} {nr cr : Nat} {N : Nat} {bs : List BT} (h : Int) (xs : List T) (t : T) (n : Int) (vp vt : Value) (w : World)
    (hst : MSt pa ri Bk pm Ap np cp Ar nr cr N bs w) (hpa : LB w pa Ap np cp) (hri : LB w ri Ar nr cr) (hpN : pa.length = N) (hp : Rd w (.node 6 h xs) vp) (ht : Rd w t vt) (hh : 0 ≤ h) (hN : h < N) (hx1 : xs.length ≤ 1048576) (hmt : myB t = true) :
    Calls Tryz.prog 88 #[.pointer (some ⟨pm, 0, none⟩), vp, vt, .int .i64 n] w (HEn pa ri Bk pm Ap np cp Ar nr cr N w (becR pa ri bs h xs t n)) := by
  obtain ⟨A, mp, cp', rfl, hk0, hh0, hl, hc, hcm, hx⟩ := Rd_node.1 hp
  obtain ⟨k2, h2, A2, nt, ct, rfl⟩ := ht.full
  clear hp hk0 hh0
  have hnd : nd t ≤ 1048576 := by have := ((myB_iff t).1 hmt).2.1; omega
  have hnt := ((myB_iff t).1 hmt).1
  obtain ⟨W, hW⟩ : ∃ W, (w.alloc (.cells #[.int .i64 6, .int .i64 h, .slice A mp cp'] 24)).alloc (.cells #[.int .i64 k2, .int .i64 h2, .slice A2 nt ct] 24) = W := ⟨_, rfl⟩
  have hb : Below w.heap.size w W := by rw [← hW]; exact ((Below.refl _ _).alloc (Nat.le_refl _) _).alloc (by simp) _
  have xP : Box W w.heap.size 24 #[.int .i64 6, .int .i64 h, .slice A mp cp'] := by rw [← hW]; exact (Box.new _ _ _).alloc _
  have xT : Box W (w.heap.size + 1) 24 #[.int .i64 k2, .int .i64 h2, .slice A2 nt ct] := by rw [← hW]; exact (Box.new (w.alloc _) _ _).at (by simp)
  have HWW := Lib.hid hW; clear hW
  have HX : Hid (∀ i x, xs[i]? = some x → RdAt W A i x) := Lib.hid fun i x hx' => RdAt.keep hb (hx i x hx')
  have HST0 : Hid (Bk < w.heap.size) := by obtain ⟨cs, hrow, _⟩ := hst.row; exact Lib.hid hrow.lt
  have HST := Lib.hid (hst.keep hb); clear hst
  have HPA := Lib.hid (hpa.keep hb); clear hpa
  have HRI := Lib.hid (hri.keep hb); clear hri
  have HT := Lib.hid (Rd.keep hb _ _ ht); clear ht hx
  obtain ⟨R, hR⟩ : ∃ R, R = becR pa ri bs h xs t n := ⟨_, rfl⟩
  rw [← hR]
  rw [becR] at hR
  have HR := Lib.hid hR; clear hR
  obtain ⟨a0, a1, a2⟩ := xP.three
  go_enter Tryz.func88, Tryz.ntmps88
  go_wp2_with fail
  rw [HWW.out]
  clear HWW
  go_wp2_with fail
  refine (oPatternC xs A mp cp' n W hl hc hcm (by omega) HX.out).mono ?_
  generalize ptn n [] xs = O at *
  rintro e w1 (⟨vs, v, rfl, rfl, hns, hb1⟩ | ⟨rfl, rfl, hb1⟩)
  · replace xP := xP.keep hb1 xP.lt
    replace xT := xT.keep hb1 xT.lt
    have HST := Lib.hid (HST.out.keep hb1)
    have HPA := Lib.hid (HPA.out.keep hb1)
    have HRI := Lib.hid (HRI.out.keep hb1)
    have HT := Lib.hid (Rd.keep hb1 _ _ HT.out)
    replace hb := hb.trans (hb1.mono hb.size)
    clear hb1 a0 a1 a2 HX
    obtain ⟨Av, cv, rfl, hv1, hv2, hv3⟩ := hns
    have HV3 := Lib.hid hv3; clear hv3
    obtain ⟨c0, c1, c2⟩ := xT.three
    go_wp2_with fail
    refine (InvertC t vs Av vs.length cv n _ w1 HT.out hnd rfl hv1 hv2 HV3.out).mono ?_
    have HI : Hid (∀ ec, ivR t vs n = .error ec → ec = 1 ∨ ec = 7) := Lib.hid fun ec he => ivR_err he
    generalize ivR t vs n = Q at *
    rintro e w2 ⟨k3, h3, A3, n3, c3, rfl, hr, hb1⟩
    replace xP := xP.keep hb1 xP.lt
    replace xT := xT.keep hb1 xT.lt
    have HST := Lib.hid (HST.out.keep hb1)
    have HPA := Lib.hid (HPA.out.keep hb1)
    have HRI := Lib.hid (HRI.out.keep hb1)
    have HT := Lib.hid (Rd.keep hb1 _ _ HT.out)
    have lw1 := hb.size
    have lBk : Bk < w1.heap.size := by obtain ⟨cs, hrow, _⟩ := HST.out.row; have hx' := HST0.out; omega
    have s1 := hb1.size
    replace hb := hb.trans (hb1.mono hb.size)
    clear c0 c1 c2 HV3
    have hbA : Below w2.heap.size w2 (w2.alloc (.cells #[.int .i64 k3, .int .i64 h3, .slice A3 n3 c3] 24)) := (Below.refl _ _).alloc (Nat.le_refl _) _
    cases Q with
    | error ec =>
      dsimp only [ivE]
      have hbB := hb.trans (hbA.mono hb.size)
      rcases HI.out ec rfl with rfl | rfl
      · go_wp2_with fail
        go_ret
        exact Hen.err HR.out (by decide) hbB
      · go_wp2_with fail
        go_ret
        exact Hen.err HR.out (by decide) hbB
    | ok u =>
      dsimp only [ivE]
      have xU := Box.new w2 24 #[.int .i64 k3, .int .i64 h3, .slice A3 n3 c3]
      obtain ⟨z, hz⟩ := at_of (k := h.toNat) hpN (by omega)
      obtain ⟨b2, o2, rfl, cz⟩ := HPA.out.at_ _ _ hz
      have hgz : pa.getD h.toNat false = z := by rw [List.getD_eq_getElem?_getD, hz]; rfl
      have HR2 : Hid (R = if (z && !vaB ri t) = true then .error 6 else .ok (bs.set h.toNat (true, u))) := Lib.hid (by rw [← hgz]; exact HR.out)
      clear HI hz hgz HR
      have XU := Lib.hid xU
      have XP := Lib.hid (xP.keep hbA xP.lt)
      have XT := Lib.hid (xT.keep hbA xT.lt)
      have CZ := Lib.hid ((hbA.cell (cell_lt cz)).trans cz)
      have HST := Lib.hid (HST.out.keep hbA)
      have HRI := Lib.hid (HRI.out.keep hbA)
      have HT := Lib.hid (Rd.keep hbA _ _ HT.out)
      have HU := Lib.hid (RdF.moveX (ok' := fun b => w1.heap.size ≤ b) (fun b hb' hl => ⟨hb', hbA.block b hl⟩) _ _ hr)
      have hle := HPA.out.le
      have hcap := HPA.out.cap
      have hlen := HPA.out.len
      clear xU xP xT cz HPA hr
      go_wp2_with fail
      obtain ⟨W3, hW3⟩ : ∃ W3, w2.alloc (.cells #[.int .i64 k3, .int .i64 h3, .slice A3 n3 c3] 24) = W3 := ⟨_, rfl⟩
      rw [hW3] at hbA XU XP XT CZ HST HRI HT HU ⊢
      clear hW3
      obtain ⟨a0, a1, a2⟩ := XP.out.three
      obtain ⟨c0, c1, c2⟩ := XT.out.three
      obtain ⟨p0, p1, p2⟩ := HST.out.ptr.three
      have q0 := Past.cell a0
      have q1 := Past.cell a1
      have q2 := Past.cell a2
      have r0 := Past.cell c0
      have r1 := Past.cell c1
      have r2 := Past.cell c2
      have t0 := Past.cell p0
      have t1 := Past.cell p1
      have t2 := Past.cell p2
      have qz := Past.cell CZ.out
      have hiN : h < (np : Int) := by omega
      cases z
      · refine wp_region_past (by kernel_rfl) (by kernel_rfl) ?_
        repeat (go_big_quiet_step (fail))
        refine wpQuiet_nil ?_
        rintro _ ⟨z1, rfl⟩
        obtain ⟨W4, hb4⟩ := z1
        dsimp only
        have HR3 : Hid (R = .ok (bs.set h.toNat (true, u))) := Lib.hid (by have := HR2.out; simpa using this)
        clear q0 q1 q2 r0 r1 r2 t0 t1 t2 qz a0 a1 a2 c0 c1 c2 p0 p1 p2 HR2
        have hb3 := hb.trans (hbA.mono hb.size)
        have hbW := hb3.trans (hb4.mono hb3.size)
        have XU' := XU.out.keep hb4 XU.out.lt
        have XP' := XP.out.keep hb4 XP.out.lt
        have HST' := Lib.hid (HST.out.keep hb4)
        have HU' := Lib.hid (RdF.moveX (ok' := fun b => w1.heap.size ≤ b) (fun b hb' hl => ⟨hb', hb4.block b hl⟩) _ _ HU.out)
        obtain ⟨a0, a1, a2⟩ := XP'.three
        obtain ⟨p0, p1, p2⟩ := HST'.out.ptr.three
        obtain ⟨d0, d1, d2⟩ := XU'.three
        have q1 := Past.cell a1
        have t0 := Past.cell p0
        have r0 := Past.cell d0
        have r1 := Past.cell d1
        have r2 := Past.cell d2
        clear hb4
        go_wp2_with fail
        refine wp_region_class_tail (C := fun w' => ∃ z : Past W4, w' = z.wd) 9 (by kernel_rfl) (by kernel_rfl) ⟨⟨W4.drew, (Below.refl _ _).drew⟩, rfl⟩ ?_
        simp only [List.take_succ_cons, List.take_zero, List.drop_succ_cons, List.drop_zero]
        repeat (go_big_quiet_step (fail))
        refine wpQuiet_nil ?_
        rintro _ ⟨z2, rfl⟩
        obtain ⟨W5, hb5⟩ := z2
        dsimp only
        have hbX := hbW.trans (hb5.mono hbW.size)
        have HST5 := Lib.hid (HST'.out.keep hb5)
        have HU5 := Lib.hid (RdF.moveX (ok' := fun b => b ≠ Bk) (fun b hb' hl => ⟨by have := lBk; omega, hb5.block b hl⟩) _ _ HU'.out)
        clear q1 t0 r0 r1 r2 a0 a1 a2 p0 p1 p2 d0 d1 d2 hb5
        obtain ⟨cs, hrow, hsz, hcs⟩ := HST5.out.row
        clear hcs
        obtain ⟨u0, hu0⟩ := hrow.there (i := h.toNat * 4) (by omega)
        obtain ⟨u1, hu1⟩ := hrow.there (i := h.toNat * 4 + 1) (by omega)
        obtain ⟨u2, hu2⟩ := hrow.there (i := h.toNat * 4 + 2) (by omega)
        obtain ⟨u3, hu3⟩ := hrow.there (i := h.toNat * 4 + 3) (by omega)
        have f0 := hrow.frozen (h.toNat * 4)
        have f1 := hrow.frozen (h.toNat * 4 + 1)
        have f2 := hrow.frozen (h.toNat * 4 + 2)
        have f3 := hrow.frozen (h.toNat * 4 + 3)
        have HBX := Lib.hid hbX
        clear hb3 hbW hbX hrow
        go_wp2_with fail
        go_ret
        rw [HR3.out]
        obtain ⟨h1, h2⟩ := HST5.out.put (j := h.toNat) (by omega) HU5.out rfl
        exact ⟨rfl, h1, (Fr.below HBX.out).trans h2 fun _ _ e => e⟩
      · have HV := Lib.hid fun W' (h' : Below W3.heap.size W3 W') => hVarC ri pm _ _ Ar nr cr t _ W' ⟨HST.out.ptr.keep h' HST.out.ptr.lt, HRI.out.keep h'⟩ (Rd.keep h' _ _ HT.out) hnt
        generalize vaB ri t = vb at *
        refine wp_region_past (by kernel_rfl) (by kernel_rfl) ?_
        repeat (go_big_quiet_step ((exact calls_past (HV.out _ (Past.h _)))))
        refine wpQuiet_nil ?_
        rintro _ ⟨z1, rfl⟩
        obtain ⟨W4, hb4⟩ := z1
        dsimp only
        clear q0 q1 q2 r0 r1 r2 t0 t1 t2 qz a0 a1 a2 c0 c1 c2 p0 p1 p2 HV
        cases vb
        · have HR3 : Hid (R = .error 6) := Lib.hid HR2.out
          have hb3 := hb.trans (hbA.mono hb.size)
          have hbW := hb3.trans (hb4.mono hb3.size)
          clear HR2
          go_wp2_with fail
          go_ret
          exact Hen.err HR3.out (by decide) hbW
        · have HR3 : Hid (R = .ok (bs.set h.toNat (true, u))) := Lib.hid HR2.out
          clear HR2
          have hb3 := hb.trans (hbA.mono hb.size)
          have hbW := hb3.trans (hb4.mono hb3.size)
          have XU' := XU.out.keep hb4 XU.out.lt
          have XP' := XP.out.keep hb4 XP.out.lt
          have HST' := Lib.hid (HST.out.keep hb4)
          have HU' := Lib.hid (RdF.moveX (ok' := fun b => w1.heap.size ≤ b) (fun b hb' hl => ⟨hb', hb4.block b hl⟩) _ _ HU.out)
          obtain ⟨a0, a1, a2⟩ := XP'.three
          obtain ⟨p0, p1, p2⟩ := HST'.out.ptr.three
          obtain ⟨d0, d1, d2⟩ := XU'.three
          have q1 := Past.cell a1
          have t0 := Past.cell p0
          have r0 := Past.cell d0
          have r1 := Past.cell d1
          have r2 := Past.cell d2
          clear hb4
          go_wp2_with fail
          refine wp_region_class_tail (C := fun w' => ∃ z : Past W4, w' = z.wd) 9 (by kernel_rfl) (by kernel_rfl) ⟨⟨W4.drew, (Below.refl _ _).drew⟩, rfl⟩ ?_
          simp only [List.take_succ_cons, List.take_zero, List.drop_succ_cons, List.drop_zero]
          repeat (go_big_quiet_step (fail))
          refine wpQuiet_nil ?_
          rintro _ ⟨z2, rfl⟩
          obtain ⟨W5, hb5⟩ := z2
          dsimp only
          have hbX := hbW.trans (hb5.mono hbW.size)
          have HST5 := Lib.hid (HST'.out.keep hb5)
          have HU5 := Lib.hid (RdF.moveX (ok' := fun b => b ≠ Bk) (fun b hb' hl => ⟨by have := lBk; omega, hb5.block b hl⟩) _ _ HU'.out)
          clear q1 t0 r0 r1 r2 a0 a1 a2 p0 p1 p2 d0 d1 d2 hb5
          obtain ⟨cs, hrow, hsz, hcs⟩ := HST5.out.row
          clear hcs
          obtain ⟨u0, hu0⟩ := hrow.there (i := h.toNat * 4) (by omega)
          obtain ⟨u1, hu1⟩ := hrow.there (i := h.toNat * 4 + 1) (by omega)
          obtain ⟨u2, hu2⟩ := hrow.there (i := h.toNat * 4 + 2) (by omega)
          obtain ⟨u3, hu3⟩ := hrow.there (i := h.toNat * 4 + 3) (by omega)
          have f0 := hrow.frozen (h.toNat * 4)
          have f1 := hrow.frozen (h.toNat * 4 + 1)
          have f2 := hrow.frozen (h.toNat * 4 + 2)
          have f3 := hrow.frozen (h.toNat * 4 + 3)
          have HBX := Lib.hid hbX
          clear hb3 hbW hbX hrow
          go_wp2_with fail
          go_ret
          rw [HR3.out]
          obtain ⟨h1, h2⟩ := HST5.out.put (j := h.toNat) (by omega) HU5.out rfl
          exact ⟨rfl, h1, (Fr.below HBX.out).trans h2 fun _ _ e => e⟩
  · replace hb := hb.trans (hb1.mono hb.size)
    clear hb1
    go_wp2_with fail
    go_ret
    exact Hen.err HR.out (by decide) hb
end Go.Proofs.YtelicajhamgibaaGreat

/-
  Contracts of package match's holdMeta and hold. No statement is proved here.
-/
namespace Go.Proofs.YtelicajhamgibaaGreat
open Go.ChangeShapes Go.WideShapes Go.ChangeAt Go.RowKit
set_option linter.unusedVariables false

theorem HEn.move {pa ri : List Bool} {Bk pm : Nat} {Ap : Option Addr} {np cp : Nat} {Ar : Option Addr} {nr cr : Nat} {N : Nat} {w0 w w' : World} {R : Except Int (List BT)} {e : Ending} (h : HEn pa ri Bk pm Ap np cp Ar nr cr N w R e w') (hf : Fr (fun b => b = Bk) w0 w) : HEn pa ri Bk pm Ap np cp Ar nr cr N w0 R e w' := by
  cases R with
  | error ec => exact ⟨h.1, h.2.1, hf.trans h.2.2 fun _ _ e => e⟩
  | ok bs => exact ⟨h.1, h.2.1, hf.trans h.2.2 fun _ _ e => e⟩
theorem HEn.uni {pa ri : List Bool} {Bk pm : Nat} {Ap : Option Addr} {np cp : Nat} {Ar : Option Addr} {nr cr : Nat} {N : Nat} {w w' : World} {R : Except Int (List BT)} {e : Ending} (h : HEn pa ri Bk pm Ap np cp Ar nr cr N w R e w') : ∃ ec, e = .returned (.int .i64 ec) ∧ Fr (fun b => b = Bk) w w' ∧ (∀ v, v = .int .i64 ec → HEn pa ri Bk pm Ap np cp Ar nr cr N w R (.returned v) w') := by
  cases R with
  | error ec => obtain ⟨rfl, h1, h2⟩ := h; exact ⟨ec, rfl, h2, fun v e => by subst e; exact ⟨rfl, h1, h2⟩⟩
  | ok bs => obtain ⟨rfl, h1, h2⟩ := h; exact ⟨0, rfl, h2, fun v e => by subst e; exact ⟨rfl, h1, h2⟩⟩
theorem len_nd : ∀ xs : List T, xs.length ≤ ndL xs
  | [] => Nat.le_refl _
  | .node k h ys :: xs => by rw [ndL, nd, List.length_cons]; have := len_nd xs; omega
/-- the binds' terms are of no great heads -/
def okBs (bs : List BT) : Prop := ∀ x ∈ bs, x.1 = true → okT 2199023255552 x.2 ∧ myB x.2 = true

set_option maxRecDepth 100000 in
set_option maxHeartbeats 8000000 in
theorem hMetaC {pa ri : List Bool} {Bk pm : Nat} {Ap : Option Addr} {np cp : Nat} {Ar : Option Addr} {nr cr : Nat} {N : Nat} {bs : List BT} (h : Int) (xs : List T) (t : T) (n : Int) (vp vt : Value) (w : World)
    (hst : MSt pa ri Bk pm Ap np cp Ar nr cr N bs w) (hpa : LB w pa Ap np cp) (hri : LB w ri Ar nr cr) (hpN : pa.length = N) (hp : Rd w (.node 6 h xs) vp) (ht : Rd w t vt) (hmp : myB (.node 6 h xs) = true) (hop : okT 2199023255552 (.node 6 h xs)) (hmt : myB t = true) (hob : okBs bs) :
    Calls Tryz.prog 65 #[.pointer (some ⟨pm, 0, none⟩), vp, vt, .int .i64 n] w (HEn pa ri Bk pm Ap np cp Ar nr cr N w (hdM pa ri bs h xs t n)) := by
  have hnod := ((myB_iff _).1 hmp)
  have hh : 0 ≤ h := by
    have := (node_parts hnod.1).1
    simp [okN] at this
    omega
  have hx1 : xs.length ≤ 1048576 := by
    have h1 := hnod.2.1
    rw [nd] at h1
    have h2 := len_nd xs
    omega
  have hlen := hst.len
  obtain ⟨A, mp, cp', rfl, _⟩ := Rd_node.1 hp
  obtain ⟨k2, h2, A2, nt, ct, rfl⟩ := ht.full
  obtain ⟨W, hW⟩ : ∃ W, (w.alloc (.cells #[.int .i64 6, .int .i64 h, .slice A mp cp'] 24)).alloc (.cells #[.int .i64 k2, .int .i64 h2, .slice A2 nt ct] 24) = W := ⟨_, rfl⟩
  have hb : Below w.heap.size w W := by rw [← hW]; exact ((Below.refl _ _).alloc (Nat.le_refl _) _).alloc (by simp) _
  have xP : Box W w.heap.size 24 #[.int .i64 6, .int .i64 h, .slice A mp cp'] := by rw [← hW]; exact (Box.new _ _ _).alloc _
  have xT : Box W (w.heap.size + 1) 24 #[.int .i64 k2, .int .i64 h2, .slice A2 nt ct] := by rw [← hW]; exact (Box.new (w.alloc _) _ _).at (by simp)
  have HWW := Lib.hid hW; clear hW
  have HST := Lib.hid (hst.keep hb); clear hst
  have HPA := Lib.hid (hpa.keep hb); clear hpa
  have HRI := Lib.hid (hri.keep hb); clear hri
  have HP := Lib.hid (Rd.keep hb _ _ hp); clear hp
  have HT := Lib.hid (Rd.keep hb _ _ ht); clear ht
  have HOB := Lib.hid hob; clear hob
  have HOP := Lib.hid hop; clear hop hnod
  have HMP := Lib.hid hmp; clear hmp
  have HMT := Lib.hid hmt; clear hmt
  obtain ⟨R, hR⟩ : ∃ R, R = hdM pa ri bs h xs t n := ⟨_, rfl⟩
  rw [← hR]
  rw [hdM, hlen] at hR
  obtain ⟨a0, a1, a2⟩ := xP.three
  obtain ⟨p0, p1, p2⟩ := HST.out.ptr.three
  go_enter Tryz.func65, Tryz.ntmps65
  go_wp2_with fail
  rw [HWW.out]
  clear HWW
  have q0 := Past.cell a0
  have q1 := Past.cell a1
  have q2 := Past.cell a2
  have t0 := Past.cell p0
  have t1 := Past.cell p1
  have t2 := Past.cell p2
  refine wp_region_past (by kernel_rfl) (by kernel_rfl) ?_
  repeat (go_big_quiet_step (fail))
  refine wpQuiet_nil ?_
  rintro _ ⟨z1, rfl⟩
  obtain ⟨W4, hb4⟩ := z1
  dsimp only
  clear q0 q1 q2 t0 t1 t2 a0 a1 a2 p0 p1 p2
  replace xP := xP.keep hb4 xP.lt
  replace xT := xT.keep hb4 xT.lt
  replace hb := hb.trans (hb4.mono hb.size)
  have HST := Lib.hid (HST.out.keep hb4)
  have HPA := Lib.hid (HPA.out.keep hb4)
  have HRI := Lib.hid (HRI.out.keep hb4)
  have HP := Lib.hid (Rd.keep hb4 _ _ HP.out)
  have HT := Lib.hid (Rd.keep hb4 _ _ HT.out)
  clear hb4
  by_cases hhN : (N : Int) ≤ h
  · have hd : decide ((N : Int) ≤ h) = true := by simpa using hhN
    rw [if_pos hhN] at hR
    have HR := Lib.hid hR; clear hR
    go_wp2_with fail
    go_ret
    exact Hen.err HR.out (by decide) hb
  · have hd : decide ((N : Int) ≤ h) = false := by simpa using hhN
    rw [if_neg hhN] at hR
    obtain ⟨x, hx⟩ := at_of (k := h.toNat) hlen (by omega)
    have hgx : bs.getD h.toNat noB = x := by rw [List.getD_eq_getElem?_getD, hx]; rfl
    rw [hgx] at hR
    have HR := Lib.hid hR; clear hR
    obtain ⟨b2, o2, k3, h3, A3, n3, c3, e2, d0, d1, d2, d3, hr⟩ := HST.out.cells _ x hx
    obtain ⟨rfl, rfl⟩ : Bk = b2 ∧ 0 = o2 := by simpa using e2
    rw [Nat.zero_add] at d0
    clear e2 d1 d2 d3 hr hgx hx
    obtain ⟨bx, tx⟩ := x
    dsimp only at d0 HR
    obtain ⟨a0, a1, a2⟩ := xP.three
    obtain ⟨p0, p1, p2⟩ := HST.out.ptr.three
    go_wp2_with fail
    have q1 := Past.cell a1
    have t0 := Past.cell p0
    have r0 := Past.cell d0
    refine wp_region_past (by kernel_rfl) (by kernel_rfl) ?_
    repeat (go_big_quiet_step (fail))
    refine wpQuiet_nil ?_
    rintro _ ⟨z1, rfl⟩
    obtain ⟨W5, hb4⟩ := z1
    dsimp only
    clear q1 t0 r0 a0 a1 a2 p0 p1 p2 d0
    replace xP := xP.keep hb4 xP.lt
    replace xT := xT.keep hb4 xT.lt
    replace hb := hb.trans (hb4.mono hb.size)
    have HST := Lib.hid (HST.out.keep hb4)
    have HPA := Lib.hid (HPA.out.keep hb4)
    have HRI := Lib.hid (HRI.out.keep hb4)
    have HP := Lib.hid (Rd.keep hb4 _ _ HP.out)
    have HT := Lib.hid (Rd.keep hb4 _ _ HT.out)
    clear hb4
    obtain ⟨a0, a1, a2⟩ := xP.three
    obtain ⟨c0, c1, c2⟩ := xT.three
    have HB := Lib.hid hb; clear hb
    cases bx
    · rw [if_neg (by decide)] at HR
      go_wp2_with fail
      refine (hBecomeC h xs t n _ _ W5 HST.out HPA.out HRI.out hpN HP.out HT.out hh (by omega) hx1 HMT.out).mono ?_
      rw [← HR.out]
      intro e w1 hE
      obtain ⟨ec, rfl, hfr, hE'⟩ := hE.uni
      have HE := Lib.hid ((hE' _ rfl).move (Fr.below HB.out))
      clear hE hE' hfr
      go_wp2_with fail
      go_ret
      exact HE.out
    · rw [if_pos rfl] at HR
      go_wp2_with fail
      refine (hCompareC (.node 6 h xs) t n _ _ W5 HST.out HP.out HT.out HOP.out HMP.out fun x hx h1 => (HOB.out x hx h1).1).mono ?_
      generalize cmpR bs (.node 6 h xs) t n = ec at *
      rintro e w1 ⟨rfl, hb1⟩
      have HBX := Lib.hid (HB.out.trans (hb1.mono HB.out.size))
      have HST := Lib.hid (HST.out.keep hb1)
      clear hb1
      go_wp2_with fail
      go_ret
      rw [HR.out]
      by_cases he : ec = 0
      · rw [if_pos he, he]
        exact ⟨rfl, HST.out, Fr.below HBX.out⟩
      · rw [if_neg he]
        exact ⟨rfl, he, Fr.below HBX.out⟩
end Go.Proofs.YtelicajhamgibaaGreat

/-
  Contracts of package match's holdArgs and hold. No statement is proved here.
-/
namespace Go.Proofs.YtelicajhamgibaaGreat
open Go.ChangeShapes Go.WideShapes Go.ChangeAt Go.RowKit
set_option linter.unusedVariables false

/-- a scope with one label, that is come to first, too -/
theorem wp_scope_once {P : Program} {Q : Exit → Act → World → Prop} {a : Act} {w : World} {c rest : Code} (l : Nat) (J : Act → World → Prop) (μ : Act → World → Nat) (hf : findLabel c l = some (Code.skip.seq rest))
    (pass : ∀ a w, J a w → rest.wp P (Exit.jump l (fun a' w' => J a' w' ∧ μ a' w' < μ a w) Q) a w) (first : (∀ a w, J a w → rest.wp P (Exit.jump l J Q) a w) → c.wp P (Exit.jump l J Q) a w) : (Code.scope c).wp P Q a w :=
  wp_scope_jumps l J μ hf (first fun a w h => wp_mono (pass a w h) fun e a w he => by
    cases e with
    | goto l' => exact ⟨he.1, he.2.1⟩
    | normal => exact he
    | exit id => exact he
    | ret => exact he
    | panic ch => exact he
    | outgrown => exact he) fun a w h => wp_seq (wp_skip (pass a w h))
/-- what is asked of what hold is called with -/
structure HoA (pa ri : List Bool) (Bk pm : Nat) (Ap : Option Addr) (np cp : Nat) (Ar : Option Addr) (nr cr : Nat) (N : Nat) (wB : World) : Prop where
  bk : wB.heap.size ≤ Bk
  hm : wB.heap.size ≤ pm
  lp : LB wB pa Ap np cp
  lr : LB wB ri Ar nr cr
  pN : pa.length = N
/-- a term, as far as hold asks -/
structure HoT (t : T) : Prop where
  my : myB t = true
  ok : okT 2199021158400 t
theorem HoT.part {k h : Int} {xs : List T} (ht : HoT (.node k h xs)) : ∀ x ∈ xs, HoT x ∧ dp x < dp (.node k h xs) := fun x hx => by
  obtain ⟨h1, h2, h3⟩ := (myB_iff _).1 ht.my
  rw [nd] at h2
  have h4 := nd_mem hx
  have h5 := dpL_mem hx
  rw [dp] at h3 ⊢
  exact ⟨⟨(myB_iff _).2 ⟨(node_parts h1).2 x hx, by omega, by omega⟩, ok_parts ht.ok x hx⟩, by omega⟩
/-- hold's contract for one node of the pattern -/
def HoC (p : T) : Prop :=
  ∀ (pa ri : List Bool) (Bk pm : Nat) (Ap : Option Addr) (np cp : Nat) (Ar : Option Addr) (nr cr N : Nat) (wB w : World) (t : T) (n : Int) (bs : List BT) (vp vt : Value), HoA pa ri Bk pm Ap np cp Ar nr cr N wB → Below wB.heap.size wB w →
    MSt pa ri Bk pm Ap np cp Ar nr cr N bs w → Rd wB p vp → Rd wB t vt → HoT p → HoT t → okBs bs → 0 ≤ n → n + dp p ≤ 4000 →
    Calls Tryz.prog 41 #[.pointer (some ⟨pm, 0, none⟩), vp, vt, .int .i64 n] w (HEn pa ri Bk pm Ap np cp Ar nr cr N w (hdT pa ri p t n bs))
theorem ptn_len {below : Int} : ∀ (l : List T) (seen zs : List Int), ptn below seen l = some zs → zs.length = seen.length + l.length
  | [], seen, zs, h => by rw [ptn] at h; cases h; simp
  | .node k h' xs :: ts, seen, zs, h => by
    by_cases hp : pt1 seen below (.node k h' xs) = true
    · rw [ptn_step hp] at h
      have := ptn_len ts _ zs h
      simp at this ⊢
      omega
    · rw [ptn_stop (by simpa using hp)] at h
      cases h
/-- what Invert tells -/
theorem iv_told {t u : T} {vs : List Int} {n : Int} (ht : HoT t) (hl : vs.length ≤ 1048576) (h : ivR t vs n = .ok u) : ivT (igo vs n) t 0 = some u ∧ (okT 2199023255552 u ∧ myB u = true) ∧ (0 ≤ n ∧ n ≤ 1000) ∧ vB n [] vs = true := by
  have hs : nd t ≤ 1048576 := by have := ((myB_iff t).1 ht.my).2.1; omega
  rw [ivR] at h
  split at h
  · rename_i hc
    simp only [Bool.and_eq_true, decide_eq_true_eq] at hc
    obtain ⟨⟨⟨h1, h2⟩, h3⟩, h4⟩ := hc
    rw [rn_iv (M := 2199021158400) (g := igo vs n) (by omega) (fun x h0 hx => ⟨igW_eq h0 (by omega) ⟨h1, h2⟩ (by omega), fun y hy => by have := igo_bd (M := 2199021158400) (by omega) hx h1 hy; omega⟩) t 0 ht.ok (by omega) (by omega)] at h
    cases hi : ivT (igo vs n) t 0 with
    | none => rw [hi] at h; cases h
    | some v =>
      rw [hi] at h
      cases h
      have hg : ∀ x, 0 ≤ x → x ≤ 2199021158400 → ∀ y, igo vs n x = some y → 0 ≤ y ∧ y ≤ x + 1048576 := fun x h0 hx y hy => by
        unfold igo at hy
        split at hy
        · cases hy; omega
        · have := pls_lt hy; omega
      exact ⟨rfl, ⟨okT_mono (by omega) _ (ok_iv (M := 2199021158400) (B := 1048576) hg (by omega) t 0 u (Int.le_refl _) ht.ok hi), my_iv (fun x h0 hx y hy => (hg x h0 hx y hy).1) ht.ok ht.my hi⟩, ⟨h1, h2⟩, h4⟩
  · cases h
theorem okBs_set {bs : List BT} {j : Nat} {u : T} (h : okBs bs) (hu : okT 2199023255552 u ∧ myB u = true) : okBs (bs.set j (true, u)) := fun x hx h1 => by
  rcases List.mem_or_eq_of_mem_set hx with hx | rfl
  · exact h x hx h1
  · exact hu
theorem okBs_meta {pa ri : List Bool} {h : Int} {xs : List T} {t : T} {n : Int} {bs bs' : List BT} (hp : HoT (.node 6 h xs)) (ht : HoT t) (hb : okBs bs) (he : hdM pa ri bs h xs t n = .ok bs') : okBs bs' := by
  have hx1 : xs.length ≤ 1048576 := by
    have h1 := ((myB_iff _).1 hp.my).2.1
    rw [nd] at h1
    have h2 := len_nd xs
    omega
  rw [hdM] at he
  split at he
  · cases he
  · split at he
    · split at he
      · cases he; exact hb
      · cases he
    · rw [becR] at he
      cases hq : ptn n [] xs with
      | none => rw [hq] at he; cases he
      | some vs =>
        rw [hq] at he
        have hl := ptn_len xs [] vs hq
        try simp only at he
        cases hi : ivR t vs n with
        | error e => rw [hi] at he; cases he
        | ok u =>
          rw [hi] at he
          try simp only at he
          split at he
          · cases he
          · cases he
            exact okBs_set hb (iv_told ht (by simp at hl; omega) hi).2.1
mutual
theorem okBs_keep {pa ri : List Bool} : ∀ (p t : T) (n : Int) (bs bs' : List BT), HoT p → HoT t → okBs bs → hdT pa ri p t n bs = .ok bs' → okBs bs'
  | .node k h xs, .node k' h' ys, n, bs, bs', hp, ht, hb, he => by
    rw [hdT] at he
    split at he
    · rename_i hk
      subst hk
      exact okBs_meta hp ht hb he
    · split at he
      · exact okBs_keepL k xs.length xs ys 0 n bs bs' (fun x hx => (hp.part x hx).1) (fun x hx => (ht.part x hx).1) hb he
      · cases he
theorem okBs_keepL {pa ri : List Bool} (k : Int) (m : Nat) : ∀ (xs ys : List T) (i : Nat) (n : Int) (bs bs' : List BT), (∀ x ∈ xs, HoT x) → (∀ x ∈ ys, HoT x) → okBs bs → hdL pa ri k m xs ys i n bs = .ok bs' → okBs bs'
  | [], ys, i, n, bs, bs', _, _, hb, he => by rw [hdL] at he; cases he; exact hb
  | x :: xs, [], i, n, bs, bs', _, _, hb, he => by rw [hdL] at he; cases he; exact hb
  | x :: xs, y :: ys, i, n, bs, bs', hp, ht, hb, he => by
    rw [hdL] at he
    try simp only at he
    cases h1 : hdT pa ri x y (n + bd k m i) bs with
    | error e => rw [h1] at he; cases he
    | ok b1 =>
      rw [h1] at he
      exact okBs_keepL k m xs ys (i + 1) n b1 bs' (fun z hz => hp z (List.mem_cons_of_mem _ hz)) (fun z hz => ht z (List.mem_cons_of_mem _ hz)) (okBs_keep x y _ bs b1 (hp x (List.mem_cons_self ..)) (ht y (List.mem_cons_self ..)) hb h1) he
end
/-- what holds at the head of holdArgs' loop -/
structure HaI (pa ri : List Bool) (Bk pm : Nat) (Ap : Option Addr) (np cp : Nat) (Ar : Option Addr) (nr cr : Nat) (N : Nat) (k : Int) (m : Nat) (xs ys : List T) (n : Int) (R : Except Int (List BT)) (w : World) (j : Nat) (bs : List BT) (wr : World) : Prop where
  st : MSt pa ri Bk pm Ap np cp Ar nr cr N bs wr
  ok : okBs bs
  fr : Fr (fun b => b = Bk) w wr
  eq : hdL pa ri k m (xs.drop j) (ys.drop j) j n bs = R
set_option maxRecDepth 100000 in
set_option maxHeartbeats 8000000 in
theorem hArgsC {pa ri : List Bool} {Bk pm : Nat} {Ap : Option Addr} {np cp : Nat} {Ar : Option Addr} {nr cr : Nat} {N : Nat} {wB : World} (k h k' h' : Int) (xs ys : List T) (hF : ∀ x ∈ xs, HoC x) (n : Int) (bs : List BT) (vp vt : Value) (w : World)
    (ha : HoA pa ri Bk pm Ap np cp Ar nr cr N wB) (hb : Below wB.heap.size wB w) (hst : MSt pa ri Bk pm Ap np cp Ar nr cr N bs w) (hp : Rd wB (.node k h xs) vp) (ht : Rd wB (.node k' h' ys) vt) (hP : HoT (.node k h xs)) (hT : HoT (.node k' h' ys)) (hob : okBs bs)
    (hl : xs.length = ys.length) (hn0 : 0 ≤ n) (hn1 : n + dp (.node k h xs) ≤ 4000) :
    Calls Tryz.prog 66 #[.pointer (some ⟨pm, 0, none⟩), vp, vt, .int .i64 n] w (HEn pa ri Bk pm Ap np cp Ar nr cr N w (hdL pa ri k xs.length xs ys 0 n bs)) := by
  obtain ⟨A, m, c, rfl, hk0, hh0, hlx, hc, hcm, hx⟩ := Rd_node.1 hp
  obtain ⟨A2, m2, c2, rfl, hk2, hh2, hly, hc2, hcm2, hy⟩ := Rd_node.1 ht
  obtain rfl : m = m2 := by omega
  clear hk0 hh0 hk2 hh2 hp ht
  obtain ⟨W, hW⟩ : ∃ W, (w.alloc (.cells #[.int .i64 k, .int .i64 h, .slice A m c] 24)).alloc (.cells #[.int .i64 k', .int .i64 h', .slice A2 m c2] 24) = W := ⟨_, rfl⟩
  have hbW : Below w.heap.size w W := by rw [← hW]; exact ((Below.refl _ _).alloc (Nat.le_refl _) _).alloc (by simp) _
  have xP : Box W w.heap.size 24 #[.int .i64 k, .int .i64 h, .slice A m c] := by rw [← hW]; exact (Box.new _ _ _).alloc _
  have xT : Box W (w.heap.size + 1) 24 #[.int .i64 k', .int .i64 h', .slice A2 m c2] := by rw [← hW]; exact (Box.new (w.alloc _) _ _).at (by simp)
  have HWW := Lib.hid hW; clear hW
  have hbk : Bk < w.heap.size := by obtain ⟨cs, hrow, _⟩ := hst.row; exact hrow.lt
  have hcm' := hcm
  unfold maxLen at hcm'
  have HX := Lib.hid hx; clear hx
  have HY := Lib.hid hy; clear hy
  have HLX := Lib.hid hlx
  have HLY := Lib.hid hly
  have HB := Lib.hid hb; clear hb
  have HA := Lib.hid ha; clear ha
  have HF := Lib.hid hF; clear hF
  have HPP := Lib.hid hP; clear hP
  have HTT := Lib.hid hT; clear hT
  have HN1 := Lib.hid hn1; clear hn1
  rw [hlx]
  obtain ⟨R, hR⟩ : ∃ R, hdL pa ri k m xs ys 0 n bs = R := ⟨_, rfl⟩
  rw [hR]
  have hI : HaI pa ri Bk pm Ap np cp Ar nr cr N k m xs ys n R W 0 bs W := ⟨hst.keep hbW, hob, Fr.refl _ _, by rw [List.drop_zero, List.drop_zero]; exact hR⟩
  have HI := Lib.hid hI
  have HBW := Lib.hid hbW
  clear hI hR hst hob hbW hlx hly hl
  have HXP := Lib.hid xP
  have HXT := Lib.hid xT
  clear xP xT
  go_enter Tryz.func66, Tryz.ntmps66
  go_wp2_with fail
  rw [HWW.out]
  clear HWW
  refine wp_scope_once 0 (fun a' w' => ∃ (j : Nat) (bs : List BT) (u10 u11 u12 u13 u14 u15 u16 u17 u18 u19 u20 u21 u22 u23 u24 u25 u26 u27 u28 u29 u30 u31 u32 u33 u34 u35 u36 u37 : Value), a' = { tmps := #[.pointer (some ⟨pm, 0, none⟩), .agg #[.int .i64 k, .int .i64 h, .slice A m c], .agg #[.int .i64 k', .int .i64 h', .slice A2 m c2], .int .i64 n, undef, .pointer (some ⟨w.heap.size, 0, none⟩), .pointer (some ⟨w.heap.size + 1, 0, none⟩), undef, .int .i64 0, .int .i64 (j : Nat), u10, u11, u12, u13, u14, u15, u16, u17, u18, u19, u20, u21, u22, u23, u24, u25, u26, u27, u28, u29, u30, u31, u32, u33, u34, u35, u36, u37], defers := [] } ∧ j ≤ m ∧ Hid (HaI pa ri Bk pm Ap np cp Ar nr cr N k m xs ys n R W j bs w')) (fun a' _ => m - (Go.RowKit.intOf (a'.tmps.getD 9 undef)).toNat) rfl ?_ (fun hrest => ?_)
  · rintro a' wr ⟨j, bs, u10, u11, u12, u13, u14, u15, u16, u17, u18, u19, u20, u21, u22, u23, u24, u25, u26, u27, u28, u29, u30, u31, u32, u33, u34, u35, u36, u37, rfl, hj, HI⟩
    have hBr : Below wB.heap.size wB wr := (HB.out.trans (HBW.out.mono HB.out.size)).trans ((HI.out.fr.to_below (B := wB.heap.size) (fun i e => by rw [e]; exact HA.out.bk) (by have := HB.out.size; have := HBW.out.size; omega)))
    have xP := HXP.out.fr HI.out.fr (by omega)
    have xT := HXT.out.fr HI.out.fr (by omega)
    obtain ⟨a0, a1, a2⟩ := xP.three
    obtain ⟨b0, b1, b2⟩ := xT.three
    by_cases hlt : j < m
    · have e0 : ((j : Int) == (m : Int)) = false := by rw [beq_eq_false_iff_ne]; omega
      obtain ⟨x, hx⟩ := at_of HLX.out hlt
      obtain ⟨y, hy⟩ := at_of HLY.out hlt
      obtain ⟨bb, o, k3, h3, A3, n3, c3, rfl, d0, d1, d2, hrx⟩ := (HX.out j x hx).full
      obtain ⟨bb2, o2, k4, h4, A4, n4, c4, rfl, g0, g1, g2, hry⟩ := (HY.out j y hy).full
      have d0 := (hBr.cell (cell_lt d0)).trans d0
      have d1 := (hBr.cell (cell_lt d1)).trans d1
      have d2 := (hBr.cell (cell_lt d2)).trans d2
      have g0 := (hBr.cell (cell_lt g0)).trans g0
      have g1 := (hBr.cell (cell_lt g1)).trans g1
      have g2 := (hBr.cell (cell_lt g2)).trans g2
      have heq := HI.out.eq
      rw [drop_at hx, drop_at hy, hdL] at heq
      have HEQ := Lib.hid heq; clear heq
      have hxm := List.mem_of_getElem? hx
      have hpx := HPP.out.part x hxm
      have hty := (HTT.out.part y (List.mem_of_getElem? hy)).1
      have hbd : 0 ≤ bd k m j ∧ bd k m j ≤ 1 := by rw [bd_bdn]; have := bdn_le k m j; omega
      obtain ⟨s, hs⟩ : ∃ s, s = n + bd k m j := ⟨_, rfl⟩
      have hsum : IntKind.i64.wrap (n + bd k m j) = s := by have := HN1.out; have := hpx.2; rw [hs, wrapEq, wrap_small (by omega) (by omega)]
      rw [← hs] at HEQ
      have HC := Lib.hid fun W' (h' : Below wr.heap.size wr W') => HF.out x hxm pa ri Bk pm Ap np cp Ar nr cr N wB W' y s bs _ _ HA.out (hBr.trans (h'.mono hBr.size)) (HI.out.st.keep h') hrx hry hpx.1 hty HI.out.ok (by omega) (by have := HN1.out; have := hpx.2; omega)
      have HK := Lib.hid fun bs' => okBs_keep (pa := pa) (ri := ri) x y s bs bs' hpx.1 hty HI.out.ok
      clear hs hrx hry hxm hpx hty hbd
      have HBD := Lib.hid fun W' => boundC k h (some ⟨bb, o, none⟩) m c hc hcm j (by unfold maxLen; omega) W'
      generalize bd k m j = β at *
      generalize hdT pa ri x y s bs = R1 at *
      have hi0 : (0 : Int) ≤ j := by omega
      have hi1 : (j : Int) < m := by omega
      have HBR := Lib.hid hBr; clear hBr
      have HX1 := Lib.hid hx; clear hx
      have HY1 := Lib.hid hy; clear hy
      go_wp2_with fail
      have p0 := Past.cell a0
      have p1 := Past.cell a1
      have p2 := Past.cell a2
      have q0 := Past.cell b0
      have q1 := Past.cell b1
      have q2 := Past.cell b2
      have r0 := Past.cell d0
      have r1 := Past.cell d1
      have r2 := Past.cell d2
      have s0 := Past.cell g0
      have s1 := Past.cell g1
      have s2 := Past.cell g2
      refine wp_region_class_tail (C := fun w' => ∃ z : Past wr, w' = z.wd) 16 (by kernel_rfl) (by kernel_rfl) ⟨⟨wr.drew, (Below.refl _ _).drew⟩, rfl⟩ ?_
      simp only [List.take_succ_cons, List.take_zero, List.drop_succ_cons, List.drop_zero]
      repeat (go_big_quiet_step ((go_at_call 69; exact calls_past (HBD.out _))))
      refine wpQuiet_nil ?_
      rintro _ ⟨z, rfl⟩
      obtain ⟨w5, hb5⟩ := z
      dsimp only
      clear p0 p1 p2 q0 q1 q2 r0 r1 r2 s0 s1 s2 a0 a1 a2 b0 b1 b2 d0 d1 d2 g0 g1 g2
      go_wp2_with fail
      refine (HC.out _ hb5).mono ?_
      intro e w6 hE
      have hfr := HI.out.fr.then hb5
      cases R1 with
      | error ec =>
        obtain ⟨rfl, hne, hf⟩ := hE
        have hne' : (ec != 0) = true := by simpa using hne
        have HFR := Lib.hid ((Fr.below HBW.out).trans (hfr.trans hf fun _ _ e => e) fun _ _ e => e)
        clear hfr hf hb5
        go_wp2_with fail
        simp only [Exit.jump]
        go_ret
        rw [← HEQ.out]
        exact ⟨rfl, hne, HFR.out⟩
      | ok bs1 =>
        obtain ⟨rfl, hst1, hf⟩ := hE
        have hI1 : HaI pa ri Bk pm Ap np cp Ar nr cr N k m xs ys n R W (j + 1) bs1 w6 := ⟨hst1, HK.out bs1 rfl, hfr.trans hf fun _ _ e => e, HEQ.out⟩
        have HI1 := Lib.hid hI1
        clear hI1 hst1 hfr hf hb5
        go_wp2_with fail
        go_step3
        have ej : (j : Int) + 1 = ((j + 1 : Nat) : Int) := by omega
        rw [ej]
        refine ⟨rfl, ⟨j + 1, bs1, _, _, _, _, _, _, _, _, _, _, _, _, _, _, _, _, _, _, _, _, _, _, _, _, _, _, _, _, rfl, by omega, HI1⟩, ?_⟩
        simp [Go.RowKit.intOf]
        omega
    · obtain rfl : j = m := by omega
      have heq := HI.out.eq
      rw [drop_all HLX.out (Nat.le_refl _), hdL] at heq
      have HST := Lib.hid HI.out.st
      have HFR := Lib.hid ((Fr.below (X := fun b => b = Bk) HBW.out).trans HI.out.fr fun _ _ e => e)
      have HEQ := Lib.hid heq; clear heq
      clear hBr
      go_wp2_with fail
      simp only [Exit.jump]
      go_ret
      rw [← HEQ.out]
      exact ⟨rfl, HST.out, HFR.out⟩
  · go_wp2_with fail
    go_step3
    rename_i hk
    exact hk _ _ (hrest _ _ ⟨0, bs, undef, undef, undef, undef, undef, undef, undef, undef, undef, undef, undef, undef, undef, undef, undef, undef, undef, undef, undef, undef, undef, undef, undef, undef, undef, undef, undef, undef, rfl, Nat.zero_le _, HI⟩)

set_option maxRecDepth 100000 in
set_option maxHeartbeats 8000000 in
theorem holdC : ∀ p, HoC p := by
  refine T.ind fun k h xs ih => ?_
  intro pa ri Bk pm Ap np cp Ar nr cr N wB w t n bs vp vt ha hb hst hp ht hP hT hob hn0 hn1
  obtain ⟨k', h', ys⟩ := t
  have hpw := Rd.keep hb _ _ hp
  have htw := Rd.keep hb _ _ ht
  obtain ⟨A, m, c, rfl, hk0, hh0, hlx, hc, hcm, hx⟩ := Rd_node.1 hp
  obtain ⟨A2, m2, c2, rfl, hk2, hh2, hly, hc2, hcm2, hy⟩ := Rd_node.1 ht
  clear hk0 hh0 hk2 hh2 hx hy
  obtain ⟨W, hW⟩ : ∃ W, (w.alloc (.cells #[.int .i64 k, .int .i64 h, .slice A m c] 24)).alloc (.cells #[.int .i64 k', .int .i64 h', .slice A2 m2 c2] 24) = W := ⟨_, rfl⟩
  have hbW : Below w.heap.size w W := by rw [← hW]; exact ((Below.refl _ _).alloc (Nat.le_refl _) _).alloc (by simp) _
  have xP : Box W w.heap.size 24 #[.int .i64 k, .int .i64 h, .slice A m c] := by rw [← hW]; exact (Box.new _ _ _).alloc _
  have xT : Box W (w.heap.size + 1) 24 #[.int .i64 k', .int .i64 h', .slice A2 m2 c2] := by rw [← hW]; exact (Box.new (w.alloc _) _ _).at (by simp)
  have HWW := Lib.hid hW; clear hW
  have hBW := hb.trans (hbW.mono hb.size)
  have HST := Lib.hid (hst.keep hbW); clear hst
  have HPA := Lib.hid (ha.lp.keep hBW)
  have HRI := Lib.hid (ha.lr.keep hBW)
  have HP := Lib.hid (Rd.keep hbW _ _ hpw); clear hpw
  have HT := Lib.hid (Rd.keep hbW _ _ htw); clear htw
  have HIH := Lib.hid ih; clear ih
  have HP0 := Lib.hid hp; clear hp
  have HT0 := Lib.hid ht; clear ht
  have HA := Lib.hid ha; clear ha
  have HOB := Lib.hid hob; clear hob
  have HPP := Lib.hid hP; clear hP
  have HTT := Lib.hid hT; clear hT
  have HLX := Lib.hid hlx; clear hlx
  have HLY := Lib.hid hly; clear hly
  have HB := Lib.hid hb; clear hb
  have HBW := Lib.hid hbW; clear hbW
  have HBB := Lib.hid hBW; clear hBW
  have HN1 := Lib.hid hn1; clear hn1
  obtain ⟨R, hR⟩ : ∃ R, R = hdT pa ri (.node k h xs) (.node k' h' ys) n bs := ⟨_, rfl⟩
  rw [← hR]
  rw [hdT, HLX.out, HLY.out] at hR
  have HR := Lib.hid hR; clear hR
  obtain ⟨a0, a1, a2⟩ := xP.three
  obtain ⟨c0, c1, c2⟩ := xT.three
  by_cases hk : k = 6
  · subst hk
    have HR1 := Lib.hid (HR.out.trans (if_pos rfl)); clear HR
    go_enter Tryz.func41, Tryz.ntmps41
    go_wp2_with fail
    rw [HWW.out]
    clear HWW
    go_wp2_with fail
    refine (hMetaC h xs _ n _ _ W HST.out HPA.out HRI.out HA.out.pN HP.out HT.out HPP.out.my (okT_mono (by omega) _ HPP.out.ok) HTT.out.my HOB.out).mono ?_
    rw [← HR1.out]
    intro e w1 hE
    obtain ⟨ec, rfl, hfr, hE'⟩ := hE.uni
    have HE := Lib.hid ((hE' _ rfl).move (Fr.below HBW.out))
    clear hE hE' hfr
    go_wp2_with fail
    go_ret
    exact HE.out
  · have hd : (k == 6) = false := by simpa using hk
    have HR1 := Lib.hid (HR.out.trans (if_neg hk)); clear HR
    clear hk
    by_cases hkk : k = k'
    · subst hkk
      by_cases hhh : h = h'
      · subst hhh
        by_cases hmm : m = m2
        · subst hmm
          have HR2 := Lib.hid (HR1.out.trans (if_pos ⟨rfl, rfl, rfl⟩)); clear HR1
          go_enter Tryz.func41, Tryz.ntmps41
          go_wp2_with fail
          rw [HWW.out]
          clear HWW
          go_wp2_with fail
          refine (hArgsC k h k h xs ys HIH.out n bs _ _ W HA.out HBB.out HST.out HP0.out HT0.out HPP.out HTT.out HOB.out (by rw [HLX.out, HLY.out]) hn0 HN1.out).mono ?_
          rw [HLX.out, ← HR2.out]
          intro e w1 hE
          obtain ⟨ec, rfl, hfr, hE'⟩ := hE.uni
          have HE := Lib.hid ((hE' _ rfl).move (Fr.below HBW.out))
          clear hE hE' hfr
          go_wp2_with fail
          go_ret
          exact HE.out
        · have e0 : ((m : Int) != (m2 : Int)) = true := by simp; omega
          have HR2 := Lib.hid (HR1.out.trans (if_neg fun e => hmm e.2.2)); clear HR1
          go_enter Tryz.func41, Tryz.ntmps41
          go_wp2_with fail
          rw [HWW.out]
          clear HWW
          go_wp2_with fail
          go_ret
          exact Hen.err HR2.out (by decide) HBW.out
      · have e0 : (h != h') = true := by simpa using hhh
        have HR2 := Lib.hid (HR1.out.trans (if_neg fun e => hhh e.2.1)); clear HR1
        go_enter Tryz.func41, Tryz.ntmps41
        go_wp2_with fail
        rw [HWW.out]
        clear HWW
        go_wp2_with fail
        go_ret
        exact Hen.err HR2.out (by decide) HBW.out
    · have e0 : (k != k') = true := by simpa using hkk
      have HR2 := Lib.hid (HR1.out.trans (if_neg fun e => hkk e.1)); clear HR1
      go_enter Tryz.func41, Tryz.ntmps41
      go_wp2_with fail
      rw [HWW.out]
      clear HWW
      go_wp2_with fail
      go_ret
      exact Hen.err HR2.out (by decide) HBW.out
end Go.Proofs.YtelicajhamgibaaGreat

/-
  Contracts of package match's own and Whole's like. No statement is proved here.
-/
namespace Go.Proofs.YtelicajhamgibaaGreat
open Go.ChangeShapes Go.WideShapes Go.ChangeAt Go.RowKit
set_option linter.unusedVariables false

theorem infoBind : (Tryz.prog.info? 38).map (fun i => (i.zero, i.size, i.bytes)) = some (some (.agg #[.bool false, .int .i64 0, .int .i64 0, .slice none 0 0]), 4, 48) := by kernel_rfl
/-- a row of binds, by their places -/
def BFs (ok : Nat → Prop) (w : World) (cs : Array Value) (n : Nat) (f : Nat → BT) : Prop :=
  ∀ i, i < n → ∃ k h A m c, cs[i * 4]? = some (.bool (f i).1) ∧ cs[i * 4 + 1]? = some (.int .i64 k) ∧ cs[i * 4 + 2]? = some (.int .i64 h) ∧ cs[i * 4 + 3]? = some (.slice A m c) ∧ RdF ok w (f i).2 (.agg #[.int .i64 k, .int .i64 h, .slice A m c])
theorem made4 (a b c d : Value) (n i : Nat) (hi : i < n) : (madeCells #[a, b, c, d] (n * 4))[i * 4]? = some a ∧ (madeCells #[a, b, c, d] (n * 4))[i * 4 + 1]? = some b ∧ (madeCells #[a, b, c, d] (n * 4))[i * 4 + 2]? = some c ∧ (madeCells #[a, b, c, d] (n * 4))[i * 4 + 3]? = some d := by
  have h1 : i * 4 % 4 = 0 := by omega
  have h2 : (i * 4 + 1) % 4 = 1 := by omega
  have h3 : (i * 4 + 2) % 4 = 2 := by omega
  have h4 : (i * 4 + 3) % 4 = 3 := by omega
  refine ⟨?_, ?_, ?_, ?_⟩
  · simp [madeCells, hi]
  · have : i * 4 + 1 < n * 4 := by omega
    simp [madeCells, this, h2]
  · have : i * 4 + 2 < n * 4 := by omega
    simp [madeCells, this, h3]
  · have : i * 4 + 3 < n * 4 := by omega
    simp [madeCells, this, h4]
theorem bfs_made {w : World} {ok : Nat → Prop} (n : Nat) : BFs ok w (madeCells #[.bool false, .int .i64 0, .int .i64 0, .slice none 0 0] (n * 4)) n (fun _ => noB) := fun i hi => by
  obtain ⟨h1, h2, h3, h4⟩ := made4 (.bool false) (.int .i64 0) (.int .i64 0) (.slice none 0 0) n i hi
  exact ⟨0, 0, none, 0, 0, h1, h2, h3, h4, rd_nought⟩
theorem BFs.move {w w' : World} {ok ok' : Nat → Prop} {cs : Array Value} {n : Nat} {f g : Nat → BT} (h : BFs ok w cs n f) (hm : ∀ b, ok b → b < w.heap.size → ok' b ∧ w'.heap[b]? = w.heap[b]?) (hg : ∀ i, i < n → g i = f i) : BFs ok' w' cs n g := fun i hi => by
  obtain ⟨k, h', A, m, c, e0, e1, e2, e3, hr⟩ := h i hi
  rw [hg i hi]
  exact ⟨k, h', A, m, c, e0, e1, e2, e3, RdF.moveX hm _ _ hr⟩
/-- one of a row turns -/
theorem BFs.turn {w w' : World} {ok : Nat → Prop} {cs : Array Value} {N : Nat} {f g : Nat → BT} {j : Nat} {b : Bool} {k h : Int} {A : Option Addr} {n c : Nat} (hk : BFs ok w cs N f) (hm : ∀ b, ok b → b < w.heap.size → w'.heap[b]? = w.heap[b]?)
    (hb : (g j).1 = b) (hr : RdF ok w (g j).2 (.agg #[.int .i64 k, .int .i64 h, .slice A n c])) (hsz : cs.size = N * 4) (hg : ∀ i, i < N → i ≠ j → g i = f i) :
    BFs ok w' ((((cs.setIfInBounds (j * 4) (.bool b)).setIfInBounds (j * 4 + 1) (.int .i64 k)).setIfInBounds (j * 4 + 2) (.int .i64 h)).setIfInBounds (j * 4 + 3) (.slice A n c)) N g := by
  intro i hi
  by_cases hij : i = j
  · subst hij
    refine ⟨k, h, A, n, c, ?_, ?_, ?_, ?_, RdF.move (fun _ h => h) hm _ _ hr⟩
    all_goals simp only [Array.getElem?_setIfInBounds]
    · rw [if_neg (by omega), if_neg (by omega), if_neg (by omega), if_pos trivial, if_pos (by omega), hb]
    · rw [if_neg (by omega), if_neg (by omega), if_pos trivial, if_pos (by simp; omega)]
    · rw [if_neg (by omega), if_pos trivial, if_pos (by simp; omega)]
    · rw [if_pos trivial, if_pos (by simp; omega)]
  · rw [hg i hi hij]
    obtain ⟨k', h', A', n', c', e0, e1, e2, e3, hr'⟩ := hk i hi
    refine ⟨k', h', A', n', c', ?_, ?_, ?_, ?_, RdF.move (fun _ h => h) hm _ _ hr'⟩
    all_goals simp only [Array.getElem?_setIfInBounds]
    · rw [if_neg (by omega), if_neg (by omega), if_neg (by omega), if_neg (by omega)]; exact e0
    · rw [if_neg (by omega), if_neg (by omega), if_neg (by omega), if_neg (by omega)]; exact e1
    · rw [if_neg (by omega), if_neg (by omega), if_neg (by omega), if_neg (by omega)]; exact e2
    · rw [if_neg (by omega), if_neg (by omega), if_neg (by omega), if_neg (by omega)]; exact e3
theorem BFs.list {w : World} {ok : Nat → Prop} {cs : Array Value} {n p : Nat} {ty : TypeId} {bs : List BT} (h : BFs ok w cs n (fun i => bs.getD i noB)) (hb : Box w p ty cs) (hl : bs.length = n) (hn : n ≤ 1000) : BL ok w bs (some ⟨p, 0, none⟩) n n :=
  ⟨hl, Nat.le_refl _, by unfold maxLen; omega, fun i x hx => by
    have hi := (List.getElem?_eq_some_iff.1 hx).1
    obtain ⟨k, h', A, m, c, e0, e1, e2, e3, hr⟩ := h i (by omega)
    simp only [List.getD_eq_getElem?_getD, hx, Option.getD_some] at e0 hr
    refine ⟨p, 0, k, h', A, m, c, rfl, ?_, ?_, ?_, ?_, hr⟩
    · rw [Nat.zero_add, hb.cell]; exact e0
    · rw [Nat.zero_add, hb.cell]; exact e1
    · rw [Nat.zero_add, hb.cell]; exact e2
    · rw [Nat.zero_add, hb.cell]; exact e3⟩
/-- what holds at the head of own's loop -/
structure OwI (bs : List BT) (N : Nat) (w : World) (j : Nat) (wr : World) (cs : Array Value) : Prop where
  row : Box wr w.heap.size 38 cs
  size : cs.size = N * 4
  kids : BFs (fun b => w.heap.size < b) wr cs N (fun i => if i < j then ownB (bs.getD i noB) else noB)
  below : Below w.heap.size w wr

set_option maxRecDepth 100000 in
set_option maxHeartbeats 4000000 in
theorem hOwnC (ok : Nat → Prop) (bs : List BT) (A : Option Addr) (N c : Nat) (w : World) (hx : BL ok w bs A N c) (hN : N ≤ 200) (hw : ∀ x ∈ bs, x.1 = true → nd x.2 ≤ 1048576) :
    Calls Tryz.prog 42 #[.slice A N c] w fun e w' => ∃ p, e = .returned (.slice (some ⟨p, 0, none⟩) N N) ∧ BL (fun b => w.heap.size ≤ b) w' (bs.map ownB) (some ⟨p, 0, none⟩) N N ∧ Below w.heap.size w w' := by
  obtain ⟨i0, hi, hz0, hz1, hz2⟩ := info_parts infoBind
  have hmk : ∀ W : World, (Instr.makeSlice 28 (.int .i64 (N : Int)) (.int .i64 (N : Int))).run Tryz.prog W = .ok (.slice (some ⟨W.heap.size, 0, none⟩) N N) (W.alloc (.cells (madeCells #[.bool false, .int .i64 0, .int .i64 0, .slice none 0 0] (N * 4)) 38)) := by
    intro W
    have := run_make W 28 38 i0 _ Tryz.underlying28 hi hz0 .i64 .i64 (N : Int) (N : Int) (by omega) (Int.le_refl _) (by rw [hz2]; omega) (by omega)
    rw [hz1] at this
    simpa [Value.cells] using this
  clear hi hz0 hz1 hz2
  have hle := hx.le
  have hcap := hx.cap
  unfold maxLen at hcap
  have hlen := hx.len
  have HX := Lib.hid hx; clear hx
  have HW := Lib.hid hw; clear hw
  go_enter Tryz.func42, Tryz.ntmps42
  go_wp2_with fail
  have hcs := size_madeCells #[.bool false, .int .i64 0, .int .i64 0, .slice none 0 0] (N * 4)
  have hk0 : BFs (fun b => w.heap.size < b) (w.alloc (.cells (madeCells #[.bool false, .int .i64 0, .int .i64 0, .slice none 0 0] (N * 4)) 38)) (madeCells #[.bool false, .int .i64 0, .int .i64 0, .slice none 0 0] (N * 4)) N (fun i => if i < 0 then ownB (bs.getD i noB) else noB) :=
    (bfs_made (w := w) (ok := fun b => w.heap.size < b) N).move (fun b hb hl => by omega) (fun i _ => by simp)
  generalize madeCells #[.bool false, .int .i64 0, .int .i64 0, .slice none 0 0] (N * 4) = cs0 at *
  have hI : OwI bs N w 0 (w.alloc (.cells cs0 38)) cs0 := ⟨Box.new w _ cs0, hcs, hk0, (Below.refl _ w).alloc (Nat.le_refl _) _⟩
  have HI := Lib.hid hI; clear hI hcs hmk hk0
  go_loopw [11] (fun i wr => ∃ (j : Nat) (cs : Array Value), j ≤ N ∧ i = .int .i64 j ∧ Hid (OwI bs N w j wr cs)) (fun i _ => N - (Go.RowKit.intOf i).toNat)
  case atStart => exact ⟨0, cs0, Nat.zero_le _, rfl, HI⟩
  case round =>
    clear HI
    obtain ⟨j, cs, hj, rfl, HI⟩ := hrel
    by_cases hlt : j < N
    · obtain ⟨x, hx⟩ := at_of HX.out.len hlt
      obtain ⟨b, o, k2, h2, A2, n2, c2, rfl, d0, d1, d2, d3, hr⟩ := HX.out.at_ j x hx
      have d0 := (HI.out.below.cell (cell_lt d0)).trans d0
      have d1 := (HI.out.below.cell (cell_lt d1)).trans d1
      have d2 := (HI.out.below.cell (cell_lt d2)).trans d2
      have d3 := (HI.out.below.cell (cell_lt d3)).trans d3
      have HR := Lib.hid (Rd.keep HI.out.below _ _ (RdF.rd _ _ hr)); clear hr
      have hgx : bs.getD j noB = x := by rw [List.getD_eq_getElem?_getD, hx]; rfl
      have hwx := HW.out x (List.mem_of_getElem? hx)
      have HG := Lib.hid hgx; clear hgx hx
      obtain ⟨bx, tx⟩ := x
      dsimp only at d0 HR hwx
      have HWX := Lib.hid hwx; clear hwx
      have hi0 : (0 : Int) ≤ j := by omega
      have hi1 : (j : Int) < N := by omega
      have lrow := HI.out.row.lt
      cases bx
      · go_wp2_with fail
        go_roundw
        case rel =>
          have hbA := HI.out.below.alloc HI.out.below.size (.cells #[.bool false, .int .i64 k2, .int .i64 h2, .slice A2 n2 c2] 38)
          refine ⟨j + 1, cs, by omega, by go_num, Lib.hid ⟨HI.out.row.alloc _, HI.out.size, HI.out.kids.move (fun b hb hl => ⟨hb, Below.heap_alloc _ _ _ hl⟩) fun i hi => ?_, hbA⟩⟩
          by_cases h1 : i < j
          · rw [if_pos h1, if_pos (by omega)]
          · rw [if_neg h1]
            by_cases h2 : i = j
            · subst h2
              rw [if_pos (by omega), HG.out]; rfl
            · rw [if_neg (by omega)]
        case measure => simp [Go.RowKit.intOf]; omega
      · have hbA : Below wr.heap.size wr (wr.alloc (.cells #[.bool true, .int .i64 k2, .int .i64 h2, .slice A2 n2 c2] 38)) := (Below.refl _ _).alloc (Nat.le_refl _) _
        have hO := Lib.hid (termOwn tx _ _ (Rd.keep hbA _ _ HR.out) (by have := wd_nd tx; have := HWX.out rfl; omega))
        have row1 := HI.out.row.keep hbA lrow
        have hb1 := HI.out.below.trans (hbA.mono HI.out.below.size)
        have HK := Lib.hid (HI.out.kids.move (ok' := fun b => w.heap.size < b) (fun b hb hl => ⟨hb, hbA.block b hl⟩) fun i _ => rfl)
        have hsz := HI.out.size
        have HBA := Lib.hid hbA; clear hbA
        have sz1 : wr.heap.size < (wr.alloc (.cells #[.bool true, .int .i64 k2, .int .i64 h2, .slice A2 n2 c2] 38)).heap.size := by simp
        go_wp2_with fail
        refine hO.out.mono ?_
        generalize wr.alloc (.cells #[.bool true, .int .i64 k2, .int .i64 h2, .slice A2 n2 c2] 38) = Wa at *
        rintro e w1 ⟨v, rfl, how, hbo⟩
        obtain ⟨k3, h3, A3, n3, c3, rfl⟩ := how.full
        have HO := Lib.hid how.rdF; clear how hO
        have lz : w.heap.size < Wa.heap.size := by omega
        have row2 := row1.keep hbo lz
        have HB2 := Lib.hid (hb1.trans (hbo.mono hb1.size))
        have HK2 := Lib.hid (HK.out.move (ok' := fun b => w.heap.size < b) (fun b hb hl => ⟨hb, hbo.block b hl⟩) fun i _ => rfl)
        have hbo1 := hbo.size
        clear hbo row1 d0 d1 d2 d3
        obtain ⟨u0, hu0⟩ := row2.there (i := j * 4) (by omega)
        obtain ⟨u1, hu1⟩ := row2.there (i := j * 4 + 1) (by omega)
        obtain ⟨u2, hu2⟩ := row2.there (i := j * 4 + 2) (by omega)
        obtain ⟨u3, hu3⟩ := row2.there (i := j * 4 + 3) (by omega)
        have f0 := row2.frozen (j * 4)
        have f1 := row2.frozen (j * 4 + 1)
        have f2 := row2.frozen (j * 4 + 2)
        have f3 := row2.frozen (j * 4 + 3)
        have HRO := Lib.hid row2; clear row2 hb1
        go_wp2_with fail
        go_roundw
        case rel =>
          have hset : ∀ g, g ≠ w.heap.size → ((((w1.setCell ⟨w.heap.size, j * 4, none⟩ (.bool true)).setCell ⟨w.heap.size, j * 4 + 1, none⟩ (.int .i64 k3)).setCell ⟨w.heap.size, j * 4 + 2, none⟩ (.int .i64 h3)).setCell ⟨w.heap.size, j * 4 + 3, none⟩ (.slice A3 n3 c3)).heap[g]? = w1.heap[g]? := fun g hg => by
            rw [Below.heap_setCell _ _ _ _ hg, Below.heap_setCell _ _ _ _ hg, Below.heap_setCell _ _ _ _ hg, Below.heap_setCell _ _ _ _ hg]
          refine ⟨j + 1, _, by omega, by go_num, Lib.hid ⟨(((HRO.out.setAt _ _).setAt _ _).setAt _ _).setAt _ _, by simp [hsz], ?_, ?_⟩⟩
          · refine HK2.out.turn (fun g hg _ => hset g (by omega)) ?_ ?_ hsz fun i hi hij => ?_
            · rw [if_pos (by omega), HG.out]; rfl
            · rw [if_pos (by omega), HG.out]
              exact RdF.moveX (fun b hb hl => ⟨by omega, rfl⟩) _ _ HO.out
            · by_cases h1 : i < j
              · rw [if_pos h1, if_pos (by omega)]
              · rw [if_neg h1, if_neg (by omega)]
          · exact ⟨HB2.out.os, HB2.out.tape, HB2.out.output, by simpa [World.setCell] using HB2.out.size, fun g hg => (hset g (by omega)).trans (HB2.out.block g hg)⟩
        case measure => simp [Go.RowKit.intOf]; omega
    · obtain rfl : j = N := by omega
      have HL := Lib.hid hlen
      go_wp2_with fail
      go_ret
      refine ⟨_, rfl, BFs.list (p := w.heap.size) (HI.out.kids.move (ok' := fun b => w.heap.size ≤ b) (fun b hb hl => ⟨by omega, rfl⟩) fun i hi => ?_) HI.out.row (by rw [List.length_map]; exact HL.out) (by omega), HI.out.below⟩
      rw [if_pos hi, List.getD_eq_getElem?_getD, List.getD_eq_getElem?_getD, List.getElem?_map]
      cases bs[i]? <;> rfl
end Go.Proofs.YtelicajhamgibaaGreat

/-
  Contract of package match's Match. No statement is proved here.
-/
namespace Go.Proofs.YtelicajhamgibaaGreat
open Go.ChangeShapes Go.WideShapes Go.ChangeAt Go.RowKit
set_option linter.unusedVariables false

theorem sizeBind : (Tryz.prog.info? 38).map (·.size) = some 4 := by kernel_rfl
/-- binds are copied -/
theorem run_copy_binds (w : World) (ty : TypeId) (g N c : Nat) (A : Option Addr) (cur : Array Value) (t : TypeId) (cs : List Value) (hg : w.heap[g]? = some (.cells cur t (0, 0))) (hsz : cur.size = N * 4) (hcs : cs.length = N * 4)
    (hsrc : ∀ j v, cs[j]? = some v → ∃ b o, A = some ⟨b, o, none⟩ ∧ w.cell? ⟨b, o + j, none⟩ = some v) (h1 : ∀ v ∈ cs, v.oneCell' = true) :
    (Builtin.copy_ #[28, 28] ty #[.slice (some ⟨g, 0, none⟩) N N, .slice A N c]).run Tryz.prog w = .ok (goInt N) (w.setRow g cs.toArray) := by
  have hu := Tryz.underlying28
  have hs := sizeBind
  have hmin : Nat.min N N = N := Nat.min_self N
  cases hq : Tryz.prog.info? 38 with
  | none => simp [hq] at hs
  | some i =>
    have hi : i.size = 4 := by simpa [hq] using hs
    have hst := run_storeCells_at Tryz.prog g 0 t cs 0 cur w hg (by omega) h1
    have hd : cur.toList.drop (N * 4) = [] := List.drop_of_length_le (by simp; omega)
    cases A with
    | none =>
      have hN : N = 0 := by
        rcases Nat.eq_zero_or_pos N with h | h
        · exact h
        · obtain ⟨v, hv⟩ : ∃ v, cs[0]? = some v := ⟨_, List.getElem?_eq_getElem (by omega)⟩
          obtain ⟨_, _, e, _⟩ := hsrc 0 v hv
          cases e
      subst hN
      have hc0 : cs = [] := List.length_eq_zero_iff.1 (by omega)
      subst hc0
      have hcur : cur = #[] := by simpa using hsz
      subst hcur
      simp [Builtin.copy_, run_underlying hu, Builtin.lenOf, Builtin.firstCells, sizeOf, typeInfo, hq, storeCells, setRow_self w g _ t (0, 0) hg]
    | some a =>
      have hl := run_loadCells_list (P := Tryz.prog) w a cs fun j v hv => by
        obtain ⟨b, o, e, hc⟩ := hsrc j v hv
        cases e
        have : (⟨b, o, none⟩ : Addr).add j = ⟨b, o + j, none⟩ := by unfold Addr.add; split <;> simp_all
        rw [this]; exact hc
      rw [hcs] at hl
      simp [Builtin.copy_, run_underlying hu, Builtin.lenOf, Builtin.firstCells, sizeOf, typeInfo, hq, hi, hmin, hl, hst, hcs, hd]
/-- the cells of binds -/
theorem BL.raw {ok : Nat → Prop} {w : World} {bs : List BT} {A : Option Addr} {N c : Nat} (h : BL ok w bs A N c) : ∃ cs : List Value, cs.length = N * 4 ∧ (∀ j v, cs[j]? = some v → ∃ b o, A = some ⟨b, o, none⟩ ∧ w.cell? ⟨b, o + j, none⟩ = some v) ∧ (∀ v ∈ cs, v.oneCell' = true) ∧ BFs ok w cs.toArray N (fun i => bs.getD i noB) := by
  have key : ∀ (n : Nat), n ≤ N → ∃ cs : List Value, cs.length = n * 4 ∧ (∀ j v, cs[j]? = some v → ∃ b o, A = some ⟨b, o, none⟩ ∧ w.cell? ⟨b, o + j, none⟩ = some v) ∧ (∀ v ∈ cs, v.oneCell' = true) ∧ BFs ok w cs.toArray n (fun i => bs.getD i noB) := by
    intro n
    induction n with
    | zero => intro _; exact ⟨[], rfl, fun j v hv => by simp at hv, fun v hv => absurd hv (by simp), fun i hi => by omega⟩
    | succ n ih =>
      intro hn
      obtain ⟨cs, h1, h2, h3, h4⟩ := ih (by omega)
      obtain ⟨x, hx⟩ := at_of h.len (show n < N by omega)
      obtain ⟨b, o, k, g, A', m, c', rfl, d0, d1, d2, d3, hr⟩ := h.at_ n x hx
      have hgx : bs.getD n noB = x := by rw [List.getD_eq_getElem?_getD, hx]; rfl
      refine ⟨cs ++ [.bool x.1, .int .i64 k, .int .i64 g, .slice A' m c'], by simp; omega, fun j v hv => ?_, fun v hv => ?_, fun i hi => ?_⟩
      · by_cases hj : j < cs.length
        · rw [List.getElem?_append_left hj] at hv
          exact h2 j v hv
        · rw [List.getElem?_append_right (by omega)] at hv
          obtain ⟨r, hr'⟩ : ∃ r, r = j - cs.length := ⟨_, rfl⟩
          rw [← hr'] at hv
          refine ⟨b, o, rfl, ?_⟩
          match r, hv with
          | 0, hv => cases hv; rw [show j = n * 4 by omega]; exact d0
          | 1, hv => cases hv; rw [show j = n * 4 + 1 by omega]; exact d1
          | 2, hv => cases hv; rw [show j = n * 4 + 2 by omega]; exact d2
          | 3, hv => cases hv; rw [show j = n * 4 + 3 by omega]; exact d3
      · rcases List.mem_append.1 hv with hv | hv
        · exact h3 v hv
        · simp only [List.mem_cons, List.not_mem_nil, or_false] at hv
          rcases hv with rfl | rfl | rfl | rfl <;> rfl
      · have hsz : cs.toArray.size = n * 4 := by simpa using h1
        by_cases hin : i < n
        · obtain ⟨k', g', A2, m2, c2, e0, e1, e2, e3, hr'⟩ := h4 i hin
          refine ⟨k', g', A2, m2, c2, ?_, ?_, ?_, ?_, hr'⟩
          all_goals rw [List.getElem?_toArray] at *
          all_goals rw [List.getElem?_append_left (by omega)]
          · exact e0
          · exact e1
          · exact e2
          · exact e3
        · obtain rfl : i = n := by omega
          have hr2 : RdF ok w (bs.getD i noB).2 (.agg #[.int .i64 k, .int .i64 g, .slice A' m c']) := by rw [hgx]; exact hr
          refine ⟨k, g, A', m, c', ?_, ?_, ?_, ?_, hr2⟩
          all_goals rw [List.getElem?_toArray, List.getElem?_append_right (by omega), h1]
          · simp only [hgx, Nat.sub_self]; rfl
          · rw [show i * 4 + 1 - i * 4 = 1 by omega]; rfl
          · rw [show i * 4 + 2 - i * 4 = 2 by omega]; rfl
          · rw [show i * 4 + 3 - i * 4 = 3 by omega]; rfl
  exact key N (Nat.le_refl _)

/-- how Match ends -/
def MtE (R : Except Int (List BT)) (w : World) (e : Ending) (w' : World) : Prop :=
  match R with
  | .error ec => e = .returned (.tuple #[.slice none 0 0, .int .i64 ec]) ∧ ec ≠ 0 ∧ Below w.heap.size w w'
  | .ok bs => ∃ p, e = .returned (.tuple #[.slice (some ⟨p, 0, none⟩) bs.length bs.length, .int .i64 0]) ∧ BL (fun b => w.heap.size ≤ b) w' bs (some ⟨p, 0, none⟩) bs.length bs.length ∧ Below w.heap.size w w'
theorem MtE.bad {R : Except Int (List BT)} {w w' : World} {ec : Int} (h : R = .error ec) (hne : ec ≠ 0) (hb : Below w.heap.size w w') : MtE R w (.returned (.tuple #[.slice none 0 0, .int .i64 ec])) w' := by
  subst h
  exact ⟨rfl, hne, hb⟩
theorem BL.heap {ok : Nat → Prop} {w : World} {bs : List BT} {A : Option Addr} {N c : Nat} (h : BL ok w bs A N c) : BL (fun b => b < w.heap.size) w bs A N c :=
  ⟨h.len, h.le, h.cap, fun i x hx => by
    obtain ⟨b, o, k, g, A', n, c, rfl, c0, c1, c2, c3, hr⟩ := h.at_ i x hx
    exact ⟨b, o, k, g, A', n, c, rfl, c0, c1, c2, c3, RdF.moveX (fun b hb _ => ⟨hb.2, rfl⟩) _ _ (rdF_heap _ _ hr)⟩⟩
theorem mtR_bad {p t : T} {n : Int} {bs : List BT} {pa ri : List Bool} (h : mtA p t n bs pa = false) : mtR p t n bs pa ri = .error 1 := by rw [mtR, if_neg (by rw [h]; exact Bool.false_ne_true)]

set_option maxRecDepth 100000 in
set_option maxHeartbeats 8000000 in
theorem MatchC (p t : T) (n : Int) (bs : List BT) (pa ri : List Bool) (vp vt : Value) (A : Option Addr) (N c : Nat) (Ap : Option Addr) (np cp : Nat) (Ar : Option Addr) (nr cr : Nat) (w : World)
    (hp : Rd w p vp) (ht : Rd w t vt) (hbs : BL (fun _ => True) w bs A N c) (hpa : LB w pa Ap np cp) (hri : LB w ri Ar nr cr) (hop : myB p = true → okT 1099511627776 p) (hot : myB t = true → okT 2199021158400 t) (hob : ∀ x ∈ bs, x.1 = true → myB x.2 = true → okT 2199023255552 x.2) :
    Calls Tryz.prog 18 #[vp, vt, .int .i64 n, .slice A N c, .slice Ap np cp, .slice Ar nr cr] w (MtE (mtR p t n bs pa ri) w) := by
  obtain ⟨k, h, A1, n1, c1, rfl⟩ := hp.full
  obtain ⟨k2, h2, A2, n2, c2, rfl⟩ := ht.full
  have hlen := hbs.len
  have hpl := hpa.len
  obtain ⟨W, hW⟩ : ∃ W, (w.alloc (.cells #[.int .i64 k, .int .i64 h, .slice A1 n1 c1] 24)).alloc (.cells #[.int .i64 k2, .int .i64 h2, .slice A2 n2 c2] 24) = W := ⟨_, rfl⟩
  have hb : Below w.heap.size w W := by rw [← hW]; exact ((Below.refl _ _).alloc (Nat.le_refl _) _).alloc (by simp) _
  have xP : Box W w.heap.size 24 #[.int .i64 k, .int .i64 h, .slice A1 n1 c1] := by rw [← hW]; exact (Box.new _ _ _).alloc _
  have xT : Box W (w.heap.size + 1) 24 #[.int .i64 k2, .int .i64 h2, .slice A2 n2 c2] := by rw [← hW]; exact (Box.new (w.alloc _) _ _).at (by simp)
  have HWW := Lib.hid hW; clear hW
  have HP := Lib.hid hp; clear hp
  have HT := Lib.hid ht; clear ht
  have HBS := Lib.hid hbs.heap; clear hbs
  have HPA := Lib.hid hpa; clear hpa
  have HRI := Lib.hid hri; clear hri
  have HOP := Lib.hid hop; clear hop
  have HOT := Lib.hid hot; clear hot
  have HOB := Lib.hid hob; clear hob
  have HLEN := Lib.hid hlen
  have HPL := Lib.hid hpl
  obtain ⟨R, hR⟩ : ∃ R, R = mtR p t n bs pa ri := ⟨_, rfl⟩
  rw [← hR]
  have HR := Lib.hid hR; clear hR
  by_cases h0 : n < 0
  · have d0 : decide (n < 0) = true := by simpa using h0
    have hbad := Lib.hid (HR.out.trans (mtR_bad (by rw [mtA, decide_eq_false (p := 0 ≤ n) (by omega)]; rfl)))
    clear h0 xP xT HR
    go_enter Tryz.func18, Tryz.ntmps18
    go_wp2_with fail
    go_ret2
    rw [HWW.out]
    exact .bad hbad.out (by decide) hb
  have d0 : decide (n < 0) = false := by simpa using h0
  by_cases h1 : 1000 < n
  · have d1 : decide (1000 < n) = true := by simpa using h1
    have hbad := Lib.hid (HR.out.trans (mtR_bad (by rw [mtA, decide_eq_false (p := n ≤ 1000) (by omega), Bool.and_false]; rfl)))
    clear h0 h1 xP xT HR
    go_enter Tryz.func18, Tryz.ntmps18
    go_wp2_with fail
    go_ret2
    rw [HWW.out]
    exact .bad hbad.out (by decide) hb
  have d1 : decide (1000 < n) = false := by simpa using h1
  by_cases h2 : 200 < N
  · have d2 : decide ((200 : Int) < (N : Int)) = true := by simp; omega
    have hbad := Lib.hid (HR.out.trans (mtR_bad (by rw [mtA, hlen, decide_eq_false (p := N ≤ 200) (by omega), Bool.and_false]; rfl)))
    clear h0 h1 h2 xP xT HR
    go_enter Tryz.func18, Tryz.ntmps18
    go_wp2_with fail
    go_ret2
    rw [HWW.out]
    exact .bad hbad.out (by decide) hb
  have d2 : decide ((200 : Int) < (N : Int)) = false := by simp; omega
  by_cases h3 : N ≠ np
  · have d3 : ((N : Int) != (np : Int)) = true := by simp; omega
    have hbad := Lib.hid (HR.out.trans (mtR_bad (by rw [mtA, hlen, hpl, decide_eq_false (p := N = np) h3, Bool.and_false]; rfl)))
    clear h0 h1 h2 h3 xP xT HR
    go_enter Tryz.func18, Tryz.ntmps18
    go_wp2_with fail
    go_ret2
    rw [HWW.out]
    exact .bad hbad.out (by decide) hb
  obtain rfl : N = np := by omega
  have hA0 : mtA p t n bs pa = (myB p && (myB t && bs.all myA)) := by
    rw [mtA, hlen, hpl, decide_eq_true (p := 0 ≤ n) (by omega), decide_eq_true (p := n ≤ 1000) (by omega), decide_eq_true (p := N ≤ 200) (by omega), decide_eq_true (p := N = N) rfl]; rfl
  have HA0 := Lib.hid hA0; clear hA0 h3 hlen hpl
  have hN200 : N ≤ 200 := by omega
  have hn0 : 0 ≤ n := by omega
  have hn1 : n ≤ 1000 := by omega
  clear h0 h1 h2
  obtain ⟨a0, a1, a2⟩ := xP.three
  go_enter Tryz.func18, Tryz.ntmps18
  go_wp2_with fail
  rw [HWW.out]
  clear HWW
  go_wp2_with fail
  refine (myC p _ W (Rd.keep hb _ _ HP.out)).mono ?_
  have HM1 : Hid (∀ b, myB p = b → mtA p t n bs pa = (b && (myB t && bs.all myA))) := Lib.hid fun b e => by rw [← e]; exact HA0.out
  obtain ⟨m1, hm1⟩ : ∃ m1, myB p = m1 := ⟨_, rfl⟩
  rw [hm1]
  have HM := Lib.hid hm1; clear hm1
  rintro e w1 ⟨rfl, hb1⟩
  replace xP := xP.keep hb1 xP.lt
  replace xT := xT.keep hb1 xT.lt
  replace hb := hb.trans (hb1.mono hb.size)
  clear hb1 a0 a1 a2
  cases m1
  · have hbad := Lib.hid (HR.out.trans (mtR_bad (by rw [HM1.out _ HM.out]; rfl)))
    go_wp2_with fail
    go_ret2
    exact .bad hbad.out (by decide) hb
  obtain ⟨a0, a1, a2⟩ := xT.three
  go_wp2_with fail
  refine (myC t _ w1 (Rd.keep hb _ _ HT.out)).mono ?_
  have HM2 : Hid (∀ b, myB t = b → mtA p t n bs pa = (b && bs.all myA)) := Lib.hid fun b e => by rw [← e, HM1.out _ HM.out]; rfl
  obtain ⟨m1, hm1⟩ : ∃ m1, myB t = m1 := ⟨_, rfl⟩
  rw [hm1]
  have HM' := Lib.hid hm1; clear hm1
  rintro e w2 ⟨rfl, hb1⟩
  replace xP := xP.keep hb1 xP.lt
  replace xT := xT.keep hb1 xT.lt
  replace hb := hb.trans (hb1.mono hb.size)
  clear hb1 a0 a1 a2
  cases m1
  · have hbad := Lib.hid (HR.out.trans (mtR_bad (by rw [HM2.out _ HM'.out]; rfl)))
    go_wp2_with fail
    go_ret2
    exact .bad hbad.out (by decide) hb
  go_wp2_with fail
  refine (hContainsC _ bs A N c w2 (HBS.out.keep hb)).mono ?_
  have HM3 : Hid (∀ b, bs.all myA = b → mtA p t n bs pa = b) := Lib.hid fun b e => by rw [← e, HM2.out _ HM'.out]; rfl
  obtain ⟨m1, hm1⟩ : ∃ m1, bs.all myA = m1 := ⟨_, rfl⟩
  rw [hm1]
  have HM'' := Lib.hid hm1; clear hm1
  rintro e w3 ⟨rfl, hb1⟩
  replace xP := xP.keep hb1 xP.lt
  replace xT := xT.keep hb1 xT.lt
  replace hb := hb.trans (hb1.mono hb.size)
  clear hb1
  cases m1
  · have hbad := Lib.hid (HR.out.trans (mtR_bad (HM3.out _ HM''.out)))
    go_wp2_with fail
    go_ret2
    exact .bad hbad.out (by decide) hb
  have hRR : R = match hdT pa ri p t n bs with
    | .error e => .error e
    | .ok bs' => .ok (bs'.map ownB) := HR.out.trans (by rw [mtR, if_pos (HM3.out _ HM''.out)] <;> cases hdT pa ri p t n bs <;> rfl)
  have HRR := Lib.hid hRR; clear hRR HR HM3 HA0
  have hTP : HoT p := ⟨HM.out, okT_mono (by omega) _ (HOP.out HM.out)⟩
  have hTT : HoT t := ⟨HM'.out, HOT.out HM'.out⟩
  have hobs : okBs bs := fun x hx h1 => by
    have := List.all_eq_true.1 HM''.out x hx
    rw [myA, h1] at this
    have hmy : myB x.2 = true := by simpa using this
    exact ⟨HOB.out x hx h1 hmy, hmy⟩
  have HKP := Lib.hid fun bs' => okBs_keep (pa := pa) (ri := ri) p t n bs bs' hTP hTT hobs
  have hnd := ((myB_iff p).1 HM.out).2.2
  have HTP := Lib.hid hTP; clear hTP
  have HTT := Lib.hid hTT; clear hTT
  have HOS := Lib.hid hobs; clear hobs HM1 HM2
  obtain ⟨i0, hi, hz0, hz1, hz2⟩ := info_parts infoBind
  have hmk : ∀ W : World, (Instr.makeSlice 28 (.int .i64 (N : Int)) (.int .i64 (N : Int))).run Tryz.prog W = .ok (.slice (some ⟨W.heap.size, 0, none⟩) N N) (W.alloc (.cells (madeCells #[.bool false, .int .i64 0, .int .i64 0, .slice none 0 0] (N * 4)) 38)) := by
    intro W
    have := run_make W 28 38 i0 _ Tryz.underlying28 hi hz0 .i64 .i64 (N : Int) (N : Int) (by omega) (Int.le_refl _) (by rw [hz2]; omega) (by omega)
    rw [hz1] at this
    simpa [Value.cells] using this
  clear hi hz0 hz1 hz2
  have hcs := size_madeCells #[.bool false, .int .i64 0, .int .i64 0, .slice none 0 0] (N * 4)
  generalize madeCells #[.bool false, .int .i64 0, .int .i64 0, .slice none 0 0] (N * 4) = cs0 at *
  obtain ⟨W2, hW2⟩ : ∃ W2, (w3.alloc (.cells cs0 38)).alloc (.cells #[.slice (some ⟨w3.heap.size, 0, none⟩) N N, .slice Ap N cp, .slice Ar nr cr] 81) = W2 := ⟨_, rfl⟩
  have hb2 : Below w3.heap.size w3 W2 := by rw [← hW2]; exact ((Below.refl _ _).alloc (Nat.le_refl _) _).alloc (by simp) _
  have xB : Box W2 w3.heap.size 38 cs0 := by rw [← hW2]; exact (Box.new _ _ _).alloc _
  have xM : Box W2 (w3.heap.size + 1) 81 #[.slice (some ⟨w3.heap.size, 0, none⟩) N N, .slice Ap N cp, .slice Ar nr cr] := by rw [← hW2]; exact (Box.new (w3.alloc _) _ _).at (by simp)
  have HW2 := Lib.hid hW2; clear hW2
  have s3 := hb.size
  have lP := xP.lt
  have lT := xT.lt
  have hbX := hb.trans (hb2.mono hb.size)
  obtain ⟨cs, hc1, hc2, hc3, hc4⟩ := (HBS.out.keep hbX).raw
  have hcopy := run_copy_binds W2 3 w3.heap.size N c A cs0 _ cs xB hcs hc1 hc2 hc3
  have hoth : ∀ g, g ≠ w3.heap.size → (W2.setRow w3.heap.size cs.toArray).heap[g]? = W2.heap[g]? := fun g hg => setRow_other W2 _ g _ hg
  have hrow : Box (W2.setRow w3.heap.size cs.toArray) w3.heap.size 38 cs.toArray := setRow_heap W2 w3.heap.size cs0 cs.toArray _ _ xB
  have hsz : (W2.setRow w3.heap.size cs.toArray).heap.size = W2.heap.size := by simp [World.setRow]
  have hB3 : Below w3.heap.size w3 (W2.setRow w3.heap.size cs.toArray) := ⟨hb2.os, hb2.tape, hb2.output, by rw [hsz]; exact hb2.size, fun g hg => (hoth g (by omega)).trans (hb2.block g hg)⟩
  have hst : MSt pa ri w3.heap.size (w3.heap.size + 1) Ap N cp Ar nr cr N bs (W2.setRow w3.heap.size cs.toArray) := ⟨(hoth _ (by omega)).trans xM, ⟨_, hrow, by simpa using hc1, fun i x hx => by
      have hi := (List.getElem?_eq_some_iff.1 hx).1
      obtain ⟨k', h', A', m, c', e0, e1, e2, e3, hr⟩ := hc4 i (by have := HLEN.out; omega)
      simp only [List.getD_eq_getElem?_getD, hx, Option.getD_some] at e0 hr
      exact ⟨k', h', A', m, c', e0, e1, e2, e3, RdF.moveX (fun b hb' hl => ⟨by omega, hoth b (by omega)⟩) _ _ hr⟩⟩, HLEN.out, hN200, by omega⟩
  have HST := Lib.hid hst
  have hcopy' : (Builtin.copy_ #[28, 28] 3 #[.slice (some ⟨w3.heap.size, 0, none⟩) N N, .slice A N c]).run Tryz.prog ((w3.alloc (.cells cs0 38)).alloc (.cells #[.slice (some ⟨w3.heap.size, 0, none⟩) N N, .slice Ap N cp, .slice Ar nr cr] 81)) = .ok (goInt N) (W2.setRow w3.heap.size cs.toArray) := by
    rw [HW2.out]; exact hcopy
  clear hcopy hst hrow hc1 hc2 hc3 hc4 hoth hb2 hbX
  obtain ⟨W3, hW3⟩ : ∃ W3, W2.setRow w3.heap.size cs.toArray = W3 := ⟨_, rfl⟩
  rw [hW3] at hcopy' HST hB3
  clear hW3
  have hb3 := hb.trans (hB3.mono hb.size)
  obtain ⟨a0, a1, a2⟩ := (xP.keep hB3 lP).three
  obtain ⟨c0, c1', c2'⟩ := (xT.keep hB3 lT).three
  have HB3 := Lib.hid hb3
  have HHH := Lib.hid (holdC p pa ri w3.heap.size (w3.heap.size + 1) Ap N cp Ar nr cr N w W3 t n bs _ _ ⟨s3, by omega, HPA.out, HRI.out, HPL.out⟩ hb3 HST.out HP.out HT.out HTP.out HTT.out HOS.out hn0 (by omega))
  clear hb3 hB3 xP xT xB xM lP lT hsz
  go_wp2_with fail
  refine HHH.out.mono ?_
  clear HHH hcopy'
  generalize hdT pa ri p t n bs = Q at *
  intro e w4 hE
  cases Q with
  | error ec =>
    obtain ⟨rfl, hne, hfr⟩ := hE
    have hne' : (ec != 0) = true := by simpa using hne
    have hbad : Hid (R = .error ec) := Lib.hid HRR.out
    have hb4 := HB3.out.trans (hfr.to_below (B := w.heap.size) (fun i e => by rw [e]; exact s3) HB3.out.size)
    clear hfr a0 a1 a2 c0 c1' c2'
    go_wp2_with fail
    go_ret2
    exact .bad hbad.out hne hb4
  | ok bs' =>
    obtain ⟨rfl, hst4, hfr⟩ := hE
    have HOK : Hid (R = .ok (bs'.map ownB)) := Lib.hid HRR.out
    have hb4 := HB3.out.trans (hfr.to_below (B := w.heap.size) (fun i e => by rw [e]; exact s3) HB3.out.size)
    have hok := HKP.out bs' rfl
    have hl4 := hst4.len
    obtain ⟨p0, p1, p2⟩ := hst4.ptr.three
    have HO := Lib.hid (hOwnC _ bs' (some ⟨w3.heap.size, 0, none⟩) N N w4 ⟨hst4.len, Nat.le_refl _, by unfold maxLen; omega, hst4.cells⟩ hN200 (fun x hx h1 => by have := ((myB_iff _).1 (hok x hx h1).2).2.1; omega))
    clear hfr a0 a1 a2 c0 c1' c2' hst4 hok HRR HKP
    go_wp2_with fail
    refine HO.out.mono ?_
    rintro e w5 ⟨q, rfl, hbl, hb5⟩
    have hbb := hb4.trans (hb5.mono hb4.size)
    have hs4 := hb4.size
    have hR : R = .ok (bs'.map ownB) := HOK.out
    have hll : (bs'.map ownB).length = N := by rw [List.length_map]; exact hl4
    have HBL : Hid (BL (fun b => w.heap.size ≤ b) w5 (bs'.map ownB) (some ⟨q, 0, none⟩) N N) := Lib.hid ⟨hbl.len, hbl.le, hbl.cap, fun i x hx => by
      obtain ⟨b, o, k', g, A', m, c', e, e0, e1, e2, e3, hr⟩ := hbl.at_ i x hx
      exact ⟨b, o, k', g, A', m, c', e, e0, e1, e2, e3, RdF.moveX (fun b hb' _ => ⟨by omega, rfl⟩) _ _ hr⟩⟩
    clear hbl hb5 hb4 p0 p1 p2
    go_wp2_with fail
    refine bodyPost_ret (v := .tuple #[.slice (some ⟨q, 0, none⟩) N N, .int .i64 0]) (by simp [results, Tryz.results18, go_sem]) rfl ?_
    rw [HOK.out]
    exact ⟨q, by rw [hll], by rw [hll]; exact HBL.out, hbb⟩
end Go.Proofs.YtelicajhamgibaaGreat

/-
  Contracts of the functions of the laws of layer 4: metas, bare; the chapter's example. No statement is proved here.
-/
namespace Go.Proofs.YtelicajhamgibaaGreat
open Go.ChangeShapes Go.WideShapes Go.ChangeAt Go.RowKit
set_option linter.unusedVariables false
set_option maxRecDepth 100000

mutual
/-- has a term metas? -/
def hasB : T → Bool
  | .node k _ xs => (k == 6) || hasL xs
def hasL : List T → Bool
  | [] => false
  | x :: xs => hasB x || hasL xs
end
mutual
/-- has no meta Args? -/
def barB : T → Bool
  | .node k _ xs => !((k == 6) && decide (0 < xs.length)) && barL xs
def barL : List T → Bool
  | [] => true
  | x :: xs => barB x && barL xs
end


end Go.Proofs.YtelicajhamgibaaGreat

/-
  What the laws of layer 4 need of terms whose metas become something, as plain facts. No statement is proved here.
-/
namespace Go.Proofs.YtelicajhamgibaaGreat
open Go.ChangeShapes Go.WideShapes Go.ChangeAt Go.RowKit
set_option linter.unusedVariables false

theorem up_my {t : T} (h : myB t = true) {b : Int} (hb : 0 ≤ b ∧ b ≤ 1000) : apT t [] b = upT b t 0 ∧ apE t [] b = 0 :=
  ren_tells h (sb_of (by simp) (by omega) (fun x hx => by cases hx)) (ren_up b t 0) (my_up hb.1 h)
theorem bare_meta {h : Int} {xs : List T} (hb : barB (.node 6 h xs) = true) : xs = [] := by
  rw [barB, Bool.and_eq_true] at hb
  have := hb.1
  cases xs with
  | nil => rfl
  | cons x xs => simp at this
theorem bare_args {k h : Int} {xs : List T} (hb : barB (.node k h xs) = true) : barL xs = true := by
  rw [barB, Bool.and_eq_true] at hb
  exact hb.2
/-- a meta without Args -/
theorem fl_bare {th : List T} (hth : ∀ x ∈ th, myB x = true) {h n : Int} (hn : 0 ≤ n ∧ n ≤ 1000) : flT th (.node 6 h []) n = if (th.length : Int) ≤ h then .error 2 else .ok (upT n (th.getD h.toNat (.node 0 0 [])) 0) := by
  rw [flT, flL]
  simp only [flN, if_true, List.all_nil]
  split
  · rfl
  · have hm : myB (th.getD h.toNat (.node 0 0 [])) = true := by
      rcases Nat.lt_or_ge h.toNat th.length with hl | hl
      · exact hth _ (getD_mem _ hl)
      · rw [List.getD_eq_getElem?_getD, List.getElem?_eq_none hl]
        rfl
    obtain ⟨h1, h2⟩ := up_my hm hn
    rw [if_pos h2, h1]
theorem fl_node {th : List T} {k h n : Int} {xs : List T} {t' : T} (hk : k ≠ 6) (hr : flT th (.node k h xs) n = .ok t') : ∃ ys, flL th k xs.length xs 0 n = .ok ys ∧ t' = .node k h ys := by
  rw [flT] at hr
  split at hr
  · cases hr
  · rename_i ys hy
    rw [flN, if_neg hk] at hr
    cases hr
    exact ⟨ys, hy, rfl⟩
theorem flL_cons {th : List T} {k n : Int} {m i : Nat} {x : T} {xs ys : List T} (hr : flL th k m (x :: xs) i n = .ok ys) : ∃ y zs, flT th x (n + bd k m i) = .ok y ∧ flL th k m xs (i + 1) n = .ok zs ∧ ys = y :: zs := by
  rw [flL] at hr
  split at hr
  · cases hr
  · rename_i y hy
    split at hr
    · cases hr
    · rename_i zs hz
      cases hr
      exact ⟨y, zs, hy, hz, rfl⟩
theorem bd_le (k : Int) (m i : Nat) : 0 ≤ bd k m i ∧ bd k m i ≤ 1 := by rw [bd_bdn]; have := bdn_le k m i; omega

/-! ### Scopes -/
mutual
theorem sc_fill {th : List T} (hth : ∀ x ∈ th, myB x = true) {around metas : Int} (ha : 0 ≤ around) (hsc : ∀ x ∈ th, scC x around metas) : ∀ (t : T) (n : Int) (t' : T), barB t = true → 0 ≤ n → n + dp t ≤ 1000 → nodB t = true → scC t (n + around) th.length → flT th t n = .ok t' → scC t' (n + around) metas
  | .node k h xs, n, t', hb, h0, hn, hno, hs, hr => by
    have hdp : dp (.node k h xs) = 1 + dpL xs := by rw [dp]
    by_cases hk : k = 6
    · subst hk
      have := bare_meta hb
      subst this
      rw [fl_bare hth ⟨h0, by omega⟩] at hr
      split at hr
      · cases hr
      · rename_i hlt
        cases hr
        rw [nodB, Bool.and_eq_true] at hno
        have hh0 : 0 ≤ h := by rcases okN_cases hno.1 with ⟨e, _⟩ | ⟨e, _⟩ | ⟨e, _⟩ | ⟨e, he⟩ | ⟨e, he⟩ | ⟨e, he⟩ | ⟨e, he⟩ <;> first | exact he | omega
        have hm := getD_mem (.node 0 0 []) (show h.toNat < th.length by omega)
        rw [Int.add_comm]
        exact sc_up h0 _ 0 around ha (hsc _ hm)
    · obtain ⟨ys, hy, rfl⟩ := fl_node hk hr
      obtain ⟨_, hnos⟩ := node_parts hno
      rw [scC] at hs ⊢
      refine ⟨hs.1, fun e => absurd e hk, ?_⟩
      rw [flL_len th k xs.length xs 0 n ys hy]
      exact scL_fill hth ha hsc k xs.length xs 0 n ys (bare_args hb) h0 (by omega) (fun x hx => hnos x hx) hs.2.2 hy
theorem scL_fill {th : List T} (hth : ∀ x ∈ th, myB x = true) {around metas : Int} (ha : 0 ≤ around) (hsc : ∀ x ∈ th, scC x around metas) (k : Int) (m : Nat) : ∀ (xs : List T) (i : Nat) (n : Int) (ys : List T), barL xs = true → 0 ≤ n → n + dpL xs + 1 ≤ 1000 → (∀ x ∈ xs, nodB x = true) → scCL k m xs i (n + around) th.length → flL th k m xs i n = .ok ys → scCL k m ys i (n + around) metas
  | [], i, n, ys, _, _, _, _, _, hr => by
    rw [flL] at hr
    cases hr
    rw [scCL]
    trivial
  | x :: xs, i, n, ys, hb, h0, hn, hno, hs, hr => by
    obtain ⟨y, zs, hy, hz, rfl⟩ := flL_cons hr
    rw [barL, Bool.and_eq_true] at hb
    rw [dpL] at hn
    rw [scCL] at hs ⊢
    have hbd := bd_le k m i
    have e : n + around + bd k m i = n + bd k m i + around := by omega
    rw [e] at hs ⊢
    exact ⟨sc_fill hth ha hsc x _ y hb.1 (by omega) (by omega) (hno x (List.mem_cons_self ..)) hs.1 hy, scL_fill hth ha hsc k m xs (i + 1) n zs hb.2 h0 (by omega) (fun x hx => hno x (List.mem_cons_of_mem _ hx)) hs.2 hz⟩
end

/-! ### Twice -/
mutual
theorem up_at {a b : Int} (ha : 0 ≤ a) : ∀ (t : T) (s : Int), upT b (upT a t s) (a + s) = upT (a + b) t s
  | .node k h xs, s => by
    rw [upT, upT, upT, upL_len, up_atL ha k xs.length xs 0 s]
    congr 1
    by_cases hk : k = 4 ∧ s ≤ h
    · rw [if_pos hk, if_pos hk, if_pos ⟨hk.1, by omega⟩]
      omega
    · rw [if_neg hk, if_neg hk, if_neg (fun e => hk ⟨e.1, by omega⟩)]
theorem up_atL {a b : Int} (ha : 0 ≤ a) (k : Int) (n : Nat) : ∀ (xs : List T) (i : Nat) (s : Int), upL b k n (upL a k n xs i s) i (a + s) = upL (a + b) k n xs i s
  | [], i, s => by rw [upL, upL, upL]
  | x :: xs, i, s => by
    rw [upL, upL, upL, up_atL ha k n xs (i + 1) s, Int.add_assoc, up_at ha x]
end
mutual
theorem up_fl {et : List T} (he : ∀ x ∈ et, myB x = true) {b : Int} (hb0 : 0 ≤ b) : ∀ (s : T) (f : Int) (r : T), barB s = true → 0 ≤ f → f + b + dp s ≤ 1000 → flT et s f = .ok r → flT et (upT b s f) (f + b) = .ok (upT b r f)
  | .node k h xs, f, r, hb, h0, hn, hr => by
    have hdp : dp (.node k h xs) = 1 + dpL xs := by rw [dp]
    by_cases hk : k = 6
    · subst hk
      have := bare_meta hb
      subst this
      rw [fl_bare he ⟨h0, by omega⟩] at hr
      rw [upT, upL, if_neg (by omega), fl_bare he ⟨by omega, by omega⟩]
      split at hr
      · cases hr
      · rename_i hlt
        cases hr
        rw [if_neg hlt]
        congr 1
        have := up_at (b := b) h0 (et.getD h.toNat (.node 0 0 [])) 0
        rw [Int.add_zero] at this
        exact this.symm
    · obtain ⟨ys, hy, rfl⟩ := fl_node hk hr
      have h1 := up_flL he hb0 k xs.length xs 0 f ys (bare_args hb) h0 (by omega) hy
      rw [upT, flT, upL_len, h1, upT, flL_len et k xs.length xs 0 f ys hy]
      simp only [flN, if_neg hk]
theorem up_flL {et : List T} (he : ∀ x ∈ et, myB x = true) {b : Int} (hb0 : 0 ≤ b) (k : Int) (m : Nat) : ∀ (xs : List T) (i : Nat) (f : Int) (ys : List T), barL xs = true → 0 ≤ f → f + b + dpL xs + 1 ≤ 1000 → flL et k m xs i f = .ok ys → flL et k m (upL b k m xs i f) i (f + b) = .ok (upL b k m ys i f)
  | [], i, f, ys, _, _, _, hr => by
    rw [flL] at hr
    cases hr
    rw [upL, flL]
  | x :: xs, i, f, ys, hb, h0, hn, hr => by
    obtain ⟨y, zs, hy, hz, rfl⟩ := flL_cons hr
    rw [barL, Bool.and_eq_true] at hb
    rw [dpL] at hn
    have hbd := bd_le k m i
    have h1 := up_fl he hb0 x (f + bd k m i) y hb.1 (by omega) (by omega) hy
    have h2 := up_flL he hb0 k m xs (i + 1) f zs hb.2 h0 (by omega) hz
    rw [upL, flL, show f + b + bd k m i = f + bd k m i + b by omega, h1]
    simp only
    rw [h2, upL]
end
mutual
theorem fl_twice {th et l : List T} (hth : ∀ x ∈ th, myB x = true) (he : ∀ x ∈ et, myB x = true) (hl : ∀ x ∈ l, myB x = true) (hlen : l.length = th.length) (hba : ∀ x ∈ th, barB x = true)
    (hil : ∀ (i : Nat) (s : T), th[i]? = some s → ∃ u, l[i]? = some u ∧ flT et s 0 = .ok u) : ∀ (t : T) (n : Int) (x y z : T), barB t = true → nodB t = true → 0 ≤ n → n + dp t ≤ 900 → flT th t n = .ok x → flT et x n = .ok y → flT l t n = .ok z → y = z
  | .node k h xs, n, x, y, z, hb, hno, h0, hn, h1, h2, h3 => by
    have hdp : dp (.node k h xs) = 1 + dpL xs := by rw [dp]
    by_cases hk : k = 6
    · subst hk
      have := bare_meta hb
      subst this
      rw [fl_bare hth ⟨h0, by omega⟩] at h1
      rw [fl_bare hl ⟨h0, by omega⟩] at h3
      split at h1
      · cases h1
      · rename_i hlt
        cases h1
        rw [if_neg (by rw [hlen]; exact hlt)] at h3
        cases h3
        rw [nodB, Bool.and_eq_true] at hno
        have hh0 : 0 ≤ h := by rcases okN_cases hno.1 with ⟨e, _⟩ | ⟨e, _⟩ | ⟨e, _⟩ | ⟨e, he⟩ | ⟨e, he⟩ | ⟨e, he⟩ | ⟨e, he⟩ <;> first | exact he | omega
        have hj : h.toNat < th.length := by omega
        obtain ⟨u, hu, hf⟩ := hil h.toNat _ (List.getElem?_eq_getElem hj)
        have hm : th.getD h.toNat (.node 0 0 []) = th[h.toNat] := by rw [List.getD_eq_getElem?_getD, List.getElem?_eq_getElem hj]; rfl
        have hmm : th[h.toNat] ∈ th := List.getElem_mem hj
        have hd := ((myB_iff _).1 (hth _ hmm)).2.2
        have hup := up_fl he h0 _ 0 u (hba _ hmm) (by omega) (by omega) hf
        rw [hm] at h2
        rw [Int.zero_add] at hup
        rw [hup] at h2
        cases h2
        rw [List.getD_eq_getElem?_getD, hu]
        rfl
    · obtain ⟨ys, hy, rfl⟩ := fl_node hk h1
      obtain ⟨vs, hv, rfl⟩ := fl_node hk h2
      obtain ⟨ws, hw, rfl⟩ := fl_node hk h3
      obtain ⟨_, hnos⟩ := node_parts hno
      rw [flL_len th k xs.length xs 0 n ys hy] at hv
      rw [flL_twice hth he hl hlen hba hil k xs.length xs 0 n ys vs ws (bare_args hb) hnos h0 (by omega) hy hv hw]
theorem flL_twice {th et l : List T} (hth : ∀ x ∈ th, myB x = true) (he : ∀ x ∈ et, myB x = true) (hl : ∀ x ∈ l, myB x = true) (hlen : l.length = th.length) (hba : ∀ x ∈ th, barB x = true)
    (hil : ∀ (i : Nat) (s : T), th[i]? = some s → ∃ u, l[i]? = some u ∧ flT et s 0 = .ok u) (k : Int) (m : Nat) : ∀ (xs : List T) (i : Nat) (n : Int) (ys vs ws : List T), barL xs = true → (∀ x ∈ xs, nodB x = true) → 0 ≤ n → n + dpL xs + 1 ≤ 900 → flL th k m xs i n = .ok ys → flL et k m ys i n = .ok vs → flL l k m xs i n = .ok ws → vs = ws
  | [], i, n, ys, vs, ws, _, _, _, _, h1, h2, h3 => by
    rw [flL] at h1
    cases h1
    rw [flL] at h2 h3
    cases h2
    cases h3
    rfl
  | x :: xs, i, n, ys, vs, ws, hb, hno, h0, hn, h1, h2, h3 => by
    obtain ⟨y, zs, hy, hz, rfl⟩ := flL_cons h1
    obtain ⟨v, us, hv, hu, rfl⟩ := flL_cons h2
    obtain ⟨w, qs, hw, hq, rfl⟩ := flL_cons h3
    rw [barL, Bool.and_eq_true] at hb
    rw [dpL] at hn
    have hbd := bd_le k m i
    rw [fl_twice hth he hl hlen hba hil x _ y v w hb.1 (hno x (List.mem_cons_self ..)) (by omega) (by omega) hy hv hw, flL_twice hth he hl hlen hba hil k m xs (i + 1) n zs us qs hb.2 (fun x hx => hno x (List.mem_cons_of_mem _ hx)) h0 (by omega) hz hu hq]
end

/-! ### None -/
mutual
theorem fl_none (th : List T) : ∀ (t : T) (n : Int), hasB t = false → flT th t n = .ok t
  | .node k h xs, n, hb => by
    rw [hasB, Bool.or_eq_false_iff] at hb
    have hk : k ≠ 6 := by simpa using hb.1
    rw [flT, flL_none th k xs.length xs 0 n hb.2]
    simp only [flN, if_neg hk]
theorem flL_none (th : List T) (k : Int) (m : Nat) : ∀ (xs : List T) (i : Nat) (n : Int), hasL xs = false → flL th k m xs i n = .ok xs
  | [], i, n, _ => by rw [flL]
  | x :: xs, i, n, hb => by
    rw [hasL, Bool.or_eq_false_iff] at hb
    rw [flL, fl_none th x _ hb.1]
    simp only
    rw [flL_none th k m xs (i + 1) n hb.2]
end
mutual
theorem fl_has : ∀ (t : T) (n : Int), nodB t = true → hasB t = true → flT [] t n = .error 2
  | .node k h xs, n, hno, hb => by
    obtain ⟨hok, hnos⟩ := node_parts hno
    rw [flT]
    cases hx : hasL xs with
    | true => rw [flL_has k xs.length xs 0 n hnos hx]
    | false =>
      rw [flL_none [] k xs.length xs 0 n hx]
      rw [hasB, hx, Bool.or_false] at hb
      have hk : k = 6 := by simpa using hb
      subst hk
      have hh0 : 0 ≤ h := by rcases okN_cases hok with ⟨e, _⟩ | ⟨e, _⟩ | ⟨e, _⟩ | ⟨e, he⟩ | ⟨e, he⟩ | ⟨e, he⟩ | ⟨e, he⟩ <;> first | exact he | omega
      simp [flN, hh0]
theorem flL_has (k : Int) (m : Nat) : ∀ (xs : List T) (i : Nat) (n : Int), (∀ x ∈ xs, nodB x = true) → hasL xs = true → flL [] k m xs i n = .error 2
  | [], i, n, _, hb => by simp [hasL] at hb
  | x :: xs, i, n, hno, hb => by
    rw [flL]
    cases hx : hasB x with
    | true => rw [fl_has x _ (hno x (List.mem_cons_self ..)) hx]
    | false =>
      rw [hasL, hx, Bool.false_or] at hb
      rw [fl_none [] x _ hx]
      simp only
      rw [flL_has k m xs (i + 1) n (fun x hx => hno x (List.mem_cons_of_mem _ hx)) hb]
end

/-! ### The whole context -/
theorem hasL_vs (n : Nat) : hasL (vsL n) = false := by
  have : ∀ xs : List T, (∀ x ∈ xs, hasB x = false) → hasL xs = false := by
    intro xs
    induction xs with
    | nil => intro _; rfl
    | cons x xs ih =>
      intro h
      rw [hasL, h x (List.mem_cons_self ..), ih fun y hy => h y (List.mem_cons_of_mem _ hy)]
      rfl
  refine this _ fun x hx => ?_
  obtain ⟨i, hi⟩ := List.getElem?_of_mem hx
  obtain ⟨_, rfl⟩ := vsL_at _ _ _ hi
  simp [hasB, hasL]
theorem hasL_of : ∀ {xs : List T}, (∀ x ∈ xs, hasB x = false) → hasL xs = false
  | [], _ => rfl
  | x :: xs, h => by rw [hasL, h x (List.mem_cons_self ..), hasL_of fun y hy => h y (List.mem_cons_of_mem _ hy)]; rfl
/-- one meta, with Args without metas -/
theorem fi_one {x : T} {L : List T} {n : Int} (hx : myB x = true) (hL : hasL L = false) (hm : myB (.node 6 0 L) = true) (hal : L.all myB = true) (hn : 0 ≤ n ∧ n ≤ 1000) : fiR [x] n (.node 6 0 L) = if apE x L n = 0 then .ok (apT x L n) else .error (apE x L n) := by
  rw [fi_good (by simp [thB, hx]) hn.1 hn.2 hm, flT, flL_none [x] 6 L.length L 0 n hL]
  simp only [flN, if_true, List.length_singleton, hal]
  rw [if_neg (by omega)]
  simp only [Int.toNat_zero, List.getD_cons_zero]
  by_cases hz : apE x L n = 0
  · rw [if_pos hz]
    obtain ⟨_, _, _, _, h4⟩ := ap_zero hz
    simp only [h4, if_true]
  · rw [if_neg hz]
theorem ap_nought {x : T} {L : List T} {n : Int} (h : apE x L n ≠ 0) : apT x L n = .node 0 0 [] := by
  unfold apE at h
  unfold apT
  split
  · rename_i hp
    rw [if_pos hp] at h
    cases hr : apR x L n with
    | error e => rfl
    | ok p =>
      obtain ⟨t, m⟩ := p
      rw [hr] at h
      cases hm : myB t with
      | true => simp [anE, hm] at h
      | false => simp [anT, hm]
  · rfl
end Go.Proofs.YtelicajhamgibaaGreat

/-
  The chapter's example of layer 4, and what the laws need of what Fill tells. No statement is proved here.
-/
namespace Go.Proofs.YtelicajhamgibaaGreat
open Go.ChangeShapes Go.WideShapes Go.ChangeAt Go.RowKit
set_option linter.unusedVariables false
set_option maxRecDepth 100000

theorem fi_ok {th : List T} {n : Int} {t u : T} (h : fiR th n t = .ok u) : thB th = true ∧ 0 ≤ n ∧ n ≤ 1000 ∧ myB t = true ∧ flT th t n = .ok u ∧ myB u = true := by
  by_cases hc : (thB th && decide (0 ≤ n) && decide (n ≤ 1000) && myB t) = true
  · have hc' := hc
    simp only [Bool.and_eq_true, decide_eq_true_eq] at hc'
    rw [fi_good hc'.1.1.1 hc'.1.1.2 hc'.1.2 hc'.2] at h
    refine ⟨hc'.1.1.1, hc'.1.1.2, hc'.1.2, hc'.2, ?_⟩
    split at h
    · cases h
    · rename_i t' ht
      split at h
      · rename_i hm
        cases h
        exact ⟨ht, hm⟩
      · cases h
  · rw [fi_bad (by simpa using hc)] at h
    cases h
theorem thB_all {th : List T} (h : thB th = true) : ∀ x ∈ th, myB x = true := by
  unfold thB at h
  rw [Bool.and_eq_true] at h
  exact List.all_eq_true.1 h.2
theorem scopes_fill {t u : T} {th : List T} {n around : Int} (kt : Kn 300 60 t) (hL : ∀ x ∈ th, Kn 300 60 x) (hs : ∀ x ∈ th, scB x around 5 = true) (hb : barB t = true) (hn : 0 ≤ n ∧ n ≤ 20) (ha : 0 ≤ around ∧ around ≤ 20)
    (ht : scB t (n + around) th.length = true) (hu : fiR th n t = .ok u) : scB u (n + around) 5 = true := by
  obtain ⟨_, _, _, _, h5, h6⟩ := fi_ok hu
  have h4 := ((myB_iff u).1 h6).2.1
  have h7 := kt.dp
  refine (scB_iff 5 u (n + around) (by omega) (by omega)).2 ?_
  exact sc_fill (fun x hx => (hL x hx).my) ha.1 (fun x hx => (scB_iff 5 x around (by omega) (by have := (hL x hx).nd; omega)).1 (hs x hx)) t n u hb hn.1 (by omega) kt.nod ((scB_iff th.length t (n + around) (by omega) (by have := kt.nd; omega)).1 ht) h5

theorem th60 {L : List T} (hL : ∀ x ∈ L, myB x = true) (h : L.length ≤ 200) : thB L = true := by
  unfold thB
  rw [Bool.and_eq_true]
  exact ⟨by simpa using h, List.all_eq_true.2 hL⟩
theorem none_tells {t : T} {L : List T} {n : Int} (ht : myB t = true) (hL : ∀ x ∈ L, myB x = true) (h60 : L.length ≤ 60) (hn : 0 ≤ n ∧ n ≤ 1000) (hb : hasB t = false) : fiR L n t = .ok t := by
  rw [fi_good (th60 hL (by omega)) hn.1 hn.2 ht, fl_none L t n hb]
  simp [ht]
theorem has_tells {t : T} {n : Int} (ht : myB t = true) (hn : 0 ≤ n ∧ n ≤ 1000) (hb : hasB t = true) : fiR [] n t = .error 2 := by
  rw [fi_good rfl hn.1 hn.2 ht, fl_has t n ((myB_iff t).1 ht).1 hb]

theorem nodL_of : ∀ {xs : List T}, (∀ x ∈ xs, nodB x = true) → nodL xs = true
  | [], _ => by rw [nodL]
  | x :: xs, h => by rw [nodL, h x (List.mem_cons_self ..), nodL_of fun y hy => h y (List.mem_cons_of_mem _ hy)]; rfl
theorem ok_node6 {M h : Int} {xs : List T} (hx : ∀ x ∈ xs, okT M x) : okT M (.node 6 h xs) := by
  rw [okT]
  refine ⟨fun e => by omega, ?_⟩
  have : ∀ xs : List T, (∀ x ∈ xs, okT M x) → okL M xs := by
    intro xs
    induction xs with
    | nil => intro _; rw [okL]; trivial
    | cons x xs ih =>
      intro h
      rw [okL]
      exact ⟨h x (List.mem_cons_self ..), ih fun y hy => h y (List.mem_cons_of_mem _ hy)⟩
  exact this xs hx
theorem ok_vs (m : Nat) (h : m ≤ 20) : okT 2199023255552 (.node 6 0 (vsL m)) := ok_node6 fun x hx => by
  obtain ⟨i, hi⟩ := List.getElem?_of_mem hx
  obtain ⟨_, rfl⟩ := vsL_at _ _ _ hi
  simp [okT, okL]
  omega
theorem vs_nd (m : Nat) : ∀ xs : List T, (∀ x ∈ xs, ∃ h, x = .node 4 h []) → ndL xs = xs.length ∧ dpL xs ≤ 1
  | [], _ => by simp [ndL, dpL]
  | x :: xs, h => by
    obtain ⟨i, rfl⟩ := h x (List.mem_cons_self ..)
    have := vs_nd m xs fun y hy => h y (List.mem_cons_of_mem _ hy)
    simp only [ndL, dpL, nd, dp, List.length_cons]
    omega
theorem my_vs (m : Nat) (h : m ≤ 20) : myB (.node 6 0 (vsL m)) = true ∧ ∀ x ∈ vsL m, myB x = true := by
  have hx : ∀ x ∈ vsL m, ∃ i, 0 ≤ i ∧ x = .node 4 i [] := fun x hx => by
    obtain ⟨i, hi⟩ := List.getElem?_of_mem hx
    obtain ⟨h1, rfl⟩ := vsL_at _ _ _ hi
    exact ⟨_, by omega, rfl⟩
  have hm : ∀ x ∈ vsL m, myB x = true := fun x hx' => by
    obtain ⟨i, h0, rfl⟩ := hx x hx'
    exact my_var h0
  obtain ⟨h1, h2⟩ := vs_nd m (vsL m) fun x hx' => by
    obtain ⟨i, _, rfl⟩ := hx x hx'
    exact ⟨i, rfl⟩
  have hl := vsL_len m
  refine ⟨(myB_iff _).2 ⟨?_, by rw [nd]; omega, by rw [dp]; omega⟩, hm⟩
  rw [nodB, nodL_of fun x hx' => ((myB_iff x).1 (hm x hx')).1]
  simp [okN]
theorem fi_whole {x : T} {m : Nat} (hx : myB x = true) (hm : m ≤ 20) : fiR [x] (m : Int) (.node 6 0 (vsL m)) = .ok x := by
  obtain ⟨h1, h2⟩ := my_vs m hm
  have h3 : apT x (vsL m) m = x ∧ apE x (vsL m) m = 0 :=
    ren_tells hx (sb_of (by rw [vsL_len]; omega) (by omega) h2) (ren_id (vsL_id m) x 0) hx
  rw [fi_one hx (hasL_vs m) h1 (List.all_eq_true.2 h2) (by omega), if_pos h3.2, h3.1]
theorem fi_tend {x : T} {L : List T} {n : Int} {w w' : World} {e : Ending} (h : FnE (if apE x L n = 0 then .ok (apT x L n) else .error (apE x L n)) w e w') : TEnd (apT x L n) (apE x L n) w e w' := by
  have h' := h.tend
  by_cases hz : apE x L n = 0
  · rw [if_pos hz] at h'
    rw [hz]
    exact h'
  · rw [if_neg hz] at h'
    rw [ap_nought hz]
    exact h'

/-! ### The chapter's example -/
abbrev amX : T := .node 3 0 [.node 4 1 []]
abbrev amT : T := .node 6 0 [.node 4 3 []]
theorem am_fi : fiR [amX] 5 amT = .ok (.node 3 0 [.node 4 4 []]) := by
  have hr : RenT [.node 4 3 []] 5 amX 0 (.node 3 0 [.node 4 4 []]) := by
    have e0 : bdn 3 [T.node 4 1 []].length 0 = 1 := by decide
    rw [RenT]
    refine ⟨rfl, by rw [if_neg (by omega)], rfl, ?_⟩
    rw [RenL]
    refine ⟨_, [], rfl, ?_, by rw [RenL]⟩
    rw [e0, RenT]
    refine ⟨rfl, ?_, rfl, by rw [RenL]⟩
    rw [if_pos (by omega), mpT, if_neg (by decide)]
    simp [upT, upL]
  obtain ⟨h1, h2⟩ := ren_tells (t := amX) (by decide) (by decide) hr (by decide)
  rw [fi_one (by decide) (by decide) (by decide) (by decide) (by omega), if_pos h2, h1]
end Go.Proofs.YtelicajhamgibaaGreat

/-
  The chapter's example of layer 7; lists of binds and Booleans that are made. No statement is proved here.
-/
namespace Go.Proofs.YtelicajhamgibaaGreat
open Go.ChangeShapes Go.WideShapes Go.ChangeAt Go.RowKit
set_option linter.unusedVariables false

theorem bl_nil (ok : Nat → Prop) (w : World) : BL ok w [] none 0 0 := ⟨rfl, Nat.le_refl _, Nat.zero_le _, fun i x h => by simp at h⟩
theorem lb_nil (w : World) : LB w [] none 0 0 := ⟨rfl, Nat.le_refl _, Nat.zero_le _, fun i x h => by simp at h⟩
theorem bl_one {ok : Nat → Prop} {w : World} {q : Nat} {ty : TypeId} (h : Box w q ty #[.bool false, .int .i64 0, .int .i64 0, .slice none 0 0]) : BL ok w [noB] (some ⟨q, 0, none⟩) 1 1 :=
  ⟨rfl, Nat.le_refl _, by unfold maxLen; omega, fun i x hx => by
    match i, hx with
    | 0, hx => cases hx; exact ⟨q, 0, 0, 0, none, 0, 0, rfl, h.cell 0, h.cell 1, h.cell 2, h.cell 3, rd_nought⟩⟩
theorem lb_one {w : World} {q : Nat} {ty : TypeId} {b : Bool} (h : Box w q ty #[.bool b]) : LB w [b] (some ⟨q, 0, none⟩) 1 1 :=
  ⟨rfl, Nat.le_refl _, by unfold maxLen; omega, fun i x hx => by
    match i, hx with
    | 0, hx => cases hx; exact ⟨q, 0, rfl, h.cell 0⟩⟩
theorem make_one (W : World) : (Instr.makeSlice 28 (.int .i64 1) (.int .i64 1)).run Tryz.prog W = .ok (.slice (some ⟨W.heap.size, 0, none⟩) 1 1) (W.alloc (.cells #[.bool false, .int .i64 0, .int .i64 0, .slice none 0 0] 38)) := by
  obtain ⟨i0, hi, hz0, hz1, hz2⟩ := info_parts infoBind
  have := run_make W 28 38 i0 _ Tryz.underlying28 hi hz0 .i64 .i64 1 1 (by omega) (Int.le_refl _) (by rw [hz2]; omega) (by omega)
  rw [hz1] at this
  have e : madeCells #[.bool false, .int .i64 0, .int .i64 0, .slice none 0 0] 4 = #[Value.bool false, .int .i64 0, .int .i64 0, .slice none 0 0] := by kernel_rfl
  simpa [Value.cells, e] using this

theorem MtE.below {R : Except Int (List BT)} {w w' : World} {e : Ending} (h : MtE R w e w') : Below w.heap.size w w' := by
  cases R with
  | error ec => exact h.2.2
  | ok bs => obtain ⟨p, _, _, h⟩ := h; exact h
abbrev amP : T := .node 5 1 [.node 6 0 []]
abbrev amQ : T := .node 5 1 [.node 5 2 []]
theorem am_one : mtR amP amQ 0 [noB] [false] [] = .ok [(true, .node 5 2 [])] := by kernel_rfl
theorem am_two : mtR amQ amP 0 [] [] [] = .error 6 := by kernel_rfl
end Go.Proofs.YtelicajhamgibaaGreat

/-
  Contracts of the document's Same of two lists of binds, and of layer 7's Few. No statement is proved here.
-/
namespace Go.Proofs.YtelicajhamgibaaGreat
open Go.ChangeShapes Go.WideShapes Go.ChangeAt Go.RowKit
set_option linter.unusedVariables false

def sameL : List BT → List BT → Bool
  | x :: xs, y :: ys => !(x.1 != y.1 || x.1 && !samB x.2 y.2) && sameL xs ys
  | _, _ => true
/-- are two lists of binds the same, where something is told -/
def sameB (a b : List BT) : Bool := decide (a.length = b.length) && sameL a b
set_option maxHeartbeats 4000000 in
theorem refSbC (ok ok' : Nat → Prop) (a b : List BT) (A : Option Addr) (n c : Nat) (A' : Option Addr) (n' c' : Nat) (w : World) (ha : BL ok w a A n c) (hb' : BL ok' w b A' n' c') :
    Calls Tryz.prog 10 #[.slice A n c, .slice A' n' c'] w fun e w' => e = .returned (.bool (sameB a b)) ∧ Below w.heap.size w w' := by
  have hm := ha.cap
  have hc := ha.le
  have hm' := hb'.cap
  have hc' := hb'.le
  unfold maxLen at hm hm'
  have hla := ha.len
  have hlb := hb'.len
  have HX := Lib.hid ha; clear ha
  have HY := Lib.hid hb'; clear hb'
  by_cases hn : n = n'
  · subst hn
    have hs : sameB a b = sameL a b := by rw [sameB, hla, hlb, decide_eq_true rfl]; rfl
    rw [hs]
    clear hs hla hlb
    go_enter Tryz.func10, Tryz.ntmps10
    go_wp2_with fail
    go_loopw [5] (fun i wr => ∃ (j : Nat), j ≤ n ∧ i = .int .i64 j ∧ Hid (sameL (a.drop j) (b.drop j) = sameL a b) ∧ Below w.heap.size w wr) (fun i _ => n - (Go.RowKit.intOf i).toNat)
    case atStart => exact ⟨0, Nat.zero_le _, rfl, Lib.hid (by simp), Below.refl _ _⟩
    case round =>
      obtain ⟨j, hj, rfl, HS, hb⟩ := hrel
      by_cases hlt : j < n
      · obtain ⟨x, hx⟩ := at_of HX.out.len hlt
        obtain ⟨y, hy⟩ := at_of HY.out.len hlt
        obtain ⟨b1, o1, k1, h1, A1, n1, c1, rfl, c0, c1', c2, c3, hr1⟩ := (HX.out.at_ j x hx).keep hb
        obtain ⟨b2, o2, k2, h2, A2, n2, c2', rfl, d0, d1, d2, d3, hr2⟩ := (HY.out.at_ j y hy).keep hb
        have HS' := HS.out
        rw [drop_at hx, drop_at hy, sameL] at HS'
        have HS1 := Lib.hid HS'; clear HS' hx hy HS
        have hi0 : (0 : Int) ≤ j := by omega
        have hi1 : (j : Int) < n := by omega
        have HC := Lib.hid fun W' (h : Below wr.heap.size wr W') => refSame x.2 y.2 _ _ W' (Rd.keep h _ _ (RdF.rd _ _ hr1)) (Rd.keep h _ _ (RdF.rd _ _ hr2))
        clear hr1 hr2
        obtain ⟨x1, x2⟩ := x
        obtain ⟨y1, y2⟩ := y
        dsimp only at c0 d0 HS1 HC
        generalize samB x2 y2 = r at *
        go_wp2_with fail
        have p0 := Past.cell c0
        have p1 := Past.cell c1'
        have p2 := Past.cell c2
        have p3 := Past.cell c3
        have q0 := Past.cell d0
        have q1 := Past.cell d1
        have q2 := Past.cell d2
        have q3 := Past.cell d3
        refine wp_region_past (by kernel_rfl) (by kernel_rfl) ?_
        repeat (go_big_quiet_step ((exact calls_past (HC.out _ (Past.h _)))))
        refine wpQuiet_nil ?_
        rintro _ ⟨z1, rfl⟩
        obtain ⟨w1, hb1⟩ := z1
        dsimp only
        clear p0 p1 p2 p3 q0 q1 q2 q3 HC
        have c0 := (hb1.cell (cell_lt c0)).trans c0
        have d0 := (hb1.cell (cell_lt d0)).trans d0
        replace hb := hb.trans (hb1.mono hb.size)
        clear hb1 c1' c2 c3 d1 d2 d3
        have p0 := Past.cell c0
        have q0 := Past.cell d0
        go_wp2_with fail
        cases x1 <;> cases y1 <;> cases r
        all_goals
          refine wp_region_past (by kernel_rfl) (by kernel_rfl) ?_
          repeat (go_big_quiet_step (fail))
          refine wpQuiet_nil ?_
          rintro _ ⟨z1, rfl⟩
          obtain ⟨w2, hb1⟩ := z1
          dsimp only
          clear p0 q0
          replace hb := hb.trans (hb1.mono hb.size)
          clear hb1 c0 d0
          go_wp2_with fail
          first
            | (go_roundw
               case rel => exact ⟨j + 1, by omega, by go_num, Lib.hid (by simpa using HS1.out), hb⟩
               case measure => simp [Go.RowKit.intOf]; omega)
            | (go_ret
               exact ⟨ret_bool (by rw [← HS1.out]; rfl), hb⟩)
      · go_wp2_with fail
        go_ret
        exact ⟨ret_bool (by rw [← HS.out, drop_all HX.out.len (by omega)]; rfl), hb⟩
  · have hs : sameB a b = false := by rw [sameB, hla, hlb, decide_eq_false hn]; rfl
    have e0 : ((n : Int) != (n' : Int)) = true := by simp; omega
    rw [hs]
    clear hs hla hlb
    go_enter Tryz.func10, Tryz.ntmps10
    go_wp2_with fail
    go_ret
    exact ⟨rfl, Below.refl _ _⟩

/-- few binds, each light -/
def fwB (bs : List BT) (n : Nat) : Bool := decide (n ≤ 60) && bs.all fun x => ltB x.2 2000 80
end Go.Proofs.YtelicajhamgibaaGreat

/-
  The document's Same of two lists of binds, and Few. No statement is proved here.
-/


/-
  Contract of the laws' metaOf: a meta with variables as its Args. No statement is proved here.
-/
namespace Go.Proofs.YtelicajhamgibaaGreat
open Go.ChangeShapes Go.WideShapes Go.ChangeAt Go.RowKit
set_option linter.unusedVariables false

/-- variables as cells -/
def rowV (vs : List Int) : List Value := vs.flatMap fun v => [.int .i64 4, .int .i64 v, .slice none 0 0]
theorem rowV_snoc (vs : List Int) (v : Int) : rowV (vs ++ [v]) = rowV vs ++ [.int .i64 4, .int .i64 v, .slice none 0 0] := by simp [rowV]
theorem rowV_at : ∀ {vs : List Int} {i : Nat} {v : Int}, vs[i]? = some v → (rowV vs)[i * 3]? = some (.int .i64 4) ∧ (rowV vs)[i * 3 + 1]? = some (.int .i64 v) ∧ (rowV vs)[i * 3 + 2]? = some (.slice none 0 0)
  | x :: vs, 0, v, h => by cases h; exact ⟨rfl, rfl, rfl⟩
  | x :: vs, i + 1, v, h => by
    have := rowV_at (vs := vs) (i := i) (v := v) (by simpa using h)
    have e : ∀ q, (rowV (x :: vs))[i * 3 + q + 3]? = (rowV vs)[i * 3 + q]? := fun q => rfl
    have e0 : (i + 1) * 3 = i * 3 + 3 := by omega
    rw [e0]
    exact ⟨(e 0).trans this.1, (e 1).trans this.2.1, (e 2).trans this.2.2⟩
/-- a row of variables reads as terms -/
theorem rowV_rd {w : World} {base : Nat} {A : Option Addr} {n c : Nat} {vs : List Int} (h : w.ownsRow base 24 3 (.slice A n c) n (rowV vs)) (hn : vs.length = n) (hw : ∀ v ∈ vs, (Lit.int .i64 v).wf = true) :
    n ≤ c ∧ c ≤ maxLen ∧ ∀ i t, (vrs vs)[i]? = some t → RdAt w A i t := by
  rcases h.2 with ⟨e, h0⟩ | ⟨g, cap, cur, e, _, hb, h1, h2, h3, h4⟩
  · simp only [Value.slice.injEq] at e
    obtain ⟨rfl, _, rfl⟩ := e
    refine ⟨by omega, Nat.zero_le _, fun i t ht => ?_⟩
    rw [List.length_eq_zero_iff.1 (hn.trans h0)] at ht
    simp [vrs] at ht
  · simp only [Value.slice.injEq] at e
    obtain ⟨rfl, _, rfl⟩ := e
    refine ⟨h1, h2, fun i t ht => ?_⟩
    have hi : i < vs.length := by have := (List.getElem?_eq_some_iff.1 ht).1; simpa [vrs_len] using this
    obtain ⟨v, hv⟩ : ∃ v, vs[i]? = some v := ⟨_, List.getElem?_eq_getElem hi⟩
    have e2 := vrs_at hv
    rw [ht] at e2
    cases e2
    obtain ⟨r0, r1, r2⟩ := rowV_at hv
    have cc : ∀ q x, q < n * 3 → (rowV vs)[q]? = some x → w.cell? ⟨g, 0 + q, none⟩ = some x := fun q x hq hx => by
      rw [← h4, List.getElem?_take_of_lt hq, Array.getElem?_toList] at hx
      simp only [World.cell?, hb, Nat.zero_add]
      simpa using hx
    refine ⟨g, 0, .int .i64 4, .int .i64 v, .slice none 0 0, rfl, cc _ _ (by omega) r0, ?_, ?_, ?_⟩
    · rw [Nat.add_assoc]; exact cc _ _ (by omega) r1
    · rw [Nat.add_assoc]; exact cc _ _ (by omega) r2
    · exact Rd_node.2 ⟨none, 0, 0, rfl, by decide, hw v (List.mem_of_getElem? hv), rfl, Nat.le_refl _, Nat.zero_le _, fun i t h => by simp at h⟩

/-- what a round reads -/
def SMo (z bV oV : Nat) (s : Value) (j : Nat) (v : Int) (w' : World) : Prop := w'.cell? ⟨z + 1, 2, none⟩ = some s ∧ w'.cell? ⟨bV, oV + j, none⟩ = some (.int .i64 v)
/-- what holds at the head of the loop -/
structure MoI (vs : List Int) (w : World) (j : Nat) (wr : World) (Av : Option Addr) (cv : Nat) : Prop where
  res : Box wr w.heap.size 24 #[.int .i64 0, .int .i64 0, .slice none 0 0]
  out : Box wr (w.heap.size + 1) 24 #[.int .i64 6, .int .i64 0, .slice Av j cv]
  row : wr.ownsRow (w.heap.size + 2) 24 3 (.slice Av j cv) j (rowV (vs.take j))
  below : Below w.heap.size w wr

end Go.Proofs.YtelicajhamgibaaGreat

/-
  What Invert's answer says of a term that is known. No statement is proved here.
-/
namespace Go.Proofs.YtelicajhamgibaaGreat
open Go.ChangeShapes Go.WideShapes Go.ChangeAt Go.RowKit
set_option linter.unusedVariables false

theorem ivR_cases {s d : Nat} {t : T} (k : Kn s d t) (vs : List Int) (n : Int) (hl : vs.length ≤ 1000) :
    ((0 ≤ n ∧ n ≤ 1000) ∧ vB n [] vs = true ∧ ((∃ u, ivR t vs n = .ok u ∧ ivT (igo vs n) t 0 = some u) ∨ (ivR t vs n = .error 7 ∧ ivT (igo vs n) t 0 = none))) ∨ ivR t vs n = .error 1 := by
  have hs : nd t ≤ 1048576 := by have := ((myB_iff t).1 k.my).2.1; omega
  have ho := okT_of t k.nod k.lo
  by_cases h : (decide (0 ≤ n) && decide (n ≤ 1000) && mayB t && vB n [] vs) = true
  · have h2 := h
    simp only [Bool.and_eq_true, decide_eq_true_eq] at h2
    have hr : ivR t vs n = ivO (ivT (igo vs n) t 0) := by
      rw [ivR, if_pos h, rn_iv (M := 1099511627776) (g := igo vs n) (by omega) (fun x h0 hx => ⟨igW_eq h0 (by omega) h2.1.1 (by omega), fun y hy => by have := igo_bd (M := 1099511627776) (by omega) hx h2.1.1.1 hy; omega⟩) t 0 ho (by omega) (by omega)]
    refine .inl ⟨h2.1.1, h2.2, ?_⟩
    cases hq : ivT (igo vs n) t 0 with
    | none => exact .inr ⟨by rw [hr, hq]; rfl, rfl⟩
    | some u => exact .inl ⟨u, by rw [hr, hq]; rfl, rfl⟩
  · exact .inr (ivR_bad (by simpa using h))
/-- how great Heads are in what is told -/
theorem iv_low {s d : Nat} {t u : T} (k : Kn s d t) {vs : List Int} {n : Int} (hn : 0 ≤ n ∧ n ≤ 1000) (hl : vs.length ≤ 1000) (h : ivT (igo vs n) t 0 = some u) : okT (1099511627776 + 1000) u :=
  ok_iv (M := 1099511627776) (fun x h0 hx y hy => by
    unfold igo at hy
    split at hy
    · cases hy; omega
    · have := pls_lt hy; omega) (by omega) t 0 u (Int.le_refl _) (okT_of t k.nod k.lo) h
theorem vrs_low {vs : List Int} {n : Int} (hn : n ≤ 1000) (hv : vB n [] vs = true) : ∀ x ∈ vrs vs, okT 1099511627776 x := fun x hx => by
  obtain ⟨v, hm, rfl⟩ := List.mem_map.1 hx
  have := (vB_top.1 hv).1 v hm
  rw [okT, okL]
  exact ⟨fun _ => by omega, trivial⟩
theorem vrs_wf {vs : List Int} {n : Int} (hn : n ≤ 1000) (hv : vB n [] vs = true) : ∀ v ∈ vs, (Lit.int .i64 v).wf = true := fun v hm => by
  have := (vB_top.1 hv).1 v hm
  have h : -9223372036854775808 ≤ v ∧ v ≤ 9223372036854775807 := by omega
  simpa [Lit.wf, IntKind.min, IntKind.max, IntKind.signed, IntKind.bits] using h
/-- a leaf has no Args -/
theorem leaf_len {ok : Nat → Prop} {w : World} {k h k' h' : Int} {A : Option Addr} {n c : Nat} (hr : RdF ok w (.node k' h' []) (.agg #[.int .i64 k, .int .i64 h, .slice A n c])) : n = 0 := by
  obtain ⟨A', n', c', e, _, _, h3, _⟩ := RdF_node.1 hr
  simp at e
  have : n' = 0 := h3.symm
  omega
end Go.Proofs.YtelicajhamgibaaGreat

/-
  What the laws of layer 6 need of Fill and of patterns. No statement is proved here.
-/
namespace Go.Proofs.YtelicajhamgibaaGreat
open Go.ChangeShapes Go.WideShapes Go.ChangeAt Go.RowKit
set_option linter.unusedVariables false
set_option maxRecDepth 100000

theorem ptn_vrs (n : Int) : ∀ (vs seen : List Int), (ptn n seen (vrs vs)).isSome = vB n seen vs
  | [], seen => rfl
  | v :: vs, seen => by
    have ih := ptn_vrs n vs (seen ++ [v])
    have e : vrs (v :: vs) = .node 4 v [] :: vrs vs := rfl
    have hp : pt1 seen n (.node 4 v []) = (decide (0 ≤ v) && decide (v < n) && !seen.contains v) := rfl
    rw [e, ptn, hp, vB]
    cases decide (0 ≤ v) && decide (v < n) && !seen.contains v with
    | false => rfl
    | true => exact ih
theorem PtEnd.tupleI {o : Option (List Int)} {w w' : World} {e : Ending} (h : PtEnd o w e w') : ∃ v, e = .returned (.tuple #[v, .bool o.isSome]) ∧ Below w.heap.size w w' := by
  rcases h with ⟨zs, v, rfl, rfl, _, hb⟩ | ⟨rfl, rfl, hb⟩
  · exact ⟨v, rfl, hb⟩
  · exact ⟨_, rfl, hb⟩
theorem has_vrs : ∀ vs : List Int, hasL (vrs vs) = false
  | [] => rfl
  | v :: vs => by
    have := has_vrs vs
    show hasL (.node 4 v [] :: vrs vs) = false
    rw [hasL, hasB, hasL, this]
    rfl
theorem my_meta {vs : List Int} {n : Int} (hl : vs.length ≤ 20) (hv : vB n [] vs = true) : myB (.node 6 0 (vrs vs)) = true ∧ (vrs vs).all myB = true := by
  have hm := vrs_my fun v h => ((vB_top.1 hv).1 v h).1
  obtain ⟨h1, h2⟩ := vs_nd 0 (vrs vs) fun x hx => by
    obtain ⟨v, _, rfl⟩ := List.mem_map.1 hx
    exact ⟨v, rfl⟩
  have h3 := vrs_len vs
  refine ⟨(myB_iff _).2 ⟨?_, by rw [nd]; omega, by rw [dp]; omega⟩, List.all_eq_true.2 hm⟩
  rw [nodB, nodL_of fun x hx' => ((myB_iff x).1 (hm x hx')).1]
  simp [okN]
/-- a meta that is what is told -/
theorem fill_back {vs : List Int} {n : Int} {x y : T} (hl : vs.length ≤ 20) (hn : 0 ≤ n ∧ n ≤ 1000) (hv : vB n [] vs = true) (hx : myB x = true) (h : apT x (vrs vs) n = y ∧ apE x (vrs vs) n = 0) : fiR [x] n (.node 6 0 (vrs vs)) = .ok y := by
  obtain ⟨h1, h2⟩ := my_meta hl hv
  rw [fi_one hx (has_vrs vs) h1 h2 hn, if_pos h.2, h.1]
/-- what a meta becomes inverts to what it was filled with -/
theorem only_facts {x : T} (k : Kn 1000 60 x) {vs : List Int} {n : Int} (hl : vs.length ≤ 20) (hn : 0 ≤ n ∧ n ≤ 1000) (hv : vB n [] vs = true) :
    ∃ u, fiR [x] n (.node 6 0 (vrs vs)) = .ok u ∧ nd u ≤ 1048576 ∧ ivR u vs n = .ok x := by
  have ho := okT_of x k.nod k.lo
  obtain ⟨u, hu⟩ := rho_all (vs := vs) (n := n) x 0
  have hg : ∀ i, 0 ≤ i → i ≤ 1099511627776 → ∀ y, rho vs n i = some y → (0 ≤ y ∧ y ≤ i + 1000) ∧ igo vs n y = some i := fun i h0 _ y hy => by
    rcases igo_rho hv h0 hy with h | h
    · exact ⟨⟨h.1.1, by omega⟩, h.2⟩
    · omega
  have hou : okT (1099511627776 + 1000) u := ok_iv (fun i h0 hi y hy => (hg i h0 hi y hy).1) (by omega) x 0 u (Int.le_refl _) ho hu
  have hmu : myB u = true := my_iv (M := 1099511627776) (fun i h0 hi y hy => (hg i h0 hi y hy).1.1) ho k.my hu
  have hback : ivT (igo vs n) u 0 = some x := iv_iv (M := 1099511627776) (fun i h0 hi y hy => ⟨(hg i h0 hi y hy).1.1, (hg i h0 hi y hy).2⟩) x 0 u (Int.le_refl _) ho hu
  have hv' := (vB_top.1 hv).1
  have hap := ren_tells k.my (sb_of (L := vrs vs) (sh := n) (by rw [vrs_len]; omega) (by omega) (vrs_my fun v h => (hv' v h).1)) (iv_ren hv' hn.1 u 0 x hou hback) hmu
  have hnd : nd u ≤ 1048576 := by have := ((myB_iff u).1 hmu).2.1; omega
  refine ⟨u, fill_back hl hn hv k.my hap, hnd, ?_⟩
  rw [ivR, if_pos (by rw [mayB_my hnd, hmu, hv, decide_eq_true hn.1, decide_eq_true hn.2]; rfl), rn_iv (M := 1099511627776 + 1000) (g := igo vs n) (by omega) (fun i h0 hi => ⟨igW_eq h0 (by omega) hn (by omega), fun y hy => by have := igo_bd (M := 1099511627776 + 1000) (by omega) hi hn.1 hy; omega⟩) u 0 hou (by omega) (by omega), hback]
  rfl
end Go.Proofs.YtelicajhamgibaaGreat

/-
  A list of binds that is copied by append; what was something stays so. No statement is proved here.
-/
namespace Go.Proofs.YtelicajhamgibaaGreat
open Go.ChangeShapes Go.WideShapes Go.ChangeAt Go.RowKit
set_option linter.unusedVariables false

/-- 'append([]api.Bind(nil), bs...)' -/
theorem wpList_copy_binds {ok : Nat → Prop} {w : World} {bs : List BT} {A : Option Addr} {n c : Nat} {ops : Array Oper} {rest : List Oper} {o : Oper} {a : Act} {Q : Exit → Act → World → Prop} (hbl : BL ok w bs A n c) (h0 : A = none → c = 0) (hn : n ≤ 1000) (hgd : o.guard = none) (s x : Operand)
    (ho : o.op = .call { callee := .builtin .append, args := #[s, x], argTypes := #[28, 28] }) (hs : a.eval s = .slice none 0 0) (hx : a.eval x = .slice A n c)
    (h : ∀ A' c' w', BL (fun b => b < w.heap.size) w' bs A' n c' → Below w.heap.size w w' → wpList Tryz.prog ops Q rest (a.put o.dst (.slice A' n c')) w') : wpList Tryz.prog ops Q (o :: rest) a w := by
  obtain ⟨i0, hi, hz0, hz1, hz2⟩ := info_parts infoBind
  obtain ⟨cs, h1, h2, h3, h4⟩ := hbl.heap.raw
  cases A with
  | none =>
    have hn0 : n = 0 := by
      rcases Nat.eq_zero_or_pos n with h | h
      · exact h
      · obtain ⟨v, hv⟩ : ∃ v, cs[0]? = some v := ⟨_, List.getElem?_eq_getElem (by omega)⟩
        obtain ⟨_, _, e, _⟩ := h2 0 v hv
        cases e
    subst hn0
    obtain rfl := h0 rfl
    exact wpList_append_own_none hgd s x 28 ho w.heap.size 38 i0 4 Tryz.underlying28 hi (.slice none 0 0) 0 [] hs (World.ownsRow_nil _ _ _ _) hx (h none 0 w ⟨hbl.len, Nat.le_refl _, Nat.zero_le _, fun i x hx => by have := (List.getElem?_eq_some_iff.1 hx).1; have := hbl.len; omega⟩ (Below.refl _ _))
  | some ad =>
    refine wpList_append_own _ hgd s x 28 ho w.heap.size 38 i0 _ 4 48 Tryz.underlying28 hi hz0 hz1 hz2 rfl (by omega) (.slice none 0 0) 0 [] hs (World.ownsRow_nil _ _ _ _) ad n c cs hx h1 (fun j u hu => ?_) h3 (by simp only [maxLen]; omega) (by omega) (Nat.le_refl _) ?_
    · obtain ⟨b, o, e, hc⟩ := h2 j u hu
      cases e
      have : (⟨b, o, none⟩ : Addr).add j = ⟨b, o + j, none⟩ := by unfold Addr.add; split <;> simp_all
      rw [this]; exact hc
    · intro v' w' hown hg _
      rw [Nat.zero_add, List.nil_append] at hown
      have hb : Below w.heap.size w w' := (Below.refl _ w).grown hg (Nat.le_refl _) (by simp [Value.ownBlock])
      rcases hown.2 with ⟨rfl, hn0⟩ | ⟨g, cap, cur, rfl, hbg, hcell, hle, hcm, hcs, htk⟩
      · subst hn0
        exact h none 0 w' ⟨hbl.len, Nat.le_refl _, Nat.zero_le _, fun i x hx => by have := (List.getElem?_eq_some_iff.1 hx).1; have := hbl.len; omega⟩ hb
      · refine h _ cap w' ⟨hbl.len, hle, hcm, fun i y hy => ?_⟩ hb
        have hi' : i < n := by have := (List.getElem?_eq_some_iff.1 hy).1; have := hbl.len; omega
        obtain ⟨k, g', A', m, c', e0, e1, e2, e3, hr⟩ := h4 i hi'
        simp only [List.getD_eq_getElem?_getD, hy, Option.getD_some] at e0 hr
        have key : ∀ q u, q < n * 4 → cs.toArray[q]? = some u → w'.cell? ⟨g, 0 + q, none⟩ = some u := fun q u hq hu => by
          have hbx : Box w' g 38 cur := hcell
          rw [Nat.zero_add, hbx.cell]
          rw [List.getElem?_toArray, ← htk, List.getElem?_take_of_lt hq] at hu
          rw [← Array.getElem?_toList]; exact hu
        refine ⟨g, 0, k, g', A', m, c', rfl, key _ _ (by omega) e0, ?_, ?_, ?_, RdF.moveX (fun b hb' hl => ⟨hl, hb.block b hl⟩) _ _ hr⟩
        · exact key (i * 4 + 1) _ (by omega) e1
        · exact key (i * 4 + 2) _ (by omega) e2
        · exact key (i * 4 + 3) _ (by omega) e3

theorem sameL_refl : ∀ a : List BT, sameL a a = true
  | [] => rfl
  | x :: xs => by rw [sameL, sam_refl, sameL_refl xs]; simp
theorem same_refl (a : List BT) : sameB a a = true := by rw [sameB, sameL_refl]; simp
/-- what was something stays so -/
abbrev KpB (bs bs' : List BT) : Prop := bs'.length = bs.length ∧ ∀ (i : Nat) (x : BT), bs[i]? = some x → x.1 = true → bs'[i]? = some x
theorem KpB.refl (bs : List BT) : KpB bs bs := ⟨rfl, fun _ _ h _ => h⟩
theorem KpB.trans {a b c : List BT} (h : KpB a b) (k : KpB b c) : KpB a c := ⟨k.1.trans h.1, fun i x hx h1 => k.2 i x (h.2 i x hx h1) h1⟩
theorem keep_meta {pa ri : List Bool} {h : Int} {xs : List T} {t : T} {n : Int} {bs bs' : List BT} (he : hdM pa ri bs h xs t n = .ok bs') : KpB bs bs' := by
  rw [hdM] at he
  split at he
  · cases he
  · split at he
    · split at he
      · cases he; exact KpB.refl _
      · cases he
    · rename_i hlt hno
      rw [becR] at he
      cases hq : ptn n [] xs with
      | none => rw [hq] at he; cases he
      | some vs =>
        rw [hq] at he
        try simp only at he
        cases hi : ivR t vs n with
        | error e => rw [hi] at he; cases he
        | ok u =>
          rw [hi] at he
          try simp only at he
          split at he
          · cases he
          · cases he
            refine ⟨List.length_set, fun i x hx h1 => ?_⟩
            have hne : h.toNat ≠ i := fun e => by
              rw [e, List.getD_eq_getElem?_getD, hx, Option.getD_some] at hno
              exact hno h1
            rw [List.getElem?_set_ne hne, hx]
mutual
theorem hd_keep {pa ri : List Bool} : ∀ (p t : T) (n : Int) (bs bs' : List BT), hdT pa ri p t n bs = .ok bs' → KpB bs bs'
  | .node k h xs, .node k' h' ys, n, bs, bs', he => by
    rw [hdT] at he
    split at he
    · exact keep_meta he
    · split at he
      · exact hd_keepL k xs.length xs ys 0 n bs bs' he
      · cases he
theorem hd_keepL {pa ri : List Bool} (k : Int) (m : Nat) : ∀ (xs ys : List T) (i : Nat) (n : Int) (bs bs' : List BT), hdL pa ri k m xs ys i n bs = .ok bs' → KpB bs bs'
  | [], ys, i, n, bs, bs', he => by rw [hdL] at he; cases he; exact KpB.refl _
  | x :: xs, [], i, n, bs, bs', he => by rw [hdL] at he; cases he; exact KpB.refl _
  | x :: xs, y :: ys, i, n, bs, bs', he => by
    rw [hdL] at he
    try simp only at he
    cases h1 : hdT pa ri x y (n + bd k m i) bs with
    | error e => rw [h1] at he; cases he
    | ok b1 =>
      rw [h1] at he
      exact (hd_keep x y _ bs b1 h1).trans (hd_keepL k m xs ys (i + 1) n b1 bs' he)
end
theorem mt_keep {p t : T} {n : Int} {bs bs' : List BT} {pa ri : List Bool} (h : mtR p t n bs pa ri = .ok bs') : KpB bs bs' := by
  rw [mtR] at h
  split at h
  · cases hd : hdT pa ri p t n bs with
    | error e => rw [hd] at h; cases h
    | ok b1 =>
      rw [hd] at h
      cases h
      have hk := hd_keep p t n bs b1 hd
      exact ⟨(List.length_map _).trans hk.1, fun i x hx h1 => by rw [List.getElem?_map, hk.2 i x hx h1, Option.map_some, ownB, if_pos h1]⟩
  · cases h
theorem fw_low {bs : List BT} {n : Nat} (h : fwB bs n = true) : n ≤ 60 ∧ ∀ x ∈ bs, lowB x.2 = true := by
  rw [fwB, Bool.and_eq_true, decide_eq_true_eq] at h
  refine ⟨h.1, fun x hx => ?_⟩
  have := List.all_eq_true.1 h.2 x hx
  rw [ltB] at this
  simp only [Bool.and_eq_true] at this
  exact this.1.1
theorem lt_low {t : T} {s d : Int} (h : ltB t s d = true) : lowB t = true := by
  rw [ltB] at h
  simp only [Bool.and_eq_true] at h
  exact h.1.1
end Go.Proofs.YtelicajhamgibaaGreat

/-
  Patterns of patterns alone: what is filled is matched, and what is matched is filled. No statement is proved here.
-/
namespace Go.Proofs.YtelicajhamgibaaGreat
open Go.ChangeShapes Go.WideShapes Go.ChangeAt Go.RowKit
set_option linter.unusedVariables false

mutual
theorem sam_eq : ∀ (t u : T), samB t u = true → t = u
  | .node k h xs, .node k' h' ys, e => by
    rw [samB] at e
    simp only [Bool.and_eq_true, beq_iff_eq] at e
    obtain ⟨⟨⟨rfl, rfl⟩, hl⟩, hs⟩ := e
    rw [sam_eqL xs ys hl hs]
theorem sam_eqL : ∀ (xs ys : List T), xs.length = ys.length → samL xs ys = true → xs = ys
  | [], [], _, _ => rfl
  | x :: xs, y :: ys, hl, e => by
    rw [samL, Bool.and_eq_true] at e
    rw [sam_eq x y e.1, sam_eqL xs ys (by simpa using hl) e.2]
end
theorem len_nodup : ∀ (n : Nat) (l : List Int), l.Nodup → (∀ x ∈ l, 0 ≤ x ∧ x < n) → l.length ≤ n
  | 0, l, _, h => by
    cases l with
    | nil => exact Nat.le_refl _
    | cons x xs => have := h x (List.mem_cons_self ..); omega
  | n + 1, l, hd, h => by
    have h1 := len_nodup n (l.erase (n : Int)) (hd.erase _) fun x hx => by
      obtain ⟨h2, h3⟩ := (hd.mem_erase_iff).1 hx
      have := h x h3
      omega
    have h2 := List.length_erase (a := (n : Int)) (l := l)
    split at h2 <;> omega
theorem vB_len {n : Int} {vs : List Int} (h0 : 0 ≤ n) (h : vB n [] vs = true) : (vs.length : Int) ≤ n := by
  obtain ⟨h1, h2⟩ := vB_top.1 h
  have := len_nodup n.toNat vs h2 fun x hx => by have := h1 x hx; omega
  omega
theorem ptn_some (n : Int) : ∀ (xs : List T) (seen zs : List Int), ptn n seen xs = some zs → ∃ vs, zs = seen ++ vs ∧ xs = vrs vs ∧ vB n seen vs = true
  | [], seen, zs, h => by rw [ptn] at h; cases h; exact ⟨[], by simp, rfl, rfl⟩
  | .node k h' ys :: ts, seen, zs, h => by
    by_cases hp : pt1 seen n (.node k h' ys) = true
    · rw [ptn_step hp] at h
      obtain ⟨vs, h1, h2, h3⟩ := ptn_some n ts _ zs h
      rw [pt1] at hp
      simp only [Bool.and_eq_true, beq_iff_eq] at hp
      obtain ⟨⟨⟨⟨rfl, hy⟩, h5⟩, h6⟩, h7⟩ := hp
      have hy' : ys = [] := List.length_eq_zero_iff.1 hy
      subst hy'
      refine ⟨h' :: vs, by rw [h1]; simp, by rw [h2]; rfl, ?_⟩
      rw [vB, h5, h6, h7, h3]; rfl
    · rw [ptn_stop (by simpa using hp)] at h
      cases h
theorem ptn_top7 {n : Int} {xs : List T} {zs : List Int} (h : ptn n [] xs = some zs) : xs = vrs zs ∧ vB n [] zs = true := by
  obtain ⟨vs, h1, h2, h3⟩ := ptn_some n xs [] zs h
  rw [List.nil_append] at h1
  subst h1
  exact ⟨h2, h3⟩
theorem vrs_mts : ∀ vs : List Int, mtsL (vrs vs) = []
  | [] => rfl
  | v :: vs => by
    have := vrs_mts vs
    show mtsL (.node 4 v [] :: vrs vs) = []
    rw [mtsL, mts, mtsL, this]
    rfl
/-- a meta's term under variables: what it is filled with, and back -/
theorem pat_core {x : T} (hm : myB x = true) (ho : okT 2199023255552 x) {vs : List Int} {n : Int} (hl : vs.length ≤ 200) (hn : 0 ≤ n ∧ n ≤ 1000) (hv : vB n [] vs = true) :
    ∃ u, apT x (vrs vs) n = u ∧ apE x (vrs vs) n = 0 ∧ ivR u vs n = .ok x := by
  obtain ⟨u, hu⟩ := rho_all (vs := vs) (n := n) x 0
  have hg : ∀ i, 0 ≤ i → i ≤ 2199023255552 → ∀ y, rho vs n i = some y → (0 ≤ y ∧ y ≤ i + 1000) ∧ igo vs n y = some i := fun i h0 _ y hy => by
    rcases igo_rho hv h0 hy with h | h
    · exact ⟨⟨h.1.1, by omega⟩, h.2⟩
    · omega
  have hou : okT (2199023255552 + 1000) u := ok_iv (fun i h0 hi y hy => (hg i h0 hi y hy).1) (by omega) x 0 u (Int.le_refl _) ho hu
  have hmu : myB u = true := my_iv (M := 2199023255552) (fun i h0 hi y hy => (hg i h0 hi y hy).1.1) ho hm hu
  have hback : ivT (igo vs n) u 0 = some x := iv_iv (M := 2199023255552) (fun i h0 hi y hy => ⟨(hg i h0 hi y hy).1.1, (hg i h0 hi y hy).2⟩) x 0 u (Int.le_refl _) ho hu
  have hv' := (vB_top.1 hv).1
  have hap := ren_tells hm (sb_of (L := vrs vs) (sh := n) (by rw [vrs_len]; exact hl) (by omega) (vrs_my fun v h => (hv' v h).1)) (iv_ren hv' hn.1 u 0 x hou hback) hmu
  have hnd : nd u ≤ 1048576 := by have := ((myB_iff u).1 hmu).2.1; omega
  refine ⟨u, hap.1, hap.2, ?_⟩
  rw [ivR, if_pos (by rw [mayB_my hnd, hmu, hv, decide_eq_true hn.1, decide_eq_true hn.2]; rfl), rn_iv (M := 2199023255552 + 1000) (g := igo vs n) (by omega) (fun i h0 hi => ⟨igW_eq h0 (by omega) hn (by omega), fun y hy => by have := igo_bd (M := 2199023255552 + 1000) (by omega) hi hn.1 hy; omega⟩) u 0 hou (by omega) (by omega), hback]
  rfl
/-- a meta whose Args are a pattern, filled -/
theorem fl_meta (th : List T) {h n : Int} {vs : List Int} (hv : vB n [] vs = true) : flT th (.node 6 h (vrs vs)) n = if (th.length : Int) ≤ h then .error 2 else if apE (th.getD h.toNat (.node 0 0 [])) (vrs vs) n = 0 then .ok (apT (th.getD h.toNat (.node 0 0 [])) (vrs vs) n) else .error (apE (th.getD h.toNat (.node 0 0 [])) (vrs vs) n) := by
  have hm : (vrs vs).all myB = true := List.all_eq_true.2 (vrs_my fun v h => ((vB_top.1 hv).1 v h).1)
  rw [flT, flL_none th 6 (vrs vs).length (vrs vs) 0 n (has_vrs vs)]
  simp only [flN, if_true, hm]

mutual
/-- are all metas of a term patterns -/
def paT : T → Int → Bool
  | .node k h xs, n => (!(k == 6) || (ptn n [] xs).isSome) && paL k xs.length xs 0 n
def paL (k : Int) (m : Nat) : List T → Nat → Int → Bool
  | [], _, _ => true
  | t :: ts, i, n => paT t (n + bd k m i) && paL k m ts (i + 1) n
end
mutual
theorem pa_nds (n : Int) (hn : 0 ≤ n ∧ n ≤ 1048576) : ∀ (t : T) (b : Int), 0 ≤ b → b + nd t ≤ 1048576 → (nds t b).all (pa1 n) = paT t (n + b)
  | .node k h xs, b, h0, h1 => by
    rw [nd] at h1
    have hw : wrap64 (n + b) = n + b := wrap_small (by omega) (by omega)
    rw [nds, List.all_cons, paT, pa_ndsL n hn k xs.length xs 0 b h0 (by omega)]
    congr 1
    show (!(k == 6) || (ptn (wrap64 (n + b)) [] xs).isSome) = _
    rw [hw]
theorem pa_ndsL (n : Int) (hn : 0 ≤ n ∧ n ≤ 1048576) (k : Int) (m : Nat) : ∀ (xs : List T) (i : Nat) (b : Int), 0 ≤ b → b + 1 + ndL xs ≤ 1048576 → (ndsL k m xs i b).all (pa1 n) = paL k m xs i (n + b)
  | [], _, _, _, _ => by rw [ndsL, paL]; rfl
  | t :: ts, i, b, h0, h1 => by
    rw [ndL] at h1
    have hb : 0 ≤ bd k m i ∧ bd k m i ≤ 1 := by rw [bd_bdn]; have := bdn_le k m i; omega
    have hw : wrap64 (b + bd k m i) = b + bd k m i := wrap_small (by omega) (by omega)
    rw [ndsL, List.all_append, paL, hw, pa_nds n hn t (b + bd k m i) (by omega) (by omega), pa_ndsL n hn k m ts (i + 1) b h0 (by omega), Int.add_assoc]
end
end Go.Proofs.YtelicajhamgibaaGreat

/-
  Patterns of patterns alone: what is filled is matched, and what is matched is filled. No statement is proved here.
-/
namespace Go.Proofs.YtelicajhamgibaaGreat
open Go.ChangeShapes Go.WideShapes Go.ChangeAt Go.RowKit
set_option linter.unusedVariables false

/-- terms for metas -/
structure ThA (th : List T) : Prop where
  few : th.length ≤ 200
  my : ∀ x ∈ th, myB x = true
  ok : ∀ x ∈ th, okT 2199023255552 x
/-- what is told so far is of those -/
structure CoB (th : List T) (bs : List BT) : Prop where
  len : bs.length = th.length
  at_ : ∀ (i : Nat) (x : BT), bs[i]? = some x → x.1 = true → th[i]? = some x.2
def told (bs : List BT) (m : Int) : Prop := ∃ x, bs[m.toNat]? = some x ∧ x.1 = true
theorem told.keep {a b : List BT} {m : Int} (h : told a m) (k : KpB a b) : told b m := by
  obtain ⟨x, hx, h1⟩ := h
  exact ⟨x, k.2 _ x hx h1, h1⟩
theorem getD_at {α : Type} {l : List α} {i : Nat} {x d : α} (h : l[i]? = some x) : l.getD i d = x := by rw [List.getD_eq_getElem?_getD, h]; rfl
theorem my_nought : myB (.node 0 0 []) = true := by decide
theorem rs_one (h : Int) : rs [h] = [h] := rfl
theorem mtO_meta {h : Int} {vs : List Int} : mtO (.node 6 h (vrs vs)) = [h] := by
  rw [mtO, mts, vrs_mts, if_pos rfl]; rfl
/-- with the terms that are told, a meta is filled as with all -/
theorem thL_one {bs : List BT} {h : Int} {x : BT} (h0 : 0 ≤ h) (hx : bs[h.toNat]? = some x) : (thL bs [h]).getD h.toNat (.node 0 0 []) = x.2 := by
  have hl : h.toNat < bs.length := (List.getElem?_eq_some_iff.1 hx).1
  have : (thL bs [h])[h.toNat]? = some x.2 := by
    simp [thL, hl]
    rw [if_pos (by omega)]
    have := List.getElem?_eq_getElem hl
    rw [hx] at this
    cases this; rfl
  exact getD_at this
theorem thL_my {bs : List BT} {h : Int} {x : BT} (h0 : 0 ≤ h) (hx : bs[h.toNat]? = some x) (hm : myB x.2 = true) : ∀ y ∈ thL bs [h], myB y = true := fun y hy => by
  obtain ⟨i, hi⟩ := List.getElem?_of_mem hy
  obtain ⟨hl, rfl⟩ := thL_at hi
  by_cases hm' : (i : Int) ∈ [h]
  · rw [if_pos hm']
    rw [List.mem_singleton] at hm'
    have : i = h.toNat := by omega
    rw [this, getD_at hx]
    exact hm
  · rw [if_neg hm']; exact my_nought
theorem vs_few {n : Int} {vs : List Int} (h0 : 0 ≤ n) (h1 : n ≤ 200) (hv : vB n [] vs = true) : vs.length ≤ 200 := by have := vB_len h0 hv; omega
theorem head_pos {h : Int} {xs : List T} (hm : myB (.node 6 h xs) = true) : 0 ≤ h := by
  have := (node_parts ((myB_iff _).1 hm).1).1
  simp [okN] at this
  omega
theorem nodB_part {k h : Int} {xs : List T} (hm : myB (.node k h xs) = true) : ∀ x ∈ xs, myB x = true ∧ dp x < dp (.node k h xs) := fun x hx => by
  obtain ⟨h1, h2, h3⟩ := (myB_iff _).1 hm
  rw [nd] at h2
  have h4 := nd_mem hx
  have h5 := dpL_mem hx
  rw [dp] at h3 ⊢
  exact ⟨(myB_iff _).2 ⟨(node_parts h1).2 x hx, by omega, by omega⟩, by omega⟩

theorem F_meta {th : List T} {pa : List Bool} {bs : List BT} {h : Int} {xs : List T} {t : T} {n : Int} (hth : ThA th) (hc : CoB th bs) (hpa : ∀ i, pa.getD i false = false) (hp : myB (.node 6 h xs) = true) (hpt : (ptn n [] xs).isSome = true) (h0 : 0 ≤ n) (h1 : n ≤ 200)
    (ht : flT th (.node 6 h xs) n = .ok t) (hmt : myB t = true) : ∃ bs', hdM pa [] bs h xs t n = .ok bs' ∧ CoB th bs' ∧ KpB bs bs' ∧ told bs' h := by
  obtain ⟨vs, hvs⟩ := Option.isSome_iff_exists.1 hpt
  obtain ⟨rfl, hv⟩ := ptn_top7 hvs
  have hh := head_pos hp
  have hfew := vs_few h0 h1 hv
  rw [fl_meta th hv] at ht
  have hlt : ¬ (th.length : Int) ≤ h := fun e => by rw [if_pos e] at ht; cases ht
  rw [if_neg hlt] at ht
  obtain ⟨x, hx⟩ : ∃ x, th[h.toNat]? = some x := ⟨_, List.getElem?_eq_getElem (by omega)⟩
  rw [getD_at hx] at ht
  have hxm := List.mem_of_getElem? hx
  obtain ⟨u, hu1, hu2, hu3⟩ := pat_core (hth.my x hxm) (hth.ok x hxm) hfew ⟨h0, by omega⟩ hv
  rw [if_pos hu2, hu1] at ht
  have hut : u = t := by injection ht
  subst hut
  clear ht
  obtain ⟨b, hb⟩ : ∃ b, bs[h.toNat]? = some b := ⟨_, List.getElem?_eq_getElem (by have := hc.len; omega)⟩
  have hll : ¬ (bs.length : Int) ≤ h := by have := hc.len; omega
  rw [hdM, if_neg hll, getD_at hb]
  by_cases hb1 : b.1 = true
  · have hbx : b.2 = x := by have := hc.at_ _ b hb hb1; rw [hx] at this; cases this; rfl
    have hcmp : cmpR bs (.node 6 h (vrs vs)) u n = 0 := by
      have hI : thI bs h = true := by rw [thI, getD_at hb, hb1, decide_eq_true (by omega)]; rfl
      have hall : (mtO (.node 6 h (vrs vs))).all (thI bs) = true := by rw [mtO_meta]; simp [hI]
      have hB : thB (thL bs [h]) = true := by
        rw [thB, thL_len, decide_eq_true (by have := hc.len; have := hth.few; omega), Bool.true_and]
        exact List.all_eq_true.2 (thL_my hh hb (by rw [hbx]; exact hth.my x hxm))
      have hf : fiR (thL bs [h]) n (.node 6 h (vrs vs)) = .ok u := by
        rw [fi_good hB h0 (by omega) hp, fl_meta _ hv, if_neg (by rw [thL_len]; exact hll), thL_one hh hb, hbx, if_pos hu2, hu1]
        simp only [hmt, if_true]
      rw [cmpR, if_pos hall, mtO_meta, hf]
      simp only [sam_refl, if_true]
    rw [if_pos hb1, if_pos hcmp]
    exact ⟨bs, rfl, hc, KpB.refl _, b, hb, hb1⟩
  · rw [if_neg hb1, becR, hvs]
    simp only [hu3, hpa, Bool.false_and]
    refine ⟨_, rfl, ⟨by rw [List.length_set]; exact hc.len, fun i y hy hy1 => ?_⟩, ⟨List.length_set, fun i y hy hy1 => ?_⟩, (true, x), ?_, rfl⟩
    · by_cases hi : h.toNat = i
      · subst hi
        rw [List.getElem?_set_self (by have := hc.len; omega)] at hy
        cases hy
        exact hx
      · rw [List.getElem?_set_ne hi] at hy
        exact hc.at_ i y hy hy1
    · have hne : h.toNat ≠ i := fun e => by
        subst e
        rw [hb] at hy
        cases hy
        exact hb1 hy1
      rw [List.getElem?_set_ne hne, hy]
    · exact List.getElem?_set_self (by have := hc.len; omega)
mutual
theorem F_T {th : List T} {pa : List Bool} (hth : ThA th) (hpa : ∀ i, pa.getD i false = false) : ∀ (p t : T) (n : Int) (bs : List BT), myB p = true → paT p n = true → 0 ≤ n → n + dp p ≤ 200 → flT th p n = .ok t → myB t = true → CoB th bs →
    ∃ bs', hdT pa [] p t n bs = .ok bs' ∧ CoB th bs' ∧ KpB bs bs' ∧ ∀ m ∈ mts p, told bs' m
  | .node k h xs, .node k' h' ys, n, bs, hp, hpt, h0, h1, ht, hmt, hc => by
    rw [paT, Bool.and_eq_true] at hpt
    by_cases hk : k = 6
    · subst hk
      have hpt1 : (ptn n [] xs).isSome = true := by simpa using hpt.1
      obtain ⟨bs', e1, e2, e3, e4⟩ := F_meta hth hc hpa hp hpt1 h0 (by omega) ht hmt
      refine ⟨bs', by rw [hdT, if_pos rfl]; exact e1, e2, e3, fun m hm => ?_⟩
      obtain ⟨vs, hvs⟩ := Option.isSome_iff_exists.1 hpt1
      obtain ⟨rfl, _⟩ := ptn_top7 hvs
      rw [mts, vrs_mts, if_pos rfl, List.append_nil, List.mem_singleton] at hm
      subst hm
      exact e4
    · obtain ⟨zs, hf, e⟩ := fl_node hk ht
      obtain ⟨rfl, rfl, rfl⟩ : k' = k ∧ h' = h ∧ ys = zs := by injection e with e1 e2 e3; exact ⟨e1, e2, e3⟩
      have hd1 : 1 + dpL xs ≤ dp (.node k' h' xs) := by rw [dp]; omega
      obtain ⟨hl, bs', e1, e2, e3, e4⟩ := F_L hth hpa k' xs.length xs ys 0 n bs (fun x hx => (nodB_part hp x hx).1) hpt.2 h0 (by omega) hf (fun x hx => (nodB_part hmt x hx).1) hc
      refine ⟨bs', by rw [hdT, if_neg hk, if_pos ⟨rfl, rfl, hl⟩]; exact e1, e2, e3, fun m hm => ?_⟩
      rw [mts, if_neg hk, List.nil_append] at hm
      exact e4 m hm
theorem F_L {th : List T} {pa : List Bool} (hth : ThA th) (hpa : ∀ i, pa.getD i false = false) (k : Int) (m : Nat) : ∀ (xs ys : List T) (i : Nat) (n : Int) (bs : List BT), (∀ x ∈ xs, myB x = true) → paL k m xs i n = true → 0 ≤ n → n + 1 + dpL xs ≤ 200 → flL th k m xs i n = .ok ys → (∀ x ∈ ys, myB x = true) → CoB th bs →
    xs.length = ys.length ∧ ∃ bs', hdL pa [] k m xs ys i n bs = .ok bs' ∧ CoB th bs' ∧ KpB bs bs' ∧ ∀ q ∈ mtsL xs, told bs' q
  | [], ys, i, n, bs, _, _, _, _, hf, _, hc => by
    rw [flL] at hf
    cases hf
    exact ⟨rfl, bs, by rw [hdL], hc, KpB.refl _, fun q hq => by rw [mtsL] at hq; cases hq⟩
  | x :: xs, ys, i, n, bs, hp, hpt, h0, h1, hf, hmt, hc => by
    obtain ⟨y, zs, hy, hz, rfl⟩ := flL_cons hf
    rw [paL, Bool.and_eq_true] at hpt
    have hb : 0 ≤ bd k m i ∧ bd k m i ≤ 1 := by rw [bd_bdn]; have := bdn_le k m i; omega
    have hd1 : dp x ≤ dpL (x :: xs) ∧ dpL xs ≤ dpL (x :: xs) := by rw [dpL]; omega
    obtain ⟨b1, e1, e2, e3, e4⟩ := F_T hth hpa x y (n + bd k m i) bs (hp x (List.mem_cons_self ..)) hpt.1 (by omega) (by omega) hy (hmt y (List.mem_cons_self ..)) hc
    obtain ⟨hl, b2, f1, f2, f3, f4⟩ := F_L hth hpa k m xs zs (i + 1) n b1 (fun z hz => hp z (List.mem_cons_of_mem _ hz)) hpt.2 h0 (by omega) hz (fun z hz => hmt z (List.mem_cons_of_mem _ hz)) e2
    refine ⟨by simp [hl], b2, ?_, f2, e3.trans f3, fun q hq => ?_⟩
    · rw [hdL]
      simp only [e1]
      exact f1
    · rw [mtsL, List.mem_append] at hq
      rcases hq with hq | hq
      · exact (e4 q hq).keep f3
      · exact f4 q hq
end
end Go.Proofs.YtelicajhamgibaaGreat

/-
  What the laws need of patterns: heads of what is filled, what is filled is matched, what is matched is filled. No statement is proved here.
-/
namespace Go.Proofs.YtelicajhamgibaaGreat
open Go.ChangeShapes Go.WideShapes Go.ChangeAt Go.RowKit
set_option linter.unusedVariables false

theorem pat_ok {x : T} {M : Int} (h0 : 0 ≤ M) (h1 : M ≤ 2199023255552) (hm : myB x = true) (ho : okT M x) {vs : List Int} {n : Int} (hl : vs.length ≤ 200) (hn : 0 ≤ n ∧ n ≤ 1000) (hv : vB n [] vs = true) : okT (M + 1000) (apT x (vrs vs) n) := by
  obtain ⟨u, hu⟩ := rho_all (vs := vs) (n := n) x 0
  have hg : ∀ i, 0 ≤ i → i ≤ M → ∀ y, rho vs n i = some y → (0 ≤ y ∧ y ≤ i + 1000) ∧ igo vs n y = some i := fun i h0 _ y hy => by
    rcases igo_rho hv h0 hy with h | h
    · exact ⟨⟨h.1.1, by omega⟩, h.2⟩
    · omega
  have hou : okT (M + 1000) u := ok_iv (fun i h0 hi y hy => (hg i h0 hi y hy).1) (by omega) x 0 u (Int.le_refl _) ho hu
  have hmu : myB u = true := my_iv (M := M) (fun i h0 hi y hy => (hg i h0 hi y hy).1.1) ho hm hu
  have hback : ivT (igo vs n) u 0 = some x := iv_iv (M := M) (fun i h0 hi y hy => ⟨(hg i h0 hi y hy).1.1, (hg i h0 hi y hy).2⟩) x 0 u (Int.le_refl _) ho hu
  have hv' := (vB_top.1 hv).1
  have hap := ren_tells hm (sb_of (L := vrs vs) (sh := n) (by rw [vrs_len]; exact hl) (by omega) (vrs_my fun v h => (hv' v h).1)) (iv_ren hv' hn.1 u 0 x hou hback) hmu
  rw [hap.1]
  exact hou
mutual
theorem P_T {th : List T} {M : Int} (hM0 : 0 ≤ M) (hM : M ≤ 2199023255552) (hmy : ∀ x ∈ th, myB x = true) (hok : ∀ x ∈ th, okT M x) : ∀ (p t : T) (n : Int), okT M p → paT p n = true → 0 ≤ n → n + dp p ≤ 200 → flT th p n = .ok t → okT (M + 1000) t
  | .node k h xs, t, n, hp, hpt, h0, h1, ht => by
    rw [paT, Bool.and_eq_true] at hpt
    by_cases hk : k = 6
    · subst hk
      have hpt1 : (ptn n [] xs).isSome = true := by simpa using hpt.1
      obtain ⟨vs, hvs⟩ := Option.isSome_iff_exists.1 hpt1
      obtain ⟨rfl, hv⟩ := ptn_top7 hvs
      rw [fl_meta th hv] at ht
      split at ht
      · cases ht
      · split at ht
        · cases ht
          have hmem : ∀ y, y = th.getD h.toNat (.node 0 0 []) → myB y = true ∧ okT M y := fun y hy => by
            rw [List.getD_eq_getElem?_getD] at hy
            cases hq : th[h.toNat]? with
            | none => rw [hq] at hy; subst hy; exact ⟨my_nought, by rw [Option.getD_none, okT, okL]; exact ⟨fun h => by omega, trivial⟩⟩
            | some z => rw [hq] at hy; subst hy; exact ⟨hmy _ (List.mem_of_getElem? hq), hok _ (List.mem_of_getElem? hq)⟩
          exact pat_ok hM0 hM (hmem _ rfl).1 (hmem _ rfl).2 (vs_few h0 (by omega) hv) ⟨h0, by omega⟩ hv
        · cases ht
    · obtain ⟨zs, hf, rfl⟩ := fl_node hk ht
      rw [okT] at hp
      have hd1 : 1 + dpL xs ≤ dp (.node k h xs) := by rw [dp]; omega
      rw [okT]
      exact ⟨fun e => by have := hp.1 e; omega, P_L hM0 hM hmy hok k xs.length xs zs 0 n hp.2 hpt.2 h0 (by omega) hf⟩
theorem P_L {th : List T} {M : Int} (hM0 : 0 ≤ M) (hM : M ≤ 2199023255552) (hmy : ∀ x ∈ th, myB x = true) (hok : ∀ x ∈ th, okT M x) (k : Int) (m : Nat) : ∀ (xs ys : List T) (i : Nat) (n : Int), okL M xs → paL k m xs i n = true → 0 ≤ n → n + 1 + dpL xs ≤ 200 → flL th k m xs i n = .ok ys → okL (M + 1000) ys
  | [], ys, i, n, _, _, _, _, hf => by rw [flL] at hf; cases hf; rw [okL]; trivial
  | x :: xs, ys, i, n, hp, hpt, h0, h1, hf => by
    obtain ⟨y, zs, hy, hz, rfl⟩ := flL_cons hf
    rw [paL, Bool.and_eq_true] at hpt
    rw [okL] at hp
    have hb : 0 ≤ bd k m i ∧ bd k m i ≤ 1 := by rw [bd_bdn]; have := bdn_le k m i; omega
    have hd1 : dp x ≤ dpL (x :: xs) ∧ dpL xs ≤ dpL (x :: xs) := by rw [dpL]; omega
    rw [okL]
    exact ⟨P_T hM0 hM hmy hok x y (n + bd k m i) hp.1 hpt.1 (by omega) (by omega) hy, P_L hM0 hM hmy hok k m xs zs (i + 1) n hp.2 hpt.2 h0 (by omega) hz⟩
end

theorem pa_top {p : T} {n : Int} (hm : myB p = true) (hn : 0 ≤ n ∧ n ≤ 1000) (h : (nds p 0).all (pa1 n) = true) : paT p n = true := by
  have h4 := ((myB_iff p).1 hm).2.1
  rw [pa_nds n (by omega) p 0 (by omega) (by omega), Int.add_zero] at h
  exact h
theorem rep_false (N : Nat) : ∀ i, (List.replicate N false).getD i false = false := fun i => by
  rw [List.getD_eq_getElem?_getD, List.getElem?_replicate]
  split <;> rfl
theorem rep_noB {N i : Nat} {x : BT} (h : (List.replicate N noB)[i]? = some x) : x = noB := by
  rw [List.getElem?_replicate] at h
  split at h <;> cases h
  rfl
theorem co_rep {th : List T} : CoB th (List.replicate th.length noB) := ⟨by simp, fun i x hx h1 => by rw [rep_noB hx] at h1; cases h1⟩
theorem mtA_rep {p t : T} {n : Int} {N : Nat} (hp : myB p = true) (ht : myB t = true) (hn : 0 ≤ n ∧ n ≤ 1000) (hN : N ≤ 200) : mtA p t n (List.replicate N noB) (List.replicate N false) = true := by
  have ha : (List.replicate N noB).all myA = true := List.all_eq_true.2 fun x hx => by rw [List.eq_of_mem_replicate hx]; rfl
  rw [mtA, hp, ht, ha, decide_eq_true hn.1, decide_eq_true hn.2, List.length_replicate, List.length_replicate, decide_eq_true hN, decide_eq_true rfl]
  rfl
mutual
/-- a pattern's metas may lack alone -/
theorem E_T {th : List T} (hth : ThA th) : ∀ (p : T) (n : Int) (e : Int), myB p = true → paT p n = true → 0 ≤ n → n + dp p ≤ 200 → flT th p n = .error e → e = 2
  | .node k h xs, n, e, hp, hpt, h0, h1, he => by
    rw [paT, Bool.and_eq_true] at hpt
    by_cases hk : k = 6
    · subst hk
      have hpt1 : (ptn n [] xs).isSome = true := by simpa using hpt.1
      obtain ⟨vs, hvs⟩ := Option.isSome_iff_exists.1 hpt1
      obtain ⟨rfl, hv⟩ := ptn_top7 hvs
      have hh := head_pos hp
      rw [fl_meta th hv] at he
      split at he
      · cases he; rfl
      · rename_i hlt
        split at he
        · cases he
        · rename_i hne
          obtain ⟨y, hy⟩ : ∃ y, th[h.toNat]? = some y := ⟨_, List.getElem?_eq_getElem (by omega)⟩
          rw [getD_at hy] at hne
          have hm := List.mem_of_getElem? hy
          obtain ⟨u, _, hu2, _⟩ := pat_core (hth.my y hm) (hth.ok y hm) (vs_few h0 (by omega) hv) ⟨h0, by omega⟩ hv
          exact absurd hu2 hne
    · rw [flT] at he
      split at he
      · rename_i e' hf
        cases he
        have hd1 : 1 + dpL xs ≤ dp (.node k h xs) := by rw [dp]; omega
        exact E_L hth k xs.length xs 0 n _ (fun x hx => (nodB_part hp x hx).1) hpt.2 h0 (by omega) hf
      · rw [flN, if_neg hk] at he
        cases he
theorem E_L {th : List T} (hth : ThA th) (k : Int) (m : Nat) : ∀ (xs : List T) (i : Nat) (n : Int) (e : Int), (∀ x ∈ xs, myB x = true) → paL k m xs i n = true → 0 ≤ n → n + 1 + dpL xs ≤ 200 → flL th k m xs i n = .error e → e = 2
  | [], i, n, e, _, _, _, _, he => by rw [flL] at he; cases he
  | x :: xs, i, n, e, hp, hpt, h0, h1, he => by
    rw [paL, Bool.and_eq_true] at hpt
    have hb : 0 ≤ bd k m i ∧ bd k m i ≤ 1 := by rw [bd_bdn]; have := bdn_le k m i; omega
    have hd1 : dp x ≤ dpL (x :: xs) ∧ dpL xs ≤ dpL (x :: xs) := by rw [dpL]; omega
    rw [flL] at he
    cases hx : flT th x (n + bd k m i) with
    | error e' =>
      rw [hx] at he
      cases he
      exact E_T hth x _ _ (hp x (List.mem_cons_self ..)) hpt.1 (by omega) (by omega) hx
    | ok y =>
      rw [hx] at he
      try simp only at he
      cases hz : flL th k m xs (i + 1) n with
      | error e' =>
        rw [hz] at he
        cases he
        exact E_L hth k m xs (i + 1) n _ (fun z hz => hp z (List.mem_cons_of_mem _ hz)) hpt.2 h0 (by omega) hz
      | ok zs => rw [hz] at he; cases he
end
theorem thB_of {th : List T} (hth : ThA th) : thB th = true := by
  rw [thB, decide_eq_true hth.few, Bool.true_and]
  exact List.all_eq_true.2 hth.my
theorem finds_err {p : T} {th : List T} {n e : Int} (hth : ThA th) (hmp : myB p = true) (hn : 0 ≤ n ∧ n ≤ 100) (hpt : (nds p 0).all (pa1 n) = true) (hf : fiR th n p = .error e) : e = 2 ∨ e = 4 := by
  have hpa := pa_top hmp (by omega) hpt
  have hd := ((myB_iff p).1 hmp).2.2
  rw [fi_good (thB_of hth) hn.1 (by omega) hmp] at hf
  cases hl : flT th p n with
  | error e' =>
    rw [hl] at hf
    cases hf
    exact .inl (E_T hth p n _ hmp hpa hn.1 (by omega) hl)
  | ok t =>
    rw [hl] at hf
    try simp only at hf
    split at hf
    · cases hf
    · cases hf; exact .inr rfl
/-- lists that are made -/
theorem make_binds {N : Nat} (hN : N ≤ 200) (W : World) : (Instr.makeSlice 28 (.int .i64 (N : Int)) (.int .i64 (N : Int))).run Tryz.prog W = .ok (.slice (some ⟨W.heap.size, 0, none⟩) N N) (W.alloc (.cells (madeCells #[.bool false, .int .i64 0, .int .i64 0, .slice none 0 0] (N * 4)) 38)) := by
  obtain ⟨i0, hi, hz0, hz1, hz2⟩ := info_parts infoBind
  have := run_make W 28 38 i0 _ Tryz.underlying28 hi hz0 .i64 .i64 (N : Int) (N : Int) (by omega) (Int.le_refl _) (by rw [hz2]; omega) (by omega)
  rw [hz1] at this
  simpa [Value.cells] using this
theorem infoBool : (Tryz.prog.info? 4).map (fun i => (i.zero, i.size, i.bytes)) = some (some (.bool false), 1, 1) := by kernel_rfl
theorem make_bools {N : Nat} (hN : N ≤ 200) (W : World) : (Instr.makeSlice 45 (.int .i64 (N : Int)) (.int .i64 (N : Int))).run Tryz.prog W = .ok (.slice (some ⟨W.heap.size, 0, none⟩) N N) (W.alloc (.cells (madeCells #[.bool false] N) 4)) := by
  obtain ⟨i0, hi, hz0, hz1, hz2⟩ := info_parts infoBool
  have := run_make W 45 4 i0 _ Tryz.underlying45 hi hz0 .i64 .i64 (N : Int) (N : Int) (by omega) (Int.le_refl _) (by rw [hz2]; omega) (by omega)
  rw [hz1] at this
  simpa [Value.cells] using this
theorem bl_made {ok : Nat → Prop} {w : World} {q N : Nat} {ty : TypeId} (hN : N ≤ 200) (h : Box w q ty (madeCells #[.bool false, .int .i64 0, .int .i64 0, .slice none 0 0] (N * 4))) : BL ok w (List.replicate N noB) (some ⟨q, 0, none⟩) N N :=
  BFs.list (bs := List.replicate N noB) ((bfs_made (w := w) (ok := ok) N).move (fun b hb _ => ⟨hb, rfl⟩) fun i hi => by rw [List.getD_eq_getElem?_getD, List.getElem?_replicate, if_pos hi]; rfl) h (by simp) (by omega)
theorem lb_made {w : World} {q N : Nat} {ty : TypeId} (hN : N ≤ 200) (h : Box w q ty (madeCells #[.bool false] N)) : LB w (List.replicate N false) (some ⟨q, 0, none⟩) N N :=
  ⟨by simp, Nat.le_refl _, by unfold maxLen; omega, fun i x hx => by
    rw [List.getElem?_replicate] at hx
    split at hx
    · rename_i hi
      cases hx
      refine ⟨q, 0, rfl, ?_⟩
      rw [Nat.zero_add, h.cell]
      simp [madeCells, hi, Nat.mod_one]
    · cases hx⟩
/-- MatchFinds -/
theorem finds_facts {p t : T} {th : List T} {n : Int} (hth : ThA th) (hok : ∀ x ∈ th, okT 1099511627776 x) (hop : okT 1099511627776 p) (hn : 0 ≤ n ∧ n ≤ 100) (hpt : (nds p 0).all (pa1 n) = true) (hf : fiR th n p = .ok t) :
    okT 2199021158400 t ∧ ∃ b, mtR p t n (List.replicate th.length noB) (List.replicate th.length false) [] = .ok b ∧ b.length = th.length ∧ ∀ m ∈ mts p, 0 ≤ m ∧ ∃ x, b[m.toNat]? = some x ∧ x.1 = true ∧ th[m.toNat]? = some x.2 := by
  obtain ⟨_, _, _, hmp, hfl, hmt⟩ := fi_ok hf
  have hpa := pa_top hmp (by omega) hpt
  have hd := ((myB_iff p).1 hmp).2.2
  obtain ⟨b, e1, e2, e3, e4⟩ := F_T (pa := List.replicate th.length false) hth (rep_false _) p t n _ hmp hpa hn.1 (by omega) hfl hmt co_rep
  refine ⟨okT_mono (by omega) _ (P_T (M := 1099511627776) (by omega) (by omega) hth.my hok p t n hop hpa hn.1 (by omega) hfl), b.map ownB, ?_, by rw [List.length_map]; exact e2.len, fun m hm => ⟨mts_pos p ((myB_iff p).1 hmp).1 m hm, ?_⟩⟩
  · rw [mtR, if_pos (mtA_rep hmp hmt (by omega) hth.few), e1]
  · obtain ⟨x, hx, h1⟩ := e4 m hm
    exact ⟨x, by rw [List.getElem?_map, hx, Option.map_some, ownB, if_pos h1], h1, e2.at_ _ x hx h1⟩
end Go.Proofs.YtelicajhamgibaaGreat

/-
  Unify of a pattern and a term without metas is as Match has it. No statement is proved here.
-/
namespace Go.Proofs.YtelicajhamgibaaGreat
open Go.ChangeShapes Go.WideShapes Go.ChangeAt Go.RowKit
set_option linter.unusedVariables false

/-- what is told so far is without metas, of few nodes -/
def baU (s : Nat) (bs : List BT) : Prop := ∀ x ∈ bs, x.1 = true → mts x.2 = [] ∧ nd x.2 ≤ s
/-- both tell the same, at little cost -/
def agr (B N : Nat) (R : Except Int (List BT)) (U : Except Int USt) : Prop :=
  match R with
  | .error e => U = .error e
  | .ok bs' => ∃ N', U = .ok (false, bs', N') ∧ N ≤ N' ∧ N' ≤ N + B
mutual
theorem zd_bare {sz : List Int} : ∀ t : T, mts t = [] → zd sz t
  | .node k h xs, e => by
    rw [mts, List.append_eq_nil_iff] at e
    rw [zd]
    refine ⟨fun hk => ?_, zdL_bare xs e.2⟩
    have := e.1
    rw [if_pos hk] at this
    cases this
theorem zdL_bare {sz : List Int} : ∀ xs : List T, mtsL xs = [] → zdL sz xs
  | [], _ => by rw [zdL]; trivial
  | x :: xs, e => by
    rw [mtsL, List.append_eq_nil_iff] at e
    rw [zdL]
    exact ⟨zd_bare x e.1, zdL_bare xs e.2⟩
end
theorem bare_zd {t : T} (z : zd [] t) : mts t = [] := by
  rw [List.eq_nil_iff_forall_not_mem]
  intro g hg
  have := zd_mts t z g hg
  simp at this
  omega
theorem ivR_no7 {t : T} {vs : List Int} {m e : Int} (h0 : 0 ≤ m) (h1 : m ≤ 1000) (ht : myB t = true) (hv : vB m [] vs = true) (h : ivR t vs m = .error e) : e = 7 := by
  have hnd : nd t ≤ 1048576 := by have := ((myB_iff t).1 ht).2.1; omega
  rw [ivR, if_pos (by rw [mayB_my hnd, ht, hv, decide_eq_true h0, decide_eq_true h1]; rfl)] at h
  cases hr : rn (igW vs m) t 0 with
  | none => rw [hr] at h; cases h; rfl
  | some u => rw [hr] at h; cases h
/-- a meta of a pattern, against a term without metas -/
theorem M_meta {pa : List Bool} {sz : List Int} {bs : List BT} {h : Int} {xs : List T} {t : T} {m : Int} {s g N : Nat} (hpa : ∀ i, pa.getD i false = false) (hok : okBs bs) (hba : baU s bs) (hlen : bs.length = sz.length) (hN200 : bs.length ≤ 200) (hp : HoT (.node 6 h xs)) (ht : HoT t) (hmt : mts t = []) (z : zd sz (.node 6 h xs)) (hpt : (ptn m [] xs).isSome = true) (h0 : 0 ≤ m) (h1 : m ≤ 200) (hs : nd t ≤ s)
    (hf : 40001 ≤ g + 1 + N) (hN : N + 4 * (nd (.node 6 h xs) + nd t) + 2 * s ≤ 40000) :
    agr (4 * (nd (.node 6 h xs) + nd t)) N (hdM pa [] bs h xs t m) (uND sz (g + 1) (.node 6 h xs) t m bs N) ∧ agr (4 * (nd (.node 6 h xs) + nd t)) N (hdM pa [] bs h xs t m) (uND sz (g + 1) t (.node 6 h xs) m bs N) := by
  obtain ⟨vs, hvs⟩ := Option.isSome_iff_exists.1 hpt
  obtain ⟨rfl, hv⟩ := ptn_top7 hvs
  have hh := head_pos hp.my
  have hfew := vs_few h0 h1 hv
  rw [zd] at z
  obtain ⟨z1, z2, z3⟩ := z.1 rfl
  obtain ⟨b, hb⟩ : ∃ b, bs[h.toNat]? = some b := ⟨_, List.getElem?_eq_getElem (by omega)⟩
  have hnt : noneB bs (mts t) := by rw [hmt]; intro x hx; cases hx
  have hnd : nd (.node 6 h (vrs vs)) = 1 + ndL (vrs vs) := by rw [nd]
  have hndt : 1 ≤ nd t := by cases t; rw [nd]; omega
  rw [hdM, if_neg (by omega), getD_at hb]
  by_cases hb1 : b.1 = true
  · rw [if_pos hb1]
    have hbm := hok b (List.mem_of_getElem? hb) hb1
    have hbb := hba b (List.mem_of_getElem? hb) hb1
    obtain ⟨u, hu1, hu2, hu3⟩ := pat_core hbm.2 hbm.1 hfew ⟨h0, by omega⟩ hv
    have hI : thI bs h = true := by rw [thI, getD_at hb, hb1, decide_eq_true (by omega)]; rfl
    have hall : (mtO (.node 6 h (vrs vs))).all (thI bs) = true := by rw [mtO_meta]; simp [hI]
    have hB : thB (thL bs [h]) = true := by
      rw [thB, thL_len, decide_eq_true hN200, Bool.true_and]
      exact List.all_eq_true.2 (thL_my hh hb hbm.2)
    have hmu : myB u = true := by rw [← hu1]; exact apT_my hu2
    have hcmp : cmpR bs (.node 6 h (vrs vs)) t m = if samB u t then 0 else 6 := by
      rw [cmpR, if_pos hall, mtO_meta, fi_good hB h0 (by omega) hp.my, fl_meta _ hv, if_neg (by rw [thL_len]; omega), thL_one hh hb, if_pos hu2, hu1]
      simp only [hmu, if_true]
    rw [hcmp]
    have hbare : mts u = [] := by
      rw [← hu1]
      exact bare_zd (apT_zd (fun x hx => zd_bare x (by
        have := vrs_mts vs
        rw [List.eq_nil_iff_forall_not_mem] at this ⊢
        exact fun q hq => this q (mem_mtsL hx hq))) (zd_bare _ hbb.1))
    have hnu : noneB bs (mts u) := by rw [hbare]; intro x hx; cases hx
    have hsu : nd u ≤ s := by
      have hou : okT (2199023255552 + 68719476736) u := by
        rw [← hu1]
        refine ap_heads hu2 hbm.1 (fun x hx => ?_) (by omega)
        obtain ⟨v, hv1, rfl⟩ := List.mem_map.1 hx
        have := (vB_top.1 hv).1 v hv1
        rw [okT, okL]
        exact ⟨fun _ => by omega, trivial⟩
      have hnu4 := ((myB_iff u).1 hmu).2.1
      obtain ⟨q1, _⟩ := iv_good (K := 2199023255552 + 68719476736) (by omega) (by omega) (by omega) (lv_mono (by omega) _ (lv_of_ok u hou)) (by omega) hu3
      have := (nd_iv u 0 _ q1).1
      omega
    have hsom : som bs (.node 6 h (vrs vs)) = true := by simp [som, hI]
    have his : isT bs h = b.2 := by rw [isT, getD_at hb]
    have r1 : ∀ M, 40001 ≤ g + 1 + M → M + 2 ≤ 40000 → rdU bs m (g + 1) (.node 6 h (vrs vs)) M = .ok (u, M + 2) := fun M hM1 hM2 => by
      rw [rdU, if_neg (by omega), if_pos hsom, his, if_pos hu2, hu1, rdU_no hnu (by omega) (by omega)]
    have r2 : ∀ M, 40001 ≤ g + 1 + M → M + 1 ≤ 40000 → rdU bs m (g + 1) t M = .ok (t, M + 1) := fun M hM1 hM2 => rdU_no hnt (by omega) (by omega)
    have r3 : ∀ M, 40001 ≤ g + 1 + M → M + 1 ≤ 40000 → rdU bs m (g + 1) u M = .ok (u, M + 1) := fun M hM1 hM2 => rdU_no hnu (by omega) (by omega)
    have e1 : uND sz (g + 1) (.node 6 h (vrs vs)) t m bs N = uND sz (g + 1) u t m bs (N + 1) := by
      obtain ⟨ku, gu, us⟩ := u
      obtain ⟨kt, gt, ts⟩ := t
      rw [uND_ok (r1 N (by omega) (by omega)) (r2 (N + 2) (by omega) (by omega)), uND_ok (r3 (N + 1) (by omega) (by omega)) (r2 (N + 2) (by omega) (by omega))]
    have e2 : uND sz (g + 1) t (.node 6 h (vrs vs)) m bs N = uND sz (g + 1) t u m bs (N + 1) := by
      obtain ⟨ku, gu, us⟩ := u
      obtain ⟨kt, gt, ts⟩ := t
      rw [uND_ok (r2 N (by omega) (by omega)) (r1 (N + 1) (by omega) (by omega)), uND_ok (r2 (N + 1) (by omega) (by omega)) (r3 (N + 2) (by omega) (by omega))]
    rw [e1, e2]
    have b1 := uND_bare (sz := sz) (bs := bs) u t (g + 1) m (N + 1) hbare hmt (by omega) (by omega)
    have b2 := uND_bare (sz := sz) (bs := bs) t u (g + 1) m (N + 1) hmt hbare (by omega) (by omega)
    cases hsm : samB u t with
    | true =>
      have hut := sam_eq u t hsm
      subst hut
      obtain ⟨N1, c1, c2, c3⟩ := b1.1 hsm
      rw [if_pos rfl, if_pos rfl]
      exact ⟨⟨N1, c1, by omega, by omega⟩, ⟨N1, c1, by omega, by omega⟩⟩
    | false =>
      have hsm2 : samB t u = false := by
        cases e : samB t u with
        | false => rfl
        | true => rw [sam_eq t u e, samB_refl] at hsm; cases hsm
      rw [if_neg (by simp), if_neg (by simp)]
      exact ⟨b1.2 hsm, b2.2 hsm2⟩
  · rw [if_neg hb1]
    have hb1' : b.1 = false := by simpa using hb1
    have hnp : noneB bs (mts (.node 6 h (vrs vs))) := by
      rw [mts, vrs_mts, if_pos rfl, List.append_nil]
      intro q hq
      rw [List.mem_singleton] at hq
      subst hq
      rw [thI, getD_at hb, hb1', Bool.and_false]
    have hk' : ∀ k' h' ys, t = .node k' h' ys → k' ≠ 6 := fun k' h' ys e hk => by
      subst e; subst hk
      rw [mts] at hmt
      simp at hmt
    have hsv : agr (4 * (nd (.node 6 h (vrs vs)) + nd t)) N (becR pa [] bs h (vrs vs) t m) (svU sz bs (g + 1) h (vrs vs) t m (N + 2)) := by
      rw [becR, hvs, svU, if_neg (by omega), rsU_no t (g + 1) m (N + 2) hnt (by omega) (by omega)]
      simp only
      rw [rsL_no (vrs vs) 0 (N + 2 + nd t) (fun x hx m' N' q1 q2 => rsU_no x (g + 1) m' N' (by
        have := vrs_mts vs
        intro q hq
        rw [List.eq_nil_iff_forall_not_mem] at this
        exact absurd (mem_mtsL hx hq) (this q)) (by omega) q2) (by omega)]
      simp only [hvs]
      have hmO : mtO t = [] := mtO_nilU.2 hmt
      rw [hmO, if_neg (by simp)]
      cases hi : ivR t vs m with
      | error e =>
        have := ivR_no7 h0 (by omega) ht.my hv hi
        subst this
        simp [agr]
      | ok u =>
        simp only [hpa, Bool.false_and]
        exact ⟨_, rfl, by omega, by omega⟩
    obtain ⟨kt, gt, ts⟩ := t
    have hk6 := hk' kt gt ts rfl
    refine ⟨?_, ?_⟩
    · rw [uND_ok (rdU_no hnp (by omega) (by omega)) (rdU_no hnt (by omega) (by omega)), if_pos (.inl rfl), meU, if_neg (by omega), if_neg (by omega)]
      revert hsv
      cases svU sz bs (g + 1) h (vrs vs) (.node kt gt ts) m (N + 2) with
      | error e => exact id
      | ok q =>
        obtain ⟨o, bs', N'⟩ := q
        simp only
        rw [if_neg (fun e => hk6 e.2)]
        exact id
    · rw [uND_ok (rdU_no hnt (by omega) (by omega)) (rdU_no hnp (by omega) (by omega)), if_pos (.inr rfl), meU, if_pos hk6]
      exact hsv
theorem baU_meta {pa : List Bool} {s : Nat} {bs bs' : List BT} {h : Int} {xs : List T} {t : T} {m : Int} (ht : HoT t) (hmt : mts t = []) (hs : nd t ≤ s) (hx : xs.length ≤ 1048576) (hba : baU s bs) (he : hdM pa [] bs h xs t m = .ok bs') : baU s bs' := by
  rw [hdM] at he
  split at he
  · cases he
  · split at he
    · split at he
      · cases he; exact hba
      · cases he
    · rw [becR] at he
      cases hq : ptn m [] xs with
      | none => rw [hq] at he; cases he
      | some vs =>
        rw [hq] at he
        simp only at he
        cases hi : ivR t vs m with
        | error e => rw [hi] at he; cases he
        | ok u =>
          rw [hi] at he
          simp only at he
          split at he
          · cases he
          · cases he
            have hl := ptn_len xs [] vs hq
            obtain ⟨hiv, _⟩ := iv_told ht (by simp at hl; omega) hi
            intro x hx h1
            rcases List.mem_or_eq_of_mem_set hx with hx | rfl
            · exact hba x hx h1
            · refine ⟨?_, by have := (nd_iv t 0 _ hiv).1; dsimp only; omega⟩
              dsimp only
              rw [(zd_iv (sz := []) t 0 u hiv (zd_bare t hmt)).2, hmt]
mutual
theorem baU_T {pa : List Bool} {s : Nat} : ∀ (p t : T) (m : Int) (bs bs' : List BT), HoT p → HoT t → mts t = [] → nd t ≤ s → baU s bs → hdT pa [] p t m bs = .ok bs' → baU s bs'
  | .node k h xs, .node k' h' ys, m, bs, bs', hp, ht, hmt, hs, hba, he => by
    rw [hdT] at he
    split at he
    · refine baU_meta ht hmt hs ?_ hba he
      have h2 := ((myB_iff _).1 hp.my).2.1
      rw [nd] at h2
      have := (wdL_nd xs).2
      omega
    · rename_i hk
      split at he
      · rename_i hc
        rw [nd] at hs
        refine baU_L k xs.length xs ys 0 m bs bs' (fun x hx => (hp.part x hx).1) (fun x hx => (ht.part x hx).1) ?_ (by omega) hba he
        rw [mts, List.append_eq_nil_iff] at hmt
        exact hmt.2
      · cases he
theorem baU_L {pa : List Bool} {s : Nat} (k : Int) (n : Nat) : ∀ (xs ys : List T) (i : Nat) (m : Int) (bs bs' : List BT), (∀ x ∈ xs, HoT x) → (∀ x ∈ ys, HoT x) → mtsL ys = [] → ndL ys ≤ s → baU s bs → hdL pa [] k n xs ys i m bs = .ok bs' → baU s bs'
  | [], ys, i, m, bs, bs', _, _, _, _, hba, he => by rw [hdL] at he; cases he; exact hba
  | x :: xs, [], i, m, bs, bs', _, _, _, _, hba, he => by rw [hdL] at he; cases he; exact hba
  | x :: xs, y :: ys, i, m, bs, bs', hp, ht, hmt, hs, hba, he => by
    rw [hdL] at he
    rw [mtsL, List.append_eq_nil_iff] at hmt
    rw [ndL] at hs
    try simp only at he
    cases h1 : hdT pa [] x y (m + bd k n i) bs with
    | error e => rw [h1] at he; cases he
    | ok b1 =>
      rw [h1] at he
      exact baU_L k n xs ys (i + 1) m b1 bs' (fun z hz => hp z (List.mem_cons_of_mem _ hz)) (fun z hz => ht z (List.mem_cons_of_mem _ hz)) hmt.2 (by omega) (baU_T x y _ bs b1 (hp x (List.mem_cons_self ..)) (ht y (List.mem_cons_self ..)) hmt.1 (by omega) hba h1) he
end
end Go.Proofs.YtelicajhamgibaaGreat

/-
  Unify of a pattern and a term without metas is as Match has it: whole terms. No statement is proved here.
-/
namespace Go.Proofs.YtelicajhamgibaaGreat
open Go.ChangeShapes Go.WideShapes Go.ChangeAt Go.RowKit
set_option linter.unusedVariables false

theorem agr.mono {B B' N N0 : Nat} {R : Except Int (List BT)} {U : Except Int USt} (h : agr B N R U) (h1 : N0 ≤ N) (h2 : N + B ≤ N0 + B') : agr B' N0 R U := by
  cases R with
  | error e => exact h
  | ok bs => obtain ⟨N', a, b, c⟩ := h; exact ⟨N', a, by omega, by omega⟩
set_option maxRecDepth 100000 in
mutual
theorem M_T {pa : List Bool} {sz : List Int} {s : Nat} (hpa : ∀ i, pa.getD i false = false) : ∀ (p t : T) (m : Int) (bs : List BT) (f N : Nat), okBs bs → baU s bs → bs.length = sz.length → bs.length ≤ 200 → HoT p → HoT t → mts t = [] → zd sz p → paT p m = true → 0 ≤ m → m + dp p ≤ 200 → nd t ≤ s → 40001 ≤ f + N → N + 4 * (nd p + nd t) + 2 * s ≤ 40000 →
    agr (4 * (nd p + nd t)) N (hdT pa [] p t m bs) (uND sz f p t m bs N) ∧ agr (4 * (nd p + nd t)) N (hdT pa [] p t m bs) (uND sz f t p m bs N)
  | .node k h xs, .node k' h' ys, m, bs, f, N, hok, hba, hlen, hfew, hp, ht, hmt, z, hpt, h0, h1, hs, hf, hN => by
    obtain ⟨g, rfl⟩ : ∃ g, f = g + 1 := ⟨f - 1, by omega⟩
    rw [paT, Bool.and_eq_true] at hpt
    rw [hdT]
    by_cases h6 : k = 6
    · subst h6
      rw [if_pos rfl]
      exact M_meta hpa hok hba hlen hfew hp ht hmt z (by simpa using hpt.1) h0 (by omega) hs hf hN
    · rw [if_neg h6]
      have hk' : k' ≠ 6 := fun e => by subst e; rw [mts] at hmt; simp at hmt
      have hmy : mtsL ys = [] := by rw [mts, if_neg hk'] at hmt; simpa using hmt
      have hnt : noneB bs (mts (.node k' h' ys)) := by rw [hmt]; intro x hx; cases hx
      have rt : ∀ M, 40001 ≤ g + 1 + M → M + 1 ≤ 40000 → rdU bs m (g + 1) (.node k' h' ys) M = .ok (.node k' h' ys, M + 1) := fun M q1 q2 => rdU_no hnt q1 q2
      have rp : ∀ M, M + 1 ≤ 40000 → rdU bs m (g + 1) (.node k h xs) M = .ok (.node k h xs, M + 1) := fun M q2 => by
        rw [rdU, if_neg (by omega), if_neg (by simp [som, h6])]
      have e1 : nd (.node k h xs) = 1 + ndL xs := by rw [nd]
      have e2 : nd (.node k' h' ys) = 1 + ndL ys := by rw [nd]
      rw [uND_ok (rp N (by omega)) (rt (N + 1) (by omega) (by omega)), uND_ok (rt N (by omega) (by omega)) (rp (N + 1) (by omega)), if_neg (show ¬ (k = 6 ∨ k' = 6) by omega), if_neg (show ¬ (k' = 6 ∨ k = 6) by omega)]
      by_cases hc : k = k' ∧ h = h' ∧ xs.length = ys.length
      · rw [if_pos hc, if_pos hc, if_pos ⟨hc.1.symm, hc.2.1.symm, hc.2.2.symm⟩]
        obtain ⟨rfl, rfl, hl⟩ := hc
        rw [zd] at z
        have hd1 : 1 + dpL xs ≤ dp (.node k h xs) := by rw [dp]; omega
        obtain ⟨a1, a2⟩ := M_L hpa k xs.length xs ys 0 m bs g (N + 1 + 1) hok hba hlen hfew (fun x hx => (hp.part x hx).1) (fun x hx => (ht.part x hx).1) hmy z.2 hpt.2 h0 (by omega) (by omega) hl (by omega) (by omega)
        rw [← hl]
        exact ⟨a1.mono (by omega) (by omega), a2.mono (by omega) (by omega)⟩
      · rw [if_neg hc, if_neg hc, if_neg fun e => hc ⟨e.1.symm, e.2.1.symm, e.2.2.symm⟩]
        exact ⟨rfl, rfl⟩
theorem M_L {pa : List Bool} {sz : List Int} {s : Nat} (hpa : ∀ i, pa.getD i false = false) (k : Int) (n : Nat) : ∀ (xs ys : List T) (i : Nat) (m : Int) (bs : List BT) (f N : Nat), okBs bs → baU s bs → bs.length = sz.length → bs.length ≤ 200 → (∀ x ∈ xs, HoT x) → (∀ y ∈ ys, HoT y) → mtsL ys = [] → zdL sz xs → paL k n xs i m = true → 0 ≤ m → m + 1 + dpL xs ≤ 200 → ndL ys ≤ s → xs.length = ys.length → 40001 ≤ f + N → N + 4 * (ndL xs + ndL ys) + 2 * s ≤ 40000 →
    agr (4 * (ndL xs + ndL ys)) N (hdL pa [] k n xs ys i m bs) (ndsU (uND sz f) k n m xs ys i false bs N) ∧ agr (4 * (ndL xs + ndL ys)) N (hdL pa [] k n xs ys i m bs) (ndsU (uND sz f) k n m ys xs i false bs N)
  | [], [], i, m, bs, f, N, hok, hba, hlen, hfew, hp, ht, hmt, z, hpt, h0, h1, hs, hl, hf, hN => by
    rw [hdL, ndsU_nil]
    exact ⟨⟨N, rfl, by omega, by omega⟩, ⟨N, rfl, by omega, by omega⟩⟩
  | x :: xs, y :: ys, i, m, bs, f, N, hok, hba, hlen, hfew, hp, ht, hmt, z, hpt, h0, h1, hs, hl, hf, hN => by
    rw [paL, Bool.and_eq_true] at hpt
    rw [zdL] at z
    rw [mtsL, List.append_eq_nil_iff] at hmt
    rw [dpL] at h1
    rw [ndL] at hs
    have e1 : ndL (x :: xs) = nd x + ndL xs := by rw [ndL]
    have e2 : ndL (y :: ys) = nd y + ndL ys := by rw [ndL]
    have hb : 0 ≤ bd k n i ∧ bd k n i ≤ 1 := by rw [bd_bdn]; have := bdn_le k n i; omega
    have hpx := hp x (List.mem_cons_self ..)
    have hty := ht y (List.mem_cons_self ..)
    obtain ⟨a1, a2⟩ := M_T hpa x y (m + bd k n i) bs f N hok hba hlen hfew hpx hty hmt.1 z.1 hpt.1 (by omega) (by omega) (by omega) hf (by omega)
    rw [hdL, ndsU, ndsU]
    try simp only
    cases hx : hdT pa [] x y (m + bd k n i) bs with
    | error e =>
      rw [hx] at a1 a2
      have a1 : uND sz f x y (m + bd k n i) bs N = .error e := a1
      have a2 : uND sz f y x (m + bd k n i) bs N = .error e := a2
      rw [a1, a2]
      exact ⟨rfl, rfl⟩
    | ok b1 =>
      rw [hx] at a1 a2
      obtain ⟨N1, c1, c2, c3⟩ := a1
      obtain ⟨N2, d1, d2, d3⟩ := a2
      rw [c1, d1]
      try simp only
      have hk := hd_keep x y _ bs b1 hx
      have hokb := okBs_keep x y _ bs b1 hpx hty hok hx
      have hbab := baU_T x y _ bs b1 hpx hty hmt.1 (by omega) hba hx
      have hp' := fun z hz => hp z (List.mem_cons_of_mem x hz)
      have ht' := fun z hz => ht z (List.mem_cons_of_mem y hz)
      have g1 := (M_L hpa k n xs ys (i + 1) m b1 f N1 hokb hbab (hk.1.trans hlen) (by rw [hk.1]; exact hfew) hp' ht' hmt.2 z.2 hpt.2 h0 (by omega) (by omega) (by simpa using hl) (by omega) (by omega)).1
      have g2 := (M_L hpa k n xs ys (i + 1) m b1 f N2 hokb hbab (hk.1.trans hlen) (by rw [hk.1]; exact hfew) hp' ht' hmt.2 z.2 hpt.2 h0 (by omega) (by omega) (by simpa using hl) (by omega) (by omega)).2
      exact ⟨g1.mono (by omega) (by omega), g2.mono (by omega) (by omega)⟩
end
end Go.Proofs.YtelicajhamgibaaGreat

/-
  What Unify and Match tell of a pattern and a term without metas. No statement is proved here.
-/
namespace Go.Proofs.YtelicajhamgibaaGreat
open Go.ChangeShapes Go.WideShapes Go.ChangeAt Go.RowKit
set_option linter.unusedVariables false

theorem rvL_bare {sz : List Int} {s : Nat} {bs : List BT} (hba : baU s bs) : ∀ (r i N : Nat), N + r * s ≤ 40000 → ∃ N', rvL sz r i bs N = .ok (bs, N')
  | 0, i, N, _ => ⟨N, by rw [rvL]⟩
  | r + 1, i, N, hN => by
    rw [Nat.add_mul, Nat.one_mul] at hN
    cases hx : (bs.getD i noB).1 with
    | false =>
      rw [rvL_no1 hx]
      exact rvL_bare hba r (i + 1) N (by omega)
    | true =>
      obtain ⟨x, hi⟩ : ∃ x, bs[i]? = some x := by
        cases e : bs[i]? with
        | some x => exact ⟨x, rfl⟩
        | none => rw [List.getD_eq_getElem?_getD, e] at hx; cases hx
      have ex : bs.getD i noB = x := by rw [List.getD_eq_getElem?_getD, hi]; rfl
      rw [ex] at hx
      obtain ⟨b1, b2⟩ := hba x (List.mem_of_getElem? hi) hx
      obtain ⟨o, t⟩ := x
      dsimp only at hx b1 b2
      subst hx
      rw [rvL_ok (t := t) (N' := N + nd t) (by rw [ex]) (by rw [ex]; exact rsU_no t fu _ N (by rw [b1]; intro q hq; cases hq) (by rw [fu_eq]; omega) (by omega))]
      have hset : bs.set i (true, t) = bs := by
        have hl := (List.getElem?_eq_some_iff.1 hi).1
        have he := (List.getElem?_eq_some_iff.1 hi).2
        rw [← he, List.set_getElem_self]
      rw [hset]
      exact rvL_bare hba r (i + 1) (N + nd t) (by omega)
theorem own_no {bs : List BT} (h : noU bs) : bs.map ownB = bs := by
  have := List.map_congr_left (l := bs) (f := ownB) (g := id) fun x hx => by
    cases e : x.1 with
    | true => rw [ownB, if_pos e]; rfl
    | false => rw [ownB, if_neg (by rw [e]; exact Bool.false_ne_true)]; exact (h x hx e).symm
  rw [this, List.map_id]
/-- Unify, one way and the other, is as Match -/
theorem un_match {p t : T} {n : Int} {sz : List Int} (hA : unA p t n sz = true) (hC : unA t p n sz = true) (hp : HoT p) (ht : HoT t) (hmt : mts t = []) (z : zd sz p) (hpt : (nds p 0).all (pa1 n) = true) (h0 : 0 ≤ n) (h1 : n ≤ 100) (hl : sz.length ≤ 60) (np : nd p ≤ 300) (nt : nd t ≤ 300) :
    unR p t n sz = mtR p t n (List.replicate sz.length noB) (List.replicate sz.length false) [] ∧ unR t p n sz = mtR p t n (List.replicate sz.length noB) (List.replicate sz.length false) [] := by
  have hpa := pa_top hp.my (by omega) hpt
  have hd := ((myB_iff p).1 hp.my).2.2
  obtain ⟨a1, a2⟩ := M_T (sz := sz) (s := 300) (rep_false sz.length) p t n (List.replicate sz.length noB) fu 0 (fun x hx h => by rw [List.eq_of_mem_replicate hx] at h; cases h) (fun x hx h => by rw [List.eq_of_mem_replicate hx] at h; cases h) (List.length_replicate ..) (by rw [List.length_replicate]; omega) hp ht hmt z hpa h0 (by omega) nt (by rw [fu_eq]; omega) (by omega)
  rw [mtR, if_pos (mtA_rep hp.my ht.my (by omega) (by omega))]
  cases hh : hdT (List.replicate sz.length false) [] p t n (List.replicate sz.length noB) with
  | error e =>
    rw [hh] at a1 a2
    exact ⟨un_err hA a1, un_err hC a2⟩
  | ok bs =>
    rw [hh] at a1 a2
    obtain ⟨N1, c1, _, c3⟩ := a1
    obtain ⟨N2, d1, _, d3⟩ := a2
    have hbab := baU_T (s := 300) p t n _ bs hp ht hmt nt (fun x hx h => by rw [List.eq_of_mem_replicate hx] at h; cases h) hh
    have hno : noU bs := uND_no _ _ _ _ _ _ _ _ _ (fun x hx _ => List.eq_of_mem_replicate hx) c1
    obtain ⟨M1, r1⟩ := rvL_bare (sz := sz) hbab sz.length 0 N1 (by omega)
    obtain ⟨M2, r2⟩ := rvL_bare (sz := sz) hbab sz.length 0 N2 (by omega)
    refine ⟨?_, ?_⟩
    · rw [un_ok hA c1, r1]
      show Except.ok bs = Except.ok (bs.map ownB)
      rw [own_no hno]
    · rw [un_ok hC d1, r2]
      show Except.ok bs = Except.ok (bs.map ownB)
      rw [own_no hno]
end Go.Proofs.YtelicajhamgibaaGreat
