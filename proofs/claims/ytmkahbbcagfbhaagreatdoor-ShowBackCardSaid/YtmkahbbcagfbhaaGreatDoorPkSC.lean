/-
  Texts of one proof, put together. No statement is proved here.
-/
import Derived.Test.YtmkahbbcagfbhaaGreatDoorOw
import Derived.Test.YtmkahbbcagfbhaaGreatDoorCs
import Derived.Test.YtmkahbbcagfbhaaGreatDoorSy
import Derived.Test.YtmkahbbcagfbhaaGreatDoorMy
/-
  Contracts of package shift's inner functions: what a number of a variable becomes, how many a node binds, a list rebuilt.
-/
namespace Go.Proofs.YtmkahbbcagfbhaaGreatDoor
open Go.ChangeShapes Go.WideShapes Go.ChangeAt Go.RowKit
set_option linter.unusedVariables false
/-! ### What renumbering tells, as plain functions -/
/-- what a head becomes -/
def rnH (tf : Int → Option Int) (k h b : Int) : Option Int := if k = 4 ∧ b ≤ h then (tf (wrap64 (h - b))).map (fun f => wrap64 (f + b)) else some h
mutual
def rn (tf : Int → Option Int) : T → Int → Option T
  | .node k h xs, b => (rnH tf k h b).bind fun h' => (rnL tf k xs.length xs 0 b).map (.node k h')
def rnL (tf : Int → Option Int) (k : Int) (n : Nat) : List T → Nat → Int → Option (List T)
  | [], _, _ => some []
  | t :: ts, i, b => (rn tf t (wrap64 (b + bd k n i))).bind fun t' => (rnL tf k n ts (i + 1) b).map (t' :: ·)
end
/-- a list, each by its place -/
def eachP (g : Nat → T → Option T) : List T → Nat → Option (List T)
  | [], _ => some []
  | t :: ts, i => (g i t).bind fun t' => (eachP g ts (i + 1)).map (t' :: ·)
theorem rnL_each (tf : Int → Option Int) (k : Int) (n : Nat) (b : Int) : ∀ (xs : List T) (i : Nat), rnL tf k n xs i b = eachP (fun i t => rn tf t (wrap64 (b + bd k n i))) xs i
  | [], i => by rw [rnL, eachP]
  | t :: ts, i => by rw [rnL, eachP, rnL_each tf k n b ts (i + 1)]
def upTo (by' from' : Int) (x : Int) : Option Int := if x < from' then some x else some (wrap64 (x + by'))
/-- how a call ends that tells a term of its own, or noughts and false -/
def REnd (o : Option T) (w : World) (e : Ending) (w' : World) : Prop :=
  Below w.heap.size w w' ∧ ((∃ t v, o = some t ∧ e = .returned (.tuple #[v, .bool true]) ∧ OwT w' w.heap.size t v) ∨
    (o = none ∧ e = .returned (.tuple #[.agg #[.int .i64 0, .int .i64 0, .slice none 0 0], .bool false])))
/-- a number that a method value tells -/
def ToC (g : FuncId) (m : Value) (tf : Int → Option Int) : Prop :=
  ∀ (x : Int) (w : World), Calls Tryz.prog g #[m, .int .i64 x] w fun e w' => e = .returned (.tuple #[.int .i64 ((tf x).getD 0), .bool (tf x).isSome]) ∧ Below w.heap.size w w'
set_option maxHeartbeats 1000000 in
theorem upM (b f : Int) : ToC 102 (.agg #[.int .i64 b, .int .i64 f]) (upTo b f) := by
  intro x w
  have hb : Below w.heap.size w (w.alloc (.cells #[.int .i64 b, .int .i64 f] 133)) := (Below.refl _ _).alloc (Nat.le_refl _) _
  by_cases h : x < f
  · have e : upTo b f x = some x := by simp [upTo, h]
    rw [e]
    have d : decide (x < f) = true := by simpa using h
    go_enter Tryz.func102, Tryz.ntmps102
    go_wp2_with fail
    go_ret2
    exact ⟨rfl, hb⟩
  · have e : upTo b f x = some (wrap64 (x + b)) := by simp [upTo, h]
    rw [e]
    have d : decide (x < f) = false := by simpa using h
    go_enter Tryz.func102, Tryz.ntmps102
    go_wp2_with fail
    go_ret2
    exact ⟨rfl, hb⟩
/-- may by and from be? -/
def mvB (b f : Int) : Bool := decide (0 ≤ b) && decide (b ≤ 1048576) && decide (0 ≤ f) && decide (f ≤ 1048576)
set_option maxHeartbeats 1000000 in
theorem mayM (b f : Int) (w : World) : Calls Tryz.prog 99 #[.agg #[.int .i64 b, .int .i64 f]] w fun e w' => e = .returned (.bool (mvB b f)) ∧ Below w.heap.size w w' := by
  have hb : Below w.heap.size w (w.alloc (.cells #[.int .i64 b, .int .i64 f] 133)) := (Below.refl _ _).alloc (Nat.le_refl _) _
  rw [mvB]
  cases h1 : decide (0 ≤ b)
  · go_enter Tryz.func99, Tryz.ntmps99
    go_wp2_with fail
    go_ret
    exact ⟨rfl, hb⟩
  cases h2 : decide (b ≤ 1048576)
  · go_enter Tryz.func99, Tryz.ntmps99
    go_wp2_with fail
    go_ret
    exact ⟨rfl, hb⟩
  cases h3 : decide (0 ≤ f)
  · go_enter Tryz.func99, Tryz.ntmps99
    go_wp2_with fail
    go_ret
    exact ⟨rfl, hb⟩
  go_enter Tryz.func99, Tryz.ntmps99
  go_wp2_with fail
  go_ret
  exact ⟨by simp, hb⟩
end Go.Proofs.YtmkahbbcagfbhaaGreatDoor
/-
  Contract of package node's list rebuilt by a function value.
-/
namespace Go.Proofs.YtmkahbbcagfbhaaGreatDoor
open Go.ChangeShapes Go.WideShapes Go.ChangeAt Go.RowKit
set_option linter.unusedVariables false
/-- a list of terms of its own, from block lo on -/
def OwL (w : World) (lo n : Nat) (ys : List T) (v : Value) : Prop :=
  ys.length = n ∧ ((n = 0 ∧ v = .slice none 0 0) ∨ ∃ b cs, v = .slice (some ⟨b, 0, none⟩) n n ∧ lo ≤ b ∧ Box w b 36 cs ∧ cs.size = n * 3 ∧ Kids w (fun g => b < g) cs ys)
theorem Kids.snoc {w w' : World} {ok : Nat → Prop} {cs : Array Value} {ys : List T} {j : Nat} {t : T} {k h : Int} {A : Option Addr} {n c : Nat} (hk : Kids w ok cs ys) (hl : ys.length = j) (hm : ∀ b, ok b → b < w.heap.size → w'.heap[b]? = w.heap[b]?)
    (hr : RdF ok w' t (.agg #[.int .i64 k, .int .i64 h, .slice A n c])) (hsz : j * 3 + 2 < cs.size) :
    Kids w' ok (((cs.setIfInBounds (j * 3) (.int .i64 k)).setIfInBounds (j * 3 + 1) (.int .i64 h)).setIfInBounds (j * 3 + 2) (.slice A n c)) (ys ++ [t]) := by
  have h1 : (ys ++ [t]).take j = ys := by rw [← hl, List.take_left]
  have h2 : (ys ++ [t]).take (j + 1) = ys ++ [t] := List.take_of_length_le (by simp [hl])
  have h3 : (ys ++ [t])[j]? = some t := by rw [← hl, List.getElem?_append_right (Nat.le_refl _)]; simp
  have := Kids.put (xs := ys ++ [t]) (j := j) (by rw [h1]; exact hk) hm h3 hr hsz
  rwa [h2] at this
theorem Kids.move {w w' : World} {ok : Nat → Prop} {cs : Array Value} {ys : List T} (hk : Kids w ok cs ys) (hm : ∀ b, ok b → b < w.heap.size → w'.heap[b]? = w.heap[b]?) : Kids w' ok cs ys := fun i t ht => by
  obtain ⟨k', h', A', n', c', e0, e1, e2, hr⟩ := hk i t ht
  exact ⟨k', h', A', n', c', e0, e1, e2, RdF.move (fun _ h => h) hm _ _ hr⟩
def EEnd (o : Option (List T)) (n : Nat) (w : World) (e : Ending) (w' : World) : Prop :=
  Below w.heap.size w w' ∧ ((∃ ys v, o = some ys ∧ e = .returned (.tuple #[v, .bool true]) ∧ OwL w' w.heap.size n ys v) ∨ (o = none ∧ e = .returned (.tuple #[.slice none 0 0, .bool false])))
set_option maxRecDepth 100000 in
set_option maxHeartbeats 4000000 in
theorem eachC (xs : List T) (A : Option Addr) (n c : Nat) (p1 p2 p3 : Value) (g : Nat → T → Option T) (w : World) (hn : xs.length = n) (hc : n ≤ c) (hm : c ≤ maxLen) (hn40 : n ≤ 3518437208780) (hx : ∀ i t, xs[i]? = some t → RdAt w A i t)
    (HF : ∀ (i : Nat) (t : T) (v : Value) (W : World), xs[i]? = some t → Below w.heap.size w W → Rd W t v → Calls Tryz.prog 127 #[.int .i64 i, v, p1, p2, p3] W (REnd (g i t) W)) :
    Calls Tryz.prog 126 #[.slice A n c, .func (.func 127) #[] #[p1, p2, p3]] w (EEnd (eachP g xs 0) n w) := by
  unfold maxLen at hm
  have HN := Lib.hid hn; clear hn
  have HX := Lib.hid hx; clear hx
  have HF' := Lib.hid HF; clear HF
  obtain ⟨i0, hi, hz0, hz1, hz2⟩ := info_parts infoTerm
  have hmk : ∀ W : World, (Instr.makeSlice 34 (.int .i64 (n : Int)) (.int .i64 (n : Int))).run Tryz.prog W = .ok (.slice (some ⟨W.heap.size, 0, none⟩) n n) (W.alloc (.cells (madeCells #[.int .i64 0, .int .i64 0, .slice none 0 0] (n * 3)) 36)) := by
    intro W
    have := run_make W 34 36 i0 _ Tryz.underlying34 hi hz0 .i64 .i64 (n : Int) (n : Int) (by omega) (Int.le_refl _) (by rw [hz2]; omega) (by omega)
    rw [hz1] at this
    simpa [Value.cells] using this
  clear hi hz0 hz1 hz2
  by_cases h0 : n = 0
  · subst h0
    have hxs : xs = [] := List.length_eq_zero_iff.1 HN.out
    go_enter Tryz.func126, Tryz.ntmps126
    go_wp2_with fail
    go_ret2
    exact ⟨Below.refl _ _, .inl ⟨[], _, by rw [hxs, eachP], rfl, rfl, .inl ⟨rfl, rfl⟩⟩⟩
  · have e0 : ((n : Int) == 0) = false := by rw [beq_eq_false_iff_ne]; omega
    go_enter Tryz.func126, Tryz.ntmps126
    go_wp2_with fail
    have hcs := size_madeCells #[.int .i64 0, .int .i64 0, .slice none 0 0] (n * 3)
    generalize madeCells #[.int .i64 0, .int .i64 0, .slice none 0 0] (n * 3) = cs0 at *
    have hb : Below w.heap.size w (w.alloc (.cells cs0 36)) := (Below.refl _ w).alloc (Nat.le_refl _) _
    have x3 := Box.new w 36 cs0
    have HCS := Lib.hid hcs; clear hcs hmk
    go_loopw [19] (fun i wr => ∃ (j : Nat) (cs : Array Value) (ys : List T), j ≤ n ∧ i = .int .i64 j ∧ Box wr w.heap.size 36 cs ∧ Hid (cs.size = n * 3) ∧
      Hid (ys.length = j ∧ eachP g xs 0 = (eachP g (xs.drop j) j).map (ys ++ ·)) ∧ Kids wr (fun g => w.heap.size < g) cs ys ∧ Below w.heap.size w wr) (fun i _ => n - (intOf i).toNat)
    case atStart => exact ⟨0, cs0, [], Nat.zero_le _, rfl, x3, HCS, Lib.hid ⟨rfl, by simp⟩, fun i t ht => by simp at ht, hb⟩
    case round =>
      obtain ⟨j, cs, ys, hj, rfl, y3, HC, HP, hkids, hbr⟩ := hrel
      have HK := Lib.hid hkids; clear hkids
      clear x3 hb
      by_cases hlt : j < n
      · obtain ⟨t, ht⟩ := at_of HN.out hlt
        obtain ⟨b, o, k2, h2, A2, n2, c2', rfl, c0, c1, c2, hr⟩ := (RdAt.keep hbr (HX.out j t ht)).full
        have HT := Lib.hid ht; clear ht
        have HP' := HP.out
        rw [drop_at HT.out, eachP] at HP'
        have HP2 := Lib.hid HP'; clear HP' HP
        have hi0 : (0 : Int) ≤ j := by omega
        have hi1 : (j : Int) < n := by omega
        go_wp2_with fail
        have z3 := y3.alloc (.cells #[.int .i64 k2, .int .i64 h2, .slice A2 n2 c2'] 36)
        have hbA : Below wr.heap.size wr (wr.alloc (.cells #[.int .i64 k2, .int .i64 h2, .slice A2 n2 c2'] 36)) := (Below.refl _ wr).alloc (Nat.le_refl _) _
        generalize wr.alloc (.cells #[.int .i64 k2, .int .i64 h2, .slice A2 n2 c2'] 36) = Wa at *
        clear c0 c1 c2
        refine (HF'.out j t _ _ HT.out (hbr.trans (hbA.mono hbr.size)) (Rd.keep hbA _ _ hr)).mono ?_
        rintro e w1 ⟨hb1, ⟨t', v', hg, rfl, how⟩ | ⟨hg, rfl⟩⟩
        · obtain ⟨k3, h3, A3, n3, c3, rfl⟩ := how.full
          have g3 := z3.keep hb1 z3.lt
          have l3 := g3.lt
          have la : wr.heap.size ≤ Wa.heap.size := hbA.size
          have lz := z3.lt
          have ly := y3.lt
          have hbw : Below wr.heap.size wr w1 := hbA.trans (hb1.mono hbA.size)
          have hr3 : RdF (fun g => w.heap.size < g) w1 t' (.agg #[.int .i64 k3, .int .i64 h3, .slice A3 n3 c3]) :=
            RdF.move (fun g hg => by omega) (fun _ _ _ => rfl) _ _ how.rdF
          have hk3 : Kids w1 (fun g => w.heap.size < g) cs ys := HK.out.move fun g _ hg => hbw.block g hg
          have HR3 := Lib.hid hr3; clear hr3
          have HK3 := Lib.hid hk3; clear hk3 HK how
          have HBW := Lib.hid hbw; clear hbw hb1 hbA
          obtain ⟨u0, hu0⟩ := g3.there (i := j * 3) (by rw [HC.out]; omega)
          obtain ⟨u1, hu1⟩ := g3.there (i := j * 3 + 1) (by rw [HC.out]; omega)
          obtain ⟨u2, hu2⟩ := g3.there (i := j * 3 + 2) (by rw [HC.out]; omega)
          have f0 := g3.frozen (j * 3)
          have f1 := g3.frozen (j * 3 + 1)
          have f2 := g3.frozen (j * 3 + 2)
          go_wp2_with fail
          go_roundw
          case rel =>
            have hset : ∀ g, w.heap.size < g → g < w1.heap.size → (((((w1.setCell ⟨w.heap.size, j * 3, none⟩ (.int .i64 k3)).setCell ⟨w.heap.size, j * 3 + 1, none⟩ (.int .i64 h3)).setCell ⟨w.heap.size, j * 3 + 2, none⟩ (.slice A3 n3 c3))).alloc (.cells #[.int .i64 k3, .int .i64 h3, .slice A3 n3 c3] 36)).heap[g]? = w1.heap[g]? := fun g hg hg' => by
              rw [Below.heap_alloc _ _ _ (by simpa using hg'), Below.heap_setCell _ _ _ _ (by dsimp only; omega), Below.heap_setCell _ _ _ _ (by dsimp only; omega), Below.heap_setCell _ _ _ _ (by dsimp only; omega)]
            refine ⟨j + 1, _, ys ++ [t'], by omega, by go_num, (((g3.setAt _ _).setAt _ _).setAt _ _).alloc _, Lib.hid (by simp [HC.out]), Lib.hid ⟨by simp [HP2.out.1], ?_⟩, HK3.out.snoc HP2.out.1 hset (RdF.move (fun _ h => h) hset _ _ HR3.out) (by rw [HC.out]; omega), ?_⟩
            · have e := HP2.out.2
              rw [hg] at e
              rw [e, Option.bind_some, Option.map_map]
              congr 1
              funext l
              simp
            · exact ((((hbr.trans (HBW.out.mono hbr.size)).setCell (by dsimp only; omega) _).setCell (by dsimp only; omega) _).setCell (by dsimp only; omega) _).alloc (by simp; omega) _
          case measure => simp [intOf]; omega
        · go_wp2_with fail
          go_ret2
          refine ⟨?_, .inr ⟨?_, rfl⟩⟩
          · exact (hbr.trans ((hbA.trans (hb1.mono hbA.size)).mono hbr.size)).alloc (by have := hbr.size; have := hbA.size; have := hb1.size; omega) _
          · have e := HP2.out.2
            rw [hg] at e
            rw [e]
            rfl
      · go_wp2_with fail
        go_ret2
        have HP' := HP.out
        rw [drop_all HN.out (by omega), eachP] at HP'
        refine ⟨hbr, .inl ⟨ys, _, by rw [HP'.2]; simp, rfl, by rw [HP'.1]; omega, .inr ⟨_, cs, rfl, Nat.le_refl _, y3, HC.out, HK.out⟩⟩⟩
end Go.Proofs.YtmkahbbcagfbhaaGreatDoor
/-
  Contract of package node's walk through a term: each node rebuilt, its Args by a closure, free variables by a method value.
-/
namespace Go.Proofs.YtmkahbbcagfbhaaGreatDoor
open Go.ChangeShapes Go.WideShapes Go.ChangeAt Go.RowKit
set_option linter.unusedVariables false
theorem Box.other3 {w : World} {b : Nat} {ty : TypeId} {cs : Array Value} (h : Box w b ty cs) {a : Nat} (hne : b ≠ a) (u0 u1 u2 : Value) : Box (((w.setCell ⟨a, 0, none⟩ u0).setCell ⟨a, 1, none⟩ u1).setCell ⟨a, 2, none⟩ u2) b ty cs :=
  ((h.other (a := ⟨a, 0, none⟩) hne u0).other (a := ⟨a, 1, none⟩) hne u1).other (a := ⟨a, 2, none⟩) hne u2
theorem heap_other3 (w : World) (a : Nat) (u0 u1 u2 : Value) (g : Nat) (hne : g ≠ a) : (((w.setCell ⟨a, 0, none⟩ u0).setCell ⟨a, 1, none⟩ u1).setCell ⟨a, 2, none⟩ u2).heap[g]? = w.heap[g]? := by
  rw [Below.heap_setCell _ _ _ _ hne, Below.heap_setCell _ _ _ _ hne, Below.heap_setCell _ _ _ _ hne]
theorem below_set3 {B : Nat} {w w' : World} (h : Below B w w') {a : Nat} (hl : B ≤ a) (u0 u1 u2 : Value) : Below B w (((w'.setCell ⟨a, 0, none⟩ u0).setCell ⟨a, 1, none⟩ u1).setCell ⟨a, 2, none⟩ u2) :=
  ((h.setCell (by exact hl) u0).setCell (by exact hl) u1).setCell (by exact hl) u2
/-- a number that a method value tells, of numbers from 0 on, in worlds behind one -/
def ToB (g : FuncId) (m : Value) (tf : Int → Option Int) (w0 : World) : Prop :=
  ∀ (x : Int) (w : World), 0 ≤ x → Below w0.heap.size w0 w → Calls Tryz.prog g #[m, .int .i64 x] w fun e w' => ∃ y, e = .returned (.tuple #[.int .i64 y, .bool (tf x).isSome]) ∧ (∀ f, tf x = some f → y = f) ∧ Below w.heap.size w w'
/-- what is told: a term of its own and true, or noughts and false -/
def ROut (o : Option T) (w w' : World) (v : Value) (bo : Bool) : Prop :=
  (∃ t, o = some t ∧ bo = true ∧ OwT w' w.heap.size t v) ∨ (o = none ∧ bo = false ∧ v = .agg #[.int .i64 0, .int .i64 0, .slice none 0 0])
theorem REnd.uni {o : Option T} {w w' : World} {e : Ending} (h : REnd o w e w') : ∃ k h A n c bo, e = .returned (.tuple #[.agg #[.int .i64 k, .int .i64 h, .slice A n c], .bool bo]) ∧ ROut o w w' (.agg #[.int .i64 k, .int .i64 h, .slice A n c]) bo ∧ Below w.heap.size w w' := by
  obtain ⟨hb, ⟨t, v, ho, rfl, how⟩ | ⟨ho, rfl⟩⟩ := h
  · obtain ⟨k, h, A, n, c, rfl⟩ := how.full
    exact ⟨k, h, A, n, c, true, rfl, .inl ⟨t, ho, rfl, how⟩, hb⟩
  · exact ⟨0, 0, none, 0, 0, false, rfl, .inr ⟨ho, rfl, rfl⟩, hb⟩
theorem ROut.rend {o : Option T} {w w' : World} {v : Value} {bo : Bool} (h : ROut o w w' v bo) (hb : Below w.heap.size w w') : REnd o w (.returned (.tuple #[v, .bool bo])) w' := by
  rcases h with ⟨t, ho, rfl, how⟩ | ⟨ho, rfl, rfl⟩
  · exact ⟨hb, .inl ⟨t, v, ho, rfl, how⟩⟩
  · exact ⟨hb, .inr ⟨ho, rfl⟩⟩
theorem OwT.move {w w' : World} {lo lo' : Nat} {t : T} {v : Value} (h : OwT w lo t v) (hl : lo' ≤ lo) (hm : ∀ g, lo ≤ g → g < w.heap.size → w'.heap[g]? = w.heap[g]?) : OwT w' lo' t v := by
  obtain ⟨k, g, xs⟩ := t
  obtain ⟨A, n, c, rfl, h1, h2, h3, h4, h5, h6⟩ := h
  refine ⟨A, n, c, rfl, h1, h2, h3, h4, h5, ?_⟩
  rcases h6 with rfl | ⟨b, cs, rfl, hb, hbox, hsz, hk⟩
  · exact .inl rfl
  · exact .inr ⟨b, cs, rfl, by omega, (hm b hb hbox.lt).trans hbox, hsz, hk.move fun g hg hg' => hm g (by omega) hg'⟩
theorem ROut.move {o : Option T} {w0 w w' w1 : World} {v : Value} {bo : Bool} (h : ROut o w w' v bo) (hl : w0.heap.size ≤ w.heap.size) (hm : ∀ g, w.heap.size ≤ g → g < w'.heap.size → w1.heap[g]? = w'.heap[g]?) : ROut o w0 w1 v bo := by
  rcases h with ⟨t, ho, rfl, how⟩ | ⟨ho, rfl, rfl⟩
  · exact .inl ⟨t, ho, rfl, how.move hl hm⟩
  · exact .inr ⟨ho, rfl, rfl⟩
set_option maxRecDepth 100000 in
set_option maxHeartbeats 4000000 in
theorem closureC {g : FuncId} {m : Value} {tf : Int → Option Int} (t : T) (k h : Int) (A : Option Addr) (n c : Nat) (hc : n ≤ c) (hm : c ≤ maxLen) (i : Nat) (hi : i ≤ maxLen) (b : Int) (v : Value) (w : World) (pT pB pF : Nat)
    (ih : ∀ (v : Value) (w' : World), Below w.heap.size w w' → Rd w' t v → Calls Tryz.prog 114 #[v, .int .i64 (wrap64 (b + bd k n i)), .func (.func g) #[m] #[]] w' (REnd (rn tf t (wrap64 (b + bd k n i))) w'))
    (xT : Box w pT 36 #[.int .i64 k, .int .i64 h, .slice A n c]) (xB : Box w pB 3 #[.int .i64 b]) (xF : Box w pF 136 #[.func (.func g) #[m] #[]]) (hv : Rd w t v) :
    Calls Tryz.prog 127 #[.int .i64 i, v, .pointer (some ⟨pB, 0, none⟩), .pointer (some ⟨pT, 0, none⟩), .pointer (some ⟨pF, 0, none⟩)] w (REnd (rn tf t (wrap64 (b + bd k n i))) w) := by
  obtain ⟨k2, h2, A2, n2, c2, rfl⟩ := hv.full
  have HV := Lib.hid hv; clear hv
  have IH := Lib.hid ih; clear ih
  have HC := Lib.hid hc; clear hc
  have HM := Lib.hid hm; clear hm
  have HI := Lib.hid hi; clear hi
  obtain ⟨W, hW⟩ : ∃ W, (w.alloc (.cells #[.int .i64 k2, .int .i64 h2, .slice A2 n2 c2] 36)).alloc (.cells #[.int .i64 0, .int .i64 0, .slice none 0 0] 36) = W := ⟨_, rfl⟩
  have hb : Below w.heap.size w W := by rw [← hW]; exact ((Below.refl _ _).alloc (Nat.le_refl _) _).alloc (by simp) _
  have z1 : Box W w.heap.size 36 #[.int .i64 k2, .int .i64 h2, .slice A2 n2 c2] := by rw [← hW]; exact (Box.new _ _ _).alloc _
  have z2 : Box W (w.heap.size + 1) 36 #[.int .i64 0, .int .i64 0, .slice none 0 0] := by rw [← hW]; exact (Box.new (w.alloc _) _ _).at (by simp)
  have lT := xT.lt
  have lB := xB.lt
  have lF := xF.lt
  replace xT := xT.keep hb lT
  replace xB := xB.keep hb lB
  replace xF := xF.keep hb lF
  have HWW := Lib.hid hW; clear hW
  go_enter Tryz.func127, Tryz.ntmps127
  go_wp2_with fail
  rw [HWW.out]
  clear HWW
  obtain ⟨a0, a1, a2⟩ := z1.three
  obtain ⟨b0, b1, b2⟩ := xT.three
  have d0 := (xB.one).1
  have e0 := (xF.one).1
  have HBD := Lib.hid (boundC k h A n c HC.out HM.out i HI.out W.drew)
  have hsum : IntKind.i64.wrap (b + bd k n i) = wrap64 (b + bd k n i) := wrapEq _
  go_region_held3 (fun w' => w'.cell? ⟨w.heap.size, 0, none⟩ = some (.int .i64 k2) ∧ w'.cell? ⟨w.heap.size, 1, none⟩ = some (.int .i64 h2) ∧ w'.cell? ⟨w.heap.size, 2, none⟩ = some (.slice A2 n2 c2) ∧
      w'.cell? ⟨pB, 0, none⟩ = some (.int .i64 b) ∧ w'.cell? ⟨pT, 0, none⟩ = some (.int .i64 k) ∧ w'.cell? ⟨pT, 1, none⟩ = some (.int .i64 h) ∧ w'.cell? ⟨pT, 2, none⟩ = some (.slice A n c) ∧ w'.cell? ⟨pF, 0, none⟩ = some (.func (.func g) #[m] #[]))
    (first | exact ⟨a0, a1, a2, d0, b0, b1, b2, e0⟩ | exact ⟨q1.three.1, q1.three.2.1, q1.three.2.2, qB.one.1, qT.three.1, qT.three.2.1, qT.three.2.2, qF.one.1⟩ | exact ⟨r1.three.1, r1.three.2.1, r1.three.2.2, rB.one.1, rT.three.1, rT.three.2.1, rT.three.2.2, rF.one.1⟩ | exact ⟨o1.three.1, o1.three.2.1, o1.three.2.2, oB.one.1, oT.three.1, oT.three.2.1, oT.three.2.2, oF.one.1⟩)
    (first
      | (go_at_call 107
         refine HBD.out.mono ?_
         rintro e w1 ⟨rfl, hb1⟩
         have q1 := (show Box W.drew _ _ _ from z1).keep hb1 z1.lt
         have q2 := (show Box W.drew _ _ _ from z2).keep hb1 z2.lt
         have qT := (show Box W.drew _ _ _ from xT).keep hb1 xT.lt
         have qB := (show Box W.drew _ _ _ from xB).keep hb1 xB.lt
         have qF := (show Box W.drew _ _ _ from xF).keep hb1 xF.lt
         have hbw : Below w.heap.size w w1 := hb.drew.trans (hb1.mono hb.size)
         clear hb1)
      | (go_at_call 114
         refine (IH.out _ _ hbw (Rd.keep hbw _ _ HV.out)).mono ?_
         intro e w2 hE
         obtain ⟨k3, h3, A3, n3, c3, bo, rfl, hout, hb2⟩ := hE.uni
         have r1 := q1.keep hb2 q1.lt
         have r2 := q2.keep hb2 q2.lt
         have rT := qT.keep hb2 qT.lt
         have rB := qB.keep hb2 qB.lt
         have rF := qF.keep hb2 qF.lt
         have hbw2 : Below w.heap.size w w2 := hbw.trans (hb2.mono hbw.size)
         have s1 := hbw.size
         have s2 := q2.lt
         have HO := Lib.hid hout; clear hout hb2 hE
         obtain ⟨y0, y1, y2⟩ := r2.three
         have f0 := r2.frozen 0
         have f1 := r2.frozen 1
         have f2 := r2.frozen 2
         have o1 := r1.other3 (a := w.heap.size + 1) (by omega) (.int .i64 k3) (.int .i64 h3) (.slice A3 n3 c3)
         have oT := rT.other3 (a := w.heap.size + 1) (by omega) (.int .i64 k3) (.int .i64 h3) (.slice A3 n3 c3)
         have oB := rB.other3 (a := w.heap.size + 1) (by omega) (.int .i64 k3) (.int .i64 h3) (.slice A3 n3 c3)
         have oF := rF.other3 (a := w.heap.size + 1) (by omega) (.int .i64 k3) (.int .i64 h3) (.slice A3 n3 c3)))
  clear o1 oT oB oF
  go_wp2_with fail
  refine bodyPost_ret (v := .tuple #[.agg #[.int .i64 k3, .int .i64 h3, .slice A3 n3 c3], .bool bo]) (by simp [results, Tryz.results127, go_sem, y0, y1, y2]) rfl ?_
  exact (HO.out.move s1 fun g hg _ => heap_other3 _ _ _ _ _ _ (by omega)).rend (below_set3 hbw2 (by omega) _ _ _)
theorem OwL.owT {w : World} {lo n : Nat} {ys : List T} {v : Value} {k h : Int} (hl : OwL w lo n ys v) (hk : (Lit.int .i64 k).wf = true) (hh : (Lit.int .i64 h).wf = true) (hn : n ≤ maxLen) : OwT w lo (.node k h ys) (.agg #[.int .i64 k, .int .i64 h, v]) := by
  obtain ⟨hy, ⟨rfl, rfl⟩ | ⟨b, cs, rfl, hb, hx, hs, hkd⟩⟩ := hl
  · exact ⟨none, 0, 0, rfl, hk, hh, hy, Nat.le_refl _, Nat.zero_le _, .inl rfl⟩
  · exact ⟨_, n, n, rfl, hk, hh, hy, Nat.le_refl _, hn, .inr ⟨b, cs, rfl, hb, hx, hs, hkd⟩⟩
theorem OwL.move {w w' : World} {lo lo' n : Nat} {ys : List T} {v : Value} (h : OwL w lo n ys v) (hl : lo' ≤ lo) (hm : ∀ g, lo ≤ g → g < w.heap.size → w'.heap[g]? = w.heap[g]?) : OwL w' lo' n ys v := by
  obtain ⟨hy, h | ⟨b, cs, rfl, hb, hx, hs, hkd⟩⟩ := h
  · exact ⟨hy, .inl h⟩
  · exact ⟨hy, .inr ⟨b, cs, rfl, by omega, (hm b hb hx.lt).trans hx, hs, hkd.move fun g hg hg' => hm g (by omega) hg'⟩⟩
theorem OwL.full {w : World} {lo n : Nat} {ys : List T} {v : Value} (h : OwL w lo n ys v) : ∃ A c, v = .slice A n c := by
  obtain ⟨hy, ⟨rfl, rfl⟩ | ⟨b, cs, rfl, hb, hx, hs, hkd⟩⟩ := h
  · exact ⟨none, 0, rfl⟩
  · exact ⟨_, _, rfl⟩
theorem wf_wrap64 (x : Int) : (Lit.int .i64 (wrap64 x)).wf = true := by
  have h : -9223372036854775808 ≤ wrap64 x ∧ wrap64 x ≤ 9223372036854775807 := by unfold wrap64; omega
  simpa [Lit.wf, IntKind.min, IntKind.max, IntKind.signed, IntKind.bits] using h
set_option maxRecDepth 100000 in
set_option maxHeartbeats 8000000 in
theorem renumC {g : FuncId} {m : Value} {tf : Int → Option Int} (w0 : World) (HT : ToB g m tf w0) (hen : ∀ (args : Array Value) (W : World), Sem.run Tryz.prog (callFunc g args) W = .ok (.enter g args) W) (t : T) : ∀ (b : Int) (v : Value) (w : World), 0 ≤ b → b + nd t ≤ 1099511627776 → Below w0.heap.size w0 w → Rd w t v → wd t ≤ 3518437208780 → Calls Tryz.prog 114 #[v, .int .i64 b, .func (.func g) #[m] #[]] w (REnd (rn tf t b) w) := by
  induction t using T.ind with
  | step k h xs ih =>
    intro b v w hb0 hbn h0w hv hwd
    have hbh : wrap64 b = b := wrap_small (by omega) (by rw [nd] at hbn; omega)
    obtain ⟨A, n, c, rfl, hk, hh, hn, hc, hm, hx⟩ := Rd_node.1 hv
    clear hv
    have hwd' : n ≤ 3518437208780 ∧ ∀ t ∈ xs, wd t ≤ 3518437208780 := by
      rw [wd] at hwd
      exact ⟨by omega, fun t ht => by have := wd_mem ht; omega⟩
    obtain ⟨hn40, hwds⟩ := hwd'
    clear hwd
    obtain ⟨W, hW⟩ : ∃ W, (((w.alloc (.cells #[.int .i64 k, .int .i64 h, .slice A n c] 36)).alloc (.cells #[.int .i64 b] 3)).alloc (.cells #[.func (.func g) #[m] #[]] 136)).alloc (.cells #[.int .i64 0, .int .i64 0, .slice none 0 0] 36) = W := ⟨_, rfl⟩
    have hb : Below w.heap.size w W := by rw [← hW]; exact ((((Below.refl _ _).alloc (Nat.le_refl _) _).alloc (by simp) _).alloc (by simp; omega) _).alloc (by simp; omega) _
    have xT : Box W w.heap.size 36 #[.int .i64 k, .int .i64 h, .slice A n c] := by rw [← hW]; exact (((Box.new _ _ _).alloc _).alloc _).alloc _
    have xB : Box W (w.heap.size + 1) 3 #[.int .i64 b] := by rw [← hW]; exact (((Box.new (w.alloc _) _ _).at (by simp)).alloc _).alloc _
    have xF : Box W (w.heap.size + 1 + 1) 136 #[.func (.func g) #[m] #[]] := by rw [← hW]; exact ((Box.new ((w.alloc _).alloc _) _ _).at (by simp)).alloc _
    have xR : Box W (w.heap.size + 1 + 1 + 1) 36 #[.int .i64 0, .int .i64 0, .slice none 0 0] := by rw [← hW]; exact (Box.new (((w.alloc _).alloc _).alloc _) _ _).at (by simp)
    have hE : ∀ W', Below W.heap.size W W' → Calls Tryz.prog 126 #[.slice A n c, .func (.func 127) #[] #[.pointer (some ⟨w.heap.size + 1, 0, none⟩), .pointer (some ⟨w.heap.size, 0, none⟩), .pointer (some ⟨w.heap.size + 1 + 1, 0, none⟩)]] W' (EEnd (rnL tf k xs.length xs 0 b) n W') := fun W' hW' => by
      rw [rnL_each, hn]
      refine eachC xs A n c _ _ _ (fun i t => rn tf t (wrap64 (b + bd k n i))) W' hn hc hm hn40 (fun i t ht => RdAt.keep (hb.trans (hW'.mono hb.size)) (hx i t ht)) fun i t v W2 hit hb2 hv => ?_
      have hin : i < n := by have := (List.getElem?_eq_some_iff.1 hit).1; omega
      have hbb : Below W.heap.size W W2 := hW'.trans (hb2.mono hW'.size)
      have hmt := nd_mem (List.mem_of_getElem? hit)
      have hbd : bd k n i = 0 ∨ bd k n i = 1 := by rw [bd]; split <;> simp
      have hws : wrap64 (b + bd k n i) = b + bd k n i := wrap_small (by omega) (by rw [nd] at hbn; omega)
      have h0b : Below w0.heap.size w0 W2 := h0w.trans ((hb.trans (hbb.mono hb.size)).mono h0w.size)
      exact closureC t k h A n c hc hm i (by omega) b v W2 _ _ _ (fun v w' hbw hv => ih t (List.mem_of_getElem? hit) _ v w' (by omega) (by rw [nd] at hbn; omega) (h0b.trans (hbw.mono h0b.size)) hv (hwds t (List.mem_of_getElem? hit))) (xT.keep hbb xT.lt) (xB.keep hbb xB.lt) (xF.keep hbb xF.lt) hv
    have HE := Lib.hid hE; clear hE
    have hrn : rn tf (.node k h xs) b = (rnH tf k h b).bind fun h' => (rnL tf k xs.length xs 0 b).map (.node k h') := by rw [rn]
    have HRN := Lib.hid hrn; clear hrn
    have h0W : Below w0.heap.size w0 W := h0w.trans (hb.mono h0w.size)
    have HTT := Lib.hid (show ∀ x, 0 ≤ x → Calls Tryz.prog g #[m, .int .i64 x] W fun e w' => ∃ y, e = .returned (.tuple #[.int .i64 y, .bool (tf x).isSome]) ∧ (∀ f, tf x = some f → y = f) ∧ Below W.heap.size W w' from fun x hx => HT x W hx h0W)
    have HB0 := Lib.hid hb0
    clear hb0 hbn h0w hbh h0W
    have HEN := hen
    clear ih hwds hx
    have HWW := Lib.hid hW; clear hW
    have HN := Lib.hid hn; clear hn
    have HMM := Lib.hid (show n ≤ maxLen from Nat.le_trans hc hm)
    by_cases hvar : k = 4 ∧ b ≤ h
    · obtain ⟨rfl, hbh⟩ := hvar
      have d1 : decide (b ≤ h) = true := by simpa using hbh
      have hwf : Hid (h ≤ 9223372036854775807) := Lib.hid (by simp [Lit.wf, IntKind.min, IntKind.max, IntKind.signed, IntKind.bits] at hh; omega)
      have hH : rnH tf 4 h b = (tf (wrap64 (h - b))).map (fun f => wrap64 (f + b)) := by rw [rnH, if_pos ⟨rfl, hbh⟩]
      have hsub : IntKind.i64.wrap (h - b) = wrap64 (h - b) := wrapEq _
      have HHH := Lib.hid hH; clear hH
      go_enter Tryz.func114, Tryz.ntmps114
      go_wp2_with fail
      rw [HWW.out]
      clear HWW
      refine (HTT.out (wrap64 (h - b)) (by have hw := hwf.out; have hb0 := HB0.out; rw [wrap_small (by omega) (by omega)]; omega)).mono ?_
      rintro e w1 ⟨y, rfl, hy, hb1⟩
      cases htf : tf (wrap64 (h - b)) with
      | none =>
        clear hy
        have zR := xR.keep hb1 xR.lt
        have HB := Lib.hid (hb.trans (hb1.mono hb.size))
        clear hb1
        obtain ⟨y0, y1, y2⟩ := zR.three
        have f0 := zR.frozen 0
        have f1 := zR.frozen 1
        have f2 := zR.frozen 2
        simp only [Option.isSome_none]
        go_wp2_with fail
        refine bodyPost_ret (v := .tuple #[.agg #[.int .i64 0, .int .i64 0, .slice none 0 0], .bool false]) (by simp [results, Tryz.results114, go_sem, y0, y1, y2]) rfl ?_
        exact ⟨below_set3 HB.out (by omega) _ _ _, .inr ⟨by rw [HRN.out, HHH.out, htf]; rfl, rfl⟩⟩
      | some f =>
        obtain rfl : f = y := (hy f htf).symm
        clear hy
        have hr : rn tf (.node 4 h xs) b = (rnL tf 4 xs.length xs 0 b).map (.node 4 (wrap64 (f + b))) := by rw [HRN.out, HHH.out, htf]; rfl
        have HR := Lib.hid hr; clear hr HHH HRN
        generalize rn tf (.node 4 h xs) b = R at *
        generalize rnL tf 4 xs.length xs 0 b = L at *
        have hsum : IntKind.i64.wrap (f + b) = wrap64 (f + b) := wrapEq _
        simp only [Option.isSome_some]
        clear htf
        obtain ⟨c0, c1, c2⟩ := (xT.keep hb1 xT.lt).three
        have d0 := (xB.keep hb1 xB.lt).one.1
        have e0 := (xF.keep hb1 xF.lt).one.1
        go_wp2_with fail
        clear c0 c1 c2 d0 e0
        refine (HE.out _ hb1).mono ?_
        rintro e w2 ⟨hb2, ⟨ys, v', hL, rfl, how⟩ | ⟨hL, rfl⟩⟩
        · obtain ⟨A', c', rfl⟩ := how.full
          have s1 : W.heap.size ≤ w1.heap.size := (show Below W.heap.size W w1 from hb1).size
          have hbw : Below W.heap.size W w2 := (show Below W.heap.size W w1 from hb1).trans (hb2.mono s1)
          have l3 := xR.lt
          have zT := xT.keep hbw xT.lt
          have zR := xR.keep hbw xR.lt
          have HB := Lib.hid (hb.trans (hbw.mono hb.size))
          have HO := Lib.hid how; clear how
          clear hb2 hbw
          obtain ⟨c0, c1, c2⟩ := zT.three
          obtain ⟨y0, y1, y2⟩ := zR.three
          have f0 := zR.frozen 0
          have f1 := zR.frozen 1
          have f2 := zR.frozen 2
          go_wp2_with fail
          refine bodyPost_ret (v := .tuple #[.agg #[.int .i64 4, .int .i64 (wrap64 (f + b)), .slice A' n c'], .bool true]) (by simp [results, Tryz.results114, go_sem, y0, y1, y2]) rfl ?_
          refine ⟨below_set3 HB.out (by omega) _ _ _, .inl ⟨_, _, by rw [HR.out, hL]; rfl, rfl, ?_⟩⟩
          exact (HO.out.move (by have := hb.size; omega) fun g hg _ => heap_other3 _ _ _ _ _ _ (by omega)).owT hk (wf_wrap64 _) HMM.out
        · have s1 : W.heap.size ≤ w1.heap.size := (show Below W.heap.size W w1 from hb1).size
          have hbw : Below W.heap.size W w2 := (show Below W.heap.size W w1 from hb1).trans (hb2.mono s1)
          have zR := xR.keep hbw xR.lt
          have HB := Lib.hid (hb.trans (hbw.mono hb.size))
          clear hb2 hbw
          obtain ⟨y0, y1, y2⟩ := zR.three
          have f0 := zR.frozen 0
          have f1 := zR.frozen 1
          have f2 := zR.frozen 2
          go_wp2_with fail
          refine bodyPost_ret (v := .tuple #[.agg #[.int .i64 0, .int .i64 0, .slice none 0 0], .bool false]) (by simp [results, Tryz.results114, go_sem, y0, y1, y2]) rfl ?_
          exact ⟨below_set3 HB.out (by omega) _ _ _, .inr ⟨by rw [HR.out, hL]; rfl, rfl⟩⟩
    · have hH : rnH tf k h b = some h := by rw [rnH, if_neg hvar]
      have hr : rn tf (.node k h xs) b = (rnL tf k xs.length xs 0 b).map (.node k h) := by rw [HRN.out, hH]; rfl
      have HR := Lib.hid hr; clear hr hH HRN
      generalize rn tf (.node k h xs) b = R at *
      generalize rnL tf k xs.length xs 0 b = L at *
      by_cases hk4 : k = 4
      · subst hk4
        have d1 : decide (b ≤ h) = false := by simp; omega
        clear hvar
        go_enter Tryz.func114, Tryz.ntmps114
        go_wp2_with fail
        rw [HWW.out]
        clear HWW
        refine (HE.out _ (Below.refl _ _)).mono ?_
        rintro e w2 ⟨hb2, ⟨ys, v', hL, rfl, how⟩ | ⟨hL, rfl⟩⟩
        · obtain ⟨A', c', rfl⟩ := how.full
          have s1 : W.heap.size ≤ W.heap.size := (show Below W.heap.size W W from (Below.refl _ _)).size
          have hbw : Below W.heap.size W w2 := (show Below W.heap.size W W from (Below.refl _ _)).trans (hb2.mono s1)
          have l3 := xR.lt
          have zT := xT.keep hbw xT.lt
          have zR := xR.keep hbw xR.lt
          have HB := Lib.hid (hb.trans (hbw.mono hb.size))
          have HO := Lib.hid how; clear how
          clear hb2 hbw
          obtain ⟨c0, c1, c2⟩ := zT.three
          obtain ⟨y0, y1, y2⟩ := zR.three
          have f0 := zR.frozen 0
          have f1 := zR.frozen 1
          have f2 := zR.frozen 2
          go_wp2_with fail
          refine bodyPost_ret (v := .tuple #[.agg #[.int .i64 4, .int .i64 h, .slice A' n c'], .bool true]) (by simp [results, Tryz.results114, go_sem, y0, y1, y2]) rfl ?_
          refine ⟨below_set3 HB.out (by omega) _ _ _, .inl ⟨_, _, by rw [HR.out, hL]; rfl, rfl, ?_⟩⟩
          exact (HO.out.move (by have := hb.size; omega) fun g hg _ => heap_other3 _ _ _ _ _ _ (by omega)).owT hk hh HMM.out
        · have s1 : W.heap.size ≤ W.heap.size := (show Below W.heap.size W W from (Below.refl _ _)).size
          have hbw : Below W.heap.size W w2 := (show Below W.heap.size W W from (Below.refl _ _)).trans (hb2.mono s1)
          have zR := xR.keep hbw xR.lt
          have HB := Lib.hid (hb.trans (hbw.mono hb.size))
          clear hb2 hbw
          obtain ⟨y0, y1, y2⟩ := zR.three
          have f0 := zR.frozen 0
          have f1 := zR.frozen 1
          have f2 := zR.frozen 2
          go_wp2_with fail
          refine bodyPost_ret (v := .tuple #[.agg #[.int .i64 0, .int .i64 0, .slice none 0 0], .bool false]) (by simp [results, Tryz.results114, go_sem, y0, y1, y2]) rfl ?_
          exact ⟨below_set3 HB.out (by omega) _ _ _, .inr ⟨by rw [HR.out, hL]; rfl, rfl⟩⟩
      · have e1 : (k == 4) = false := by simpa using hk4
        clear hvar
        have HK4 := Lib.hid hk4; clear hk4
        go_enter Tryz.func114, Tryz.ntmps114
        go_wp2_with fail
        rw [HWW.out]
        clear HWW
        refine (HE.out _ (Below.refl _ _)).mono ?_
        rintro e w2 ⟨hb2, ⟨ys, v', hL, rfl, how⟩ | ⟨hL, rfl⟩⟩
        · obtain ⟨A', c', rfl⟩ := how.full
          have s1 : W.heap.size ≤ W.heap.size := (show Below W.heap.size W W from (Below.refl _ _)).size
          have hbw : Below W.heap.size W w2 := (show Below W.heap.size W W from (Below.refl _ _)).trans (hb2.mono s1)
          have l3 := xR.lt
          have zT := xT.keep hbw xT.lt
          have zR := xR.keep hbw xR.lt
          have HB := Lib.hid (hb.trans (hbw.mono hb.size))
          have HO := Lib.hid how; clear how
          clear hb2 hbw
          obtain ⟨c0, c1, c2⟩ := zT.three
          obtain ⟨y0, y1, y2⟩ := zR.three
          have f0 := zR.frozen 0
          have f1 := zR.frozen 1
          have f2 := zR.frozen 2
          go_wp2_with fail
          refine bodyPost_ret (v := .tuple #[.agg #[.int .i64 k, .int .i64 h, .slice A' n c'], .bool true]) (by simp [results, Tryz.results114, go_sem, y0, y1, y2]) rfl ?_
          refine ⟨below_set3 HB.out (by omega) _ _ _, .inl ⟨_, _, by rw [HR.out, hL]; rfl, rfl, ?_⟩⟩
          exact (HO.out.move (by have := hb.size; omega) fun g hg _ => heap_other3 _ _ _ _ _ _ (by omega)).owT hk hh HMM.out
        · have s1 : W.heap.size ≤ W.heap.size := (show Below W.heap.size W W from (Below.refl _ _)).size
          have hbw : Below W.heap.size W w2 := (show Below W.heap.size W W from (Below.refl _ _)).trans (hb2.mono s1)
          have zR := xR.keep hbw xR.lt
          have HB := Lib.hid (hb.trans (hbw.mono hb.size))
          clear hb2 hbw
          obtain ⟨y0, y1, y2⟩ := zR.three
          have f0 := zR.frozen 0
          have f1 := zR.frozen 1
          have f2 := zR.frozen 2
          go_wp2_with fail
          refine bodyPost_ret (v := .tuple #[.agg #[.int .i64 0, .int .i64 0, .slice none 0 0], .bool false]) (by simp [results, Tryz.results114, go_sem, y0, y1, y2]) rfl ?_
          exact ⟨below_set3 HB.out (by omega) _ _ _, .inr ⟨by rw [HR.out, hL]; rfl, rfl⟩⟩
theorem ToC.at {g : FuncId} {m : Value} {tf : Int → Option Int} (h : ToC g m tf) (w0 : World) : ToB g m tf w0 := fun x w _ _ => (h x w).mono fun e w' ⟨e1, e2⟩ => ⟨_, e1, fun f hf => by rw [hf]; rfl, e2⟩
set_option maxRecDepth 100000 in
set_option maxHeartbeats 4000000 in
/-- Renumber -/
theorem RenumC {g : FuncId} {m : Value} {tf : Int → Option Int} (hen : ∀ (args : Array Value) (W : World), Sem.run Tryz.prog (callFunc g args) W = .ok (.enter g args) W) (t : T) (v : Value) (w : World) (HT : ToB g m tf w) (hn : nd t ≤ 1048576) (hv : Rd w t v) : Calls Tryz.prog 101 #[v, .func (.func g) #[m] #[]] w (REnd (rn tf t 0) w) := by
  have hwd : wd t ≤ 3518437208780 := by have := wd_nd t; omega
  obtain ⟨k, h, A, n, c, rfl⟩ := hv.full
  have HV := Lib.hid hv; clear hv
  have HTT := Lib.hid HT; clear HT
  obtain ⟨W, hW⟩ : ∃ W, (w.alloc (.cells #[.int .i64 k, .int .i64 h, .slice A n c] 36)).alloc (.cells #[.int .i64 0, .int .i64 0, .slice none 0 0] 36) = W := ⟨_, rfl⟩
  have hb : Below w.heap.size w W := by rw [← hW]; exact ((Below.refl _ _).alloc (Nat.le_refl _) _).alloc (by simp) _
  have xT : Box W w.heap.size 36 #[.int .i64 k, .int .i64 h, .slice A n c] := by rw [← hW]; exact (Box.new _ _ _).alloc _
  have xR : Box W (w.heap.size + 1) 36 #[.int .i64 0, .int .i64 0, .slice none 0 0] := by rw [← hW]; exact (Box.new (w.alloc _) _ _).at (by simp)
  have HWW := Lib.hid hW; clear hW
  have HR : Hid (Calls Tryz.prog 114 #[.agg #[.int .i64 k, .int .i64 h, .slice A n c], .int .i64 0, .func (.func g) #[m] #[]] W (REnd (rn tf t 0) W)) := Lib.hid (renumC w HTT.out hen t 0 _ W (Int.le_refl _) (by omega) hb (Rd.keep hb _ _ HV.out) hwd)
  clear hwd hn
  obtain ⟨c0, c1, c2⟩ := xT.three
  go_enter Tryz.func101, Tryz.ntmps101
  go_wp2_with fail
  rw [HWW.out]
  clear HWW
  refine HR.out.mono ?_
  intro e w3 hE
  obtain ⟨k3, h3, A3, n3, c3, bo, rfl, hout, hb2⟩ := hE.uni
  have lR := xR.lt
  have zR := xR.keep hb2 lR
  have HB := Lib.hid (hb.trans (hb2.mono hb.size))
  have HO := Lib.hid hout; clear hout hb2 hE
  clear c0 c1 c2
  obtain ⟨r0, r1, r2⟩ := zR.three
  have f0 := zR.frozen 0
  have f1 := zR.frozen 1
  have f2 := zR.frozen 2
  go_wp2_with fail
  refine bodyPost_ret (v := .tuple #[.agg #[.int .i64 k3, .int .i64 h3, .slice A3 n3 c3], .bool bo]) (by simp [results, Tryz.results101, go_sem, r0, r1, r2]) rfl ?_
  exact (HO.out.move hb.size fun g hg _ => heap_other3 _ _ _ _ _ _ (by omega)).rend (below_set3 HB.out (by omega) _ _ _)
theorem entersUp (args : Array Value) (W : World) : Sem.run Tryz.prog (callFunc 102 args) W = .ok (.enter 102 args) W := by
  simp [callFunc, go_sem, Tryz.func102, Tryz.f102]
end Go.Proofs.YtmkahbbcagfbhaaGreatDoor
/-
  Contracts of package shift's Up and Down.
-/
namespace Go.Proofs.YtmkahbbcagfbhaaGreatDoor
open Go.ChangeShapes Go.WideShapes Go.ChangeAt Go.RowKit
set_option linter.unusedVariables false
/-- what Up tells -/
def upX (t : T) (b f : Int) : T := if (mvB b f && mayB t) = true then (rn (upTo b f) t 0).getD t else t
mutual
theorem rn_up_some (b f : Int) : ∀ (t : T) (s : Int), ∃ u, rn (upTo b f) t s = some u
  | .node k h xs, s => by
    obtain ⟨ys, hy⟩ := rnL_up_some b f k xs.length xs 0 s
    obtain ⟨h', hh⟩ : ∃ h', rnH (upTo b f) k h s = some h' := by
      rw [rnH]
      split
      · obtain ⟨x, hx⟩ : ∃ x, upTo b f (wrap64 (h - s)) = some x := by
          rw [upTo]; split <;> exact ⟨_, rfl⟩
        exact ⟨_, by rw [hx]; rfl⟩
      · exact ⟨_, rfl⟩
    exact ⟨_, by rw [rn, hh, hy]; rfl⟩
theorem rnL_up_some (b f k : Int) (n : Nat) : ∀ (xs : List T) (i : Nat) (s : Int), ∃ ys, rnL (upTo b f) k n xs i s = some ys
  | [], i, s => ⟨[], by rw [rnL]⟩
  | t :: ts, i, s => by
    obtain ⟨u, hu⟩ := rn_up_some b f t (wrap64 (s + bd k n i))
    obtain ⟨ys, hy⟩ := rnL_up_some b f k n ts (i + 1) s
    exact ⟨_, by rw [rnL, hu, hy]; rfl⟩
end
set_option maxRecDepth 100000 in
set_option maxHeartbeats 4000000 in
theorem upC (t : T) (b f : Int) (v : Value) (w : World) (hv : Rd w t v) (hs : nd t ≤ 1048576) : Calls Tryz.prog 91 #[v, .int .i64 b, .int .i64 f] w (OEnd (upX t b f) w) := by
  obtain ⟨k, h, A, n, c, rfl⟩ := hv.full
  have hwd : wd t ≤ 3518437208780 := by have := wd_nd t; omega
  have HV := Lib.hid hv; clear hv
  have HS := Lib.hid hs; clear hs
  have HWD := Lib.hid hwd; clear hwd
  obtain ⟨W, hW⟩ : ∃ W, ((w.alloc (.cells #[.int .i64 k, .int .i64 h, .slice A n c] 36)).alloc (.cells #[.int .i64 0, .int .i64 0, .slice none 0 0] 36)).alloc (.cells #[.int .i64 b, .int .i64 f] 133) = W := ⟨_, rfl⟩
  have hb : Below w.heap.size w W := by rw [← hW]; exact (((Below.refl _ _).alloc (Nat.le_refl _) _).alloc (by simp) _).alloc (by simp; omega) _
  have xT : Box W w.heap.size 36 #[.int .i64 k, .int .i64 h, .slice A n c] := by rw [← hW]; exact ((Box.new _ _ _).alloc _).alloc _
  have xR : Box W (w.heap.size + 1) 36 #[.int .i64 0, .int .i64 0, .slice none 0 0] := by rw [← hW]; exact ((Box.new (w.alloc _) _ _).at (by simp)).alloc _
  have xM : Box W (w.heap.size + 1 + 1) 133 #[.int .i64 b, .int .i64 f] := by rw [← hW]; exact (Box.new ((w.alloc _).alloc _) _ _).at (by simp)
  have HWW := Lib.hid hW; clear hW
  have HU : Hid (upX t b f = if (mvB b f && mayB t) = true then (rn (upTo b f) t 0).getD t else t) := Lib.hid rfl
  have HO : Hid (∀ W', Below w.heap.size w W' → Calls Tryz.prog 100 #[.agg #[.int .i64 k, .int .i64 h, .slice A n c]] W' (OEnd t W')) := Lib.hid fun W' h' => termOwn t _ _ (Rd.keep h' _ _ HV.out) HWD.out
  have HM : Hid (∀ W', Below w.heap.size w W' → Calls Tryz.prog 33 #[.agg #[.int .i64 k, .int .i64 h, .slice A n c]] W' fun e w' => e = .returned (.bool (mayB t)) ∧ Below W'.heap.size W' w') := Lib.hid fun W' h' => mayC t _ _ (Rd.keep h' _ _ HV.out) HS.out
  have HMV : Hid (∀ W', Calls Tryz.prog 99 #[.agg #[.int .i64 b, .int .i64 f]] W' fun e w' => e = .returned (.bool (mvB b f)) ∧ Below W'.heap.size W' w') := Lib.hid fun W' => mayM b f W'
  go_enter Tryz.func91, Tryz.ntmps91
  go_wp2_with fail
  rw [HWW.out]
  clear HWW
  refine (HMV.out W).mono ?_
  generalize mvB b f = M1 at *
  rintro e w1 ⟨rfl, hb1⟩
  replace xT := xT.keep hb1 xT.lt
  replace xR := xR.keep hb1 xR.lt
  replace xM := xM.keep hb1 xM.lt
  replace hb := hb.trans (hb1.mono hb.size)
  clear hb1
  obtain ⟨c0, c1, c2⟩ := xT.three
  obtain ⟨m0, m1⟩ := xM.two
  obtain ⟨r0, r1, r2⟩ := xR.three
  cases M1
  · go_wp2_with fail
    refine (HO.out _ hb).mono ?_
    rintro e w2 ⟨v2, rfl, how, hb2⟩
    obtain ⟨k3, h3, A3, n3, c3, rfl⟩ := how.full
    have lR := xR.lt
    have zR := xR.keep hb2 lR
    have HB := Lib.hid (hb.trans (hb2.mono hb.size))
    have HW := Lib.hid how; clear how hb2
    clear r0 r1 r2
    obtain ⟨r0, r1, r2⟩ := zR.three
    have f0 := zR.frozen 0
    have f1 := zR.frozen 1
    have f2 := zR.frozen 2
    go_wp2_with fail
    refine bodyPost_ret (v := .agg #[.int .i64 k3, .int .i64 h3, .slice A3 n3 c3]) (by simp [results, Tryz.results91, go_sem, r0, r1, r2]) rfl ?_
    have hup : upX t b f = t := by rw [HU.out]; simp
    refine ⟨_, rfl, ?_, below_set3 HB.out (by omega) _ _ _⟩
    rw [hup]
    exact HW.out.move (by have := hb.size; omega) fun g hg _ => heap_other3 _ _ _ _ _ _ (by omega)
  go_wp2_with fail
  refine (HM.out _ hb).mono ?_
  generalize mayB t = M2 at *
  rintro e w2 ⟨rfl, hb2⟩
  replace xT := xT.keep hb2 xT.lt
  replace xR := xR.keep hb2 xR.lt
  replace xM := xM.keep hb2 xM.lt
  replace hb := hb.trans (hb2.mono hb.size)
  clear hb2 c0 c1 c2 m0 m1 r0 r1 r2
  obtain ⟨c0, c1, c2⟩ := xT.three
  obtain ⟨m0, m1⟩ := xM.two
  obtain ⟨r0, r1, r2⟩ := xR.three
  cases M2
  · go_wp2_with fail
    refine (HO.out _ hb).mono ?_
    rintro e w3 ⟨v2, rfl, how, hb2⟩
    obtain ⟨k3, h3, A3, n3, c3, rfl⟩ := how.full
    have lR := xR.lt
    have zR := xR.keep hb2 lR
    have HB := Lib.hid (hb.trans (hb2.mono hb.size))
    have HW := Lib.hid how; clear how hb2
    clear r0 r1 r2
    obtain ⟨r0, r1, r2⟩ := zR.three
    have f0 := zR.frozen 0
    have f1 := zR.frozen 1
    have f2 := zR.frozen 2
    go_wp2_with fail
    refine bodyPost_ret (v := .agg #[.int .i64 k3, .int .i64 h3, .slice A3 n3 c3]) (by simp [results, Tryz.results91, go_sem, r0, r1, r2]) rfl ?_
    have hup : upX t b f = t := by rw [HU.out]; simp
    refine ⟨_, rfl, ?_, below_set3 HB.out (by omega) _ _ _⟩
    rw [hup]
    exact HW.out.move (by have := hb.size; omega) fun g hg _ => heap_other3 _ _ _ _ _ _ (by omega)
  go_wp2_with fail
  refine (RenumC entersUp t _ _ ((upM b f).at _) HS.out (Rd.keep hb _ _ HV.out)).mono ?_
  obtain ⟨u, hu⟩ := rn_up_some b f t 0
  rw [hu]
  rintro e w3 ⟨hb2, ⟨t', v', ht', rfl, how⟩ | ⟨ht', rfl⟩⟩
  · cases ht'
    obtain ⟨k3, h3, A3, n3, c3, rfl⟩ := how.full
    have lR := xR.lt
    have zR := xR.keep hb2 lR
    have sz := hb2.size
    have HB := Lib.hid (hb.trans (hb2.mono hb.size))
    have HW := Lib.hid how; clear how hb2
    clear r0 r1 r2
    obtain ⟨r0, r1, r2⟩ := zR.three
    have f0 := zR.frozen 0
    have f1 := zR.frozen 1
    have f2 := zR.frozen 2
    have lz := zR.lt
    go_wp2_with fail
    refine bodyPost_ret (v := .agg #[.int .i64 k3, .int .i64 h3, .slice A3 n3 c3]) (by simp [results, Tryz.results91, go_sem, r0, r1, r2, lz]) rfl ?_
    have hup : upX t b f = u := by rw [HU.out, hu]; simp
    refine ⟨_, rfl, ?_, (below_set3 HB.out (by omega) _ _ _).alloc (by simp; omega) _⟩
    rw [hup]
    exact HW.out.move (by have := hb.size; omega) fun g hg hg' => by rw [Below.heap_alloc _ _ _ (by simpa using hg')]; exact heap_other3 _ _ _ _ _ _ (by omega)
  · cases ht'
end Go.Proofs.YtmkahbbcagfbhaaGreatDoor
/-
  Terms up and down, as plain functions without wrap-round: what package shift tells of terms that may be.
-/
namespace Go.Proofs.YtmkahbbcagfbhaaGreatDoor
open Go.RowKit
set_option linter.unusedVariables false
mutual
def upT (b : Int) : T → Int → T
  | .node k h xs, f => .node k (if k = 4 ∧ f ≤ h then h + b else h) (upL b k xs.length xs 0 f)
def upL (b k : Int) (n : Nat) : List T → Nat → Int → List T
  | [], _, _ => []
  | t :: ts, i, f => upT b t (f + bd k n i) :: upL b k n ts (i + 1) f
end
mutual
/-- the Heads of variables are from 0 to M -/
def okT (M : Int) : T → Prop
  | .node k h xs => (k = 4 → 0 ≤ h ∧ h ≤ M) ∧ okL M xs
def okL (M : Int) : List T → Prop
  | [] => True
  | t :: ts => okT M t ∧ okL M ts
end
theorem upL_len (b k : Int) (n : Nat) : ∀ (xs : List T) (i : Nat) (f : Int), (upL b k n xs i f).length = xs.length
  | [], _, _ => by rw [upL]
  | t :: ts, i, f => by rw [upL, List.length_cons, List.length_cons, upL_len b k n ts]
/-! ### What the program tells -/
mutual
theorem rn_up {M b f : Int} (hM : M ≤ 1125899906842624) (hb : 0 ≤ b ∧ b ≤ 1048576) (hf : 0 ≤ f ∧ f ≤ 1048576) : ∀ (t : T) (s : Int), okT M t → 0 ≤ s → s + nd t ≤ 1099511627776 → rn (upTo b f) t s = some (upT b t (f + s))
  | .node k h xs, s, ho, hs, hn => by
    rw [okT] at ho
    rw [nd] at hn
    have hh : rnH (upTo b f) k h s = some (if k = 4 ∧ f + s ≤ h then h + b else h) := by
      rw [rnH]
      by_cases hk : k = 4
      · have h1 := ho.1 hk
        by_cases h2 : s ≤ h
        · rw [if_pos ⟨hk, h2⟩, wrap_small (by omega) (by omega), upTo]
          by_cases h3 : h - s < f
          · rw [if_pos h3, if_neg (by omega), Option.map_some, wrap_small (by omega) (by omega)]
            congr 1; omega
          · rw [if_neg h3, if_pos ⟨hk, by omega⟩, Option.map_some, wrap_add, wrap_small (by omega) (by omega)]
            congr 1; omega
        · rw [if_neg (by omega), if_neg (by omega)]
      · rw [if_neg (by omega), if_neg (by omega)]
    rw [rn, hh, rnL_up hM hb hf k _ xs 0 s ho.2 hs (by omega), upT]
    rfl
theorem rnL_up {M b f : Int} (hM : M ≤ 1125899906842624) (hb : 0 ≤ b ∧ b ≤ 1048576) (hf : 0 ≤ f ∧ f ≤ 1048576) (k : Int) (n : Nat) : ∀ (xs : List T) (i : Nat) (s : Int), okL M xs → 0 ≤ s → s + 1 + ndL xs ≤ 1099511627776 → rnL (upTo b f) k n xs i s = some (upL b k n xs i (f + s))
  | [], i, s, _, _, _ => by rw [rnL, upL]
  | t :: ts, i, s, ho, hs, hn => by
    rw [okL] at ho
    rw [ndL] at hn
    have hbd := bd_cases k n i
    rw [rnL, wrap_small (by omega) (by omega), rn_up hM hb hf t _ ho.1 (by omega) (by omega), rnL_up hM hb hf k n ts (i + 1) s ho.2 hs (by omega), upL]
    rw [show f + (s + bd k n i) = f + s + bd k n i by omega]
    rfl
end
theorem mvB_iff (b f : Int) : mvB b f = true ↔ (0 ≤ b ∧ b ≤ 1048576) ∧ 0 ≤ f ∧ f ≤ 1048576 := by
  simp only [mvB, Bool.and_eq_true, decide_eq_true_eq]; omega
theorem upX_eq {M : Int} {t : T} {b f : Int} (hM : M ≤ 1125899906842624) (ho : okT M t) (hn : nd t ≤ 1048576) (hm : mayB t = true) (hb : 0 ≤ b ∧ b ≤ 1048576) (hf : 0 ≤ f ∧ f ≤ 1048576) : upX t b f = upT b t f := by
  rw [upX, if_pos (by rw [(mvB_iff b f).2 ⟨hb, hf⟩, hm]; rfl), rn_up hM hb hf t 0 ho (by omega) (by omega), Int.add_zero]
  rfl
/-! ### What is low and may be has good heads -/
theorem okN_head {k h : Int} {n : Nat} (e : okN k h n = true) (hk : k = 4) : 0 ≤ h := by
  rcases okN_cases e with h | h | h | h | h | h | h <;> omega
mutual
theorem okT_of : ∀ t : T, nodB t = true → lowB t = true → okT 1099511627776 t
  | .node k h xs, h1, h2 => by
    rw [nodB, Bool.and_eq_true] at h1
    rw [lowB, Bool.and_eq_true, decide_eq_true_eq] at h2
    rw [okT]
    exact ⟨fun hk => ⟨okN_head h1.1 hk, h2.1⟩, okL_of xs h1.2 h2.2⟩
theorem okL_of : ∀ xs : List T, nodL xs = true → lowL xs = true → okL 1099511627776 xs
  | [], _, _ => by rw [okL]; trivial
  | t :: ts, h1, h2 => by
    rw [nodL, Bool.and_eq_true] at h1
    rw [lowL, Bool.and_eq_true] at h2
    rw [okL]
    exact ⟨okT_of t h1.1 h2.1, okL_of ts h1.2 h2.2⟩
end
mutual
theorem okT_up {M b : Int} (hb : 0 ≤ b) : ∀ (t : T) (f : Int), okT M t → okT (M + b) (upT b t f)
  | .node k h xs, f, ho => by
    rw [okT] at ho
    rw [upT, okT]
    refine ⟨fun hk => ?_, okL_up hb k _ xs 0 f ho.2⟩
    have := ho.1 hk
    split <;> omega
theorem okL_up {M b : Int} (hb : 0 ≤ b) (k : Int) (n : Nat) : ∀ (xs : List T) (i : Nat) (f : Int), okL M xs → okL (M + b) (upL b k n xs i f)
  | [], _, _, _ => by rw [upL, okL]; trivial
  | t :: ts, i, f, ho => by
    rw [okL] at ho
    rw [upL, okL]
    exact ⟨okT_up hb t _ ho.1, okL_up hb k n ts (i + 1) f ho.2⟩
end
/-! ### Sizes, depths, what may be -/
mutual
theorem nd_up (b : Int) : ∀ (t : T) (f : Int), nd (upT b t f) = nd t
  | .node k h xs, f => by rw [upT, nd, nd, ndL_up b k _ xs 0 f]
theorem ndL_up (b k : Int) (n : Nat) : ∀ (xs : List T) (i : Nat) (f : Int), ndL (upL b k n xs i f) = ndL xs
  | [], _, _ => by rw [upL]
  | t :: ts, i, f => by rw [upL, ndL, ndL, nd_up b t, ndL_up b k n ts]
end
mutual
theorem dp_up (b : Int) : ∀ (t : T) (f : Int), dp (upT b t f) = dp t
  | .node k h xs, f => by rw [upT, dp, dp, dpL_up b k _ xs 0 f]
theorem dpL_up (b k : Int) (n : Nat) : ∀ (xs : List T) (i : Nat) (f : Int), dpL (upL b k n xs i f) = dpL xs
  | [], _, _ => by rw [upL]
  | t :: ts, i, f => by rw [upL, dpL, dpL, dp_up b t, dpL_up b k n ts]
end
theorem okN_up {k h h' : Int} {n : Nat} (e : okN k h n = true) (hh : h' = h ∨ (k = 4 ∧ h ≤ h')) : okN k h' n = true := by
  rcases hh with rfl | ⟨rfl, hl⟩
  · exact e
  · have := okN_head e rfl
    simp [okN]; omega
mutual
theorem nodB_up {b : Int} (hb : 0 ≤ b) : ∀ (t : T) (f : Int), nodB t = true → nodB (upT b t f) = true
  | .node k h xs, f, e => by
    rw [nodB, Bool.and_eq_true] at e
    rw [upT, nodB, Bool.and_eq_true, upL_len]
    refine ⟨okN_up e.1 ?_, nodL_up hb k _ xs 0 f e.2⟩
    split
    · rename_i hc; exact .inr ⟨hc.1, by omega⟩
    · exact .inl rfl
theorem nodL_up {b : Int} (hb : 0 ≤ b) (k : Int) (n : Nat) : ∀ (xs : List T) (i : Nat) (f : Int), nodL xs = true → nodL (upL b k n xs i f) = true
  | [], _, _, _ => by rw [upL, nodL]
  | t :: ts, i, f, e => by
    rw [nodL, Bool.and_eq_true] at e
    rw [upL, nodL, Bool.and_eq_true]
    exact ⟨nodB_up hb t _ e.1, nodL_up hb k n ts (i + 1) f e.2⟩
end
mutual
theorem up_zero : ∀ (t : T) (f : Int), upT 0 t f = t
  | .node k h xs, f => by
    rw [upT, upL_zero k _ xs 0 f, Int.add_zero]
    split <;> rfl
theorem upL_zero (k : Int) (n : Nat) : ∀ (xs : List T) (i : Nat) (f : Int), upL 0 k n xs i f = xs
  | [], _, _ => by rw [upL]
  | t :: ts, i, f => by rw [upL, up_zero t, upL_zero k n ts]
end
end Go.Proofs.YtmkahbbcagfbhaaGreatDoor
/-
  What the laws of layer 2 need of terms up and down, as plain facts.
-/
namespace Go.Proofs.YtmkahbbcagfbhaaGreatDoor
open Go.RowKit
set_option linter.unusedVariables false
end Go.Proofs.YtmkahbbcagfbhaaGreatDoor
