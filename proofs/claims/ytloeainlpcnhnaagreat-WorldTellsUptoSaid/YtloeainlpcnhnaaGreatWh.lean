/-
  The contracts of package subst's answer, and of the function that it defers. No statement is proved here.
-/
import Derived.Test.YtloeainlpcnhnaaGreatWg
import Derived.Defers
import Derived.Recover
import Derived.Laws.Pointers
namespace Go.Proofs.YtloeainlpcnhnaaGreat
open Go.ChangeShapes Go.WideShapes Go.ChangeAt Go.RowKit
set_option linter.unusedVariables false

theorem assertStop (ec : Int) (W : World) : (Instr.typeAssert (.iface 151 (.agg #[.int .i64 ec])) 20 151 true).run Tryz.prog W = .ok (.tuple #[.agg #[.int .i64 ec], .bool true]) W := by kernel_rfl
theorem assertNil (W : World) : (Instr.typeAssert .nilIface 20 151 true).run Tryz.prog W = .ok (.tuple #[.agg #[.int .i64 0], .bool false]) W := by kernel_rfl
def CatchQ (pt pe : Nat) (ec : Int) (w : World) (e : Exit) (a : Act) (w' : World) : Prop :=
  e = .normal ∧ a.defers = [] ∧ Box w' pt 44 #[.int .i64 0, .int .i64 0, .slice none 0 0] ∧ Box w' pe 28 #[.int .i64 ec] ∧ Fr (fun k => k = pt ∨ k = pe) w w'
set_option maxRecDepth 100000 in
set_option maxHeartbeats 2000000 in
/-- a frame that panics by an error -/
theorem catch_stop (pt pe : Nat) (ec : Int) (older : List PanicEntry) (w : World) (x0 x1 x2 y : Value) (ht : Box w pt 44 #[x0, x1, x2]) (he : Box w pe 28 #[y]) (hne : pt ≠ pe) :
    CallsD Tryz.prog 138 #[.pointer (some ⟨pt, 0, none⟩), .pointer (some ⟨pe, 0, none⟩)] (.panicking ({ v := .iface 151 (.agg #[.int .i64 ec]), recovered := false } :: older)) w fun e u' w' =>
      e = .returned (.tuple #[]) ∧ u' = .panicking ({ v := .iface 151 (.agg #[.int .i64 ec]), recovered := true } :: older) ∧
      Box w' pt 44 #[.int .i64 0, .int .i64 0, .slice none 0 0] ∧ Box w' pe 28 #[.int .i64 ec] ∧ Fr (fun k => k = pt ∨ k = pe) w w' := by
  refine callsD_of_wpS Tryz.func138 rfl fun c₀ cs hu => ?_
  apply wpS_seq
  apply wpS_region
  simp [wpOpsS, go_sem, recoverD, hu, Tryz.ntmps138, Exit.thenS]
  have hta := assertStop ec
  refine wpS_of_wp ?_
  have HU := Lib.hid hu; clear hu
  refine Code.wp_mono (Q := CatchQ pt pe ec w) (fun e a' w' hq => ?_) ?_
  · obtain ⟨rfl, hd, hq⟩ := hq
    cases c₀
    exact ⟨hd, _, rfl, .tuple #[], results_none rfl _ _ _, rfl, rfl, hq⟩
  simp only [Array.replicate_succ, Array.replicate_zero, List.push_toArray, List.append_toArray, List.nil_append, List.cons_append, List.setIfInBounds_toArray, List.set_cons_zero, List.set_cons_succ]
  go_wp2_with fail
  obtain ⟨W, hW⟩ : ∃ W, w.alloc (.cells #[.int .i64 ec] 151) = W := ⟨_, rfl⟩
  have hb : Below w.heap.size w W := by rw [← hW]; exact (Below.refl _ _).alloc (Nat.le_refl _) _
  have bt' := ht.keep hb ht.lt
  have be' := he.keep hb he.lt
  have bs' : Box W w.heap.size 151 #[.int .i64 ec] := by rw [← hW]; exact Box.new _ _ _
  have lt := ht.lt
  have le := he.lt
  rw [hW]
  clear hW ht he
  obtain ⟨t0, t1, t2⟩ := bt'.three
  have g0 := bt'.frozen 0
  have g1 := bt'.frozen 1
  have g2 := bt'.frozen 2
  have e0 := be'.one.1
  have e1 := be'.one.2
  have s0 := bs'.one.1
  have n1 : ¬ pe = pt := fun e => hne e.symm
  have n2 : ¬ w.heap.size = pt := by omega
  have n3 : ¬ w.heap.size = pe := by omega
  have HB := Lib.hid hb; clear hb
  go_region
  refine ⟨rfl, rfl, ?_, ?_, ?_⟩
  · exact (bt'.put3 _ _ _).other (fun e => hne e) _
  · exact (be'.other3 n1 _ _ _).set _
  · refine ⟨HB.out.os, HB.out.tape, HB.out.output, by have := HB.out.size; simpa [World.setCell] using this, fun i hi e => ?_⟩
    have h1 : i ≠ pt := fun e' => e (.inl e')
    have h2 : i ≠ pe := fun e' => e (.inr e')
    show (((((W.setCell _ _).setCell _ _).setCell _ _).setCell _ _).drew).heap[i]? = _
    exact (Below.heap_setCell _ _ _ _ h2).trans ((heap_other3 _ _ _ _ _ _ h1).trans (HB.out.block i hi))

def IdleQ (w : World) (e : Exit) (a : Act) (w' : World) : Prop := e = .normal ∧ a.defers = [] ∧ Below w.heap.size w w'
set_option maxRecDepth 100000 in
set_option maxHeartbeats 2000000 in
/-- a frame that returns -/
theorem catch_idle (pt pe : Nat) (w : World) :
    CallsD Tryz.prog 138 #[.pointer (some ⟨pt, 0, none⟩), .pointer (some ⟨pe, 0, none⟩)] .returning w fun e u' w' => e = .returned (.tuple #[]) ∧ u' = .returning ∧ Below w.heap.size w w' := by
  refine callsD_of_wpS Tryz.func138 rfl fun c₀ cs hu => ?_
  apply wpS_seq
  apply wpS_region
  simp [wpOpsS, go_sem, recoverD, hu, Tryz.ntmps138, Exit.thenS]
  have hta := assertNil
  refine wpS_of_wp ?_
  have HU := Lib.hid hu; clear hu
  refine Code.wp_mono (Q := IdleQ w) (fun e a' w' hq => ?_) ?_
  · obtain ⟨rfl, hd, hq⟩ := hq
    cases c₀
    have hu := HU.out
    simp only at hu
    subst hu
    exact ⟨hd, _, rfl, .tuple #[], results_none rfl _ _ _, rfl, rfl, hq⟩
  simp only [Array.replicate_succ, Array.replicate_zero, List.push_toArray, List.append_toArray, List.nil_append, List.cons_append, List.setIfInBounds_toArray, List.set_cons_zero, List.set_cons_succ]
  have hq : ∀ W, Sem.run Tryz.prog (binOp BinOp.neq 20 .nilIface .nilIface) W = .ok (.bool false) W := fun W => by kernel_rfl
  go_wp2_with fail
  exact ⟨rfl, rfl, (Below.refl _ _).alloc (Nat.le_refl _) _⟩

/-- what an answer is -/
def anT : Res → T
  | .ok (t, _) => if myB t = true then t else .node 0 0 []
  | .error _ => .node 0 0 []
def anE : Res → Int
  | .ok (t, _) => if myB t = true then 0 else 4
  | .error e => e
def AnsEnd (r : Res) (w : World) (e : Ending) (w' : World) : Prop :=
  ∃ k h A n c, e = .returned (.tuple #[.agg #[.int .i64 k, .int .i64 h, .slice A n c], .int .i64 (anE r)]) ∧ RdF (fun b => w.heap.size ≤ b) w' (anT r) (.agg #[.int .i64 k, .int .i64 h, .slice A n c]) ∧ Below w.heap.size w w'
/-- what is made -/
def MdEnd (pw q : Nat) (w : World) (r : Res) (e : Ending) (w' : World) : Prop :=
  match r with
  | .ok (t, _) => ∃ k h A n c, e = .returned (.agg #[.int .i64 k, .int .i64 h, .slice A n c]) ∧ RX (fun b => b = q) w' t (.agg #[.int .i64 k, .int .i64 h, .slice A n c]) ∧ Fr (fun k => k = pw) w w'
  | .error ec => e = .panicked (stopC ec) ∧ Fr (fun k => k = pw) w w'
set_option maxRecDepth 100000 in
set_option maxHeartbeats 4000000 in
theorem answerC (g : FuncId) (c1 c2 : Value) (hen : ∀ (args : Array Value) (W : World), Sem.run Tryz.prog (callFunc g args) W = .ok (.enter g args) W) (r : Res) (w : World)
    (hM : ∀ W pw q, Below w.heap.size w W → wkB W pw 0 → w.heap.size ≤ pw → w.heap.size ≤ q → q < W.heap.size → q ≠ pw → Calls Tryz.prog g #[.pointer (some ⟨pw, 0, none⟩), c1, c2] W (MdEnd pw q W r)) :
    Calls Tryz.prog 125 #[.func (.func g) #[] #[c1, c2]] w (AnsEnd r w) := by
  have hmf : ∀ (fn : Fn) (first cap : Array Value) (w : World), (Instr.makeFunc fn first cap).run Tryz.prog w = .ok (.func fn first cap) w := fun _ _ _ _ => rfl
  obtain ⟨W, hW⟩ : ∃ W, ((w.alloc (.cells #[.int .i64 0, .int .i64 0, .slice none 0 0] 44)).alloc (.cells #[.int .i64 0] 28)).alloc (.cells #[.int .i64 0] 154) = W := ⟨_, rfl⟩
  have hb : Below w.heap.size w W := by rw [← hW]; exact (((Below.refl _ _).alloc (Nat.le_refl _) _).alloc (by simp) _).alloc (by simp; omega) _
  have xT : Box W w.heap.size 44 #[.int .i64 0, .int .i64 0, .slice none 0 0] := by rw [← hW]; exact ((Box.new _ _ _).alloc _).alloc _
  have xE : Box W (w.heap.size + 1) 28 #[.int .i64 0] := by rw [← hW]; exact ((Box.new (w.alloc _) _ _).at (by simp)).alloc _
  have xW : wkB W (w.heap.size + 1 + 1) 0 := by rw [← hW]; exact (Box.new ((w.alloc _).alloc _) _ _).at (by simp)
  have HW := Lib.hid hW; clear hW
  have HM := Lib.hid (hM W _ w.heap.size hb xW (by omega) (Nat.le_refl _) xT.lt (by omega)); clear hM
  go_enter_defers Tryz.func125, Tryz.ntmps125
  go_wp2_with fail
  rw [HW.out]
  clear HW
  refine HM.out.mono ?_
  have hn0 : w.heap.size ≠ w.heap.size + 1 := by omega
  cases r with
  | error ec =>
    rintro e w1 ⟨rfl, hfr⟩
    have yT := xT.fr hfr (by omega)
    have yE := xE.fr hfr (by omega)
    go_wp2_with fail
    refine leaves_cons (f := 138) (args := #[.pointer (some ⟨w.heap.size, 0, none⟩), .pointer (some ⟨w.heap.size + 1, 0, none⟩)]) (by simp) (by simp [go_sem]) ?_
    refine (catch_stop w.heap.size (w.heap.size + 1) ec [] w1 _ _ _ _ yT yE hn0).mono ?_
    rintro e u' w2 ⟨rfl, rfl, zT, zE, hfr2⟩
    obtain ⟨t0, t1, t2⟩ := zT.three
    have e0 := zE.one.1
    have hfin : AnsEnd (.error ec) w (.returned (.tuple #[.agg #[.int .i64 0, .int .i64 0, .slice none 0 0], .int .i64 ec])) w2 := by
      refine ⟨_, _, _, _, _, rfl, RdF_node.2 ⟨none, 0, 0, rfl, by decide, by decide, rfl, Nat.le_refl _, Nat.zero_le _, fun i t ht => by simp at ht⟩, ?_⟩
      refine (hb.trans ((hfr.to_below (B := w.heap.size) (fun i e => by omega) hb.size))).trans (hfr2.to_below (fun i e => by omega) (by have := hb.size; have := hfr.size; omega))
    have HFIN := Lib.hid hfin; clear hfin
    simp [Leaves, settle, results, Tryz.results125, go_sem, t0, t1, t2, e0]
    exact HFIN.out
  | ok p =>
    obtain ⟨t, m⟩ := p
    rintro e w1 ⟨k, h, A, n, c, rfl, hrd, hfr⟩
    have yT := xT.fr hfr (by omega)
    have yE := xE.fr hfr (by omega)
    have hb1 : Below w.heap.size w w1 := hb.trans ((hfr.to_below (B := w.heap.size) (fun i e => by omega) hb.size))
    have lT := yT.lt
    clear hfr xT xE xW hb HM
    obtain ⟨t0, t1, t2⟩ := yT.three
    have f0 := yT.frozen 0
    have f1 := yT.frozen 1
    have f2 := yT.frozen 2
    have HRD := Lib.hid hrd; clear hrd
    go_wp2_with fail
    obtain ⟨W2, hW2⟩ : ∃ W2, ((w1.setCell ⟨w.heap.size, 0, none⟩ (.int .i64 k)).setCell ⟨w.heap.size, 1, none⟩ (.int .i64 h)).setCell ⟨w.heap.size, 2, none⟩ (.slice A n c) = W2 := ⟨_, rfl⟩
    have hb2 : Below w.heap.size w W2 := by rw [← hW2]; exact below_set3 hb1 (Nat.le_refl _) _ _ _
    have xT : Box W2 w.heap.size 44 #[.int .i64 k, .int .i64 h, .slice A n c] := by rw [← hW2]; exact yT.put3 _ _ _
    have xE : Box W2 (w.heap.size + 1) 28 #[.int .i64 0] := by rw [← hW2]; exact yE.other3 (by omega) _ _ _
    have rd2 : Rd W2 t (.agg #[.int .i64 k, .int .i64 h, .slice A n c]) := by rw [← hW2]; exact RX.rd (RX.adv HRD.out (Adv.set3 (X := fun b => b = w.heap.size) rfl _ _ _))
    rw [hW2]
    clear hW2 t0 t1 t2 f0 f1 f2 yT yE hb1 lT HRD
    have HR2 := Lib.hid rd2; clear rd2
    refine (myC t _ _ HR2.out).mono ?_
    rintro e w3 ⟨rfl, hb3⟩
    have yT := xT.keep hb3 xT.lt
    have yE := xE.keep hb3 xE.lt
    have HR3 := Lib.hid (Rd.keep hb3 _ _ HR2.out)
    replace hb2 := hb2.trans (hb3.mono hb2.size)
    clear hb3 xT xE HR2
    obtain ⟨t0, t1, t2⟩ := yT.three
    cases hmy : myB t
    · have hT : anT (.ok (t, m)) = .node 0 0 [] := by simp [anT, hmy]
      have hE : anE (.ok (t, m)) = 4 := by simp [anE, hmy]
      have HT := Lib.hid hT; clear hT
      have HE := Lib.hid hE; clear hE
      go_wp2_with fail
      refine leaves_cons (f := 138) (args := #[.pointer (some ⟨w.heap.size, 0, none⟩), .pointer (some ⟨w.heap.size + 1, 0, none⟩)]) (by simp) (by simp [go_sem]) ?_
      refine (catch_stop w.heap.size (w.heap.size + 1) 4 [] w3 _ _ _ _ yT yE hn0).mono ?_
      rintro e u' w4 ⟨rfl, rfl, zT, zE, hfr2⟩
      clear t0 t1 t2
      obtain ⟨t0, t1, t2⟩ := zT.three
      have e0 := zE.one.1
      have hfin : AnsEnd (.ok (t, m)) w (.returned (.tuple #[.agg #[.int .i64 0, .int .i64 0, .slice none 0 0], .int .i64 4])) w4 := by
        refine ⟨0, 0, none, 0, 0, by rw [HE.out], ?_, ?_⟩
        · rw [HT.out]
          exact RdF_node.2 ⟨none, 0, 0, rfl, by decide, by decide, rfl, Nat.le_refl _, Nat.zero_le _, fun i t ht => by simp at ht⟩
        · exact hb2.trans (hfr2.to_below (fun i e => by omega) hb2.size)
      have HFIN := Lib.hid hfin; clear hfin
      simp [Leaves, settle, results, Tryz.results125, go_sem, t0, t1, t2, e0]
      exact HFIN.out
    · have hT : anT (.ok (t, m)) = t := by simp [anT, hmy]
      have hE : anE (.ok (t, m)) = 0 := by simp [anE, hmy]
      have HT := Lib.hid hT; clear hT
      have HE := Lib.hid hE; clear hE
      have hwd : wd t ≤ 3518437208780 := by have := wd_nd t; have := ((myB_iff t).1 hmy).2.1; omega
      have HWD := Lib.hid hwd; clear hwd
      have HMY := Lib.hid hmy; clear hmy
      go_wp2_with fail
      refine (termOwn t _ _ HR3.out HWD.out).mono ?_
      rintro e w4 ⟨v4, rfl, how, hb4⟩
      obtain ⟨k4, h4, A4, n4, c4, rfl⟩ := how.full
      have zT := yT.keep hb4 yT.lt
      have zE := yE.keep hb4 yE.lt
      have HO := Lib.hid how; clear how
      replace hb2 := hb2.trans (hb4.mono hb2.size)
      have sz4 := yT.lt
      have sz6 := yE.lt
      have sz5 := hb4.size
      clear hb4 t0 t1 t2 HR3 yE
      obtain ⟨t0, t1, t2⟩ := zT.three
      have f0 := zT.frozen 0
      have f1 := zT.frozen 1
      have f2 := zT.frozen 2
      have e0 := zE.one.1
      have e1 := zE.one.2
      go_wp2_with fail
      refine leaves_cons (f := 138) (args := #[.pointer (some ⟨w.heap.size, 0, none⟩), .pointer (some ⟨w.heap.size + 1, 0, none⟩)]) (by simp) (by simp [go_sem]) ?_
      obtain ⟨W6, hW6⟩ : ∃ W6, (((w4.setCell ⟨w.heap.size, 0, none⟩ (.int .i64 k4)).setCell ⟨w.heap.size, 1, none⟩ (.int .i64 h4)).setCell ⟨w.heap.size, 2, none⟩ (.slice A4 n4 c4)).setCell ⟨w.heap.size + 1, 0, none⟩ (.int .i64 0) = W6 := ⟨_, rfl⟩
      have hb6 : Below w.heap.size w W6 := by rw [← hW6]; exact (below_set3 hb2 (Nat.le_refl _) _ _ _).setCell (by dsimp only; omega) _
      have vT : Box W6 w.heap.size 44 #[.int .i64 k4, .int .i64 h4, .slice A4 n4 c4] := by rw [← hW6]; exact (zT.put3 _ _ _).other (by dsimp only; omega) _
      have vE : Box W6 (w.heap.size + 1) 28 #[.int .i64 0] := by rw [← hW6]; exact (zE.other3 (by omega) _ _ _).set _
      have lE := zE.lt
      have rd6 : RdF (fun b => w.heap.size ≤ b) W6 t (.agg #[.int .i64 k4, .int .i64 h4, .slice A4 n4 c4]) := by
        rw [← hW6]
        refine RdF.moveX (fun b hb hl => ⟨by omega, ?_⟩) _ _ HO.out.rdF
        rw [Below.heap_setCell _ _ _ _ (by dsimp only; omega)]
        exact heap_other3 _ _ _ _ _ _ (by omega)
      rw [hW6]
      clear hW6 t0 t1 t2 f0 f1 f2 e0 e1 zT zE
      refine (catch_idle w.heap.size (w.heap.size + 1) W6).mono ?_
      rintro e u' w5 ⟨rfl, rfl, hb5⟩
      have uT := vT.keep hb5 vT.lt
      have uE := vE.keep hb5 vE.lt
      obtain ⟨t0, t1, t2⟩ := uT.three
      have e0 := uE.one.1
      have hfin : AnsEnd (.ok (t, m)) w (.returned (.tuple #[.agg #[.int .i64 k4, .int .i64 h4, .slice A4 n4 c4], .int .i64 0])) w5 := by
        refine ⟨k4, h4, A4, n4, c4, by rw [HE.out], ?_, hb6.trans (hb5.mono hb6.size)⟩
        rw [HT.out]
        exact RdF.moveX (fun b hb hl => ⟨hb, hb5.block b hl⟩) _ _ rd6
      have HFIN := Lib.hid hfin; clear hfin rd6
      simp [Leaves, settle, results, Tryz.results125, go_sem, t0, t1, t2, e0]
      exact HFIN.out
end Go.Proofs.YtloeainlpcnhnaaGreat
