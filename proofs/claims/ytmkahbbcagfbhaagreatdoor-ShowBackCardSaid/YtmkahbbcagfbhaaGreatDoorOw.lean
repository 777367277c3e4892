/-
  Contract of package term's Own: the same term once more, in new memory, its top list in a block of its own ahead of all others.
-/
import Derived.Test.YtmkahbbcagfbhaaGreatDoorSa
import Derived.Deep.RegionHeld3
namespace Go.Proofs.YtmkahbbcagfbhaaGreatDoor
open Go.ChangeShapes Go.WideShapes Go.ChangeAt Go.RowKit
set_option linter.unusedVariables false

mutual
/-- a term in memory all of whose lists lie in blocks that are ok -/
def RdF (ok : Nat → Prop) (w : World) : T → Value → Prop
  | .node k h xs, v => ∃ (A : Option Addr) (n c : Nat), v = .agg #[.int .i64 k, .int .i64 h, .slice A n c] ∧ (Lit.int .i64 k).wf = true ∧ (Lit.int .i64 h).wf = true ∧
      xs.length = n ∧ n ≤ c ∧ c ≤ maxLen ∧ RdFL ok w xs A 0
def RdFL (ok : Nat → Prop) (w : World) : List T → Option Addr → Nat → Prop
  | [], _, _ => True
  | t :: ts, A, j => (∃ b o v0 v1 v2, A = some ⟨b, o, none⟩ ∧ ok b ∧ w.cell? ⟨b, o + j * 3, none⟩ = some v0 ∧ w.cell? ⟨b, o + j * 3 + 1, none⟩ = some v1 ∧
      w.cell? ⟨b, o + j * 3 + 2, none⟩ = some v2 ∧ RdF ok w t (.agg #[v0, v1, v2])) ∧ RdFL ok w ts A (j + 1)
end
def RdFAt (ok : Nat → Prop) (w : World) (A : Option Addr) (j : Nat) (t : T) : Prop :=
  ∃ b o v0 v1 v2, A = some ⟨b, o, none⟩ ∧ ok b ∧ w.cell? ⟨b, o + j * 3, none⟩ = some v0 ∧ w.cell? ⟨b, o + j * 3 + 1, none⟩ = some v1 ∧
      w.cell? ⟨b, o + j * 3 + 2, none⟩ = some v2 ∧ RdF ok w t (.agg #[v0, v1, v2])
theorem RdFL_iff (ok : Nat → Prop) (w : World) (A : Option Addr) : ∀ (ts : List T) (j : Nat), RdFL ok w ts A j ↔ ∀ i t, ts[i]? = some t → RdFAt ok w A (j + i) t
  | [], j => by simp [RdFL]
  | t :: ts, j => by
    rw [RdFL, RdFL_iff ok w A ts (j + 1)]
    constructor
    · rintro ⟨h0, h1⟩ i u hu
      cases i with
      | zero => simp only [List.getElem?_cons_zero, Option.some.injEq] at hu; subst hu; exact h0
      | succ i => have := h1 i u (by simpa using hu); rw [show j + (i + 1) = j + 1 + i by omega]; exact this
    · intro h
      refine ⟨h 0 t rfl, fun i u hu => ?_⟩
      have := h (i + 1) u (by simpa using hu)
      rw [show j + 1 + i = j + (i + 1) by omega]; exact this
theorem RdF_node {ok : Nat → Prop} {w : World} {k h : Int} {xs : List T} {v : Value} : RdF ok w (.node k h xs) v ↔
    ∃ (A : Option Addr) (n c : Nat), v = .agg #[.int .i64 k, .int .i64 h, .slice A n c] ∧ (Lit.int .i64 k).wf = true ∧ (Lit.int .i64 h).wf = true ∧
      xs.length = n ∧ n ≤ c ∧ c ≤ maxLen ∧ ∀ i t, xs[i]? = some t → RdFAt ok w A i t := by
  rw [RdF]
  simp only [RdFL_iff, Nat.zero_add]

theorem RdF.rd {ok : Nat → Prop} {w : World} : ∀ (t : T) (v : Value), RdF ok w t v → Rd w t v := by
  refine T.ind fun k h xs ih v hv => ?_
  obtain ⟨A, n, c, rfl, h1, h2, h3, h4, h5, h6⟩ := RdF_node.1 hv
  refine Rd_node.2 ⟨A, n, c, rfl, h1, h2, h3, h4, h5, fun i t ht => ?_⟩
  obtain ⟨b, o, v0, v1, v2, rfl, _, c0, c1, c2, hr⟩ := h6 i t ht
  exact ⟨b, o, v0, v1, v2, rfl, c0, c1, c2, ih t (List.mem_of_getElem? ht) _ hr⟩
/-- it is so in every world in which those blocks are as they were -/
theorem RdF.move {ok ok' : Nat → Prop} {w w' : World} (hok : ∀ b, ok b → ok' b) (hk : ∀ b, ok b → b < w.heap.size → w'.heap[b]? = w.heap[b]?) : ∀ (t : T) (v : Value), RdF ok w t v → RdF ok' w' t v := by
  refine T.ind fun k h xs ih v hv => ?_
  obtain ⟨A, n, c, rfl, h1, h2, h3, h4, h5, h6⟩ := RdF_node.1 hv
  refine RdF_node.2 ⟨A, n, c, rfl, h1, h2, h3, h4, h5, fun i t ht => ?_⟩
  obtain ⟨b, o, v0, v1, v2, rfl, hb, c0, c1, c2, hr⟩ := h6 i t ht
  have e : ∀ j, w'.cell? ⟨b, j, none⟩ = w.cell? ⟨b, j, none⟩ := fun j => World.cell?_of_block (w := w) (hk b hb (cell_lt c0))
  exact ⟨b, o, v0, v1, v2, rfl, hok b hb, (e _).trans c0, (e _).trans c1, (e _).trans c2, ih t (List.mem_of_getElem? ht) _ hr⟩

/-- so many cells that begin with so many terms -/
def Kids (w : World) (ok : Nat → Prop) (cs : Array Value) (xs : List T) : Prop :=
  ∀ i t, xs[i]? = some t → ∃ k h A n c, cs[i * 3]? = some (.int .i64 k) ∧ cs[i * 3 + 1]? = some (.int .i64 h) ∧ cs[i * 3 + 2]? = some (.slice A n c) ∧ RdF ok w t (.agg #[.int .i64 k, .int .i64 h, .slice A n c])

/-- a term of its own, from block lo on: its top list in a block ahead of all others -/
def OwT (w : World) (lo : Nat) : T → Value → Prop
  | .node k h xs, v => ∃ A n c, v = .agg #[.int .i64 k, .int .i64 h, .slice A n c] ∧ (Lit.int .i64 k).wf = true ∧ (Lit.int .i64 h).wf = true ∧ xs.length = n ∧ n ≤ c ∧ c ≤ maxLen ∧
      (n = 0 ∨ ∃ b cs, A = some ⟨b, 0, none⟩ ∧ lo ≤ b ∧ Box w b 36 cs ∧ cs.size = n * 3 ∧ Kids w (fun g => b < g) cs xs)

theorem OwT.rdF {w : World} {lo : Nat} {t : T} {v : Value} (h : OwT w lo t v) : RdF (fun g => lo ≤ g) w t v := by
  obtain ⟨k, g, xs⟩ := t
  obtain ⟨A, n, c, rfl, h1, h2, h3, h4, h5, h6⟩ := h
  refine RdF_node.2 ⟨A, n, c, rfl, h1, h2, h3, h4, h5, fun i t ht => ?_⟩
  rcases h6 with rfl | ⟨b, cs, rfl, hb, hbox, hsz, hk⟩
  · have := (List.getElem?_eq_some_iff.1 ht).1; omega
  · obtain ⟨k', h', A', n', c', e0, e1, e2, hr⟩ := hk i t ht
    refine ⟨b, 0, _, _, _, rfl, hb, ?_, ?_, ?_, RdF.move (fun g hg => by omega) (fun _ _ _ => rfl) _ _ hr⟩
    · rw [hbox.cell, Nat.zero_add]; exact e0
    · rw [hbox.cell, Nat.zero_add]; exact e1
    · rw [hbox.cell, Nat.zero_add]; exact e2

theorem OwT.full {w : World} {lo : Nat} {t : T} {v : Value} (h : OwT w lo t v) : ∃ k h A n c, v = .agg #[.int .i64 k, .int .i64 h, .slice A n c] := by
  obtain ⟨k, g, xs⟩ := t
  obtain ⟨A, n, c, e, _⟩ := h
  exact ⟨k, g, A, n, c, e⟩
theorem Box.there {w : World} {b : Nat} {ty : TypeId} {cs : Array Value} (h : Box w b ty cs) {i : Nat} (hi : i < cs.size) : ∃ u, w.cell? ⟨b, i, none⟩ = some u := ⟨_, by rw [h.cell]; exact Array.getElem?_eq_getElem hi⟩

/-- one more is laid -/
theorem Kids.put {w w' : World} {ok : Nat → Prop} {cs : Array Value} {xs : List T} {j : Nat} {t : T} {k h : Int} {A : Option Addr} {n c : Nat} (hk : Kids w ok cs (xs.take j)) (hm : ∀ b, ok b → b < w.heap.size → w'.heap[b]? = w.heap[b]?)
    (hj : xs[j]? = some t) (hr : RdF ok w' t (.agg #[.int .i64 k, .int .i64 h, .slice A n c])) (hsz : j * 3 + 2 < cs.size) :
    Kids w' ok (((cs.setIfInBounds (j * 3) (.int .i64 k)).setIfInBounds (j * 3 + 1) (.int .i64 h)).setIfInBounds (j * 3 + 2) (.slice A n c)) (xs.take (j + 1)) := by
  intro i u hu
  have hi : i < j + 1 := by have := (List.getElem?_eq_some_iff.1 hu).1; simp at this; omega
  rw [List.getElem?_take_of_lt hi] at hu
  rcases Nat.lt_or_ge i j with h1 | h1
  · obtain ⟨k', h', A', n', c', e0, e1, e2, hr'⟩ := hk i u (by rw [List.getElem?_take_of_lt h1]; exact hu)
    refine ⟨k', h', A', n', c', ?_, ?_, ?_, RdF.move (fun _ h => h) hm _ _ hr'⟩
    all_goals simp only [Array.getElem?_setIfInBounds]
    · rw [if_neg (by omega), if_neg (by omega), if_neg (by omega)]; exact e0
    · rw [if_neg (by omega), if_neg (by omega), if_neg (by omega)]; exact e1
    · rw [if_neg (by omega), if_neg (by omega), if_neg (by omega)]; exact e2
  · obtain rfl : i = j := by omega
    rw [hj] at hu
    cases hu
    refine ⟨k, h, A, n, c, ?_, ?_, ?_, hr⟩
    all_goals simp only [Array.getElem?_setIfInBounds, Array.size_setIfInBounds]
    · rw [if_neg (by omega), if_neg (by omega), if_pos trivial, if_pos (by omega)]
    · rw [if_neg (by omega), if_pos trivial, if_pos (by omega)]
    · rw [if_pos trivial, if_pos (by omega)]

theorem infoTerm : (Tryz.prog.info? 36).map (fun i => (i.zero, i.size, i.bytes)) = some (some (.agg #[.int .i64 0, .int .i64 0, .slice none 0 0]), 3, 40) := by kernel_rfl

/-- how Own ends -/
def OEnd (t : T) (w : World) (e : Ending) (w' : World) : Prop := ∃ v, e = .returned v ∧ OwT w' w.heap.size t v ∧ Below w.heap.size w w'

set_option maxRecDepth 100000 in
set_option maxHeartbeats 4000000 in
theorem termOwn (t : T) : ∀ (v : Value) (w : World), Rd w t v → wd t ≤ 3518437208780 → Calls Tryz.prog 100 #[v] w (OEnd t w) := by
  induction t using T.ind with
  | step k h xs ih =>
    intro v w hv hwd
    obtain ⟨A, n, c, rfl, hk, hh, hn, hc, hm, hx⟩ := Rd_node.1 hv
    clear hv
    have HM := Lib.hid hm
    unfold maxLen at hm
    have hwd' : n ≤ 3518437208780 ∧ ∀ t ∈ xs, wd t ≤ 3518437208780 := by
      rw [wd] at hwd
      exact ⟨by omega, fun t ht => by have := wd_mem ht; omega⟩
    obtain ⟨hn40, hwds⟩ := hwd'
    clear hwd
    have HWD := Lib.hid hwds; clear hwds
    have HN := Lib.hid hn; clear hn
    have HX := Lib.hid hx; clear hx
    have IH := Lib.hid ih; clear ih
    obtain ⟨i0, hi, hz0, hz1, hz2⟩ := info_parts infoTerm
    have hmk : ∀ W : World, (Instr.makeSlice 34 (.int .i64 (n : Int)) (.int .i64 (n : Int))).run Tryz.prog W = .ok (.slice (some ⟨W.heap.size, 0, none⟩) n n) (W.alloc (.cells (madeCells #[.int .i64 0, .int .i64 0, .slice none 0 0] (n * 3)) 36)) := by
      intro W
      have := run_make W 34 36 i0 _ Tryz.underlying34 hi hz0 .i64 .i64 (n : Int) (n : Int) (by omega) (Int.le_refl _) (by rw [hz2]; omega) (by omega)
      rw [hz1] at this
      simpa [Value.cells] using this
    clear hi hz0 hz1 hz2
    by_cases h0 : n = 0
    · subst h0
      go_enter Tryz.func100, Tryz.ntmps100
      go_wp2_with fail
      refine bodyPost_ret (v := .agg #[.int .i64 k, .int .i64 h, .slice none 0 0]) (by simp [results, Tryz.results100, go_sem]) rfl ⟨_, rfl, ⟨none, 0, 0, rfl, hk, hh, HN.out, Nat.le_refl _, Nat.zero_le _, .inl rfl⟩, ?_⟩
      exact (((Below.refl _ _).alloc (Nat.le_refl _) _).alloc (by simp) _).alloc (by simp; omega) _
    · have e0 : ((n : Int) == 0) = false := by rw [beq_eq_false_iff_ne]; omega
      go_enter Tryz.func100, Tryz.ntmps100
      go_wp2_with fail
      have hcs := size_madeCells #[.int .i64 0, .int .i64 0, .slice none 0 0] (n * 3)
      generalize madeCells #[.int .i64 0, .int .i64 0, .slice none 0 0] (n * 3) = cs0 at *
      obtain ⟨W0, hW0⟩ : ∃ W0, ((((w.alloc (.cells #[.int .i64 k, .int .i64 h, .slice A n c] 36)).alloc (.cells #[.int .i64 0, .int .i64 0, .slice none 0 0] 36)).alloc (.cells #[.int .i64 k, .int .i64 h, .slice (some ⟨w.heap.size + 1 + 1 + 1, 0, none⟩) n n] 36)).alloc (.cells cs0 36)) = W0 := ⟨_, rfl⟩
      rw [hW0]
      have hb : Below w.heap.size w W0 := by
        rw [← hW0]; exact ((((Below.refl _ w).alloc (Nat.le_refl _) _).alloc (by simp) _).alloc (by simp; omega) _).alloc (by simp; omega) _
      have x1 : Box W0 (w.heap.size + 1) 36 #[.int .i64 0, .int .i64 0, .slice none 0 0] := by
        rw [← hW0]; exact (((Box.new (w.alloc _) _ _).at (b' := w.heap.size + 1) (by simp)).alloc _).alloc _
      have x2 : Box W0 (w.heap.size + 1 + 1) 36 #[.int .i64 k, .int .i64 h, .slice (some ⟨w.heap.size + 1 + 1 + 1, 0, none⟩) n n] := by
        rw [← hW0]; exact ((Box.new ((w.alloc _).alloc _) _ _).at (b' := w.heap.size + 1 + 1) (by simp)).alloc _
      have x3 : Box W0 (w.heap.size + 1 + 1 + 1) 36 cs0 := by
        rw [← hW0]; exact (Box.new (((w.alloc _).alloc _).alloc _) _ _).at (b' := w.heap.size + 1 + 1 + 1) (by simp)
      clear hW0
      have HCS := Lib.hid hcs; clear hcs hmk
      go_loopw [24] (fun i wr => ∃ (j : Nat) (cs : Array Value), j ≤ n ∧ i = .int .i64 j ∧ Box wr (w.heap.size + 1) 36 #[.int .i64 0, .int .i64 0, .slice none 0 0] ∧
        Box wr (w.heap.size + 1 + 1) 36 #[.int .i64 k, .int .i64 h, .slice (some ⟨w.heap.size + 1 + 1 + 1, 0, none⟩) n n] ∧ Box wr (w.heap.size + 1 + 1 + 1) 36 cs ∧ Hid (cs.size = n * 3) ∧
        Kids wr (fun g => w.heap.size + 1 + 1 + 1 < g) cs (xs.take j) ∧ Below w.heap.size w wr) (fun i _ => n - (intOf i).toNat)
      case atStart => exact ⟨0, cs0, Nat.zero_le _, rfl, x1, x2, x3, HCS, fun i t ht => by simp at ht, hb⟩
      case round =>
        obtain ⟨j, cs, hj, rfl, y1, y2, y3, HC, hkids, hbr⟩ := hrel
        have HK := Lib.hid hkids; clear hkids
        clear x1 x2 x3 hb
        by_cases hlt : j < n
        · obtain ⟨t, ht⟩ := at_of HN.out hlt
          obtain ⟨b, o, k2, h2, A2, n2, c2', rfl, c0, c1, c2, hr⟩ := (RdAt.keep hbr (HX.out j t ht)).full
          have HT := Lib.hid ht; clear ht
          go_wp2_with fail
          have z1 := y1.alloc (.cells #[.int .i64 k2, .int .i64 h2, .slice A2 n2 c2'] 36)
          have z2 := y2.alloc (.cells #[.int .i64 k2, .int .i64 h2, .slice A2 n2 c2'] 36)
          have z3 := y3.alloc (.cells #[.int .i64 k2, .int .i64 h2, .slice A2 n2 c2'] 36)
          have z5 := Box.new wr 36 #[.int .i64 k2, .int .i64 h2, .slice A2 n2 c2']
          have hbA : Below wr.heap.size wr (wr.alloc (.cells #[.int .i64 k2, .int .i64 h2, .slice A2 n2 c2'] 36)) := (Below.refl _ wr).alloc (Nat.le_refl _) _
          generalize wr.alloc (.cells #[.int .i64 k2, .int .i64 h2, .slice A2 n2 c2'] 36) = Wa at *
          clear c0 c1 c2
          obtain ⟨q0, q1, q2⟩ := z2.three
          obtain ⟨p0, p1, p2⟩ := z5.three
          have l3 := z3.lt
          have l5 := z5.lt
          have HO := Lib.hid (IH.out t (List.mem_of_getElem? HT.out) (.agg #[.int .i64 k2, .int .i64 h2, .slice A2 n2 c2']) Wa.drew (Rd.keep hbA.drew _ _ hr) (HWD.out t (List.mem_of_getElem? HT.out)))
          have hi0 : (0 : Int) ≤ j := by omega
          have hi1 : (j : Int) < n := by omega
          have ly3 := y3.lt
          go_region_held3 (fun w' => w'.cell? ⟨w.heap.size + 1 + 1, 2, none⟩ = some (.slice (some ⟨w.heap.size + 1 + 1 + 1, 0, none⟩) n n) ∧ w'.cell? ⟨wr.heap.size, 0, none⟩ = some (.int .i64 k2) ∧ w'.cell? ⟨wr.heap.size, 1, none⟩ = some (.int .i64 h2) ∧ w'.cell? ⟨wr.heap.size, 2, none⟩ = some (.slice A2 n2 c2'))
            (first | exact ⟨q2, p0, p1, p2⟩ | exact ⟨s2, r0, r1, r2⟩ | exact ⟨(((g2.other (by dsimp only; omega) _).other (by dsimp only; omega) _).other (by dsimp only; omega) _).three.2.2, (((g5.other (by dsimp only; omega) _).other (by dsimp only; omega) _).other (by dsimp only; omega) _).three.1, (((g5.other (by dsimp only; omega) _).other (by dsimp only; omega) _).other (by dsimp only; omega) _).three.2.1, (((g5.other (by dsimp only; omega) _).other (by dsimp only; omega) _).other (by dsimp only; omega) _).three.2.2⟩)
            (first | (go_at_call 100
                      refine HO.out.mono ?_
                      rintro e w1 ⟨v', rfl, how, hb1⟩
                      have g1 := (show Box Wa.drew _ _ _ from z1).keep hb1 z1.lt
                      have g2 := (show Box Wa.drew _ _ _ from z2).keep hb1 z2.lt
                      have g5 := (show Box Wa.drew _ _ _ from z5).keep hb1 z5.lt
                      have g3 := (show Box Wa.drew _ _ _ from z3).keep hb1 z3.lt
                      obtain ⟨s0, s1, s2⟩ := g2.three
                      obtain ⟨r0, r1, r2⟩ := g5.three
                      obtain ⟨u0, hu0⟩ := g3.there (i := j * 3) (by rw [HC.out]; omega)
                      obtain ⟨u1, hu1⟩ := g3.there (i := j * 3 + 1) (by rw [HC.out]; omega)
                      obtain ⟨u2, hu2⟩ := g3.there (i := j * 3 + 2) (by rw [HC.out]; omega)
                      have f0 := g3.frozen (j * 3)
                      have f1 := g3.frozen (j * 3 + 1)
                      have f2 := g3.frozen (j * 3 + 2)
                      obtain ⟨k3, h3, A3, n3, c3, rfl⟩ := how.full))
          have hbw : Below wr.heap.size wr w1 := hbA.drew.trans (hb1.mono hbA.size)
          have hr3 : RdF (fun g => w.heap.size + 1 + 1 + 1 < g) w1 t (.agg #[.int .i64 k3, .int .i64 h3, .slice A3 n3 c3]) :=
            RdF.move (fun g hg => by have : wr.heap.size ≤ g := Nat.le_trans hbA.size hg; omega) (fun _ _ _ => rfl) _ _ how.rdF
          have hk3 : Kids w1 (fun g => w.heap.size + 1 + 1 + 1 < g) cs (xs.take j) := fun i u hu => by
            obtain ⟨k', h', A', n', c', e0, e1, e2, hr'⟩ := HK.out i u hu
            exact ⟨k', h', A', n', c', e0, e1, e2, RdF.move (fun _ h => h) (fun g _ hg => hbw.block g hg) _ _ hr'⟩
          have hset : ∀ g, w.heap.size + 1 + 1 + 1 < g → (((w1.setCell ⟨w.heap.size + 1 + 1 + 1, j * 3, none⟩ (.int .i64 k3)).setCell ⟨w.heap.size + 1 + 1 + 1, j * 3 + 1, none⟩ (.int .i64 h3)).setCell ⟨w.heap.size + 1 + 1 + 1, j * 3 + 2, none⟩ (.slice A3 n3 c3)).heap[g]? = w1.heap[g]? := fun g hg => by
            rw [Below.heap_setCell _ _ _ _ (by dsimp only; omega), Below.heap_setCell _ _ _ _ (by dsimp only; omega), Below.heap_setCell _ _ _ _ (by dsimp only; omega)]
          have hk4 := hk3.put (fun g hg _ => hset g hg) HT.out (RdF.move (fun _ h => h) (fun g hg _ => hset g hg) _ _ hr3) (by rw [HC.out]; omega)
          have HK4 := Lib.hid hk4; clear hk4 hk3 hset hr3
          have HB := Lib.hid hbw; clear hbw
          clear hb1 how
          go_wp2_with fail
          go_roundw
          case rel =>
            refine ⟨j + 1, _, by omega, by go_num, ((g1.other (by dsimp only; omega) _).other (by dsimp only; omega) _).other (by dsimp only; omega) _, ((g2.other (by dsimp only; omega) _).other (by dsimp only; omega) _).other (by dsimp only; omega) _, ((g3.setAt _ _).setAt _ _).setAt _ _, Lib.hid (by simp [HC.out]), HK4.out, ?_⟩
            exact (((hbr.trans (HB.out.mono hbr.size)).setCell (by dsimp only; omega) _).setCell (by dsimp only; omega) _).setCell (by dsimp only; omega) _
          case measure => simp [intOf]; omega
        · obtain ⟨d0, d1, d2⟩ := y1.three
          have f0 := y1.frozen 0
          have f1 := y1.frozen 1
          have f2 := y1.frozen 2
          obtain ⟨q0, q1, q2⟩ := y2.three
          go_wp2_with fail
          refine bodyPost_ret (v := .agg #[.int .i64 k, .int .i64 h, .slice (some ⟨w.heap.size + 1 + 1 + 1, 0, none⟩) n n]) (by simp [results, Tryz.results100, go_sem, d0, d1, d2]) rfl ?_
          refine ⟨_, rfl, ⟨_, n, n, rfl, hk, hh, HN.out, Nat.le_refl _, by unfold maxLen; omega, .inr ⟨_, cs, rfl, by omega, ?_, HC.out, ?_⟩⟩, ?_⟩
          · exact ((y3.other (by dsimp only; omega) _).other (by dsimp only; omega) _).other (by dsimp only; omega) _
          · have HK' := HK.out
            rw [List.take_of_length_le (by rw [HN.out]; omega)] at HK'
            intro i t ht
            obtain ⟨k', h', A', n', c', e0, e1, e2, hr⟩ := HK' i t ht
            refine ⟨k', h', A', n', c', e0, e1, e2, RdF.move (fun _ h => h) (fun g hg _ => ?_) _ _ hr⟩
            rw [Below.heap_setCell _ _ _ _ (by dsimp only; omega), Below.heap_setCell _ _ _ _ (by dsimp only; omega), Below.heap_setCell _ _ _ _ (by dsimp only; omega)]
          · exact ((hbr.setCell (by dsimp only; omega) _).setCell (by dsimp only; omega) _).setCell (by dsimp only; omega) _
end Go.Proofs.YtmkahbbcagfbhaaGreatDoor
