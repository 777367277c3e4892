/-
  What types and kinds ask for and come to, as plain functions; contracts of package sign's asks, end, Kind, Family. No statement is proved here.
-/
import Derived.Test.YtmkahbbcagfbhaaGreatDoorQg
import Derived.Deep.LoopGhost
namespace Go.Proofs.YtmkahbbcagfbhaaGreatDoor
open Go.ChangeShapes Go.WideShapes Go.ChangeAt Go.RowKit
set_option linter.unusedVariables false

mutual
/-- what it asks for -/
def spA : T → List T
  | .node k _ xs => if k = 1 ∧ xs.length = 2 then xs.headD (.node 0 0 []) :: spAL xs else []
def spAL : List T → List T
  | [] => []
  | t :: ts => match ts with
    | [] => spA t
    | _ :: _ => spAL ts
end
mutual
/-- what it comes to -/
def spRq : T → T
  | .node k h xs => if k = 1 ∧ xs.length = 2 then spRL xs else .node k h xs
def spRL : List T → T
  | [] => .node 0 0 []
  | t :: ts => match ts with
    | [] => spRq t
    | _ :: _ => spRL ts
end
/-- is it a Pi of two -/
def asB (k : Int) (n : Nat) : Bool := decide (k = 1) && decide (n = 2)
theorem asB_iff {k : Int} {n : Nat} : asB k n = true ↔ k = 1 ∧ n = 2 := by rw [asB, Bool.and_eq_true, decide_eq_true_eq, decide_eq_true_eq]
theorem pi_of {k : Int} {xs : List T} (h : asB k xs.length = true) : k = 1 ∧ ∃ a b, xs = [a, b] := by
  obtain ⟨rfl, h2⟩ := asB_iff.1 h
  match xs, h2 with
  | [a, b], _ => exact ⟨rfl, a, b, rfl⟩
theorem spA_pi (h : Int) (a b : T) : spA (.node 1 h [a, b]) = a :: spA b := by simp [spA, spAL]
theorem spR_pi (h : Int) (a b : T) : spRq (.node 1 h [a, b]) = spRq b := by simp [spRq, spRL]
theorem spA_no {k h : Int} {xs : List T} (hk : asB k xs.length = false) : spA (.node k h xs) = [] := by
  rw [spA, if_neg]
  intro e
  rw [asB_iff.2 e] at hk
  cases hk
theorem spR_no {k h : Int} {xs : List T} (hk : asB k xs.length = false) : spRq (.node k h xs) = .node k h xs := by
  rw [spRq, if_neg]
  intro e
  rw [asB_iff.2 e] at hk
  cases hk
def kdQ : T → Int | .node k _ _ => k
def hdQ : T → Int | .node _ h _ => h
/-- does it come to the kind of types -/
def kiB (t : T) : Bool := decide (kdQ (spRq t) = 0)
/-- what family it comes to -/
def faI (t : T) : Int := if kdQ (spRq t) = 2 then hdQ (spRq t) else -1
theorem rd_pi {w : World} {h : Int} {a b : T} {v : Value} (hv : Rd w (.node 1 h [a, b]) v) : ∃ bb o c, v = .agg #[.int .i64 1, .int .i64 h, .slice (some ⟨bb, o, none⟩) 2 c] ∧ 2 ≤ c ∧ c ≤ maxLen ∧
    (∃ k h A n c, w.cell? ⟨bb, o, none⟩ = some (.int .i64 k) ∧ w.cell? ⟨bb, o + 1, none⟩ = some (.int .i64 h) ∧ w.cell? ⟨bb, o + 2, none⟩ = some (.slice A n c) ∧ Rd w a (.agg #[.int .i64 k, .int .i64 h, .slice A n c])) ∧
    (∃ k h A n c, w.cell? ⟨bb, o + 3, none⟩ = some (.int .i64 k) ∧ w.cell? ⟨bb, o + 4, none⟩ = some (.int .i64 h) ∧ w.cell? ⟨bb, o + 5, none⟩ = some (.slice A n c) ∧ Rd w b (.agg #[.int .i64 k, .int .i64 h, .slice A n c])) := by
  obtain ⟨A, n, c, rfl, _, _, h3, h4, h5, h6⟩ := Rd_node.1 hv
  obtain ⟨bb, o, k, g, A1, n1, c1, rfl, c0, d0, e0, r0⟩ := (h6 0 a rfl).full
  obtain ⟨bb', o', k', g', A1', n1', c1', e, c0', d0', e0', r0'⟩ := (h6 1 b rfl).full
  cases e
  simp at h3
  subst h3
  exact ⟨bb, o, c, rfl, h4, h5, ⟨k, g, A1, n1, c1, by simpa using c0, by simpa using d0, by simpa using e0, r0⟩, ⟨k', g', A1', n1', c1', by simpa using c0', by simpa using d0', by simpa using e0', r0'⟩⟩

set_option maxHeartbeats 1000000 in
theorem asksC (k h : Int) (A : Option Addr) (n c : Nat) (hm : n ≤ maxLen) (w : World) :
    Calls Tryz.prog 62 #[.agg #[.int .i64 k, .int .i64 h, .slice A n c]] w fun e w' => e = .returned (.bool (asB k n)) ∧ Below w.heap.size w w' := by
  unfold maxLen at hm
  have hb : Below w.heap.size w (w.alloc (.cells #[.int .i64 k, .int .i64 h, .slice A n c] 36)) := (Below.refl _ _).alloc (Nat.le_refl _) _
  by_cases hk : k = 1
  · subst hk
    have E : asB 1 n = ((n : Int) == 2) := by rw [asB, Bool.eq_iff_iff]; simp; omega
    have HE := Lib.hid E; clear E
    go_enter Tryz.func62, Tryz.ntmps62
    go_wp2_with fail
    go_ret
    exact ⟨ret_bool HE.out.symm, hb⟩
  · have e0 : (k == 1) = false := by simpa using hk
    have E : asB k n = false := by rw [asB, decide_eq_false hk]; rfl
    have HE := Lib.hid E; clear E
    go_enter Tryz.func62, Tryz.ntmps62
    go_wp2_with fail
    go_ret
    exact ⟨ret_bool HE.out.symm, hb⟩

/-- what holds at the head of end's loop -/
structure EnI (w wr : World) (t0 t : T) (k h : Int) (A : Option Addr) (n c : Nat) : Prop where
  box : Box wr w.heap.size 36 #[.int .i64 k, .int .i64 h, .slice A n c]
  res : Box wr (w.heap.size + 1) 36 #[.int .i64 0, .int .i64 0, .slice none 0 0]
  rd : Rd w t (.agg #[.int .i64 k, .int .i64 h, .slice A n c])
  below : Below w.heap.size w wr
  eq : spRq t0 = spRq t

set_option maxRecDepth 100000 in
set_option maxHeartbeats 2000000 in
theorem endC (t : T) (v : Value) (w : World) (hv : Rd w t v) :
    Calls Tryz.prog 40 #[v] w fun e w' => ∃ k h A n c, e = .returned (.agg #[.int .i64 k, .int .i64 h, .slice A n c]) ∧ Rd w (spRq t) (.agg #[.int .i64 k, .int .i64 h, .slice A n c]) ∧ Below w.heap.size w w' := by
  obtain ⟨k, h, A, n, c, rfl⟩ := hv.full
  obtain ⟨W, hW⟩ : ∃ W, (w.alloc (.cells #[.int .i64 k, .int .i64 h, .slice A n c] 36)).alloc (.cells #[.int .i64 0, .int .i64 0, .slice none 0 0] 36) = W := ⟨_, rfl⟩
  have hb : Below w.heap.size w W := by rw [← hW]; exact ((Below.refl _ _).alloc (Nat.le_refl _) _).alloc (by simp) _
  have x0 : Box W w.heap.size 36 #[.int .i64 k, .int .i64 h, .slice A n c] := by rw [← hW]; exact (Box.new _ _ _).alloc _
  have x1 : Box W (w.heap.size + 1) 36 #[.int .i64 0, .int .i64 0, .slice none 0 0] := by rw [← hW]; exact (Box.new (w.alloc _) _ _).at (by simp)
  have HI : Hid (EnI w W t t k h A n c) := Lib.hid ⟨x0, x1, hv, hb, rfl⟩
  have HW := Lib.hid hW; clear hW hb x0 x1 hv
  go_enter Tryz.func40, Tryz.ntmps40
  go_wp2_with fail
  rw [HW.out]
  clear HW
  go_loopg [] (nd t) (fun g wr => ∃ (t' : T) (k h : Int) (A : Option Addr) (n c : Nat), g = nd t' ∧ Hid (EnI w wr t t' k h A n c))
  case atStart => exact ⟨t, k, h, A, n, c, rfl, HI⟩
  case round =>
    clear HI
    obtain ⟨t', k', h', A', n', c', hg, HI⟩ := hrel
    have HG := Lib.hid hg; clear hg
    obtain ⟨p0, p1, p2⟩ := HI.out.box.three
    obtain ⟨kt, gt, xs⟩ := t'
    obtain ⟨Aq, nq, cq, eq, _, _, hl, hnc, hcm, _⟩ := Rd_node.1 HI.out.rd
    have eq' : k' = kt ∧ h' = gt ∧ A' = Aq ∧ n' = nq ∧ c' = cq := by simpa using eq
    obtain ⟨rfl, rfl, rfl, rfl, rfl⟩ := eq'
    have HAS := Lib.hid (asksC k' h' A' n' c' (by omega) wr)
    obtain ⟨R, hR⟩ : ∃ R, asB k' n' = R := ⟨_, rfl⟩
    rw [hR] at HAS
    have HR := Lib.hid hR
    have HL := Lib.hid hl
    clear eq hl hnc hcm hR
    go_wp2_with fail
    refine HAS.out.mono ?_
    clear HAS
    rintro e w1 ⟨rfl, hb1⟩
    have y0 := HI.out.box.keep hb1 HI.out.box.lt
    have y1 := HI.out.res.keep hb1 HI.out.res.lt
    have HY := Lib.hid (And.intro y0 y1)
    have hbw := HI.out.below.trans (hb1.mono HI.out.below.size)
    have HBW := Lib.hid hbw
    clear p0 p1 p2 hb1
    cases R
    · obtain ⟨p0, p1, p2⟩ := y0.three
      obtain ⟨r0, r1, r2⟩ := y1.three
      have f0 := y1.frozen 0
      have f1 := y1.frozen 1
      have f2 := y1.frozen 2
      have l1 := y1.lt
      clear y0 y1 hbw
      go_wp2_with fail
      refine bodyPost_ret (v := .agg #[.int .i64 k', .int .i64 h', .slice A' n' c']) (by simp [results, Tryz.results40, go_sem, r0, r1, r2]) rfl ?_
      refine ⟨k', h', A', n', c', rfl, ?_, below_set3Q HBW.out (by omega) _ _ _⟩
      have := HI.out.rd
      rw [HI.out.eq, spR_no (by rw [HL.out]; exact HR.out)]
      exact this
    · obtain ⟨rfl, a, b, rfl⟩ := pi_of (show asB k' xs.length = true by rw [HL.out]; exact HR.out)
      obtain ⟨bb, o, cc, ev, hc2, hcm, _, kb, gb, Ab, nb, cb, d0, d1, d2, hrb⟩ := rd_pi HI.out.rd
      have ev' : A' = some ⟨bb, o, none⟩ ∧ n' = 2 ∧ c' = cc := by simpa using ev
      obtain ⟨rfl, rfl, rfl⟩ := ev'
      obtain ⟨p0, p1, p2⟩ := y0.three
      have f0 := y0.frozen 0
      have f1 := y0.frozen 1
      have f2 := y0.frozen 2
      have l0 := y0.lt
      have c0 := (hbw.cell (cell_lt d0)).trans d0
      have c1 := (hbw.cell (cell_lt d1)).trans d1
      have c2 := (hbw.cell (cell_lt d2)).trans d2
      have HRB := Lib.hid hrb
      clear y0 y1 hbw ev hc2 hcm hrb d0 d1 d2
      go_wp2_with fail
      go_roundg (nd b)
      case measure => rw [HG.out, nd, ndL, ndL]; omega
      case rel =>
        refine ⟨b, kb, gb, Ab, nb, cb, rfl, Lib.hid ⟨?_, HY.out.2.other3Q (by omega) _ _ _, HRB.out, below_set3Q HBW.out (Nat.le_refl _) _ _ _, ?_⟩⟩
        · have := ((HY.out.1.setAt 0 (.int .i64 kb)).setAt 1 (.int .i64 gb)).setAt 2 (.slice Ab nb cb)
          simpa using this
        · rw [HI.out.eq, spR_pi]

set_option maxHeartbeats 1000000 in
theorem kindC (t : T) (v : Value) (w : World) (hv : Rd w t v) :
    Calls Tryz.prog 20 #[v] w fun e w' => e = .returned (.bool (kiB t)) ∧ Below w.heap.size w w' := by
  obtain ⟨k, h, A, n, c, rfl⟩ := hv.full
  have hb : Below w.heap.size w (w.alloc (.cells #[.int .i64 k, .int .i64 h, .slice A n c] 36)) := (Below.refl _ _).alloc (Nat.le_refl _) _
  have HC := Lib.hid (endC t _ _ (Rd.keep hb _ _ hv))
  have HB := Lib.hid hb; clear hb
  have HV := Lib.hid hv; clear hv
  have hfd : ∀ (x y : Int) (A : Option Addr) (n c : Nat) (W : World), (Instr.field 36 (.agg #[.int .i64 x, .int .i64 y, .slice A n c]) 0).run Tryz.prog W = .ok (.int .i64 x) W := fun x y A n c W => by kernel_rfl
  go_enter Tryz.func20, Tryz.ntmps20
  go_wp2_with fail
  refine HC.out.mono ?_
  rintro e w1 ⟨k1, h1, A1, n1, c1, rfl, hr, hb1⟩
  have hK : kiB t = (k1 == 0) := by
    rcases hq : spRq t with ⟨kt, gt, xs⟩
    rw [hq] at hr
    obtain ⟨Aq, nq, cq, eq, _⟩ := Rd_node.1 hr
    have eq' : k1 = kt ∧ h1 = gt ∧ A1 = Aq ∧ n1 = nq ∧ c1 = cq := by simpa using eq
    rw [kiB, hq, kdQ, eq'.1, Bool.eq_iff_iff]
    simp
  have HK := Lib.hid hK; clear hK hr
  have hbw := HB.out.trans (hb1.mono HB.out.size)
  have HBW := Lib.hid hbw; clear hbw hb1
  go_wp2_with fail
  go_ret
  exact ⟨ret_bool HK.out.symm, HBW.out⟩

end Go.Proofs.YtmkahbbcagfbhaaGreatDoor
