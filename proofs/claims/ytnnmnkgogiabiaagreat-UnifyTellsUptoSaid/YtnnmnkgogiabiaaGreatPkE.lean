/-
  Texts of one proof, put together. No statement is proved here.
-/
import Derived.Test.YtnnmnkgogiabiaaGreatPkB
import Derived.Test.YtnnmnkgogiabiaaGreatPkT
import Derived.Test.YtnnmnkgogiabiaaGreatPkO
import Derived.Test.YtnnmnkgogiabiaaGreatSa

/-
  The document's own layer 8: its state in memory. No statement is proved here.
-/
namespace Go.Proofs.YtnnmnkgogiabiaaGreat
open Go.ChangeShapes Go.WideShapes Go.ChangeAt Go.RowKit
set_option linter.unusedVariables false

/-- the state's block -/
abbrev PR (sz : List Int) (Bk pu : Nat) (As : Option Addr) (cs : Nat) (w : World) (N : Nat) : Prop := Box w pu 47 #[.slice (some ⟨Bk, 0, none⟩) sz.length sz.length, .slice As sz.length cs, .int .i64 N]
/-- what metas are so far, beside blocks that are written, and how many nodes were reduced -/
structure RM (X : Nat → Prop) (sz : List Int) (Bk pu : Nat) (As : Option Addr) (cs : Nat) (bs : List BT) (N : Nat) (w : World) : Prop where
  ptr : PR sz Bk pu As cs w N
  row : ∃ c, Box w Bk 35 c ∧ c.size = sz.length * 4 ∧ BCs (fun b => ¬ X b) w c bs
  ne : Bk ≠ pu
  sizes : LI (UX Bk pu) w sz As
  up : ∀ b, UX Bk pu b → X b
theorem bcs_heap {ok : Nat → Prop} {w : World} {cs : Array Value} {bs : List BT} (h : BCs ok w cs bs) : BCs (fun b => ok b ∧ b < w.heap.size) w cs bs := fun i x hx => by
  obtain ⟨k, g, A, n, c, e0, e1, e2, e3, hr⟩ := h i x hx
  exact ⟨k, g, A, n, c, e0, e1, e2, e3, rdF_heap _ _ hr⟩
theorem RM.lt {X : Nat → Prop} {sz : List Int} {Bk pu : Nat} {As : Option Addr} {cs : Nat} {bs : List BT} {N : Nat} {w : World} (h : RM X sz Bk pu As cs bs N w) : Bk < w.heap.size ∧ pu < w.heap.size := by
  obtain ⟨c, h1, h2, h3⟩ := h.row
  exact ⟨h1.lt, h.ptr.lt⟩
/-- the count alone has turned; more new blocks are written -/
theorem RM.to {X X' : Nat → Prop} {sz : List Int} {Bk pu : Nat} {As : Option Addr} {cs : Nat} {bs : List BT} {N N' : Nat} {w w' : World} (h : RM X sz Bk pu As cs bs N w) (f : FrP pu w w') (hp : PR sz Bk pu As cs w' N') (hX : ∀ b, X' b → X b ∨ w.heap.size ≤ b) (hu : ∀ b, UX Bk pu b → X' b) : RM X' sz Bk pu As cs bs N' w' := by
  obtain ⟨c, h1, h2, h3⟩ := h.row
  refine ⟨hp, ⟨c, h1.fr f h.ne, h2, fun i x hx => ?_⟩, h.ne, h.sizes.fr f.ux, hu⟩
  obtain ⟨k, g, A, n, c, e0, e1, e2, e3, hr⟩ := bcs_heap h3 i x hx
  exact ⟨k, g, A, n, c, e0, e1, e2, e3, RdF.moveX (fun b hb hl => ⟨fun e => by
    rcases hX b e with e | e
    · exact hb.1 e
    · omega, f.block b hl fun e => hb.1 (h.up b (.inr e))⟩) _ _ hr⟩
theorem RM.keep {X : Nat → Prop} {sz : List Int} {Bk pu : Nat} {As : Option Addr} {cs : Nat} {bs : List BT} {N : Nat} {w w' : World} (h : RM X sz Bk pu As cs bs N w) (hb : Below w.heap.size w w') : RM X sz Bk pu As cs bs N w' :=
  h.to (Fr.below hb) (h.ptr.keep hb h.ptr.lt) (fun b e => .inl e) h.up
theorem RM.less {X X' : Nat → Prop} {sz : List Int} {Bk pu : Nat} {As : Option Addr} {cs : Nat} {bs : List BT} {N : Nat} {w : World} (h : RM X sz Bk pu As cs bs N w) (hX : ∀ b, X' b → X b ∨ w.heap.size ≤ b) (hu : ∀ b, UX Bk pu b → X' b) : RM X' sz Bk pu As cs bs N w :=
  h.to (Fr.refl _ _) h.ptr hX hu
theorem RM.cells {X : Nat → Prop} {sz : List Int} {Bk pu : Nat} {As : Option Addr} {cs : Nat} {bs : List BT} {N : Nat} {w : World} (h : RM X sz Bk pu As cs bs N w) (i : Nat) (x : BT) (hx : bs[i]? = some x) :
    ∃ k g A n c, w.cell? ⟨Bk, i * 4, none⟩ = some (.bool x.1) ∧ w.cell? ⟨Bk, i * 4 + 1, none⟩ = some (.int .i64 k) ∧ w.cell? ⟨Bk, i * 4 + 2, none⟩ = some (.int .i64 g) ∧ w.cell? ⟨Bk, i * 4 + 3, none⟩ = some (.slice A n c) ∧ RX X w x.2 (.agg #[.int .i64 k, .int .i64 g, .slice A n c]) := by
  obtain ⟨c, hb, hs, hc⟩ := h.row
  obtain ⟨k, g, A, n, c, e0, e1, e2, e3, hr⟩ := hc i x hx
  exact ⟨k, g, A, n, c, (hb.cell _).trans e0, (hb.cell _).trans e1, (hb.cell _).trans e2, (hb.cell _).trans e3, hr⟩
/-- one more node was reduced -/
theorem PR.count {sz : List Int} {Bk pu : Nat} {As : Option Addr} {cs : Nat} {N : Nat} {w : World} (h : PR sz Bk pu As cs w N) (N' : Nat) : PR sz Bk pu As cs (w.setCell ⟨pu, 2, none⟩ (.int .i64 N')) N' ∧ FrP pu w (w.setCell ⟨pu, 2, none⟩ (.int .i64 N')) := by
  refine ⟨?_, (Fr.refl (fun b => b = pu) w).putJ (a := ⟨pu, 2, none⟩) (fun _ => rfl) _⟩
  have := h.setAt (i := 2) (.int .i64 N')
  simpa using this
/-- an answer: a term and an error -/
def RE (X : Nat → Prop) (sz : List Int) (Bk pu : Nat) (As : Option Addr) (cs : Nat) (w : World) (R : Res) (e : Ending) (w' : World) : Prop :=
  FrP pu w w' ∧ match R with
  | .error ec => (∃ N', PR sz Bk pu As cs w' N') ∧ e = .returned (.tuple #[.agg #[.int .i64 0, .int .i64 0, .slice none 0 0], .int .i64 ec]) ∧ ec ≠ 0
  | .ok (t, N) => ∃ k h A n c, e = .returned (.tuple #[.agg #[.int .i64 k, .int .i64 h, .slice A n c], .int .i64 0]) ∧ RX X w' t (.agg #[.int .i64 k, .int .i64 h, .slice A n c]) ∧ PR sz Bk pu As cs w' N
/-- all of it in one -/
theorem RE.uni {X : Nat → Prop} {sz : List Int} {Bk pu : Nat} {As : Option Addr} {cs : Nat} {w : World} {R : Res} {e : Ending} {w' : World} (h : RE X sz Bk pu As cs w R e w') :
    ∃ k g A n c ec N', e = .returned (.tuple #[.agg #[.int .i64 k, .int .i64 g, .slice A n c], .int .i64 ec]) ∧ FrP pu w w' ∧ PR sz Bk pu As cs w' N' ∧ ((∃ t, R = .ok (t, N') ∧ ec = 0 ∧ RX X w' t (.agg #[.int .i64 k, .int .i64 g, .slice A n c])) ∨ (R = .error ec ∧ ec ≠ 0)) := by
  obtain ⟨hf, h⟩ := h
  cases R with
  | error ec => obtain ⟨⟨N', hp⟩, rfl, hne⟩ := h; exact ⟨0, 0, none, 0, 0, ec, N', rfl, hf, hp, .inr ⟨rfl, hne⟩⟩
  | ok p => obtain ⟨t, N⟩ := p; obtain ⟨k, g, A, n, c, rfl, hr, hp⟩ := h; exact ⟨k, g, A, n, c, 0, N, rfl, hf, hp, .inl ⟨t, rfl, rfl, hr⟩⟩
/-- what holds at the head of reduce's loop -/
structure RdJ (X : Nat → Prop) (sz : List Int) (Bk pu : Nat) (As : Option Addr) (cs : Nat) (bs : List BT) (m : Int) (R : Res) (w wr : World) (t : T) (N f : Nat) (k h : Int) (A : Option Addr) (n c : Nat) : Prop where
  box : Box wr w.heap.size 24 #[.int .i64 k, .int .i64 h, .slice A n c]
  res : Box wr (w.heap.size + 1) 24 #[.int .i64 0, .int .i64 0, .slice none 0 0]
  rt : RX (YV X w.heap.size) wr t (.agg #[.int .i64 k, .int .i64 h, .slice A n c])
  ptr : PR sz Bk pu As cs wr (N + 1)
  fr : FrP pu w wr
  ok : okU sz bs N
  wt : WT (kN N + m) t
  fu : 40001 ≤ f + N
  hi : N ≤ 40000
  eq : R = rdU bs m f t N
end Go.Proofs.YtnnmnkgogiabiaaGreat

/-
  Contract of the document's reduce of layer 8. No statement is proved here.
-/
namespace Go.Proofs.YtnnmnkgogiabiaaGreat
open Go.ChangeShapes Go.WideShapes Go.ChangeAt Go.RowKit
set_option linter.unusedVariables false

set_option maxRecDepth 100000 in
set_option maxHeartbeats 8000000 in
theorem rReduceC {X : Nat → Prop} {sz : List Int} {Bk pu : Nat} {As : Option Addr} {cs : Nat} {bs : List BT} (m : Int) (f : Nat) (t : T) (N : Nat) (k h : Int) (A : Option Addr) (n c : Nat) (w : World) (hst : RM X sz Bk pu As cs bs N w) (hok : okU sz bs N) (ht : WT (kN N + m) t) (hm : 0 ≤ m) (hm2 : m ≤ 100000) (hf : 40001 ≤ f + N) (hN : N ≤ 40000)
    (hX2 : ∀ b, X b → b < w.heap.size) (hr : RX X w t (.agg #[.int .i64 k, .int .i64 h, .slice A n c])) :
    Calls Tryz.prog 29 #[.pointer (some ⟨pu, 0, none⟩), .agg #[.int .i64 k, .int .i64 h, .slice A n c], .int .i64 m] w (RE X sz Bk pu As cs w (rdU bs m f t N)) := by
  have hlt := hst.lt
  obtain ⟨R, hR⟩ : ∃ R, R = rdU bs m f t N := ⟨_, rfl⟩
  rw [← hR]
  obtain ⟨s, hs⟩ : ∃ s : Int, ((N + 1 : Nat) : Int) = s := ⟨_, rfl⟩
  have hw1 : IntKind.i64.wrap ((N : Int) + 1) = s := by rw [wrapEq, wrap_small (by omega) (by omega)]; omega
  have hcnt := hst.ptr.count (N + 1)
  rw [hs] at hcnt
  obtain ⟨w0, hw0⟩ : ∃ w0, w.setCell ⟨pu, 2, none⟩ (.int .i64 s) = w0 := ⟨_, rfl⟩
  rw [hw0] at hcnt
  have sw0 : w0.heap.size = w.heap.size := by rw [← hw0]; simp [World.setCell]
  obtain ⟨W1, hW1⟩ : ∃ W1, (w0.alloc (.cells #[.int .i64 k, .int .i64 h, .slice A n c] 24)).alloc (.cells #[.int .i64 0, .int .i64 0, .slice none 0 0] 24) = W1 := ⟨_, rfl⟩
  have hb : Below w0.heap.size w0 W1 := by rw [← hW1]; exact ((Below.refl _ _).alloc (Nat.le_refl _) _).alloc (by simp) _
  have x0 : Box W1 w.heap.size 24 #[.int .i64 k, .int .i64 h, .slice A n c] := by rw [← hW1, ← sw0]; exact (Box.new _ _ _).alloc _
  have x1 : Box W1 (w.heap.size + 1) 24 #[.int .i64 0, .int .i64 0, .slice none 0 0] := by rw [← hW1, ← sw0]; exact (Box.new (w0.alloc _) _ _).at (by simp)
  have hr' : RX (YV X w.heap.size) W1 t (.agg #[.int .i64 k, .int .i64 h, .slice A n c]) := by
    refine RdF.moveX (fun b hb' hl => ⟨fun e => ?_, (hb.block b (by omega)).trans (hcnt.2.block b hl fun e => hb' (hst.up _ (.inr e)))⟩) _ _ hr
    rcases e with e | e | e
    · exact hb' e
    · omega
    · omega
  have HI : Hid (RdJ X sz Bk pu As cs bs m R w W1 t N f k h A n c) := Lib.hid ⟨x0, x1, hr', by
    have := hcnt.1.keep hb (by omega)
    exact this, hcnt.2.then hb, hok, ht, hf, hN, hR⟩
  obtain ⟨p0, p1, p2⟩ := hst.ptr.three
  have fp := hst.ptr.frozen 2
  have lp := hlt.2
  have HST := Lib.hid hst
  have HX2 := Lib.hid hX2
  have HW := Lib.hid hW1
  clear hr hr' hst hok ht hb x0 x1 hR hcnt hs hW1 hX2
  subst hw0
  go_enter Tryz.func29, Tryz.ntmps29
  go_wp2_with fail
  rw [HW.out]
  clear HW hw1 fp lp p0 p1 p2
  go_loopg [] f (fun g wr => ∃ (t' : T) (N' : Nat) (k h : Int) (A : Option Addr) (n c : Nat), Hid (RdJ X sz Bk pu As cs bs m R w wr t' N' g k h A n c))
  case atStart => exact ⟨t, N, k, h, A, n, c, HI⟩
  case round =>
    clear HI
    obtain ⟨t', N', k', h', A', n', c', HI⟩ := hrel
    have hN' := HI.out.hi
    obtain ⟨s1, hs1⟩ : ∃ s : Int, ((N' + 1 : Nat) : Int) = s := ⟨_, rfl⟩
    obtain ⟨kt, gt, xs⟩ := t'
    have hkt := RdF_node.1 HI.out.rt
    obtain ⟨Aq, nq, cq, eq, wfk, wfh, hl, hnc, hcm, hxs⟩ := hkt
    have eq' : k' = kt ∧ h' = gt ∧ A' = Aq ∧ n' = nq ∧ c' = cq := by simpa using eq
    obtain ⟨rfl, rfl, rfl, rfl, rfl⟩ := eq'
    have HXS := Lib.hid (And.intro hl (And.intro hnc hcm))
    have HRM := Lib.hid (HST.out.to HI.out.fr HI.out.ptr (fun b e => .inl e) HST.out.up)
    have hlen := HI.out.ok.len
    have sfr := HI.out.fr.size
    obtain ⟨p0, p1, p2⟩ := HI.out.ptr.three
    rw [hs1] at p2
    obtain ⟨c0, c1, c2⟩ := HI.out.box.three
    have r0 := Past.cell c0
    have r1 := Past.cell c1
    have r2 := Past.cell c2
    have t0 := Past.cell p0
    have t2 := Past.cell p2
    have HS1 := Lib.hid hs1
    clear eq hl hnc hcm hxs wfk wfh c0 c1 c2 p0 p1 p2 hs1
    obtain ⟨S, hS⟩ : ∃ S, som bs (.node k' h' xs) = S := ⟨_, rfl⟩
    have HSO := Lib.hid hS
    cases S
    · have hway : (k' == 6) = false ∨ k' = 6 ∧ decide (h' < (sz.length : Int)) = false ∨ ∃ j : Nat, k' = 6 ∧ h' = j ∧ decide ((j : Int) < (sz.length : Int)) = true ∧ wr.cell? ⟨Bk, j * 4, none⟩ = some (.bool false) := by
        by_cases h6 : k' = 6
        · right
          have h0 := HI.out.wt.pos h6
          by_cases hhN : h' < (sz.length : Int)
          · right
            obtain ⟨j, rfl⟩ : ∃ j : Nat, h' = j := ⟨h'.toNat, by omega⟩
            obtain ⟨x, hx⟩ := at_of (k := j) hlen (by omega)
            obtain ⟨k3, h3, A3, n3, c3, d0, _⟩ := HRM.out.cells _ x hx
            have hx1 : x.1 = false := by
              rw [som, thI, hlen, decide_eq_true h6, decide_eq_true hhN, Int.toNat_natCast, List.getD_eq_getElem?_getD, hx] at hS
              simpa using hS
            rw [hx1] at d0
            exact ⟨j, h6, rfl, decide_eq_true hhN, d0⟩
          · exact .inl ⟨h6, decide_eq_false hhN⟩
        · exact .inl (by simpa using h6)
      clear hS
      rcases hway with e0 | ⟨rfl, e0⟩ | ⟨j, rfl, rfl, e0, e1⟩
      case' inr.inr =>
        have t3 := Past.cell e1
        have hj0 : (0 : Int) ≤ j := by omega
        have hj1 : (j : Int) < sz.length := of_decide_eq_true e0
      all_goals
        go_wp2_with fail
        refine wp_region_past (by kernel_rfl) (by kernel_rfl) ?_
        repeat (go_big_quiet_step (fail))
        refine wpQuiet_nil ?_
        rintro _ ⟨z1, rfl⟩
        obtain ⟨W4, hb4⟩ := z1
        dsimp only
        try clear t3
        clear r0 r1 r2 t0 t2
        have y0 := HI.out.box.keep hb4 HI.out.box.lt
        have y1 := HI.out.res.keep hb4 HI.out.res.lt
        have y2 : PR sz Bk pu As cs W4 (N' + 1) := HI.out.ptr.keep hb4 HI.out.ptr.lt
        have hne : w.heap.size + 1 ≠ pu := by have := HST.out.lt; omega
        obtain ⟨c0, c1, c2⟩ := y0.three
        obtain ⟨q0, q1, q2⟩ := y1.three
        obtain ⟨p0, p1, p2⟩ := y2.three
        rw [HS1.out] at p2
        have g0 := y1.frozen 0
        have g1 := y1.frozen 1
        have g2 := y1.frozen 2
        have HFR := Lib.hid (HI.out.fr.then hb4)
        have HRT := Lib.hid (RX.adv HI.out.rt (Adv.below hb4))
        have HPT := Lib.hid y2
        clear hb4 y0 y1 y2
        by_cases hgt : 40000 < N' + 1
        · have d : decide ((40000 : Int) < s1) = true := by have := HS1.out; simp; omega
          have heq := Lib.hid (HI.out.eq.trans (rdU_big hgt))
          clear hgt
          go_wp2_with fail
          refine bodyPost_ret (v := .tuple #[.agg #[.int .i64 0, .int .i64 0, .slice none 0 0], .int .i64 4]) (by simp [results, Tryz.results29, go_sem, q0, q1, q2]) rfl ?_
          rw [heq.out]
          exact ⟨HFR.out.set3 (fun h => by omega) _ _ _, ⟨_, (heap_other3 _ _ _ _ _ _ hne.symm).trans HPT.out⟩, rfl, by decide⟩
        · have d : decide ((40000 : Int) < s1) = false := by have := HS1.out; simp; omega
          have heq := Lib.hid (HI.out.eq.trans (rdU_stop hgt HI.out.fu HSO.out))
          clear hgt
          go_wp2_with fail
          refine bodyPost_ret (v := .tuple #[.agg #[.int .i64 _, .int .i64 _, .slice A' n' c'], .int .i64 0]) (by simp [results, Tryz.results29, go_sem, q0, q1, q2]; exact ⟨rfl, rfl⟩) rfl ?_
          rw [heq.out]
          refine ⟨HFR.out.set3 (fun h => by omega) _ _ _, _, _, A', n', c', rfl, ?_, (heap_other3 _ _ _ _ _ _ hne.symm).trans HPT.out⟩
          exact RdF.moveX (fun b hb' hl => ⟨fun e => hb' (.inl e), heap_other3 _ _ _ _ _ _ (fun e => hb' (.inr (.inr e)))⟩) _ _ HRT.out
    · obtain ⟨rfl, hjl, hj1, hj2⟩ := (HI.out.ok.mono (Nat.le_succ N')).is HSO.out
      obtain ⟨hj3, hj4⟩ := hj2 (HI.out.wt.pos rfl)
      obtain ⟨j, rfl⟩ : ∃ j : Nat, h' = j := ⟨h'.toNat, by have := HI.out.wt.pos rfl; omega⟩
      rw [Int.toNat_natCast] at hj3 hj4
      have HRM2 := Lib.hid (HST.out.to HI.out.fr HI.out.ptr (X' := YV X w.heap.size) (fun b e => by
        rcases e with e | e | e
        · exact .inl e
        · exact .inr (by omega)
        · exact .inr (by omega)) (fun b e => .inl (HST.out.up b e)))
      obtain ⟨kb, gb, Ab, nb, cb, d0, d1, d2, d3, hrb⟩ := HRM2.out.cells j _ hj3
      dsimp only at hrb d0
      have hjn : (j : Int) < sz.length := by omega
      have hj0 : (0 : Int) ≤ j := by omega
      have hdj : decide ((j : Int) < (sz.length : Int)) = true := decide_eq_true hjn
      have t3 := Past.cell d0
      have HJ4 := Lib.hid hj4
      have HRB := Lib.hid hrb
      have HDD := Lib.hid (And.intro d1 (And.intro d2 d3))
      clear hS hj1 hj2 hj3 hj4 hrb d0 d1 d2 d3
      go_wp2_with fail
      refine wp_region_past (by kernel_rfl) (by kernel_rfl) ?_
      repeat (go_big_quiet_step (fail))
      refine wpQuiet_nil ?_
      rintro _ ⟨z1, rfl⟩
      obtain ⟨W4, hb4⟩ := z1
      dsimp only
      clear r0 r1 r2 t0 t2 t3
      have bw0 := HI.out.box.keep hb4 HI.out.box.lt
      have bw1 := HI.out.res.keep hb4 HI.out.res.lt
      have bp : PR sz Bk pu As cs W4 (N' + 1) := HI.out.ptr.keep hb4 HI.out.ptr.lt
      have hlt0 := HST.out.lt
      have hne : w.heap.size + 1 ≠ pu := by omega
      have s4 := hb4.size
      obtain ⟨p0, p1, p2⟩ := bp.three
      rw [HS1.out] at p2
      have HFR := Lib.hid (HI.out.fr.then hb4)
      have HRT := Lib.hid (RX.adv HI.out.rt (Adv.below hb4))
      have HPB := Lib.hid bp
      have HB0 := Lib.hid bw0
      have HB1 := Lib.hid bw1
      have HRB := Lib.hid (RX.adv HRB.out (Adv.below hb4))
      have d1 := (hb4.cell (cell_lt HDD.out.1)).trans HDD.out.1
      have d2 := (hb4.cell (cell_lt HDD.out.2.1)).trans HDD.out.2.1
      have d3 := (hb4.cell (cell_lt HDD.out.2.2)).trans HDD.out.2.2
      have l0 := bw0.lt
      have l1 := bw1.lt
      by_cases hgt : 40000 < N' + 1
      · have d : decide ((40000 : Int) < s1) = true := by have := HS1.out; simp; omega
        have heq := Lib.hid (HI.out.eq.trans (rdU_big hgt))
        obtain ⟨q0, q1, q2⟩ := bw1.three
        have g0 := bw1.frozen 0
        have g1 := bw1.frozen 1
        have g2 := bw1.frozen 2
        clear hgt bw0 bw1 bp d1 d2 d3
        go_wp2_with fail
        refine bodyPost_ret (v := .tuple #[.agg #[.int .i64 0, .int .i64 0, .slice none 0 0], .int .i64 4]) (by simp [results, Tryz.results29, go_sem, q0, q1, q2]) rfl ?_
        rw [heq.out]
        exact ⟨HFR.out.set3 (fun h => by omega) _ _ _, ⟨_, (heap_other3 _ _ _ _ _ _ hne.symm).trans HPB.out⟩, rfl, by decide⟩
      · have d : decide ((40000 : Int) < s1) = false := by have := HS1.out; simp; omega
        obtain ⟨g, hg, hstep⟩ := rdU_step hgt HI.out.fu HSO.out
        have HEQ := Lib.hid (HI.out.eq.trans hstep); clear hstep
        have HG := Lib.hid hg; clear hg
        have HGT := Lib.hid hgt; clear hgt
        have HAP : Hid (∀ W', Hid (Below W4.heap.size W4 W') → Calls Tryz.prog 42 #[.agg #[.int .i64 kb, .int .i64 gb, .slice Ab nb cb], .agg #[.slice A' n' c', .int .i64 m]] W' fun e w2 => ∃ k2 h2 A2 n2 c2, e = .returned (.tuple #[.agg #[.int .i64 k2, .int .i64 h2, .slice A2 n2 c2], .int .i64 (apE (isT bs j) xs m)]) ∧ RX (fun b => YV X w.heap.size b ∨ W4.heap.size ≤ b ∧ b < W'.heap.size) w2 (apT (isT bs j) xs m) (.agg #[.int .i64 k2, .int .i64 h2, .slice A2 n2 c2]) ∧ Hid (Below W4.heap.size W4 w2) ∧ Below W'.heap.size W' w2) := Lib.hid fun W' h' => by
          obtain ⟨hl, hnc, hcm⟩ := HXS.out
          have hmv : ∀ b, ¬ YV X w.heap.size b → b < W4.heap.size → ¬ (YV X w.heap.size b ∨ W4.heap.size ≤ b ∧ b < W'.heap.size) ∧ W'.heap[b]? = W4.heap[b]? := fun b hb hl => ⟨fun e => by
            rcases e with e | e
            · exact hb e
            · omega, h'.out.block b hl⟩
          refine (rApplyX (Z := fun b => YV X w.heap.size b ∨ W4.heap.size ≤ b ∧ b < W'.heap.size) (t := isT bs j) (L := xs) (sh := m) (fun b e => ?_) (RdF.moveX hmv _ _ HRB.out) ⟨hl, hnc, hcm, fun i t ht => ?_⟩ (by have := HJ4.out.cnt; omega) (fun x hx => ?_) (fun _ => ?_) (fun x hx _ => ?_)).mono ?_
          · have := h'.out.size
            rcases e with (e | e | e) | e
            · have := HX2.out b e; omega
            · omega
            · omega
            · omega
          · obtain ⟨Aq, nq, cq, eq, _, _, _, _, _, hxs⟩ := RdF_node.1 HRT.out
            have eq' : A' = Aq ∧ n' = nq ∧ c' = cq := by simpa using eq
            obtain ⟨rfl, rfl, rfl⟩ := eq'
            exact RdFAt.moveX hmv (hxs i t ht)
          · obtain ⟨i, hi⟩ := List.mem_iff_getElem?.1 hx
            have := (HI.out.wt.arg hi).cnt
            omega
          · have hz := HI.out.ok.szs j
            exact WT.lo (m := sz.getD j 0) (N := N' + 1) HJ4.out (by omega) (by omega)
          · obtain ⟨i, hi⟩ := List.mem_iff_getElem?.1 hx
            have := HI.out.wt.arg hi
            rw [bd_bind (by omega) (by omega), Int.add_zero] at this
            exact WT.lo (N := N') this (by omega) (by omega)
          · rintro e w2 ⟨k2, h2, A2, n2, c2, rfl, hrd, hb2⟩
            exact ⟨k2, h2, A2, n2, c2, rfl, hrd, Lib.hid (h'.out.trans (hb2.mono h'.out.size)), hb2⟩
        have HK : Hid (∀ w', Hid (Below W4.heap.size W4 w') → ((w'.cell? ⟨pu, 0, none⟩ = some (.slice (some ⟨Bk, 0, none⟩) sz.length sz.length) ∧ w'.cell? ⟨w.heap.size, 1, none⟩ = some (.int .i64 j) ∧ w'.cell? ⟨w.heap.size, 2, none⟩ = some (.slice A' n' c') ∧ w'.cell? ⟨Bk, j * 4 + 1, none⟩ = some (.int .i64 kb) ∧ w'.cell? ⟨Bk, j * 4 + 2, none⟩ = some (.int .i64 gb) ∧ w'.cell? ⟨Bk, j * 4 + 3, none⟩ = some (.slice Ab nb cb)) ∧ Hid (Below W4.heap.size W4 w'))) := by
          obtain ⟨c0, c1, c2⟩ := bw0.three
          exact Lib.hid fun w' h' => ⟨⟨(h'.out.cell (cell_lt p0)).trans p0, (h'.out.cell (cell_lt c1)).trans c1, (h'.out.cell (cell_lt c2)).trans c2, (h'.out.cell (cell_lt d1)).trans d1, (h'.out.cell (cell_lt d2)).trans d2, (h'.out.cell (cell_lt d3)).trans d3⟩, h'⟩
        have hcu0 : Hid (Below W4.heap.size W4 W4.drew) := cur_drew
        obtain ⟨E, hE⟩ : ∃ E, apE (isT bs j) xs m = E := ⟨_, rfl⟩
        obtain ⟨U, hU⟩ : ∃ U, apT (isT bs j) xs m = U := ⟨_, rfl⟩
        rw [hE, hU] at HEQ
        rw [hE, hU] at HAP
        have HE := Lib.hid hE; clear hE
        have HU := Lib.hid hU; clear hU
        clear p0 p1 d1 d2 d3 bp bw0 bw1 HRM HRM2 hdj
        go_wp2_with fail
        clear p2
        go_region_held3 (fun w' => (w'.cell? ⟨pu, 0, none⟩ = some (.slice (some ⟨Bk, 0, none⟩) sz.length sz.length) ∧ w'.cell? ⟨w.heap.size, 1, none⟩ = some (.int .i64 j) ∧ w'.cell? ⟨w.heap.size, 2, none⟩ = some (.slice A' n' c') ∧ w'.cell? ⟨Bk, j * 4 + 1, none⟩ = some (.int .i64 kb) ∧ w'.cell? ⟨Bk, j * 4 + 2, none⟩ = some (.int .i64 gb) ∧ w'.cell? ⟨Bk, j * 4 + 3, none⟩ = some (.slice Ab nb cb)) ∧ Hid (Below W4.heap.size W4 w'))
          (first | exact HK.out _ (by assumption) | exact HK.out _ (cur_alloc (by assumption) _) | exact HK.out _ (cur_set3 (by assumption) (by omega) _ _ _))
          (first
            | (go_at_call 42
               with_reducible refine Calls.mono (HAP.out _ ?hh) ?_
               case hh => first | assumption | exact cur_alloc (by assumption) _
               rintro e w2 ⟨k2, h2, A2, n2, c2, rfl, hrx, hcu, hb8⟩
               first | (have zP := Box.keepC (cs := #[.int .i64 0, .int .i64 0, .slice none 0 0]) (ty := 24) (by first | exact zP | exact zP.alloc _ | exact (zP.alloc _).alloc _ | exact Box.new _ _ _ | exact (Box.new _ _ _).alloc _ | exact Box.drewI (Box.new _ _ _) | exact Box.drewI ((Box.new _ _ _).alloc _)) hb8; (try (with_reducible replace zP := zP.at1)); have lzhb8 := zP.lt) | skip
               first | (obtain ⟨z0, z1, z2⟩ := zP.three; have fz0 := zP.frozen 0; have fz1 := zP.frozen 1; have fz2 := zP.frozen 2) | skip
               have hs2 := hcu.out.size
               have HRX := Lib.hid hrx; clear hrx hb8))
        all_goals first
          | (obtain ⟨Wf, hWf⟩ : ∃ Wf, w2.alloc (.cells #[.int .i64 k2, .int .i64 h2, .slice A2 n2 c2] 24) = Wf := ⟨_, rfl⟩
             obtain ⟨pI, hpe⟩ : ∃ p, p = w2.heap.size := ⟨_, rfl⟩
             have xI : Box Wf pI 24 #[.int .i64 k2, .int .i64 h2, .slice A2 n2 c2] := by rw [hpe, ← hWf]; exact Box.new _ _ _
             have hbF : Below W4.heap.size W4 Wf := by rw [← hWf]; exact (cur_alloc (by assumption) _).out
             have hIl : W4.heap.size ≤ pI := by omega
             have hrf : RX (YV X w.heap.size) Wf U (.agg #[.int .i64 k2, .int .i64 h2, .slice A2 n2 c2]) := by
               rw [← hWf]
               exact RdF.moveX (fun b hb' hl => ⟨fun e => hb' (.inl e), Below.heap_alloc _ _ _ hl⟩) _ _ HRX.out
             rw [hWf, ← hpe]
             clear hWf hpe)
          | (obtain ⟨Wf, hWf⟩ : ∃ Wf, ((w2.setCell ⟨W4.heap.size, 0, none⟩ (.int .i64 k2)).setCell ⟨W4.heap.size, 1, none⟩ (.int .i64 h2)).setCell ⟨W4.heap.size, 2, none⟩ (.slice A2 n2 c2) = Wf := ⟨_, rfl⟩
             obtain ⟨pI, hpe⟩ : ∃ p, p = W4.heap.size := ⟨_, rfl⟩
             have xI : Box Wf pI 24 #[.int .i64 k2, .int .i64 h2, .slice A2 n2 c2] := by rw [hpe, ← hWf]; exact zP.put3 _ _ _
             have hbF : Below W4.heap.size W4 Wf := by rw [← hWf]; exact (cur_set3 (by assumption) (by omega) _ _ _).out
             have hIl : W4.heap.size ≤ pI := by omega
             have hrf : RX (YV X w.heap.size) Wf U (.agg #[.int .i64 k2, .int .i64 h2, .slice A2 n2 c2]) := by
               rw [← hWf]
               exact RdF.moveX (fun b hb' hl => ⟨fun e => hb' (.inl e), heap_other3 _ _ _ _ _ _ (fun e => hb' (.inr (by simp; omega)))⟩) _ _ HRX.out
             rw [hWf, ← hpe]
             clear hWf hpe)
        all_goals
          try clear zP z0 z1 z2 fz0 fz1 fz2
          clear HRX hcu hs2 HAP HK hcu0
          have bp := HPB.out.keep hbF HPB.out.lt
          have bw0 := HB0.out.keep hbF HB0.out.lt
          have bw1 := HB1.out.keep hbF HB1.out.lt
          have HPB := Lib.hid bp
          have HB0 := Lib.hid bw0
          have HB1 := Lib.hid bw1
          have HFR := Lib.hid (HFR.out.then hbF)
          have hsF := hbF.size
          have HRF := Lib.hid hrf; clear hrf
          by_cases he0 : E = 0
          · have hd : (E != 0) = false := by simpa using he0
            have heq := Lib.hid (HEQ.out.trans (if_pos he0)); clear HEQ
            have HE0 := Lib.hid he0; clear he0
            obtain ⟨y0, y1, y2⟩ := bw0.three
            obtain ⟨i0, i1, i2⟩ := xI.three
            have f0 := bw0.frozen 0
            have f1 := bw0.frozen 1
            have f2 := bw0.frozen 2
            have lb0 := bw0.lt
            obtain ⟨r0, r1, r2⟩ := bp.three
            rw [HS1.out] at r2
            have fr2 := bp.frozen 2
            obtain ⟨s2, hs2⟩ : ∃ s2 : Int, ((N' + 1 + 1 : Nat) : Int) = s2 := ⟨_, rfl⟩
            have hw2 : IntKind.i64.wrap (s1 + 1) = s2 := by have := HS1.out; rw [wrapEq, wrap_small (by omega) (by omega)]; omega
            have hpw : pu ≠ w.heap.size := by omega
            have HS2 := Lib.hid hs2
            have HW5 : Hid (∀ W5, ((Wf.setCell ⟨w.heap.size, 0, none⟩ (.int .i64 k2)).setCell ⟨w.heap.size, 1, none⟩ (.int .i64 h2)).setCell ⟨w.heap.size, 2, none⟩ (.slice A2 n2 c2) = W5 → RdJ X sz Bk pu As cs bs m R w (W5.setCell ⟨pu, 2, none⟩ (.int .i64 s2)) U (N' + 1) g k2 h2 A2 n2 c2) := Lib.hid fun W5 h5 => by
              have hp5 : PR sz Bk pu As cs W5 (N' + 1) := by rw [← h5]; exact (heap_other3 _ _ _ _ _ _ hpw).trans HPB.out
              have hc5 := hp5.count (N' + 1 + 1)
              rw [HS2.out] at hc5
              have hb5 : Box W5 w.heap.size 24 #[.int .i64 k2, .int .i64 h2, .slice A2 n2 c2] := by rw [← h5]; exact HB0.out.put3 _ _ _
              have hr5 : Box W5 (w.heap.size + 1) 24 #[.int .i64 0, .int .i64 0, .slice none 0 0] := by rw [← h5]; exact (heap_other3 _ _ _ _ _ _ (by omega)).trans HB1.out
              have hf5 : FrP pu w W5 := by rw [← h5]; exact HFR.out.set3 (fun h => by omega) _ _ _
              have hrf5 : RX (YV X w.heap.size) W5 U (.agg #[.int .i64 k2, .int .i64 h2, .slice A2 n2 c2]) := by rw [← h5]; exact RdF.moveX (fun b hb hl => ⟨hb, heap_other3 _ _ _ _ _ _ fun e => hb (.inr (.inl e))⟩) _ _ HRF.out
              have hwt := red_wt HI.out.ok HI.out.wt hm HSO.out (by rw [HE.out]; exact HE0.out)
              rw [HU.out] at hwt
              exact ⟨hb5.fr hc5.2 (by omega), hr5.fr hc5.2 (by omega), RdF.moveX (fun b hb hl => ⟨hb, hc5.2.block b hl fun e => hb (.inl (HST.out.up _ (.inr e)))⟩) _ _ hrf5, by
                have := hc5.1
                exact this, hf5.trans hc5.2 fun _ _ e => e, HI.out.ok.mono (by omega), hwt, by have := HG.out; have := HI.out.fu; omega, by have := HGT.out; omega, heq.out⟩
            clear bw0 bw1 bp hs2
            go_wp2_with fail
            go_roundg g
            case measure => have := HG.out; omega
            case rel => exact ⟨U, N' + 1, k2, h2, A2, n2, c2, Lib.hid (HW5.out _ rfl)⟩
          · have hd : (E != 0) = true := by simpa using he0
            have heq := Lib.hid (HEQ.out.trans (if_neg he0)); clear HEQ
            obtain ⟨r0, r1, r2⟩ := bw1.three
            have g0 := bw1.frozen 0
            have g1 := bw1.frozen 1
            have g2 := bw1.frozen 2
            clear bw0 bw1 bp
            go_wp2_with fail
            refine bodyPost_ret (v := .tuple #[.agg #[.int .i64 0, .int .i64 0, .slice none 0 0], .int .i64 E]) (by simp [results, Tryz.results29, go_sem, r0, r1, r2]) rfl ?_
            rw [heq.out]
            exact ⟨HFR.out.set3 (fun h => by omega) _ _ _, ⟨_, (heap_other3 _ _ _ _ _ _ (by omega)).trans HPB.out⟩, rfl, he0⟩
end Go.Proofs.YtnnmnkgogiabiaaGreat

/-
  Contract of the document's in of layer 8. No statement is proved here.
-/
namespace Go.Proofs.YtnnmnkgogiabiaaGreat
open Go.ChangeShapes Go.WideShapes Go.ChangeAt Go.RowKit
set_option linter.unusedVariables false

theorem take_memD {z : Int} {l : List Int} {q : Nat} {y : Int} (hy : l[q]? = some y) : z ∈ l.take (q + 1) ↔ z ∈ l.take q ∨ y = z := by
  rw [List.take_add_one, hy, List.mem_append]
  simp [eq_comm]
set_option maxRecDepth 100000 in
set_option maxHeartbeats 2000000 in
theorem rInC (zs : List Int) (A : Option Addr) (n c : Nat) (x : Int) (w : World) (hn : zs.length = n) (hc : n ≤ c) (hm : c ≤ maxLen) (hx : Nu w zs A) :
    Calls Tryz.prog 45 #[.slice A n c, .int .i64 x] w fun e w' => e = .returned (.bool (decide (x ∈ zs))) ∧ Below w.heap.size w w' := by
  unfold maxLen at hm
  have HN := Lib.hid hn; clear hn
  have HX := Lib.hid hx; clear hx
  go_enter Tryz.func45, Tryz.ntmps45
  go_wp2_with fail
  go_loop [5] (fun i => ∃ (q : Nat), q ≤ n ∧ i = .int .i64 q ∧ Hid (¬ x ∈ zs.take q)) (fun i => n - (Go.RowKit.intOf i).toNat)
  case atStart => exact ⟨0, Nat.zero_le _, rfl, Lib.hid (by simp)⟩
  case round =>
    obtain ⟨q, hq, rfl, HT⟩ := hrel
    by_cases hql : q < n
    · obtain ⟨z, hz⟩ := at_of HN.out hql
      obtain ⟨bz, oz, rfl, cz⟩ := HX.out q z hz
      have HTM := Lib.hid (take_memD (z := x) hz)
      have HIN := Lib.hid (List.mem_of_getElem? hz)
      have hq0 : (0 : Int) ≤ q := by omega
      have hq1 : (q : Int) < n := by omega
      clear hz
      by_cases hzx : z = x
      · have e0 : (z == x) = true := by simpa using hzx
        have HZ := Lib.hid hzx; clear hzx
        go_wp2_with fail
        go_ret
        exact ⟨ret_bool (by rw [decide_eq_true (by rw [← HZ.out]; exact HIN.out)]), Below.refl _ _⟩
      · have e0 : (z == x) = false := by simpa using hzx
        have HZ := Lib.hid hzx; clear hzx
        go_wp2_with fail
        go_round
        case rel =>
          refine ⟨q + 1, by omega, by go_num, Lib.hid fun h => ?_⟩
          rcases HTM.out.1 h with h | h
          · exact HT.out h
          · exact HZ.out h
        case measure => simp [Go.RowKit.intOf]; omega
    · have h1 := HT.out
      rw [List.take_of_length_le (by rw [HN.out]; omega)] at h1
      have HE := Lib.hid h1; clear h1
      go_wp2_with fail
      go_ret
      exact ⟨ret_bool (by rw [decide_eq_false HE.out]), Below.refl _ _⟩
end Go.Proofs.YtnnmnkgogiabiaaGreat

/-
  Contract of the document's resolve of layer 8. No statement is proved here.
-/
namespace Go.Proofs.YtnnmnkgogiabiaaGreat
open Go.ChangeShapes Go.WideShapes Go.ChangeAt Go.RowKit
set_option linter.unusedVariables false

/-- resolve's answer: a term of new blocks, and an error -/
def URr (sz : List Int) (Bk pu : Nat) (As : Option Addr) (cs : Nat) (w : World) (R : Res) (e : Ending) (w' : World) : Prop :=
  FrP pu w w' ∧ (∃ N', PR sz Bk pu As cs w' N') ∧ match R with
  | .error ec => e = .returned (.tuple #[.agg #[.int .i64 0, .int .i64 0, .slice none 0 0], .int .i64 ec]) ∧ ec ≠ 0
  | .ok (t, N) => ∃ k h A n c, e = .returned (.tuple #[.agg #[.int .i64 k, .int .i64 h, .slice A n c], .int .i64 0]) ∧ RdF (fun b => w.heap.size ≤ b) w' t (.agg #[.int .i64 k, .int .i64 h, .slice A n c]) ∧ PR sz Bk pu As cs w' N
/-- what one of them tells, a term in blocks from B on -/
def QRr (sz : List Int) (Bk pu : Nat) (As : Option Addr) (cs : Nat) (R : Res) (B : Nat) (w' : World) (k h : Int) (A : Option Addr) (n c : Nat) (ec : Int) : Prop :=
  (∃ t N, R = .ok (t, N) ∧ ec = 0 ∧ RdF (fun b => B ≤ b) w' t (.agg #[.int .i64 k, .int .i64 h, .slice A n c]) ∧ PR sz Bk pu As cs w' N) ∨ (R = .error ec ∧ ec ≠ 0 ∧ ∃ N, PR sz Bk pu As cs w' N)
theorem QRr.move {sz : List Int} {Bk pu : Nat} {As : Option Addr} {cs : Nat} {R : Res} {B B' : Nat} {w w' : World} {k h : Int} {A : Option Addr} {n c : Nat} {ec : Int} (q : QRr sz Bk pu As cs R B w k h A n c ec) (hB : B' ≤ B) (hm : ∀ b, b < w.heap.size → (B ≤ b ∨ b = pu) → w'.heap[b]? = w.heap[b]?) : QRr sz Bk pu As cs R B' w' k h A n c ec := by
  rcases q with ⟨t, N, h1, h2, h3, h4⟩ | ⟨h1, h2, N, h4⟩
  · exact .inl ⟨t, N, h1, h2, RdF.moveX (fun b hb hl => ⟨by omega, hm b hl (.inl hb)⟩) _ _ h3, (hm pu h4.lt (.inr rfl)).trans h4⟩
  · exact .inr ⟨h1, h2, N, (hm pu h4.lt (.inr rfl)).trans h4⟩
theorem QRr.alloc {sz : List Int} {Bk pu : Nat} {As : Option Addr} {cs : Nat} {R : Res} {B B' : Nat} {w : World} {k h : Int} {A : Option Addr} {n c : Nat} {ec : Int} (q : QRr sz Bk pu As cs R B w k h A n c ec) (hB : B' ≤ B) (o : Obj) : QRr sz Bk pu As cs R B' (w.alloc o) k h A n c ec :=
  q.move hB fun b hl _ => Below.heap_alloc _ _ _ hl
theorem QRr.set3 {sz : List Int} {Bk pu : Nat} {As : Option Addr} {cs : Nat} {R : Res} {B B' : Nat} {w : World} {k h : Int} {A : Option Addr} {n c : Nat} {ec : Int} (q : QRr sz Bk pu As cs R B w k h A n c ec) (hB : B' ≤ B) {p : Nat} (hp : p < B) (hpu : p ≠ pu) (u0 u1 u2 : Value) : QRr sz Bk pu As cs R B' (((w.setCell ⟨p, 0, none⟩ u0).setCell ⟨p, 1, none⟩ u1).setCell ⟨p, 2, none⟩ u2) k h A n c ec :=
  q.move hB fun b _ hb => heap_other3 _ _ _ _ _ _ (by omega)
/-- all of it in one -/
theorem URr.uni {sz : List Int} {Bk pu : Nat} {As : Option Addr} {cs : Nat} {w : World} {R : Res} {e : Ending} {w' : World} (h : URr sz Bk pu As cs w R e w') :
    ∃ k g A n c ec, e = .returned (.tuple #[.agg #[.int .i64 k, .int .i64 g, .slice A n c], .int .i64 ec]) ∧ FrP pu w w' ∧ QRr sz Bk pu As cs R w.heap.size w' k g A n c ec := by
  obtain ⟨hf, hp0, h⟩ := h
  cases R with
  | error ec => obtain ⟨rfl, hne⟩ := h; exact ⟨0, 0, none, 0, 0, ec, rfl, hf, .inr ⟨rfl, hne, hp0⟩⟩
  | ok p => obtain ⟨t, N⟩ := p; obtain ⟨k, g, A, n, c, rfl, hr, hp⟩ := h; exact ⟨k, g, A, n, c, 0, rfl, hf, .inl ⟨t, N, rfl, rfl, hr, hp⟩⟩

/-- what resolve tells, with a fuel -/
def ResD (sz : List Int) (Bk pu : Nat) (As : Option Addr) (cs : Nat) (bs : List BT) (f : Nat) : Prop :=
  ∀ (t : T) (m : Int) (N : Nat) (k h : Int) (A : Option Addr) (n c : Nat) (w : World), RM (UX Bk pu) sz Bk pu As cs bs N w → okU sz bs N → WT (kN N + m) t → 0 ≤ m → m + f ≤ 100000 → 40001 ≤ f + N → N ≤ 40000 → RX (UX Bk pu) w t (.agg #[.int .i64 k, .int .i64 h, .slice A n c]) →
    Calls Tryz.prog 19 #[.pointer (some ⟨pu, 0, none⟩), .agg #[.int .i64 k, .int .i64 h, .slice A n c], .int .i64 m] w (URr sz Bk pu As cs w (rsU bs f t m N))
/-- what holds at the head of resolve's loop -/
structure RvD (sz : List Int) (Bk pu : Nat) (As : Option Addr) (cs : Nat) (bs : List BT) (A : T → Int → Nat → Res) (k h : Int) (nn : Nat) (m : Int) (xs : List T) (N0 : Nat) (w1 : World) (A1 : Option Addr) (c1 : Nat) (j : Nat) (wr : World) (Av : Option Addr) (cv : Nat) (csv : List Value) (ys : List T) (N : Nat) : Prop where
  node : Box wr w1.heap.size 24 #[.int .i64 k, .int .i64 h, .slice A1 nn c1]
  out : Box wr (w1.heap.size + 1) 24 #[.int .i64 k, .int .i64 h, .slice Av j cv]
  row : GRow (fun b => b < w1.heap.size + 2) wr (w1.heap.size + 2) (.slice Av j cv) j csv ys
  fr : FrP pu w1 wr
  ptr : PR sz Bk pu As cs wr N
  ok : okU sz bs N
  hi : N ≤ 40000
  lo : N0 ≤ N
  eq : rsL A k nn m xs 0 N0 = cnU ys (rsL A k nn m (xs.drop j) j N)

set_option maxRecDepth 100000 in
set_option maxHeartbeats 8000000 in
theorem rResolveC {sz : List Int} {Bk pu : Nat} {As : Option Addr} {cs : Nat} {bs : List BT} : ∀ (f : Nat), ResD sz Bk pu As cs bs f := by
  intro f
  induction f with
  | zero => intro t m N k h A n c w _ _ _ _ _ h1 h2 _; omega
  | succ f ih =>
    intro t m N k h A n c w hst hok hwt hm hm2 hf hN hr
    obtain ⟨W, hW⟩ : ∃ W, (w.alloc (.cells #[.int .i64 k, .int .i64 h, .slice A n c] 24)).alloc (.cells #[.int .i64 0, .int .i64 0, .slice none 0 0] 24) = W := ⟨_, rfl⟩
    have hb : Below w.heap.size w W := by rw [← hW]; exact ((Below.refl _ _).alloc (Nat.le_refl _) _).alloc (by simp) _
    have x0 : Box W w.heap.size 24 #[.int .i64 k, .int .i64 h, .slice A n c] := by rw [← hW]; exact (Box.new _ _ _).alloc _
    have x2 : Box W (w.heap.size + 1) 24 #[.int .i64 0, .int .i64 0, .slice none 0 0] := by rw [← hW]; exact (Box.new (w.alloc _) _ _).at (by simp)
    have hlt := hst.lt
    have hr' : RX (XN Bk pu w W) W t (.agg #[.int .i64 k, .int .i64 h, .slice A n c]) := RdF.moveX (fun b hb' hl => ⟨fun e => by
      rcases e with e | e
      · exact hb' e
      · omega, hb.block b hl⟩) _ _ hr
    have HRC := Lib.hid (rReduceC (X := XN Bk pu w W) m (f + 1) t N k h A n c W (hst.to (Fr.below hb) (hst.ptr.keep hb hst.ptr.lt) (fun b e => by rcases e with e | e; exact .inl e; exact .inr e.1) (fun b e => .inl e)) hok hwt hm (by omega) hf hN (fun b e => by
      have := hb.size
      rcases e with (e | e) | e <;> omega) hr')
    obtain ⟨R, hR⟩ : ∃ R, rdU bs m (f + 1) t N = R := ⟨_, rfl⟩
    rw [hR] at HRC
    have HST := Lib.hid hst
    have HOK := Lib.hid hok
    have HWT := Lib.hid hwt
    have HIH := Lib.hid ih
    have HB := Lib.hid hb
    clear hr hr' hst hok hwt ih
    have HW := Lib.hid hW; clear hW
    go_enter Tryz.func19, Tryz.ntmps19
    go_wp2_with fail
    rw [HW.out]
    clear HW
    obtain ⟨c0, c1, c2⟩ := x0.three
    refine HRC.out.mono ?_
    intro e w1 hE
    obtain ⟨k1, h1, A1, n1, cc1, ec, N1, rfl, hfr, hpr, hq⟩ := hE.uni
    clear c0 c1 c2 hE
    have s0 := hb.size
    have y0 := x0.fr hfr (by omega)
    have y2 := x2.fr hfr (by omega)
    have s1 := hfr.size
    have l2 := y2.lt
    have HFR := Lib.hid ((Fr.below (X := fun b => b = pu) hb).trans hfr fun _ _ e => e)
    have HY2 := Lib.hid y2
    have HPR := Lib.hid hpr
    clear hb y0 hfr
    by_cases he0 : ec = 0
    case' neg =>
      have hRo : R = .error ec := by
        rcases hq with ⟨t1, e1, e2, e3⟩ | ⟨e1, e2⟩
        · exact absurd e2 he0
        · exact e1
      have hd : (ec != 0) = true := by simpa using he0
      have HRS := Lib.hid (rsU_e1 (hR.trans hRo))
      obtain ⟨q0, q1, q2⟩ := y2.three
      have r0 := y2.frozen 0
      have r1 := y2.frozen 1
      have r2 := y2.frozen 2
      have hw5 : w.heap.size + 1 ≠ pu := by omega
      clear hq hRo hR y2
      go_wp2_with fail
      refine bodyPost_ret (v := .tuple #[.agg #[.int .i64 0, .int .i64 0, .slice none 0 0], .int .i64 ec]) (by simp [results, Tryz.results19, go_sem, q0, q1, q2, l2]) rfl ?_
      rw [HRS.out]
      exact ⟨(HFR.out.set3 (fun h => by omega) _ _ _).then ((Below.refl _ _).alloc (Nat.le_refl _) _), ⟨N1, (Below.heap_alloc _ _ _ (by simp [World.setCell]; exact HPR.out.lt)).trans ((heap_other3 _ _ _ _ _ _ hw5.symm).trans HPR.out)⟩, rfl, he0⟩
    case' pos =>
      obtain ⟨t1, hRo, hrx⟩ : ∃ t1, R = .ok (t1, N1) ∧ RX (XN Bk pu w W) w1 t1 (.agg #[.int .i64 k1, .int .i64 h1, .slice A1 n1 cc1]) := by
        rcases hq with ⟨t1, e1, e2, e3⟩ | ⟨e1, e2⟩
        · exact ⟨t1, e1, e3⟩
        · exact absurd he0 e2
      subst he0
      rw [hRo] at hR
      obtain ⟨g1, g2, g3, _⟩ := rdU_good hm _ _ _ _ _ HOK.out HWT.out hR
      obtain ⟨kt, gt, xs⟩ := t1
      obtain ⟨Aq, nq, cq, eq, wfk, wfh, hl, hnc, hcm, hxs⟩ := RdF_node.1 hrx
      have eq' : k1 = kt ∧ h1 = gt ∧ A1 = Aq ∧ n1 = nq ∧ cc1 = cq := by simpa using eq
      obtain ⟨rfl, rfl, rfl, rfl, rfl⟩ := eq'
      clear eq hq hRo
      have hln := g3.len
      rw [hl] at hln
      have HN := Lib.hid hl
      have HXS : Hid (∀ i t, xs[i]? = some t → RdFAt (fun b => ¬ UX Bk pu b ∧ b < w1.heap.size) w1 A1 i t) := Lib.hid fun i t ht => by
        obtain ⟨b, o, v0, v1, v2, e, hb', d0, d1, d2, hr⟩ := hxs i t ht
        exact ⟨b, o, v0, v1, v2, e, ⟨fun e => hb' (.inl e), cell_lt d0⟩, d0, d1, d2, RdF.moveX (fun b hb _ => ⟨⟨fun e => hb.1 (.inl e), hb.2⟩, rfl⟩) _ _ (rdF_heap _ _ hr)⟩
      have HG3 := Lib.hid g3
      have HR := Lib.hid hR
      have HWF := Lib.hid (And.intro wfk (And.intro wfh (And.intro hnc hcm)))
      have hcm' := hcm
      unfold maxLen at hcm'
      obtain ⟨Wc, hWc⟩ : ∃ Wc, (w1.alloc (.cells #[.int .i64 k1, .int .i64 h1, .slice A1 n1 cc1] 24)).alloc (.cells #[.int .i64 k1, .int .i64 h1, .slice none 0 0] 24) = Wc := ⟨_, rfl⟩
      have hbC : Below w1.heap.size w1 Wc := by rw [← hWc]; exact ((Below.refl _ _).alloc (Nat.le_refl _) _).alloc (by simp) _
      have HI : Hid (RvD sz Bk pu As cs bs (rsU bs f) k1 h1 n1 m xs N1 w1 A1 cc1 0 Wc none 0 [] [] N1) := Lib.hid
        ⟨by rw [← hWc]; exact (Box.new _ _ _).alloc _, by rw [← hWc]; exact (Box.new (w1.alloc _) _ _).at (by simp), GRow.nil _ _ _, Fr.below hbC, HPR.out.keep hbC HPR.out.lt, HOK.out.mono (by omega), g2, Nat.le_refl _, by rw [List.drop_zero, cnU_nil]⟩
      clear hxs hrx g3 hR wfk wfh hbC y2
      have HWc := Lib.hid hWc; clear hWc
      go_wp2_with fail
      rw [HWc.out]
      clear HWc
      have l1 : w.heap.size + 1 < w1.heap.size := l2
      go_loopw [11] (fun i wr => ∃ (j : Nat) (Av : Option Addr) (cv : Nat) (csv : List Value) (ys : List T) (N : Nat), j ≤ n1 ∧ i = .int .i64 j ∧ Hid (RvD sz Bk pu As cs bs (rsU bs f) k1 h1 n1 m xs N1 w1 A1 cc1 j wr Av cv csv ys N)) (fun i _ => n1 - (Go.RowKit.intOf i).toNat)
      case atStart => exact ⟨0, none, 0, [], [], N1, Nat.zero_le _, rfl, HI⟩
      case round =>
        clear HI
        obtain ⟨j, Av, cv, csv, ys, NN, hj, rfl, HI⟩ := hrel
        have sr := HI.out.fr.size
        have x8 := HI.out.node
        have x10 := HI.out.out
        obtain ⟨a0, a1, a2⟩ := x8.three
        by_cases hlt : j < n1
        · obtain ⟨u, hu⟩ := at_of HN.out hlt
          have hat : RdFAt (fun b => ¬ UX Bk pu b) wr A1 j u := RdFAt.moveX (fun b hb hl => ⟨hb.1, HI.out.fr.block b hb.2 fun e => hb.1 (.inr e)⟩) (HXS.out j u hu)
          obtain ⟨b, o, ku, hku, Au, nu, cu, rfl, d0, d1, d2, hru⟩ := hat.full
          have HRU := Lib.hid hru
          have HU := Lib.hid hu
          have heq := HI.out.eq
          rw [drop_at hu, rsL] at heq
          have HEQ := Lib.hid heq
          have hi0 : (0 : Int) ≤ j := by omega
          have hi1 : (j : Int) < n1 := by omega
          have hbd := bd_cases k1 n1 j
          obtain ⟨M, hM⟩ : ∃ M, m + bd k1 n1 j = M := ⟨_, rfl⟩
          have hwM : IntKind.i64.wrap (m + bd k1 n1 j) = M := by rw [wrapEq, wrap_small (by omega) (by omega)]; exact hM
          have hM0 : 0 ≤ M := by omega
          have hM2 : M + f ≤ 100000 := by omega
          have HWTU : Hid (WT (kN NN + M) u) := Lib.hid (by
            have := HG3.out.arg hu
            rw [HN.out] at this
            exact this.mono (by have := kN_mono HI.out.lo; omega))
          have HRM := Lib.hid (HST.out.to (HFR.out.trans HI.out.fr fun _ _ e => e) HI.out.ptr (fun b e => .inl e) (fun b e => e))
          have HC1 : Hid (∀ W', Hid (Below wr.heap.size wr W') → Calls Tryz.prog 32 #[.agg #[.int .i64 k1, .int .i64 h1, .slice (some ⟨b, o, none⟩) n1 cc1], .int .i64 j] W' fun e w' => e = .returned (.int .i64 (bd k1 n1 j)) ∧ Hid (Below wr.heap.size wr w') ∧ Below W'.heap.size W' w') := Lib.hid fun W' h' => by
            refine (refBinds k1 h1 (some ⟨b, o, none⟩) n1 cc1 HWF.out.2.2.1 HWF.out.2.2.2 j (by unfold maxLen; omega) W').mono ?_
            rintro e w' ⟨rfl, hb⟩
            exact ⟨rfl, cur_trans h' hb, hb⟩
          have HC2 : Hid (∀ W', Hid (Below wr.heap.size wr W') → Calls Tryz.prog 19 #[.pointer (some ⟨pu, 0, none⟩), .agg #[.int .i64 ku, .int .i64 hku, .slice Au nu cu], .int .i64 M] W' fun e w' => ∃ k3 h3 A3 n3 c3 ec, e = .returned (.tuple #[.agg #[.int .i64 k3, .int .i64 h3, .slice A3 n3 c3], .int .i64 ec]) ∧ Hid (FrP pu wr w') ∧ Hid (FrP pu W' w') ∧ Hid (QRr sz Bk pu As cs (rsU bs f u M NN) W'.heap.size w' k3 h3 A3 n3 c3 ec)) := Lib.hid fun W' h' => by
            refine (HIH.out u M NN ku hku Au nu cu W' (HRM.out.keep h'.out) HI.out.ok HWTU.out hM0 hM2 (by have := HI.out.lo; omega) HI.out.hi (RX.fr HRU.out (Fr.below h'.out))).mono ?_
            intro e w' hE
            obtain ⟨k3, h3, A3, n3, c3, ec, rfl, hfr, hq⟩ := hE.uni
            exact ⟨k3, h3, A3, n3, c3, ec, rfl, Lib.hid ((Fr.below h'.out).trans hfr fun _ _ e => e), Lib.hid hfr, Lib.hid hq⟩
          have hnp : ∀ q, q < wr.heap.size → q ≠ pu → ∀ w', Hid (FrP pu wr w') → ∀ i, w'.cell? ⟨q, i, none⟩ = wr.cell? ⟨q, i, none⟩ := fun q hq hx w' h' i => World.cell?_of_block (h'.out.block q hq hx)
          have hbb : b < wr.heap.size ∧ b ≠ pu := by
            obtain ⟨b', o', v0, v1, v2, e, hb', q0, _⟩ := HXS.out j u hu
            cases e
            exact ⟨by omega, fun e => hb'.1 (.inr e)⟩
          have HK : Hid (∀ w', Hid (FrP pu wr w') → ((w'.cell? ⟨w1.heap.size, 0, none⟩ = some (.int .i64 k1) ∧ w'.cell? ⟨w1.heap.size, 1, none⟩ = some (.int .i64 h1) ∧ w'.cell? ⟨w1.heap.size, 2, none⟩ = some (.slice (some ⟨b, o, none⟩) n1 cc1) ∧ w'.cell? ⟨b, o + j * 3, none⟩ = some (.int .i64 ku) ∧ w'.cell? ⟨b, o + j * 3 + 1, none⟩ = some (.int .i64 hku) ∧ w'.cell? ⟨b, o + j * 3 + 2, none⟩ = some (.slice Au nu cu)) ∧ Hid (FrP pu wr w'))) := Lib.hid fun w' h' =>
            ⟨⟨(hnp _ x8.lt (by omega) w' h' _).trans a0, (hnp _ x8.lt (by omega) w' h' _).trans a1, (hnp _ x8.lt (by omega) w' h' _).trans a2, (hnp _ hbb.1 hbb.2 w' h' _).trans d0, (hnp _ hbb.1 hbb.2 w' h' _).trans d1, (hnp _ hbb.1 hbb.2 w' h' _).trans d2⟩, h'⟩
          have hcu : Hid (Below wr.heap.size wr wr.drew) := cur_drew
          have hcf : Hid (FrP pu wr wr.drew) := cur_fr hcu
          have HM := Lib.hid hM
          clear hru hu heq hat hM hbd x8 x10 d0 d1 d2 hnp hbb
          go_wp2_with fail
          clear a0 a1 a2
          go_region_held3 (fun w' => (w'.cell? ⟨w1.heap.size, 0, none⟩ = some (.int .i64 k1) ∧ w'.cell? ⟨w1.heap.size, 1, none⟩ = some (.int .i64 h1) ∧ w'.cell? ⟨w1.heap.size, 2, none⟩ = some (.slice (some ⟨b, o, none⟩) n1 cc1) ∧ w'.cell? ⟨b, o + j * 3, none⟩ = some (.int .i64 ku) ∧ w'.cell? ⟨b, o + j * 3 + 1, none⟩ = some (.int .i64 hku) ∧ w'.cell? ⟨b, o + j * 3 + 2, none⟩ = some (.slice Au nu cu)) ∧ Hid (FrP pu wr w'))
            (first | exact HK.out _ (by assumption) | exact HK.out _ (cur_frA (by assumption) _) | exact HK.out _ (cur_fr3 (by assumption) (by omega) _ _ _))
            (first
              | (go_at_call 32
                 with_reducible refine Calls.mono (HC1.out _ ?hh) ?_
                 case hh => first | assumption | exact cur_alloc (by assumption) _
                 rintro e w5 ⟨rfl, hcu, hb8⟩
                 have hcf : Hid (FrP pu wr w5) := cur_fr hcu
                 have s5 := hcu.out.size
                 first | (have zP := Box.keepC (cs := #[.int .i64 0, .int .i64 0, .slice none 0 0]) (ty := 24) (by first | exact zP | exact zP.alloc _ | exact Box.new _ _ _ | exact (Box.new _ _ _).alloc _ | exact Box.drewI (Box.new _ _ _)) hb8; have lz1 := zP.lt) | skip
                 clear hb8)
              | (go_at_call 19
                 with_reducible refine Calls.mono (HC2.out _ ?hh) ?_
                 case hh => first | assumption | exact cur_alloc (by assumption) _
                 rintro e w6 ⟨k3, h3, A3, n3, c3, ec, rfl, hcf, hfr, hQ⟩
                 first | (have zP := Box.fr (cs := #[.int .i64 0, .int .i64 0, .slice none 0 0]) (ty := 24) (by first | exact zP | exact zP.alloc _ | exact Box.new _ _ _ | exact (Box.new _ _ _).alloc _ | exact Box.drewI (Box.new _ _ _)) hfr.out (by omega); have lz2 := zP.lt) | skip
                 first | (obtain ⟨z0, z1, z2⟩ := zP.three; have fz0 := zP.frozen 0; have fz1 := zP.frozen 1; have fz2 := zP.frozen 2) | skip
                 have s6 := hcf.out.size
                 have s7 := hfr.out.size
                 clear hfr))
          all_goals first
            | (obtain ⟨Wf, hWf⟩ : ∃ Wf, w6.alloc (.cells #[.int .i64 k3, .int .i64 h3, .slice A3 n3 c3] 24) = Wf := ⟨_, rfl⟩
               obtain ⟨pI, hpe⟩ : ∃ p, p = w6.heap.size := ⟨_, rfl⟩
               have xI : Box Wf pI 24 #[.int .i64 k3, .int .i64 h3, .slice A3 n3 c3] := by rw [hpe, ← hWf]; exact Box.new _ _ _
               have HF2 : Hid (FrP pu wr Wf) := by rw [← hWf]; exact cur_frA (by assumption) _
               have HQ : Hid (QRr sz Bk pu As cs (rsU bs f u M NN) wr.heap.size Wf k3 h3 A3 n3 c3 ec) := by rw [← hWf]; exact Lib.hid (hQ.out.alloc (by omega) _)
               rw [hWf, ← hpe]
               clear hWf hpe)
            | (obtain ⟨Wf, hWf⟩ : ∃ Wf, ((w6.setCell ⟨w5.heap.size, 0, none⟩ (.int .i64 k3)).setCell ⟨w5.heap.size, 1, none⟩ (.int .i64 h3)).setCell ⟨w5.heap.size, 2, none⟩ (.slice A3 n3 c3) = Wf := ⟨_, rfl⟩
               obtain ⟨pI, hpe⟩ : ∃ p, p = w5.heap.size := ⟨_, rfl⟩
               have xI : Box Wf pI 24 #[.int .i64 k3, .int .i64 h3, .slice A3 n3 c3] := by rw [hpe, ← hWf]; exact zP.put3 _ _ _
               have HF2 : Hid (FrP pu wr Wf) := by rw [← hWf]; exact cur_fr3 (by assumption) (by omega) _ _ _
               have HQ : Hid (QRr sz Bk pu As cs (rsU bs f u M NN) wr.heap.size Wf k3 h3 A3 n3 c3 ec) := by rw [← hWf]; exact Lib.hid (hQ.out.set3 (by simp; omega) (by simp) (by omega) _ _ _)
               rw [hWf, ← hpe]
               clear hWf hpe)
            | (obtain ⟨Wf, hWf⟩ : ∃ Wf, ((w6.setCell ⟨wr.heap.size, 0, none⟩ (.int .i64 k3)).setCell ⟨wr.heap.size, 1, none⟩ (.int .i64 h3)).setCell ⟨wr.heap.size, 2, none⟩ (.slice A3 n3 c3) = Wf := ⟨_, rfl⟩
               obtain ⟨pI, hpe⟩ : ∃ p, p = wr.heap.size := ⟨_, rfl⟩
               have xI : Box Wf pI 24 #[.int .i64 k3, .int .i64 h3, .slice A3 n3 c3] := by rw [hpe, ← hWf]; exact zP.put3 _ _ _
               have HF2 : Hid (FrP pu wr Wf) := by rw [← hWf]; exact cur_fr3 (by assumption) (by omega) _ _ _
               have HQ : Hid (QRr sz Bk pu As cs (rsU bs f u M NN) wr.heap.size Wf k3 h3 A3 n3 c3 ec) := by rw [← hWf]; exact Lib.hid (hQ.out.set3 (by omega) (by omega) (by omega) _ _ _)
               rw [hWf, ← hpe]
               clear hWf hpe)
          all_goals
            (try clear zP z0 z1 z2 fz0 fz1 fz2)
            clear hQ hcf hcu s5 s6 s7 HC1 HC2 HK
            have HFW := Lib.hid (HI.out.fr.trans HF2.out fun _ _ e => e)
            have hrow := HI.out.row.move (w' := Wf) (fun b hl hx => HF2.out.block b hl (fun e => hx (by show b < w1.heap.size + 2; omega))) (fun g hg => by have := (HI.out.row.lt hg).1; show ¬ g < w1.heap.size + 2; omega)
            have HX8 := Lib.hid (HI.out.node.fr HF2.out (by omega))
            have x10 := HI.out.out.fr HF2.out (by omega)
            have y2 := HY2.out.fr HFW.out (by omega)
            have sF := HF2.out.size
            have lx10 := HI.out.out.lt
            by_cases he0 : ec = 0
            · have hd : (ec != 0) = false := by simpa using he0
              have hq : ∃ t' N', rsU bs f u M NN = .ok (t', N') ∧ RdF (fun b => wr.heap.size ≤ b) Wf t' (.agg #[.int .i64 k3, .int .i64 h3, .slice A3 n3 c3]) ∧ PR sz Bk pu As cs Wf N' := by
                rcases HQ.out with ⟨t', N', h1, h2, h3, h4⟩ | ⟨h1, h2⟩
                · exact ⟨t', N', h1, h3, h4⟩
                · exact absurd he0 h2.1
              obtain ⟨t', N', hres, hrd, hpb⟩ := hq
              have heq := HEQ.out
              rw [HM.out, hres] at heq
              have heq2 := heq.trans (cnU_cons ys t' (rsL (rsU bs f) k1 n1 m (xs.drop (j + 1)) (j + 1) N'))
              clear heq
              obtain ⟨gd1, gd2, _⟩ := rsU_good f u M NN t' N' hM0 HI.out.ok HWTU.out hres
              obtain ⟨g, cap, w4, hrun, hrow4, hold, hb4⟩ := hrow.push (t := t') (k := k3) (h := h3) (A := A3) (m := n3) (c := c3) (RdF.moveX (fun b hb _ => by have hb : wr.heap.size ≤ b := hb; exact ⟨⟨by omega, fun e => by have := (HI.out.row.lt e.symm).2; omega⟩, rfl⟩) _ _ hrd) (by omega) (by omega)
              have hne : ∀ q, q < w1.heap.size + 2 → some q ≠ Value.ownBlock (.slice Av j cv) := fun q hq e => by
                have := (HI.out.row.lt e.symm).1
                omega
              have y10 : Box w4 (w1.heap.size + 1) 24 #[.int .i64 k1, .int .i64 h1, .slice Av j cv] := (hold _ (by omega) (hne _ (by omega))).trans x10
              have HJ : Hid (RvD sz Bk pu As cs bs (rsU bs f) k1 h1 n1 m xs N1 w1 (some ⟨b, o, none⟩) cc1 (j + 1) (w4.setCell ⟨w1.heap.size + 1, 2, none⟩ (.slice (some ⟨g, 0, none⟩) (j + 1) cap)) (some ⟨g, 0, none⟩) cap (csv ++ [.int .i64 k3, .int .i64 h3, .slice A3 n3 c3]) (ys ++ [t']) N') := Lib.hid ⟨?_, ?_, ?_, ?_, ?_, ?_, ?_, ?_, ?_⟩
              rotate_left
              · exact Box.other (show Box w4 w1.heap.size 24 #[.int .i64 k1, .int .i64 h1, .slice (some ⟨b, o, none⟩) n1 cc1] from (hold _ (by have := HX8.out.lt; omega) (hne _ (by omega))).trans HX8.out) (by dsimp only; omega) _
              · have := y10.setAt 2 (.slice (some ⟨g, 0, none⟩) (j + 1) cap)
                simpa using this
              · exact hrow4.move (fun q _ hx => Below.heap_setCell _ _ _ _ (fun e => hx (by dsimp only at e; show q < w1.heap.size + 2; omega))) (fun q hq => by have := (hrow4.lt hq).1; show ¬ q < w1.heap.size + 2; omega)
              · exact (HFW.out.trans (Fr.of (X := fun b => w1.heap.size + 2 ≤ b) hb4 (fun k _ hk => by omega)) (fun i hi hx => by omega)).putJ (a := ⟨w1.heap.size + 1, 2, none⟩) (fun h => by dsimp only at h; omega) _
              · exact (Below.heap_setCell _ _ _ _ (by dsimp only; omega)).trans ((hb4.block pu (by omega)).trans hpb)
              · exact HI.out.ok.mono (by omega)
              · exact gd2
              · have := HI.out.lo; omega
              · exact heq2
              obtain ⟨i0, i1, i2⟩ := xI.three
              obtain ⟨c0, c1, c2⟩ := x10.three
              obtain ⟨e0, e1, e2⟩ := y10.three
              have fe2 := y10.frozen 2
              have ly10 := y10.lt
              clear hrow4 hold hb4 hrd hpb heq2 hres gd1 gd2 HQ hrow x10 y10 y2 hne
              go_wp2_with (at_builtin; refine Lib.wpList_append_run _ rfl _ _ _ _ rfl _ _ rfl rfl _ _ hrun ?_)
              go_roundw
              case rel => exact ⟨j + 1, some ⟨g, 0, none⟩, cap, _, _, N', by omega, by go_num, HJ⟩
              case measure => simp [Go.RowKit.intOf]; omega
            · have hd : (ec != 0) = true := by simpa using he0
              have hq : rsU bs f u M NN = .error ec ∧ ∃ N, PR sz Bk pu As cs Wf N := by
                rcases HQ.out with ⟨t', N', h1, h2, h3, h4⟩ | ⟨h1, h2, h3⟩
                · exact absurd h2 he0
                · exact ⟨h1, h3⟩
              obtain ⟨hq, N9, hpp⟩ := hq
              have heq := HEQ.out
              rw [HM.out, hq] at heq
              have HE2 := Lib.hid (rsU_e2 HR.out (by rw [HN.out]; exact heq))
              have HPP := Lib.hid hpp
              obtain ⟨q0, q1, q2⟩ := y2.three
              have r0 := y2.frozen 0
              have r1 := y2.frozen 1
              have r2 := y2.frozen 2
              have l2' := y2.lt
              clear heq hq HQ hrow x10 xI y2 hpp
              go_wp2_with fail
              refine bodyPost_ret (v := .tuple #[.agg #[.int .i64 0, .int .i64 0, .slice none 0 0], .int .i64 ec]) (by simp [results, Tryz.results19, go_sem, q0, q1, q2]) rfl ?_
              rw [HE2.out]
              exact ⟨(HFR.out.trans HFW.out fun _ _ e => e).set3 (fun h => by omega) _ _ _, ⟨N9, (heap_other3 _ _ _ _ _ _ (by omega)).trans HPP.out⟩, rfl, he0⟩
        · have heq := HI.out.eq
          rw [drop_all HN.out (by omega), rsL] at heq
          have heq2 : rsL (rsU bs f) k1 n1 m xs 0 N1 = .ok (ys, NN) := by rw [heq]; simp [cnU]
          have HE2 := Lib.hid (rsU_ok HR.out (by rw [HN.out]; exact heq2))
          obtain rfl : j = n1 := by omega
          have y2 := HY2.out.fr HI.out.fr (by omega)
          obtain ⟨c0, c1, c2⟩ := x10.three
          obtain ⟨q0, q1, q2⟩ := y2.three
          have r0 := y2.frozen 0
          have r1 := y2.frozen 1
          have r2 := y2.frozen 2
          have l2' := y2.lt
          have hrl := HI.out.row.rxl (fun b hb => hb)
          have HRL := Lib.hid hrl
          clear heq heq2 x8 x10 y2 hrl
          go_wp2_with fail
          refine bodyPost_ret (v := .tuple #[.agg #[.int .i64 k1, .int .i64 h1, .slice Av j cv], .int .i64 0]) (by simp [results, Tryz.results19, go_sem, q0, q1, q2]) rfl ?_
          rw [HE2.out]
          refine ⟨(HFR.out.trans HI.out.fr fun _ _ e => e).set3 (fun h => by omega) _ _ _, ⟨NN, (heap_other3 _ _ _ _ _ _ (by omega)).trans HI.out.ptr⟩, k1, h1, Av, j, cv, rfl, RdF_node.2 ⟨Av, j, cv, rfl, HWF.out.1, HWF.out.2.1, HRL.out.len, HRL.out.le, HRL.out.cap, fun i t ht => RdFAt.moveX (fun b hb _ => ?_) (HRL.out.at_ i t ht)⟩, ?_⟩
          · have hb : ¬ b < w1.heap.size + 2 := hb
            exact ⟨by omega, heap_other3 _ _ _ _ _ _ (by omega)⟩
          · exact (heap_other3 _ _ _ _ _ _ (by omega)).trans HI.out.ptr
end Go.Proofs.YtnnmnkgogiabiaaGreat

/-
  Contract of the document's solve of layer 8. No statement is proved here.
-/
namespace Go.Proofs.YtnnmnkgogiabiaaGreat
open Go.ChangeShapes Go.WideShapes Go.ChangeAt Go.RowKit
set_option linter.unusedVariables false

/-- the program's Invert and the document's tell the same of a term without great Heads -/
theorem rv_ivD {t : T} {vs : List Int} {n : Int} (hs : nd t ≤ 1048576) (ho : okT 2199023255552 t) (hl : (vs.length : Int) ≤ 1000) : rvR t vs n = ivR t vs n := by
  unfold rvR ivR
  by_cases h1 : (decide (0 ≤ n) && decide (n ≤ 1000) && mayB t && vB n [] vs) = true
  · have h2 := h1
    simp only [Bool.and_eq_true, decide_eq_true_eq] at h2
    rw [if_pos (by simp [h2]), if_pos h1, rn_iv (M := 2199023255552) (g := igo vs n) (by omega) (fun x h0 hx => ⟨rgo_eq h0 (by omega) h2.1.1 (by omega), fun y hy => by have := igo_bd (M := 2199023255552) (by omega) hx h2.1.1.1 hy; omega⟩) t 0 ho (by omega) (by omega),
      rn_iv (M := 2199023255552) (g := igo vs n) (by omega) (fun x h0 hx => ⟨igW_eq h0 (by omega) h2.1.1 (by omega), fun y hy => by have := igo_bd (M := 2199023255552) (by omega) hx h2.1.1.1 hy; omega⟩) t 0 ho (by omega) (by omega)]
  · rw [if_neg h1, if_neg (fun h => h1 (by simp only [Bool.and_eq_true] at h ⊢; exact ⟨⟨h.2.1, h.1⟩, h.2.2⟩))]
/-- a meta has become something -/
theorem RM.put {sz : List Int} {Bk pu : Nat} {As : Option Addr} {cs : Nat} {bs : List BT} {N : Nat} {w w' : World} {j : Nat} {u : T} {k h : Int} {A : Option Addr} {n c : Nat}
    (hs : RM (UX Bk pu) sz Bk pu As cs bs N w) (hl : bs.length = sz.length) (hj : j < sz.length) (hr : RX (UX Bk pu) w u (.agg #[.int .i64 k, .int .i64 h, .slice A n c]))
    (hw : w' = (((w.setCell ⟨Bk, j * 4, none⟩ (.bool true)).setCell ⟨Bk, j * 4 + 1, none⟩ (.int .i64 k)).setCell ⟨Bk, j * 4 + 2, none⟩ (.int .i64 h)).setCell ⟨Bk, j * 4 + 3, none⟩ (.slice A n c)) :
    RM (UX Bk pu) sz Bk pu As cs (bs.set j (true, u)) N w' ∧ Fr (UX Bk pu) w w' := by
  have hset : ∀ g, g ≠ Bk → w'.heap[g]? = w.heap[g]? := fun g hg => by
    rw [hw, Below.heap_setCell _ _ _ _ hg, Below.heap_setCell _ _ _ _ hg, Below.heap_setCell _ _ _ _ hg, Below.heap_setCell _ _ _ _ hg]
  have hfr : Fr (UX Bk pu) w w' := ⟨by rw [hw]; rfl, by rw [hw]; rfl, by rw [hw]; rfl, by rw [hw]; simp [World.setCell], fun b _ hb => hset b fun e => hb (.inl e)⟩
  obtain ⟨cs', hb, hsz, hc⟩ := hs.row
  refine ⟨⟨(hset _ fun e => hs.ne e.symm).trans hs.ptr, ⟨((((cs'.setIfInBounds (j * 4) (.bool true)).setIfInBounds (j * 4 + 1) (.int .i64 k)).setIfInBounds (j * 4 + 2) (.int .i64 h)).setIfInBounds (j * 4 + 3) (.slice A n c)), ?_, by simp [hsz], ?_⟩, hs.ne, hs.sizes.fr hfr, fun b e => e⟩, hfr⟩
  · rw [hw]
    exact (((hb.setAt _ _).setAt _ _).setAt _ _).setAt _ _
  · intro i x hx
    by_cases hij : i = j
    · subst hij
      rw [List.getElem?_set_self (by rw [hl]; exact hj)] at hx
      cases hx
      refine ⟨k, h, A, n, c, ?_, ?_, ?_, ?_, RX.fr hr hfr⟩
      all_goals simp only [Array.getElem?_setIfInBounds]
      · rw [if_neg (by omega), if_neg (by omega), if_neg (by omega), if_pos trivial, if_pos (by omega)]
      · rw [if_neg (by omega), if_neg (by omega), if_pos trivial, if_pos (by simp; omega)]
      · rw [if_neg (by omega), if_pos trivial, if_pos (by simp; omega)]
      · rw [if_pos trivial, if_pos (by simp; omega)]
    · rw [List.getElem?_set_ne (fun e => hij e.symm)] at hx
      obtain ⟨k', h', A', n', c', e0, e1, e2, e3, hr'⟩ := hc i x hx
      refine ⟨k', h', A', n', c', ?_, ?_, ?_, ?_, RX.fr hr' hfr⟩
      all_goals simp only [Array.getElem?_setIfInBounds]
      · rw [if_neg (by omega), if_neg (by omega), if_neg (by omega), if_neg (by omega)]; exact e0
      · rw [if_neg (by omega), if_neg (by omega), if_neg (by omega), if_neg (by omega)]; exact e1
      · rw [if_neg (by omega), if_neg (by omega), if_neg (by omega), if_neg (by omega)]; exact e2
      · rw [if_neg (by omega), if_neg (by omega), if_neg (by omega), if_neg (by omega)]; exact e3
/-- the count alone has turned -/
theorem RM.after {sz : List Int} {Bk pu : Nat} {As : Option Addr} {cs : Nat} {bs : List BT} {N N' : Nat} {w w' : World} (h : RM (UX Bk pu) sz Bk pu As cs bs N w) (f : FrP pu w w') (hp : PR sz Bk pu As cs w' N') : RM (UX Bk pu) sz Bk pu As cs bs N' w' := h.to f hp (fun _ e => .inl e) (fun _ e => e)
/-- an answer: an error, or whether it is outside, and what metas are then -/
def USr (sz : List Int) (Bk pu : Nat) (As : Option Addr) (cs : Nat) (w : World) (R : Except Int USt) (e : Ending) (w' : World) : Prop :=
  Fr (UX Bk pu) w w' ∧ match R with
  | .error ec => e = .returned (.int .i64 ec) ∧ ec ≠ 0 ∧ ec ≠ 5
  | .ok (o, bs, N) => e = .returned (.int .i64 (if o = true then 5 else 0)) ∧ RM (UX Bk pu) sz Bk pu As cs bs N w'
/-- what holds at the head of solve's loop -/
structure SvD (sz : List Int) (Bk pu : Nat) (As : Option Addr) (cs : Nat) (bs : List BT) (A : T → Int → Nat → Res) (m : Int) (xs : List T) (N0 : Nat) (wb : World) (j : Nat) (wr : World) (Av : Option Addr) (cv : Nat) (csv : List Value) (ys : List T) (N : Nat) : Prop where
  row : GRow (fun b => b < wb.heap.size) wr wb.heap.size (.slice Av j cv) j csv ys
  fr : FrP pu wb wr
  ptr : PR sz Bk pu As cs wr N
  ok : okU sz bs N
  hi : N ≤ 40000
  lo : N0 ≤ N
  eq : rsL A 0 0 m xs 0 N0 = cnU ys (rsL A 0 0 m (xs.drop j) j N)

set_option maxRecDepth 100000 in
set_option maxHeartbeats 8000000 in
theorem rSolveC {sz : List Int} {Bk pu : Nat} {As : Option Addr} {cs : Nat} {bs : List BT} (f : Nat) (j : Nat) (xs : List T) (t : T) (m : Int) (N : Nat) (A : Option Addr) (n cc : Nat) (k' h' : Int) (A' : Option Addr) (n' cc' : Nat) (w : World) (hst : RM (UX Bk pu) sz Bk pu As cs bs N w) (hok : okU sz bs N) (hx : WT (kN N + m) (.node 6 j xs)) (ht : WT (kN N + m) t) (hm : 0 ≤ m) (hm2 : m + f + 1 ≤ 100000) (hf : 40001 ≤ f + N) (hN : N ≤ 40000)
    (hra : RX (UX Bk pu) w (.node 6 j xs) (.agg #[.int .i64 6, .int .i64 j, .slice A n cc])) (hrc : RX (UX Bk pu) w t (.agg #[.int .i64 k', .int .i64 h', .slice A' n' cc'])) :
    Calls Tryz.prog 31 #[.pointer (some ⟨pu, 0, none⟩), .agg #[.int .i64 6, .int .i64 j, .slice A n cc], .agg #[.int .i64 k', .int .i64 h', .slice A' n' cc'], .int .i64 m] w (USr sz Bk pu As cs w (svU sz bs f j xs t m N)) := by
  obtain ⟨W, hW⟩ : ∃ W, (w.alloc (.cells #[.int .i64 6, .int .i64 j, .slice A n cc] 24)).alloc (.cells #[.int .i64 k', .int .i64 h', .slice A' n' cc'] 24) = W := ⟨_, rfl⟩
  have hb : Below w.heap.size w W := by rw [← hW]; exact ((Below.refl _ _).alloc (Nat.le_refl _) _).alloc (by simp) _
  have x0 : Box W w.heap.size 24 #[.int .i64 6, .int .i64 j, .slice A n cc] := by rw [← hW]; exact (Box.new _ _ _).alloc _
  have x1 : Box W (w.heap.size + 1) 24 #[.int .i64 k', .int .i64 h', .slice A' n' cc'] := by rw [← hW]; exact (Box.new (w.alloc _) _ _).at (by simp)
  have hlt := hst.lt
  obtain ⟨R, hR⟩ : ∃ R, svU sz bs f j xs t m N = R := ⟨_, rfl⟩
  rw [hR]
  have HR := Lib.hid hR.symm; clear hR
  obtain ⟨Aq, nq, cq, eq, _, _, hl, hnc, hcm, hxs⟩ := RdF_node.1 hra
  have eq' : A = Aq ∧ n = nq ∧ cc = cq := by simpa using eq
  obtain ⟨rfl, rfl, rfl⟩ := eq'
  clear eq
  have hcm' := hcm
  unfold maxLen at hcm'
  have HXL : Hid (∀ i t, xs[i]? = some t → RdFAt (fun b => ¬ UX Bk pu b ∧ b < w.heap.size) w A i t) := Lib.hid fun i t ht => by
    obtain ⟨b, o, v0, v1, v2, e, hb', d0, d1, d2, hr⟩ := hxs i t ht
    exact ⟨b, o, v0, v1, v2, e, ⟨hb', cell_lt d0⟩, d0, d1, d2, rdF_heap _ _ hr⟩
  have hst' := hst.keep hb
  obtain ⟨p0, p1, p2⟩ := hst'.ptr.three
  obtain ⟨a0, a1, a2⟩ := x0.three
  have hln := hx.len
  have hbl := hok.len
  have HST := Lib.hid hst
  have HOK := Lib.hid hok
  have HX := Lib.hid hx
  have HT := Lib.hid ht
  have HB := Lib.hid hb
  have HRC := Lib.hid hrc
  have HX0 := Lib.hid x0
  have HX1 := Lib.hid x1
  have HN := Lib.hid hl
  have hj0 : (0 : Int) ≤ j := by omega
  clear hra hrc hst hok hx ht hxs hb x0 x1
  have HW := Lib.hid hW; clear hW
  have q0 := Past.cell a0
  have q1 := Past.cell a1
  have q2 := Past.cell a2
  have t0 := Past.cell p0
  have t1 := Past.cell p1
  go_enter Tryz.func31, Tryz.ntmps31
  go_wp2_with fail
  rw [HW.out]
  clear HW
  by_cases hc1 : (sz.length : Int) ≤ j
  · have hd : decide ((j : Int) ≥ (sz.length : Int)) = true := by simpa using hc1
    have HR2 := Lib.hid (HR.out.trans (svU_scope (.inl (by rw [hbl]; exact hc1))))
    clear hst'
    refine wp_region_past (by kernel_rfl) (by kernel_rfl) ?_
    repeat (go_big_quiet_step (fail))
    refine wpQuiet_nil ?_
    rintro _ ⟨z1, rfl⟩
    obtain ⟨W4, hb4⟩ := z1
    dsimp only
    clear q0 q1 q2 t0 t1 a0 a1 a2 p0 p1 p2
    have HB4 := Lib.hid (HB.out.trans (hb4.mono HB.out.size)); clear hb4
    go_wp2_with fail
    go_ret
    rw [HR2.out]
    exact ⟨Fr.below HB4.out, rfl, by decide, by decide⟩
  · have hd : decide ((j : Int) ≥ (sz.length : Int)) = false := by simpa using hc1
    obtain ⟨z, hz⟩ : ∃ z, sz[j]? = some z := ⟨_, List.getElem?_eq_getElem (by omega)⟩
    have hzD : sz.getD j 0 = z := by rw [List.getD_eq_getElem?_getD, hz]; rfl
    have hzb := HOK.out.szs j
    rw [hzD] at hzb
    obtain ⟨bS, oS, rfl, nXS, s0⟩ := hst'.sizes j z hz
    have r0 := Past.cell s0
    have hjlt : (j : Int) < sz.length := by omega
    by_cases hc2 : (n : Int) ≠ z
    · have hd2 : ((n : Int) != z) = true := by simpa using hc2
      have HR2 := Lib.hid (HR.out.trans (svU_scope (.inr (by rw [Int.toNat_natCast, hzD, hl]; exact hc2))))
      clear hst' hc2
      refine wp_region_past (by kernel_rfl) (by kernel_rfl) ?_
      repeat (go_big_quiet_step (fail))
      refine wpQuiet_nil ?_
      rintro _ ⟨z1, rfl⟩
      obtain ⟨W4, hb4⟩ := z1
      dsimp only
      clear q0 q1 q2 t0 t1 a0 a1 a2 p0 p1 p2 r0 s0
      have HB4 := Lib.hid (HB.out.trans (hb4.mono HB.out.size)); clear hb4
      go_wp2_with fail
      go_ret
      rw [HR2.out]
      exact ⟨Fr.below HB4.out, rfl, by decide, by decide⟩
    · have hd2 : ((n : Int) != z) = false := by simpa using hc2
      have hn1000 : n ≤ 1000 := by omega
      have HCC : Hid (¬ ((bs.length : Int) ≤ (j : Int) ∨ (xs.length : Int) ≠ sz.getD (j : Int).toNat 0)) := Lib.hid (by rw [Int.toNat_natCast, hzD, hl, hbl]; omega)
      clear hst' hc2 hz hzD hzb
      refine wp_region_past (by kernel_rfl) (by kernel_rfl) ?_
      repeat (go_big_quiet_step (fail))
      refine wpQuiet_nil ?_
      rintro _ ⟨z1, rfl⟩
      obtain ⟨W4, hb4⟩ := z1
      dsimp only
      clear q0 q1 q2 t0 t1 a0 a1 a2 p0 p1 p2 r0 s0 hd hd2
      have HB4 := Lib.hid (HB.out.trans (hb4.mono HB.out.size))
      have x0 := HX0.out.keep hb4 HX0.out.lt
      have x1 := HX1.out.keep hb4 HX1.out.lt
      have sW4 := hb4.size
      have lx1 := HX1.out.lt
      clear hb4 HX0 HX1
      obtain ⟨L, hL⟩ : ∃ L, rsU bs f t m N = L := ⟨_, rfl⟩
      have HRS := rResolveC (bs := bs) f t m N k' h' A' n' cc' W4 (HST.out.keep HB4.out) HOK.out HT.out hm (by omega) hf hN (RX.fr HRC.out (Fr.below HB4.out))
      rw [hL] at HRS
      have HRS := Lib.hid HRS
      have HL := Lib.hid hL; clear hL
      obtain ⟨d0, d1, d2⟩ := x1.three
      have HX0 := Lib.hid x0
      clear x0 x1
      go_wp2_with fail
      refine HRS.out.mono ?_
      intro e w1 hE
      have HPP := Lib.hid hE.2.1
      obtain ⟨k1, h1, A1, n1, c1, ec, rfl, hfr, hq⟩ := hE.uni
      have n0 : w.heap.size ≠ pu := by omega
      have y0 := HX0.out.fr hfr n0
      have HFR := Lib.hid ((Fr.below (X := fun b => b = pu) HB4.out).trans hfr fun _ _ e => e)
      have s4 := HX0.out.lt
      have s5 := hfr.size
      obtain ⟨Wb, hWb⟩ : ∃ Wb, w1.alloc (.cells #[.int .i64 k1, .int .i64 h1, .slice A1 n1 c1] 24) = Wb := ⟨_, rfl⟩
      have hbB : Below w1.heap.size w1 Wb := by rw [← hWb]; exact (Below.refl _ _).alloc (Nat.le_refl _) _
      have HZ9 : Hid (Box Wb w1.heap.size 24 #[.int .i64 k1, .int .i64 h1, .slice A1 n1 c1]) := Lib.hid (by rw [← hWb]; exact Box.new _ _ _)
      have sWb : Wb.heap.size = w1.heap.size + 1 := by rw [← hWb]; simp
      have HFB := Lib.hid (HFR.out.then hbB)
      have HZ0 := Lib.hid (y0.keep hbB y0.lt)
      clear hE hfr HX0 d0 d1 d2 n0 y0
      by_cases he0 : ec = 0
      case' neg =>
        have hLo : L = .error ec := by
          rcases hq with ⟨ys, N2, e1, e2, e3, e4⟩ | ⟨e1, e2⟩
          · exact absurd e2 he0
          · exact e1
        have hd : (ec != 0) = true := by simpa using he0
        have HR2 := Lib.hid (HR.out.trans (svU_e1 HCC.out (HL.out.trans hLo)))
        have HNE := Lib.hid (rsU_er _ _ _ _ _ (HL.out.trans hLo)).ne
        have HF3 := Lib.hid (FrP.ux (Bk := Bk) HFB.out)
        subst hWb
        clear hq hLo HL hbB
        go_wp2_with fail
        go_ret
        rw [HR2.out]
        exact ⟨HF3.out, rfl, HNE.out.1, HNE.out.2⟩
      case' pos =>
        obtain ⟨t', N1, hLo, hrd, hpb⟩ : ∃ t' N1, L = .ok (t', N1) ∧ RdF (fun b => W4.heap.size ≤ b) w1 t' (.agg #[.int .i64 k1, .int .i64 h1, .slice A1 n1 c1]) ∧ PR sz Bk pu (some ⟨bS, oS, none⟩) cs w1 N1 := by
          rcases hq with ⟨ys, N2, e1, e2, e3, e4⟩ | ⟨e1, e2⟩
          · exact ⟨ys, N2, e1, e3, e4⟩
          · exact absurd he0 e2.1
        subst he0
        have hL2 := HL.out.trans hLo
        obtain ⟨g1, g2, g3, g4, g5⟩ := rsU_good f t m N t' N1 hm HOK.out HT.out hL2
        have HL2 := Lib.hid hL2
        have HRD : Hid (RdF (fun b => ¬ UX Bk pu b ∧ b < w1.heap.size) Wb t' (.agg #[.int .i64 k1, .int .i64 h1, .slice A1 n1 c1])) := Lib.hid (RdF.moveX (fun b hb hl => by
          have hb : W4.heap.size ≤ b ∧ b < w1.heap.size := hb
          exact ⟨⟨fun e => by rcases e with e | e <;> omega, hb.2⟩, hbB.block b hb.2⟩) _ _ (rdF_heap _ _ hrd))
        have HI : Hid (SvD sz Bk pu (some ⟨bS, oS, none⟩) cs bs (rsU bs f) m xs N1 Wb 0 Wb none 0 [] [] N1) := Lib.hid ⟨GRow.nil _ _ _, Fr.refl _ _, hpb.keep hbB hpb.lt, HOK.out.mono (by omega), g2, Nat.le_refl _, by rw [List.drop_zero, cnU_nil]⟩
        have HG := Lib.hid (And.intro g3 (And.intro (show nd t' ≤ 40000 by omega) g5))
        have hN1 : N ≤ N1 := by omega
        clear hq hLo HL hL2 hrd hpb g1 g2 g3 g4 g5 hbB
        subst hWb
        go_wp2_with fail
        generalize w1.alloc (.cells #[.int .i64 k1, .int .i64 h1, .slice A1 n1 c1] 24) = Wb at *
        have lz0 := HZ0.out.lt
        have lz9 := HZ9.out.lt
        go_loopw [11, 12] (fun v i wr => ∃ (q : Nat) (Av : Option Addr) (cv : Nat) (csv : List Value) (ys : List T) (NN : Nat), q ≤ n ∧ i = .int .i64 q ∧ v = .slice Av q cv ∧ Hid (SvD sz Bk pu (some ⟨bS, oS, none⟩) cs bs (rsU bs f) m xs N1 Wb q wr Av cv csv ys NN)) (fun _ i _ => n - (Go.RowKit.intOf i).toNat)
        case atStart => exact ⟨0, none, 0, [], [], N1, Nat.zero_le _, rfl, rfl, HI⟩
        case round =>
          clear HI
          obtain ⟨q, Av, cv, csv, ys, NN, hq, rfl, rfl, HI⟩ := hrel
          have sr := HI.out.fr.size
          have hwpu : w.heap.size ≠ pu := by omega
          have x5 := HZ0.out.fr HI.out.fr hwpu
          have HX5 := Lib.hid x5
          have HFW := Lib.hid (HFB.out.trans HI.out.fr fun _ _ e => e)
          obtain ⟨a0, a1, a2⟩ := x5.three
          clear x5
          by_cases hlt2 : q < n
          · obtain ⟨u, hu⟩ := at_of HN.out hlt2
            have hat : RdFAt (fun b => ¬ UX Bk pu b) wr A q u := RdFAt.moveX (fun b hb hl => ⟨hb.1, HFW.out.block b hb.2 fun e => hb.1 (.inr e)⟩) (HXL.out q u hu)
            obtain ⟨b, o, ku, hku, Au, nu, cu, rfl, d0, d1, d2, hru⟩ := hat.full
            have heq := HI.out.eq
            rw [drop_at hu, rsL, bd_nil, Int.add_zero] at heq
            have HEQ := Lib.hid heq
            have hi0 : (0 : Int) ≤ q := by omega
            have hi1 : (q : Int) < n := by omega
            have HWTU : Hid (WT (kN NN + m) u) := Lib.hid (by
              have := HX.out.arg hu
              rw [bd_bind (by omega) (by omega), Int.add_zero] at this
              exact this.mono (by have := kN_mono (show N ≤ NN by have := HI.out.lo; omega); omega))
            have HRM := Lib.hid (HST.out.after HFW.out HI.out.ptr)
            have HC2 := Lib.hid (rResolveC (bs := bs) f u m NN ku hku Au nu cu wr HRM.out HI.out.ok HWTU.out hm (by omega) (by have := HI.out.lo; omega) HI.out.hi hru)
            obtain ⟨L2, hL2⟩ : ∃ L2, rsU bs f u m NN = L2 := ⟨_, rfl⟩
            rw [hL2] at HC2 heq
            have HL2' := Lib.hid hL2
            clear hru hat
            go_wp2_with fail
            refine HC2.out.mono ?_
            intro e w6 hE
            obtain ⟨k3, h3, A3, n3, c3, ec, rfl, hf6, hq6⟩ := hE.uni
            obtain ⟨Wf, hWf⟩ : ∃ Wf, w6.alloc (.cells #[.int .i64 k3, .int .i64 h3, .slice A3 n3 c3] 24) = Wf := ⟨_, rfl⟩
            have hbf : Below w6.heap.size w6 Wf := by rw [← hWf]; exact (Below.refl _ _).alloc (Nat.le_refl _) _
            have hfWf := hf6.then hbf
            have s6 := hf6.size
            have s7 := hbf.size
            have HFF := Lib.hid (HI.out.fr.trans hfWf fun _ _ e => e)
            clear hE HC2 a0 a1 a2 d0 d1 d2
            by_cases he0 : ec = 0
            · have hd : (ec != 0) = false := by simpa using he0
              obtain ⟨t2, N2, hLo, hrd, hpb⟩ : ∃ t2 N2, L2 = .ok (t2, N2) ∧ RdF (fun b => wr.heap.size ≤ b) w6 t2 (.agg #[.int .i64 k3, .int .i64 h3, .slice A3 n3 c3]) ∧ PR sz Bk pu (some ⟨bS, oS, none⟩) cs w6 N2 := by
                rcases hq6 with ⟨ys, N2, e1, e2, e3, e4⟩ | ⟨e1, e2⟩
                · exact ⟨ys, N2, e1, e3, e4⟩
                · exact absurd he0 e2.1
              obtain ⟨gd1, gd2, _⟩ := rsU_good f u m NN t2 N2 hm HI.out.ok HWTU.out (hL2.trans hLo)
              rw [hLo] at heq
              have heq2 := heq.trans (cnU_cons ys t2 (rsL (rsU bs f) 0 0 m (xs.drop (q + 1)) (q + 1) N2))
              have hrow := HI.out.row.move (w' := Wf) (fun b hl hx => hfWf.block b hl (fun e => hx (by show b < Wb.heap.size; omega))) (fun g hg => by have := (HI.out.row.lt hg).1; show ¬ g < Wb.heap.size; omega)
              obtain ⟨g, cap, w9, hrun, hrow9, hold, hb9⟩ := hrow.push (t := t2) (k := k3) (h := h3) (A := A3) (m := n3) (c := c3) (RdF.moveX (fun b hb hl => by have hb : wr.heap.size ≤ b := hb; exact ⟨⟨fun e => by have e : b < Wb.heap.size := e; omega, fun e => by have := (HI.out.row.lt e.symm).2; omega⟩, hbf.block b hl⟩) _ _ hrd) (by omega) (by omega)
              have HJ : Hid (SvD sz Bk pu (some ⟨bS, oS, none⟩) cs bs (rsU bs f) m xs N1 Wb (q + 1) w9 (some ⟨g, 0, none⟩) cap (csv ++ [.int .i64 k3, .int .i64 h3, .slice A3 n3 c3]) (ys ++ [t2]) N2) := Lib.hid
                ⟨hrow9, HFF.out.trans (Fr.of (X := fun b => Wb.heap.size ≤ b) hb9 fun k _ hk => by omega) (fun i hi hx => by omega), (hpb.keep hbf hpb.lt).keep hb9 (by omega), HI.out.ok.mono (by omega), gd2, by have := HI.out.lo; omega, heq2⟩
              clear hrow9 hold hb9 hrd hpb heq2 gd1 gd2 hrow hq6 hLo hL2 heq hbf hfWf
              subst hWf
              simp only [World.size_alloc] at hrun
              go_wp2_with (at_builtin; refine Lib.wpList_append_run _ rfl _ _ _ _ rfl _ _ rfl rfl _ _ hrun ?_)
              go_roundw
              case rel => exact ⟨q + 1, some ⟨g, 0, none⟩, cap, _, _, N2, by omega, by go_num, rfl, HJ⟩
              case measure => simp [Go.RowKit.intOf]; omega
            · have hd : (ec != 0) = true := by simpa using he0
              have hLo : L2 = .error ec := by
                rcases hq6 with ⟨ys, N2, e1, e2, e3, e4⟩ | ⟨e1, e2⟩
                · exact absurd e2 he0
                · exact e1
              rw [hLo] at heq
              have HR2 := Lib.hid (HR.out.trans (svU_e2 HCC.out HL2.out heq))
              have HNE := Lib.hid (rsL_er (fun x m N e he => rsU_er f x m N e he) _ _ _ _ heq).ne
              have HF3 := Lib.hid (FrP.ux (Bk := Bk) (HFB.out.trans HFF.out fun _ _ e => e))
              clear hq6 hLo hL2 heq hbf hfWf
              subst hWf
              go_wp2_with fail
              go_ret
              rw [HR2.out]
              exact ⟨HF3.out, rfl, HNE.out.1, HNE.out.2⟩
          · have heq := HI.out.eq
            rw [drop_all HN.out (by omega), rsL] at heq
            have heq2 : rsL (rsU bs f) 0 0 m xs 0 N1 = .ok (ys, NN) := by rw [heq]; simp [cnU]
            obtain rfl : q = n := by omega
            have hrl := HI.out.row.rxl (fun b hb => hb)
            have hlen := rsL_len heq2
            have HR2 := Lib.hid (HR.out.trans (svU_ok HCC.out HL2.out heq2))
            have HUM := Lib.hid (HST.out.after HFW.out HI.out.ptr)
            have HPT := Lib.hid (rfPatternC ys Av q cv m wr hrl.len hrl.le hrl.cap (by omega) (fun i t ht => rdFAt_rd (hrl.at_ i t ht)))
            obtain ⟨O, hO⟩ : ∃ O, ptn m [] ys = O := ⟨_, rfl⟩
            rw [hO] at HPT
            have HO := Lib.hid hO
            have hln2 := hrl.len
            have HRX := Lib.hid (RdF.moveX (ok' := fun b => ¬ UX Bk pu b) (fun b hb hl => ⟨hb.1, HI.out.fr.block b hl fun e => hb.1 (.inr e)⟩) _ _ HRD.out)
            have HF2 := Lib.hid (FrP.ux (Bk := Bk) HFW.out)
            have HZ := Lib.hid (HZ9.out.fr HI.out.fr (by omega))
            have hnd : nd t' ≤ 1048576 := by have := HG.out.2.1; omega
            clear heq heq2 hrl hO
            go_wp2_with fail
            refine HPT.out.mono ?_
            clear HPT a0 a1 a2
            intro e w3 hP
            have hP' : ∃ v, e = .returned (.tuple #[v, .bool O.isSome]) ∧ (∀ vs, O = some vs → Ns w3 v vs) ∧ Below wr.heap.size wr w3 := by
              rcases hP with ⟨vs, v, hv, rfl, hns, hb3⟩ | ⟨hv, rfl, hb3⟩
              · exact ⟨v, (by rw [hv]; rfl), (fun vs' e => (by rw [hv] at e; cases e; exact hns)), hb3⟩
              · exact ⟨_, (by rw [hv]; rfl), (fun vs' e => (by rw [hv] at e; cases e)), hb3⟩
            obtain ⟨vV, rfl, hns, hb3⟩ := hP'
            have HNS := Lib.hid hns
            have HX5 := Lib.hid (HX5.out.keep hb3 HX5.out.lt)
            have HZ := Lib.hid (HZ.out.keep hb3 HZ.out.lt)
            have HUM := Lib.hid (HUM.out.keep hb3)
            have HRX := Lib.hid (RX.fr HRX.out (Fr.below (X := UX Bk pu) hb3))
            have HF3 := Lib.hid (HF2.out.then hb3)
            have HME := Lib.hid (rfMetas t' _ w3 HRX.out.rd hnd)
            obtain ⟨d0, d1, d2⟩ := HZ.out.three
            clear hP hns hb3 HF2
            go_wp2_with fail
            refine HME.out.mono ?_
            rintro e w4 ⟨um, rfl, hms, hb4⟩
            rw [mtO_eq] at hms
            obtain ⟨Am, cm, rfl, hmc, hmm, hmx⟩ := hms
            have HX5 := Lib.hid (HX5.out.keep hb4 HX5.out.lt)
            have HZ := Lib.hid (HZ.out.keep hb4 HZ.out.lt)
            have HUM := Lib.hid (HUM.out.keep hb4)
            have HRX := Lib.hid (RX.fr HRX.out (Fr.below (X := UX Bk pu) hb4))
            have HF4 := Lib.hid (HF3.out.then hb4)
            have HNS : Hid (∀ vs, O = some vs → Ns w4 vV vs) := Lib.hid fun vs e => (HNS.out vs e).keep hb4
            have HCO := Lib.hid (rInC (mtO t') Am _ cm j w4 rfl hmc hmm hmx)
            obtain ⟨M, hM⟩ : ∃ M, mtO t' = M := ⟨_, rfl⟩
            rw [hM] at HCO hmc ⊢
            have HM := Lib.hid hM
            obtain ⟨B, hB⟩ : ∃ B, decide ((j : Int) ∈ M) = B := ⟨_, rfl⟩
            rw [hB] at HCO
            have HBB := Lib.hid hB
            obtain ⟨a0, a1, a2⟩ := HX5.out.three
            unfold maxLen at hmm
            clear d0 d1 d2 HME hb4 hmx HF3 hM hB
            go_wp2_with fail
            refine HCO.out.mono ?_
            rintro e w5 ⟨rfl, hb5⟩
            have HX5 := Lib.hid (HX5.out.keep hb5 HX5.out.lt)
            have HZ := Lib.hid (HZ.out.keep hb5 HZ.out.lt)
            have HUM := Lib.hid (HUM.out.keep hb5)
            have HRX := Lib.hid (RX.fr HRX.out (Fr.below (X := UX Bk pu) hb5))
            have HF5 := Lib.hid (HF4.out.then hb5)
            have HNS : Hid (∀ vs, O = some vs → Ns w5 vV vs) := Lib.hid fun vs e => (HNS.out vs e).keep hb5
            clear a0 a1 a2 HCO hb5 HF4
            cases O with
            | none =>
              have hR3 : R = .ok (true, bs, NN) := by
                have := HR2.out
                rw [svT, HO.out] at this
                exact this
              have HR3 := Lib.hid hR3
              clear hR3 HR2 HO HNS
              simp only [Option.isSome]
              go_wp2_with fail
              go_ret
              rw [HR3.out]
              exact ⟨HF5.out, rfl, HUM.out⟩
            | some vs =>
              obtain ⟨AV, cV, rfl, hvc, hvm, hvx⟩ := HNS.out vs rfl
              have hR3 : R = if (j : Int) ∈ M then .ok (true, bs, NN) else match ivR t' vs m with
                | .ok u => .ok (false, bs.set j (true, u), NN)
                | .error e => if e = 7 then (if M.length = 0 then .error 6 else .ok (true, bs, NN)) else .error 4 := by
                have := HR2.out
                rw [svT, HO.out, HM.out, Int.toNat_natCast] at this
                exact this
              have HR3 := Lib.hid hR3
              have hvl : vs.length ≤ 1000 := by
                have := ptn_lenJ _ _ _ HO.out
                simp only [List.length_nil] at this
                omega
              have HVX := Lib.hid hvx
              simp only [Option.isSome]
              clear hR3 HR2 hvx HNS
              cases B with
              | true =>
                have HR4 := Lib.hid (HR3.out.trans (if_pos (of_decide_eq_true HBB.out)))
                clear HR3
                go_wp2_with fail
                go_ret
                rw [HR4.out]
                exact ⟨HF5.out, rfl, HUM.out⟩
              | false =>
                have HR4 := Lib.hid (HR3.out.trans (if_neg (of_decide_eq_false HBB.out)))
                have hok' : okT 2199023255552 t' := okT_mono (by have := dp_le t'; have := HG.out.2.1; have := HI.out.hi; have := HI.out.lo; unfold kN; omega) _ (lv_ok t' HG.out.2.2)
                have hIV := rInvertC t' vs AV vs.length cV m _ w5 HRX.out.rd hnd rfl hvc hvm HVX.out
                rw [rv_ivD hnd hok' (by omega)] at hIV
                have HIV := Lib.hid hIV
                obtain ⟨d0, d1, d2⟩ := HZ.out.three
                clear HR3 hIV hok'
                go_wp2_with fail
                refine HIV.out.mono ?_
                rintro e w6 ⟨k6, h6, A6, n6, c6, rfl, hr6, hb6⟩
                clear d0 d1 d2 HIV
                obtain ⟨Wc, hWc⟩ : ∃ Wc, w6.alloc (.cells #[.int .i64 k6, .int .i64 h6, .slice A6 n6 c6] 24) = Wc := ⟨_, rfl⟩
                have hbc : Below w6.heap.size w6 Wc := by rw [← hWc]; exact (Below.refl _ _).alloc (Nat.le_refl _) _
                have HV19 : Hid (Box Wc w6.heap.size 24 #[.int .i64 k6, .int .i64 h6, .slice A6 n6 c6]) := Lib.hid (by rw [← hWc]; exact Box.new _ _ _)
                have hb56 := hb6.trans (hbc.mono hb6.size)
                have HV0 := Lib.hid (HX5.out.keep hb56 HX5.out.lt)
                have HUM6 := Lib.hid (HUM.out.keep hb56)
                have HF6 := Lib.hid (HF5.out.then hb56)
                have lU := HUM.out.lt
                have HR6 := Lib.hid (RdF.moveX (ok' := fun b => ¬ UX Bk pu b) (fun b hb hl => by
                  have hb : w5.heap.size ≤ b := hb
                  exact ⟨fun e => by rcases e with e | e <;> omega, hbc.block b hl⟩) _ _ hr6)
                clear hbc hb6 hb56 hr6 HUM HF5
                cases hI : ivR t' vs m with
                | ok u =>
                  have HR5 : Hid (R = .ok (false, bs.set j (true, u), NN)) := Lib.hid (by have := HR4.out; rw [hI] at this; exact this)
                  rw [hI] at HR6
                  simp only [ivE]
                  clear HR4 hI
                  obtain ⟨p0, p1, p2⟩ := HUM6.out.ptr.three
                  obtain ⟨a0, a1, a2⟩ := HV0.out.three
                  obtain ⟨d0, d1, d2⟩ := HV19.out.three
                  have q1 := Past.cell a1
                  have t0 := Past.cell p0
                  have r0 := Past.cell d0
                  have r1 := Past.cell d1
                  have r2 := Past.cell d2
                  have HBL := Lib.hid hbl
                  clear a0 a1 a2 p0 p1 p2 d0 d1 d2
                  subst hWc
                  go_wp2_with fail
                  generalize w6.alloc (.cells #[.int .i64 k6, .int .i64 h6, .slice A6 n6 c6] 24) = Wc at *
                  refine wp_region_class_tail (C := fun w' => ∃ z : Past Wc, w' = z.wd) 9 (by kernel_rfl) (by kernel_rfl) ⟨⟨Wc.drew, (Below.refl _ _).drew⟩, rfl⟩ ?_
                  simp only [List.take_succ_cons, List.take_zero, List.drop_succ_cons, List.drop_zero]
                  repeat (go_big_quiet_step (fail))
                  refine wpQuiet_nil ?_
                  rintro _ ⟨z2, rfl⟩
                  obtain ⟨W5, hbq⟩ := z2
                  dsimp only
                  clear q1 t0 r0 r1 r2
                  have hum5 := HUM6.out.keep hbq
                  have HF7 := Lib.hid (HF6.out.then hbq)
                  have HR7 := Lib.hid (RX.fr HR6.out (Fr.below (X := UX Bk pu) hbq))
                  obtain ⟨csr, hrow, hsz, hcs⟩ := hum5.row
                  have HUM7 := Lib.hid hum5
                  clear hcs hbq hum5
                  obtain ⟨u0, hu0⟩ := hrow.there (i := j * 4) (by omega)
                  obtain ⟨u1, hu1⟩ := hrow.there (i := j * 4 + 1) (by omega)
                  obtain ⟨u2, hu2⟩ := hrow.there (i := j * 4 + 2) (by omega)
                  obtain ⟨u3, hu3⟩ := hrow.there (i := j * 4 + 3) (by omega)
                  have f0 := hrow.frozen (j * 4)
                  have f1 := hrow.frozen (j * 4 + 1)
                  have f2 := hrow.frozen (j * 4 + 2)
                  have f3 := hrow.frozen (j * 4 + 3)
                  clear hrow hsz HUM6 HR6 HF6
                  go_wp2_with fail
                  go_ret
                  rw [HR5.out]
                  obtain ⟨h1, h2⟩ := HUM7.out.put (j := j) (u := u) HBL.out (by omega) HR7.out rfl
                  exact ⟨HF7.out.trans h2 fun _ _ e => e, rfl, h1⟩
                | error ei =>
                  have hR4 := HR4.out
                  rw [hI] at hR4
                  rcases ivR_er hI with rfl | rfl
                  · have HR5 : Hid (R = .error 4) := Lib.hid hR4
                    simp only [ivE]
                    clear hR4 HR4 hI HR6
                    subst hWc
                    go_wp2_with fail
                    go_ret
                    rw [HR5.out]
                    exact ⟨HF6.out, rfl, by decide, by decide⟩
                  · have hR5 : R = if M.length = 0 then .error 6 else .ok (true, bs, NN) := hR4
                    have HR5 := Lib.hid hR5
                    simp only [ivE]
                    clear hR4 hR5 HR4 hI HR6
                    subst hWc
                    by_cases hm0 : M.length = 0
                    · have hd : ((M.length : Int) == 0) = true := by rw [beq_iff_eq]; omega
                      have HR7 := Lib.hid (HR5.out.trans (if_pos hm0))
                      clear HR5
                      go_wp2_with fail
                      go_ret
                      rw [HR7.out]
                      exact ⟨HF6.out, rfl, by decide, by decide⟩
                    · have hd : ((M.length : Int) == 0) = false := by rw [beq_eq_false_iff_ne]; omega
                      have HR7 := Lib.hid (HR5.out.trans (if_neg hm0))
                      clear HR5
                      go_wp2_with fail
                      go_ret
                      rw [HR7.out]
                      exact ⟨HF6.out, rfl, HUM6.out⟩
end Go.Proofs.YtnnmnkgogiabiaaGreat

/-
  Contract of the document's one of layer 8. No statement is proved here.
-/
namespace Go.Proofs.YtnnmnkgogiabiaaGreat
open Go.ChangeShapes Go.WideShapes Go.ChangeAt Go.RowKit
set_option linter.unusedVariables false

/-- what one comes to, step by step -/
theorem cmU_e1 {bs : List BT} {f : Nat} {a c : T} {m : Int} {N : Nat} {ec : Int} (h : rsU bs f a m N = .error ec) : cmU bs f a c m N = .error ec := by
  simp only [cmU, rsL, bd_nil, Int.add_zero, h]
theorem cmU_e2 {bs : List BT} {f : Nat} {a c t : T} {m : Int} {N N1 : Nat} {ec : Int} (h : rsU bs f a m N = .ok (t, N1)) (h2 : rsU bs f c m N1 = .error ec) : cmU bs f a c m N = .error ec := by
  simp only [cmU, rsL, bd_nil, Int.add_zero, h, h2]
theorem cmU_ok {bs : List BT} {f : Nat} {a c t u : T} {m : Int} {N N1 N2 : Nat} (h : rsU bs f a m N = .ok (t, N1)) (h2 : rsU bs f c m N1 = .ok (u, N2)) : cmU bs f a c m N = .ok (!samB t u, bs, N2) := by
  simp only [cmU, rsL, bd_nil, Int.add_zero, h, h2]
  rfl

set_option maxRecDepth 100000 in
set_option maxHeartbeats 8000000 in
theorem rOneC {sz : List Int} {Bk pu : Nat} {As : Option Addr} {cs : Nat} {bs : List BT} (f : Nat) (a c : T) (m : Int) (N : Nat) (k h : Int) (A : Option Addr) (n cc : Nat) (k' h' : Int) (A' : Option Addr) (n' cc' : Nat) (w : World) (hst : RM (UX Bk pu) sz Bk pu As cs bs N w) (hok : okU sz bs N) (ha : WT (kN N + m) a) (hc : WT (kN N + m) c) (hm : 0 ≤ m) (hm2 : m + f + 1 ≤ 100000) (hf : 40001 ≤ f + N) (hN : N ≤ 40000)
    (hra : RX (UX Bk pu) w a (.agg #[.int .i64 k, .int .i64 h, .slice A n cc])) (hrc : RX (UX Bk pu) w c (.agg #[.int .i64 k', .int .i64 h', .slice A' n' cc'])) :
    Calls Tryz.prog 30 #[.pointer (some ⟨pu, 0, none⟩), .agg #[.int .i64 k, .int .i64 h, .slice A n cc], .agg #[.int .i64 k', .int .i64 h', .slice A' n' cc'], .int .i64 m] w (USr sz Bk pu As cs w (cmU bs f a c m N)) := by
  obtain ⟨W, hW⟩ : ∃ W, (w.alloc (.cells #[.int .i64 k, .int .i64 h, .slice A n cc] 24)).alloc (.cells #[.int .i64 k', .int .i64 h', .slice A' n' cc'] 24) = W := ⟨_, rfl⟩
  have hb : Below w.heap.size w W := by rw [← hW]; exact ((Below.refl _ _).alloc (Nat.le_refl _) _).alloc (by simp) _
  have x0 : Box W w.heap.size 24 #[.int .i64 k, .int .i64 h, .slice A n cc] := by rw [← hW]; exact (Box.new _ _ _).alloc _
  have x1 : Box W (w.heap.size + 1) 24 #[.int .i64 k', .int .i64 h', .slice A' n' cc'] := by rw [← hW]; exact (Box.new (w.alloc _) _ _).at (by simp)
  have hlt := hst.lt
  obtain ⟨R, hR⟩ : ∃ R, cmU bs f a c m N = R := ⟨_, rfl⟩
  rw [hR]
  have HR := Lib.hid hR.symm; clear hR
  obtain ⟨L, hL⟩ : ∃ L, rsU bs f a m N = L := ⟨_, rfl⟩
  have HRA := rResolveC (bs := bs) f a m N k h A n cc W (hst.keep hb) hok ha hm (by omega) hf hN (RX.fr hra (Fr.below hb))
  rw [hL] at HRA
  have HRA := Lib.hid HRA
  have HL := Lib.hid hL; clear hL
  have HST := Lib.hid hst
  have HST0 := Lib.hid hst
  have HOK := Lib.hid hok
  have HA := Lib.hid ha
  have HC := Lib.hid hc
  have HB := Lib.hid hb
  have HRC := Lib.hid hrc
  have HX1 := Lib.hid x1
  obtain ⟨a0, a1, a2⟩ := x0.three
  have s0 := hb.size
  have lx1 := x1.lt
  have hn1 : w.heap.size + 1 ≠ pu := by omega
  clear hra hrc hst hok ha hc hb x0 x1
  have HW := Lib.hid hW; clear hW
  go_enter Tryz.func30, Tryz.ntmps30
  go_wp2_with fail
  rw [HW.out]
  clear HW
  go_wp2_with fail
  refine HRA.out.mono ?_
  intro e w1 hE
  obtain ⟨k1, h1, A1, n1, c1, ec, rfl, hfr, hq⟩ := hE.uni
  have y1 := HX1.out.fr hfr hn1
  have HFR := Lib.hid ((Fr.below (X := fun b => b = pu) HB.out).trans hfr fun _ _ e => e)
  have s1 := hfr.size
  have ly1 := y1.lt
  have HY1 := Lib.hid y1
  obtain ⟨b0, b1, b2⟩ := y1.three
  clear a0 a1 a2 hE hfr HRA HX1 y1
  by_cases he0 : ec = 0
  case neg =>
    have hLo : L = .error ec := by
      rcases hq with ⟨ys, N2, e1, e2, e3, e4⟩ | ⟨e1, e2⟩
      · exact absurd e2 he0
      · exact e1
    have hd : (ec != 0) = true := by simpa using he0
    have HR2 := Lib.hid (HR.out.trans (cmU_e1 (HL.out.trans hLo)))
    have HNE := Lib.hid (rsU_er _ _ _ _ _ (HL.out.trans hLo)).ne
    have HF3 := Lib.hid (FrP.ux (Bk := Bk) (HFR.out.then ((Below.refl w1.heap.size w1).alloc (Nat.le_refl _) (.cells #[.int .i64 k1, .int .i64 h1, .slice A1 n1 c1] 24))))
    clear hq hLo HL HR b0 b1 b2
    go_wp2_with fail
    go_ret
    rw [HR2.out]
    exact ⟨HF3.out, rfl, HNE.out.1, HNE.out.2⟩
  obtain ⟨t1, N1, hLo, hrd, hpb⟩ : ∃ t1 N1, L = .ok (t1, N1) ∧ RdF (fun b => W.heap.size ≤ b) w1 t1 (.agg #[.int .i64 k1, .int .i64 h1, .slice A1 n1 c1]) ∧ PR sz Bk pu As cs w1 N1 := by
    rcases hq with ⟨ys, N2, e1, e2, e3, e4⟩ | ⟨e1, e2⟩
    · exact ⟨ys, N2, e1, e3, e4⟩
    · exact absurd he0 e2.1
  subst he0
  have hL2 := HL.out.trans hLo
  obtain ⟨g1, g2, _⟩ := rsU_good f a m N t1 N1 hm HOK.out HA.out hL2
  have HL2 := Lib.hid hL2
  obtain ⟨Wb, hWb⟩ : ∃ Wb, w1.alloc (.cells #[.int .i64 k1, .int .i64 h1, .slice A1 n1 c1] 24) = Wb := ⟨_, rfl⟩
  have hbB : Below w1.heap.size w1 Wb := by rw [← hWb]; exact (Below.refl _ _).alloc (Nat.le_refl _) _
  have HZ9 : Hid (Box Wb w1.heap.size 24 #[.int .i64 k1, .int .i64 h1, .slice A1 n1 c1]) := Lib.hid (by rw [← hWb]; exact Box.new _ _ _)
  have sWb : Wb.heap.size = w1.heap.size + 1 := by rw [← hWb]; simp
  have HFB := Lib.hid (HFR.out.then hbB)
  have HRD : Hid (RdF (fun b => W.heap.size ≤ b ∧ b < w1.heap.size) Wb t1 (.agg #[.int .i64 k1, .int .i64 h1, .slice A1 n1 c1])) := Lib.hid (RdF.moveX (fun b hb hl => ⟨hb, hbB.block b hb.2⟩) _ _ (rdF_heap _ _ hrd))
  obtain ⟨L2, hL3⟩ : ∃ L2, rsU bs f c m N1 = L2 := ⟨_, rfl⟩
  have HRB := rResolveC (bs := bs) f c m N1 k' h' A' n' cc' Wb (HST.out.after HFB.out (hpb.keep hbB hpb.lt)) (HOK.out.mono (by omega)) (HC.out.mono (by have := kN_mono (show N ≤ N1 by omega); omega)) hm (by omega) (by omega) g2 (RX.fr HRC.out (FrP.ux (Bk := Bk) HFB.out))
  rw [hL3] at HRB
  have HRB := Lib.hid HRB
  have HL3 := Lib.hid hL3
  clear hq hLo HL hL2 hL3 hrd hpb g1 g2 hbB HST HOK HA HC HB HRC HY1 HFR
  subst hWb
  go_wp2_with fail
  clear b0 b1 b2
  generalize w1.alloc (.cells #[.int .i64 k1, .int .i64 h1, .slice A1 n1 c1] 24) = Wb at *
  refine HRB.out.mono ?_
  intro e w2 hE
  obtain ⟨k2, h2, A2, n2, c2, ec, rfl, hfr, hq⟩ := hE.uni
  have s2 := hfr.size
  have y9 := HZ9.out.fr hfr (by omega)
  have ly9 := y9.lt
  obtain ⟨d0, d1, d2⟩ := y9.three
  clear hE HRB HZ9
  obtain ⟨Wc, hWc⟩ : ∃ Wc, w2.alloc (.cells #[.int .i64 k2, .int .i64 h2, .slice A2 n2 c2] 24) = Wc := ⟨_, rfl⟩
  have hbC : Below w2.heap.size w2 Wc := by rw [← hWc]; exact (Below.refl _ _).alloc (Nat.le_refl _) _
  have HFC := Lib.hid ((HFB.out.trans hfr fun _ _ e => e).then hbC)
  by_cases he0 : ec = 0
  case neg =>
    have hLo : L2 = .error ec := by
      rcases hq with ⟨ys, N2, e1, e2, e3, e4⟩ | ⟨e1, e2⟩
      · exact absurd e2 he0
      · exact e1
    have hd : (ec != 0) = true := by simpa using he0
    have HR2 := Lib.hid (HR.out.trans (cmU_e2 HL2.out (HL3.out.trans hLo)))
    have HNE := Lib.hid (rsU_er _ _ _ _ _ (HL3.out.trans hLo)).ne
    have HF3 := Lib.hid (FrP.ux (Bk := Bk) HFC.out)
    clear hq hLo HL2 HL3 HR d0 d1 d2 y9 hbC hfr
    subst hWc
    go_wp2_with fail
    go_ret
    rw [HR2.out]
    exact ⟨HF3.out, rfl, HNE.out.1, HNE.out.2⟩
  obtain ⟨t2, N2, hLo, hrd, hpb⟩ : ∃ t2 N2, L2 = .ok (t2, N2) ∧ RdF (fun b => Wb.heap.size ≤ b) w2 t2 (.agg #[.int .i64 k2, .int .i64 h2, .slice A2 n2 c2]) ∧ PR sz Bk pu As cs w2 N2 := by
    rcases hq with ⟨ys, N2, e1, e2, e3, e4⟩ | ⟨e1, e2⟩
    · exact ⟨ys, N2, e1, e3, e4⟩
    · exact absurd he0 e2.1
  subst he0
  have HR2 := Lib.hid (HR.out.trans (cmU_ok HL2.out (HL3.out.trans hLo)))
  have HRM := Lib.hid (HST0.out.after HFC.out (hpb.keep hbC hpb.lt))
  have rd1 : Rd Wc t1 (.agg #[.int .i64 k1, .int .i64 h1, .slice A1 n1 c1]) := RdF.rd _ _ (RdF.moveX (ok' := fun _ => True) (fun b hb hl => ⟨trivial, ((hfr.then hbC).block b (by omega) (by omega))⟩) _ _ HRD.out)
  have rd2 : Rd Wc t2 (.agg #[.int .i64 k2, .int .i64 h2, .slice A2 n2 c2]) := RdF.rd _ _ (RdF.moveX (ok' := fun _ => True) (fun b hb hl => ⟨trivial, hbC.block b hl⟩) _ _ hrd)
  have HSM := Lib.hid (refSame t1 t2 _ _ Wc rd1 rd2)
  clear hq hLo HL2 HL3 HR hrd hpb rd1 rd2 hbC hfr HRD y9
  subst hWc
  go_wp2_with fail
  clear d0 d1 d2
  refine HSM.out.mono ?_
  rintro e w3 ⟨rfl, hb3⟩
  have HF4 := Lib.hid (FrP.ux (Bk := Bk) (HFC.out.then hb3))
  have HRM4 := Lib.hid (HRM.out.keep hb3)
  clear hb3 HSM HFC HRM
  generalize samB t1 t2 = S at *
  cases S
  · go_wp2_with fail
    go_ret
    rw [HR2.out]
    exact ⟨HF4.out, rfl, HRM4.out⟩
  · go_wp2_with fail
    go_ret
    rw [HR2.out]
    exact ⟨HF4.out, rfl, HRM4.out⟩
end Go.Proofs.YtnnmnkgogiabiaaGreat

/-
  Contract of the document's node of layer 8. No statement is proved here.
-/
namespace Go.Proofs.YtnnmnkgogiabiaaGreat
open Go.ChangeShapes Go.WideShapes Go.ChangeAt Go.RowKit
set_option linter.unusedVariables false

theorem USr.uni {sz : List Int} {Bk pu : Nat} {As : Option Addr} {cs : Nat} {w : World} {R : Except Int USt} {e : Ending} {w' : World} (h : USr sz Bk pu As cs w R e w') :
    ∃ ec, e = .returned (.int .i64 ec) ∧ Fr (UX Bk pu) w w' ∧ ((∃ o bs N, R = .ok (o, bs, N) ∧ ec = (if o = true then 5 else 0) ∧ RM (UX Bk pu) sz Bk pu As cs bs N w') ∨ (R = .error ec ∧ ec ≠ 0 ∧ ec ≠ 5)) := by
  obtain ⟨hf, h⟩ := h
  cases R with
  | error ec => obtain ⟨rfl, h1, h2⟩ := h; exact ⟨ec, rfl, hf, .inr ⟨rfl, h1, h2⟩⟩
  | ok p => obtain ⟨o, bs, N⟩ := p; obtain ⟨rfl, hu⟩ := h; exact ⟨_, rfl, hf, .inl ⟨o, bs, N, rfl, rfl, hu⟩⟩
theorem USr.of {sz : List Int} {Bk pu : Nat} {As : Option Addr} {cs : Nat} {w0 w w' : World} {R : Except Int USt} {ec : Int} (hf : Fr (UX Bk pu) w0 w') (hq : (∃ o bs N, R = .ok (o, bs, N) ∧ ec = (if o = true then 5 else 0) ∧ RM (UX Bk pu) sz Bk pu As cs bs N w') ∨ (R = .error ec ∧ ec ≠ 0 ∧ ec ≠ 5)) : USr sz Bk pu As cs w0 R (.returned (.int .i64 ec)) w' := by
  rcases hq with ⟨o, bs, N, rfl, rfl, h⟩ | ⟨rfl, h1, h2⟩
  · exact ⟨hf, rfl, h⟩
  · exact ⟨hf, rfl, h1, h2⟩
/-- what node tells, with a fuel -/
def UnD (sz : List Int) (Bk pu : Nat) (As : Option Addr) (cs : Nat) (f : Nat) : Prop :=
  ∀ (a c : T) (m : Int) (bs : List BT) (N : Nat) (k h : Int) (A : Option Addr) (n cc : Nat) (k' h' : Int) (A' : Option Addr) (n' cc' : Nat) (w : World), RM (UX Bk pu) sz Bk pu As cs bs N w → okU sz bs N → WT (kN N + m) a → WT (kN N + m) c → 0 ≤ m → m + f + 1 ≤ 100000 → 40001 ≤ f + N → N ≤ 40000 →
    RX (UX Bk pu) w a (.agg #[.int .i64 k, .int .i64 h, .slice A n cc]) → RX (UX Bk pu) w c (.agg #[.int .i64 k', .int .i64 h', .slice A' n' cc']) →
    Calls Tryz.prog 18 #[.pointer (some ⟨pu, 0, none⟩), .agg #[.int .i64 k, .int .i64 h, .slice A n cc], .agg #[.int .i64 k', .int .i64 h', .slice A' n' cc'], .int .i64 m] w (USr sz Bk pu As cs w (uND sz f a c m bs N))
/-- what holds at the head of the loop -/
structure NdD (sz : List Int) (Bk pu : Nat) (As : Option Addr) (cs : Nat) (f : Nat) (k : Int) (n : Nat) (m : Int) (xs ys : List T) (N0 : Nat) (R : Except Int USt) (w : World) (j : Nat) (wr : World) (o : Bool) (bs : List BT) (N : Nat) : Prop where
  fr : Fr (UX Bk pu) w wr
  um : RM (UX Bk pu) sz Bk pu As cs bs N wr
  ok : okU sz bs N
  hi : N ≤ 40000
  lo : N0 ≤ N
  eq : R = ndsU (uND sz f) k n m (xs.drop j) (ys.drop j) j o bs N

set_option maxRecDepth 100000 in
set_option maxHeartbeats 8000000 in
theorem rNodeC {sz : List Int} {Bk pu : Nat} {As : Option Addr} {cs : Nat} : ∀ (f : Nat), UnD sz Bk pu As cs f := by
  intro f
  induction f with
  | zero => intro a c m bs N k h A n cc k' h' A' n' cc' w _ _ _ _ _ _ h1 h2 _; omega
  | succ f ih =>
    intro a c m bs N k h A n cc k' h' A' n' cc' w hst hok ha hc hm hm2 hf hN hra hrc
    obtain ⟨W, hW⟩ : ∃ W, (w.alloc (.cells #[.int .i64 k, .int .i64 h, .slice A n cc] 24)).alloc (.cells #[.int .i64 k', .int .i64 h', .slice A' n' cc'] 24) = W := ⟨_, rfl⟩
    have hb : Below w.heap.size w W := by rw [← hW]; exact ((Below.refl _ _).alloc (Nat.le_refl _) _).alloc (by simp) _
    have x0 : Box W w.heap.size 24 #[.int .i64 k, .int .i64 h, .slice A n cc] := by rw [← hW]; exact (Box.new _ _ _).alloc _
    have x1 : Box W (w.heap.size + 1) 24 #[.int .i64 k', .int .i64 h', .slice A' n' cc'] := by rw [← hW]; exact (Box.new (w.alloc _) _ _).at (by simp)
    have hlt := hst.lt
    have hX2 : ∀ w' : World, w.heap.size ≤ w'.heap.size → ∀ b, UX Bk pu b → b < w'.heap.size := fun w' hs b e => by rcases e with e | e <;> omega
    have s0 := hb.size
    have HRA := Lib.hid (rReduceC (X := UX Bk pu) m (f + 1) a N k h A n cc W (hst.keep hb) hok ha hm (by omega) hf hN (hX2 W s0) (RX.fr hra (Fr.below hb)))
    obtain ⟨R1, hR1⟩ : ∃ R, rdU bs m (f + 1) a N = R := ⟨_, rfl⟩
    rw [hR1] at HRA
    obtain ⟨R, hR⟩ : ∃ R, uND sz (f + 1) a c m bs N = R := ⟨_, rfl⟩
    rw [hR]
    have HR := Lib.hid hR; clear hR
    have HST := Lib.hid hst
    have HOK := Lib.hid hok
    have HA := Lib.hid ha
    have HC := Lib.hid hc
    have HIH := Lib.hid ih
    have HB := Lib.hid hb
    have HX2 := Lib.hid hX2
    have HRC := Lib.hid hrc
    have HX1 := Lib.hid x1
    obtain ⟨a0, a1, a2⟩ := x0.three
    have lx1 := x1.lt
    have hn1 : w.heap.size + 1 ≠ pu := by omega
    clear hra hrc hst hok ha hc ih hX2 hb x0 x1
    have HW := Lib.hid hW; clear hW
    go_enter Tryz.func18, Tryz.ntmps18
    go_wp2_with fail
    rw [HW.out]
    clear HW
    go_wp2_with fail
    refine HRA.out.mono ?_
    intro e w1 hE
    obtain ⟨k1, h1, A1, n1, cc1, ec, N1, rfl, hfr, hpr, hq⟩ := hE.uni
    have y1 := HX1.out.fr hfr hn1
    have HFR := Lib.hid ((Fr.below (X := fun b => b = pu) HB.out).trans hfr fun _ _ e => e)
    have s1 := hfr.size
    have ly1 := y1.lt
    obtain ⟨b0, b1, b2⟩ := y1.three
    clear a0 a1 a2 hE hfr HRA HX1 y1
    obtain ⟨Wb, hWb⟩ : ∃ Wb, w1.alloc (.cells #[.int .i64 k1, .int .i64 h1, .slice A1 n1 cc1] 24) = Wb := ⟨_, rfl⟩
    have hbB : Below w1.heap.size w1 Wb := by rw [← hWb]; exact (Below.refl _ _).alloc (Nat.le_refl _) _
    have sWb : Wb.heap.size = w1.heap.size + 1 := by rw [← hWb]; simp
    have HFB := Lib.hid (HFR.out.then hbB)
    by_cases he0 : ec = 0
    case neg =>
      have hRo : R1 = .error ec := by
        rcases hq with ⟨t1, e1, e2, e3⟩ | ⟨e1, e2⟩
        · exact absurd e2 he0
        · exact e1
      have hd : (ec != 0) = true := by simpa using he0
      have HR3 := Lib.hid (HR.out.symm.trans (uND_e1 (hR1.trans hRo)))
      have HNE := Lib.hid (rdU_er _ _ _ _ (hR1.trans hRo)).ne
      have HF3 := Lib.hid (FrP.ux (Bk := Bk) HFB.out)
      clear hq hRo hR1 HR b0 b1 b2 hbB hpr
      subst hWb
      go_wp2_with fail
      go_ret
      rw [HR3.out]
      exact ⟨HF3.out, rfl, HNE.out.1, HNE.out.2⟩
    obtain ⟨t1, hRo, hrx⟩ : ∃ t1, R1 = .ok (t1, N1) ∧ RX (UX Bk pu) w1 t1 (.agg #[.int .i64 k1, .int .i64 h1, .slice A1 n1 cc1]) := by
      rcases hq with ⟨t1, e1, e2, e3⟩ | ⟨e1, e2⟩
      · exact ⟨t1, e1, e3⟩
      · exact absurd he0 e2
    subst he0
    rw [hRo] at hR1
    obtain ⟨g1, g2, g3, _⟩ := rdU_good hm _ _ _ _ _ HOK.out HA.out hR1
    obtain ⟨kt, gt, xs⟩ := t1
    obtain ⟨rfl, rfl⟩ := rx_kind hrx
    have HRX := Lib.hid (RX.fr hrx (Fr.below (X := UX Bk pu) hbB))
    have HG3 := Lib.hid g3
    have HZ9 : Hid (Box Wb w1.heap.size 24 #[.int .i64 k1, .int .i64 h1, .slice A1 n1 cc1]) := Lib.hid (by rw [← hWb]; exact Box.new _ _ _)
    have hok1 := HOK.out.mono (show N ≤ N1 by omega)
    have hc1 : WT (kN N1 + m) c := HC.out.mono (by have := kN_mono (show N ≤ N1 by omega); omega)
    have HRB := Lib.hid (rReduceC (X := UX Bk pu) m (f + 1) c N1 k' h' A' n' cc' Wb (HST.out.after HFB.out (hpr.keep hbB hpr.lt)) hok1 hc1 hm (by omega) (by omega) g2 (HX2.out Wb (by omega)) (RX.fr HRC.out (FrP.ux (Bk := Bk) HFB.out)))
    obtain ⟨R2, hR2⟩ : ∃ R, rdU bs m (f + 1) c N1 = R := ⟨_, rfl⟩
    rw [hR2] at HRB
    have HOK1 := Lib.hid hok1
    have HC1 := Lib.hid hc1
    have HR1 := Lib.hid hR1
    clear hq hRo hrx g3 hok1 hc1 hpr hbB HFR HOK HC HA HRC HX2 HB hR1
    subst hWb
    go_wp2_with fail
    clear b0 b1 b2
    generalize w1.alloc (.cells #[.int .i64 k1, .int .i64 h1, .slice A1 n1 cc1] 24) = Wb at *
    refine HRB.out.mono ?_
    intro e w2 hE
    obtain ⟨k2, h2, A2, n2, cc2, ec, N2, rfl, hfr, hpr, hq⟩ := hE.uni
    have s2 := hfr.size
    have y9 := HZ9.out.fr hfr (by omega)
    have hra := RX.fr HRX.out (FrP.ux (Bk := Bk) hfr)
    obtain ⟨Wc, hWc⟩ : ∃ Wc, w2.alloc (.cells #[.int .i64 k2, .int .i64 h2, .slice A2 n2 cc2] 24) = Wc := ⟨_, rfl⟩
    have hbC : Below w2.heap.size w2 Wc := by rw [← hWc]; exact (Below.refl _ _).alloc (Nat.le_refl _) _
    have sWc : Wc.heap.size = w2.heap.size + 1 := by rw [← hWc]; simp
    have HFC := Lib.hid ((HFB.out.trans hfr fun _ _ e => e).then hbC)
    clear hE HRB HZ9 hfr HRX HFB
    by_cases he0 : ec = 0
    case neg =>
      have hRo : R2 = .error ec := by
        rcases hq with ⟨t1, e1, e2, e3⟩ | ⟨e1, e2⟩
        · exact absurd e2 he0
        · exact e1
      have hd : (ec != 0) = true := by simpa using he0
      have HR3 := Lib.hid (HR.out.symm.trans (uND_e2 HR1.out (hR2.trans hRo)))
      have HNE := Lib.hid (rdU_er _ _ _ _ (hR2.trans hRo)).ne
      have HF3 := Lib.hid (FrP.ux (Bk := Bk) HFC.out)
      clear hq hRo hR2 HR1 HR hbC hpr hra y9
      subst hWc
      go_wp2_with fail
      go_ret
      rw [HR3.out]
      exact ⟨HF3.out, rfl, HNE.out.1, HNE.out.2⟩
    obtain ⟨t2, hRo, hrx⟩ : ∃ t2, R2 = .ok (t2, N2) ∧ RX (UX Bk pu) w2 t2 (.agg #[.int .i64 k2, .int .i64 h2, .slice A2 n2 cc2]) := by
      rcases hq with ⟨t1, e1, e2, e3⟩ | ⟨e1, e2⟩
      · exact ⟨t1, e1, e3⟩
      · exact absurd he0 e2
    subst he0
    rw [hRo] at hR2
    obtain ⟨i1, i2, i3, _⟩ := rdU_good hm _ _ _ _ _ HOK1.out HC1.out hR2
    obtain ⟨kt, gt, ys⟩ := t2
    obtain ⟨rfl, rfl⟩ := rx_kind hrx
    have hR3 := HR.out.symm.trans (uND_ok HR1.out hR2)
    have hra2 := RX.fr hra (Fr.below (X := UX Bk pu) hbC)
    have hrc2 := RX.fr hrx (Fr.below (X := UX Bk pu) hbC)
    have z9 := y9.keep hbC y9.lt
    have z11 : Box Wc w2.heap.size 24 #[.int .i64 k2, .int .i64 h2, .slice A2 n2 cc2] := by rw [← hWc]; exact Box.new _ _ _
    have hum := HST.out.after HFC.out (hpr.keep hbC hpr.lt)
    have hok2 := HOK1.out.mono (show N1 ≤ N2 by omega)
    have ha2 : WT (kN N2 + m) (.node k1 h1 xs) := HG3.out.mono (by have := kN_mono (show N1 ≤ N2 by omega); omega)
    have HF := Lib.hid (FrP.ux (Bk := Bk) HFC.out)
    have hp9 : w1.heap.size < w2.heap.size := by omega
    have hw1 : w.heap.size < w1.heap.size := by omega
    have HZ9 := Lib.hid z9
    have HZ11 := Lib.hid z11
    obtain ⟨a0, a1, a2⟩ := y9.three
    have hn9 : ¬ UX Bk pu w1.heap.size := fun e => by rcases e with e | e <;> omega
    have hn11 : ¬ UX Bk pu w2.heap.size := fun e => by rcases e with e | e <;> omega
    clear hq hRo hra hrx y9 hpr hbC HST HOK1 HC1 HG3 HR1 hR2 HR HFC z9 z11
    by_cases h61 : k1 = 6
    · subst h61
      obtain ⟨j, rfl⟩ : ∃ j : Nat, h1 = j := ⟨h1.toNat, by have := ha2.pos rfl; omega⟩
      by_cases hcc : k2 = 6 ∧ h2 = j
      · obtain ⟨rfl, rfl⟩ := hcc
        rw [if_pos (.inl rfl), meU_2] at hR3
        have HCO := Lib.hid (rOneC (f + 1) _ _ m N2 6 j A1 n1 cc1 6 j A2 n2 cc2 Wc hum hok2 ha2 i3 hm (by omega) (by omega) i2 hra2 hrc2)
        rw [← hR3] at HCO
        have hjj : ((j : Int) == (j : Int)) = true := by simp
        clear hum hok2 ha2 i3 hra2 hrc2 hR3 HZ9 HZ11
        subst hWc
        go_wp2_with fail
        generalize w2.alloc _ = Wc at *
        refine HCO.out.mono ?_
        intro e w3 hE
        obtain ⟨ec, rfl, hfr, hq⟩ := hE.uni
        have HFF := Lib.hid (HF.out.trans hfr fun _ _ e => e)
        have HQ := Lib.hid hq
        clear hE hfr hq a0 a1 a2 HCO
        go_wp2_with fail
        go_ret
        exact USr.of (w0 := w) (w := w) HFF.out HQ.out
      · rw [if_pos (.inl rfl), meU_3 hcc] at hR3
        have HS1 := Lib.hid (rSolveC (f + 1) j xs (.node k2 h2 ys) m N2 A1 n1 cc1 k2 h2 A2 n2 cc2 Wc hum hok2 ha2 i3 hm (by omega) (by omega) i2 hra2 hrc2)
        obtain ⟨S, hS⟩ : ∃ S, svU sz bs (f + 1) j xs (.node k2 h2 ys) m N2 = S := ⟨_, rfl⟩
        rw [hS] at HS1 hR3
        have hgood := fun o bs' N' (e : S = .ok (o, bs', N')) => svU_good (o := o) (bs' := bs') (N' := N') hm hok2 ha2 i3 (hS.trans e)
        have HG := Lib.hid hgood
        have HS2 : Hid (k2 = 6 → ∀ w3 bs' N', Fr (UX Bk pu) Wc w3 → RM (UX Bk pu) sz Bk pu As cs bs' N' w3 → okU sz bs' N' → N2 ≤ N' → N' ≤ 40000 → Calls Tryz.prog 31 #[.pointer (some ⟨pu, 0, none⟩), .agg #[.int .i64 k2, .int .i64 h2, .slice A2 n2 cc2], .agg #[.int .i64 6, .int .i64 j, .slice A1 n1 cc1], .int .i64 m] w3 (USr sz Bk pu As cs w3 (svU sz bs' (f + 1) h2 ys (.node 6 j xs) m N'))) := Lib.hid fun hk' w3 bs' N' hfr hum hok' h1 h2' => by
          subst hk'
          obtain ⟨j', rfl⟩ : ∃ j' : Nat, h2 = j' := ⟨h2.toNat, by have := i3.pos rfl; omega⟩
          exact rSolveC (f + 1) j' ys (.node 6 j xs) m N' A2 n2 cc2 6 j A1 n1 cc1 w3 hum hok' (i3.mono (by have := kN_mono h1; omega)) (ha2.mono (by have := kN_mono h1; omega)) hm (by omega) (by omega) h2' (RX.fr hrc2 hfr) (RX.fr hra2 hfr)
        have HR := Lib.hid hR3.symm
        clear hum hok2 ha2 i3 hra2 hrc2 hS hgood hR3
        by_cases hk' : k2 = 6
        case' pos =>
          have hne : ((j : Int) == h2) = false := by simpa using fun e : (j : Int) = h2 => hcc ⟨hk', e.symm⟩
          have hd6 : (k2 == 6) = true := by simpa using hk'
        case' neg => have hd6 : (k2 == 6) = false := by simpa using hk'
        all_goals
          have HK' := Lib.hid hk'; clear hk' hcc
          subst hWc
          go_wp2_with fail
          generalize w2.alloc _ = Wc at *
          refine HS1.out.mono ?_
          intro e w3 hE
          obtain ⟨ec, rfl, hfr, hq⟩ := hE.uni
          have z9 := HZ9.out.fr hfr hn9
          have z11 := HZ11.out.fr hfr hn11
          have HFW := Lib.hid hfr
          have HFF := Lib.hid (HF.out.trans hfr fun _ _ e => e)
          clear hE hfr a0 a1 a2
          obtain ⟨a0, a1, a2⟩ := z9.three
          obtain ⟨b0, b1, b2⟩ := z11.three
          clear z9 z11 HZ9 HZ11
        rotate_left 1
        · by_cases h5 : ec = 5
          · subst h5
            obtain ⟨bs', N', hSo, hum⟩ : ∃ bs' N', S = .ok (true, bs', N') ∧ RM (UX Bk pu) sz Bk pu As cs bs' N' w3 := by
              rcases hq with ⟨o, bs', N', e1, e2, e3⟩ | ⟨e1, e2, e3⟩
              · cases o
                · simp at e2
                · exact ⟨bs', N', e1, e3⟩
              · exact absurd rfl e3
            obtain ⟨g1, g2, g3⟩ := HG.out _ _ _ hSo
            have HS3 := Lib.hid (HS2.out HK'.out w3 bs' N' HFW.out hum g1 g2 g3)
            have hR2 : R = svU sz bs' (f + 1) h2 ys (.node 6 j xs) m N' := by
              rw [← HR.out, hSo]
              exact mtT_yes HK'.out
            rw [← hR2] at HS3
            clear hq hSo hum g1 g2 g3 hR2 HS2 HG
            go_wp2_with fail
            refine HS3.out.mono ?_
            intro e w4 hE
            obtain ⟨ec, rfl, hfr, hq⟩ := hE.uni
            have HF2 := Lib.hid (HFF.out.trans hfr fun _ _ e => e)
            have HQ := Lib.hid hq
            clear hE hfr hq a0 a1 a2 b0 b1 b2
            go_wp2_with fail
            go_ret
            exact USr.of (w0 := w) (w := w) HF2.out HQ.out
          · have hd5 : (ec == 5) = false := by simpa using h5
            have hR2 : (∃ o bs N, R = .ok (o, bs, N) ∧ ec = (if o = true then 5 else 0) ∧ RM (UX Bk pu) sz Bk pu As cs bs N w3) ∨ (R = .error ec ∧ ec ≠ 0 ∧ ec ≠ 5) := by
              rcases hq with ⟨o, bs', N', e1, e2, e3⟩ | ⟨e1, e2, e3⟩
              · cases o
                · exact .inl ⟨false, bs', N', by rw [← HR.out, e1]; exact mtT_no (fun e => Bool.false_ne_true e.1), e2, e3⟩
                · exact absurd (by simpa using e2) h5
              · exact .inr ⟨by rw [← HR.out, e1]; rfl, e2, e3⟩
            have HQ := Lib.hid hR2
            clear hq hR2 HS2 HG h5
            go_wp2_with fail
            go_ret
            exact USr.of (w0 := w) (w := w) HFF.out HQ.out
        · have hR2 : (∃ o bs N, R = .ok (o, bs, N) ∧ ec = (if o = true then 5 else 0) ∧ RM (UX Bk pu) sz Bk pu As cs bs N w3) ∨ (R = .error ec ∧ ec ≠ 0 ∧ ec ≠ 5) := by
            rcases hq with ⟨o, bs', N', e1, e2, e3⟩ | ⟨e1, e2, e3⟩
            · exact .inl ⟨o, bs', N', by rw [← HR.out, e1]; exact mtT_no (fun e => HK'.out e.2), e2, e3⟩
            · exact .inr ⟨by rw [← HR.out, e1]; rfl, e2, e3⟩
          have HQ := Lib.hid hR2
          clear hq hR2 HS2 HG
          by_cases h5 : ec = 5
          · have hd5 : (ec == 5) = true := by simpa using h5
            clear h5
            go_wp2_with fail
            go_ret
            exact USr.of (w0 := w) (w := w) HFF.out HQ.out
          · have hd5 : (ec == 5) = false := by simpa using h5
            clear h5
            go_wp2_with fail
            go_ret
            exact USr.of (w0 := w) (w := w) HFF.out HQ.out
    · have hd1 : (k1 == 6) = false := by simpa using h61
      by_cases h62 : k2 = 6
      · subst h62
        obtain ⟨j, rfl⟩ : ∃ j : Nat, h2 = j := ⟨h2.toNat, by have := i3.pos rfl; omega⟩
        rw [if_pos (.inr rfl), meU_1 h61] at hR3
        have HCO := Lib.hid (rSolveC (f + 1) j ys (.node k1 h1 xs) m N2 A2 n2 cc2 k1 h1 A1 n1 cc1 Wc hum hok2 i3 ha2 hm (by omega) (by omega) i2 hrc2 hra2)
        rw [← hR3] at HCO
        clear hum hok2 ha2 i3 hra2 hrc2 hR3 HZ9 HZ11 h61
        subst hWc
        go_wp2_with fail
        generalize w2.alloc _ = Wc at *
        refine HCO.out.mono ?_
        intro e w3 hE
        obtain ⟨ec, rfl, hfr, hq⟩ := hE.uni
        have HFF := Lib.hid (HF.out.trans hfr fun _ _ e => e)
        have HQ := Lib.hid hq
        clear hE hfr hq a0 a1 a2 HCO
        go_wp2_with fail
        go_ret
        exact USr.of (w0 := w) (w := w) HFF.out HQ.out
      · have hd2 : (k2 == 6) = false := by simpa using h62
        rw [if_neg (by omega)] at hR3
        obtain ⟨Aq, nq, cq, eq, _, _, hl, hnc, hcm, hxs⟩ := RdF_node.1 hra2
        have eq' : A1 = Aq ∧ n1 = nq ∧ cc1 = cq := by simpa using eq
        obtain ⟨rfl, rfl, rfl⟩ := eq'
        clear eq
        obtain ⟨Aq, nq, cq, eq, _, _, hl', hnc', hcm', hys⟩ := RdF_node.1 hrc2
        have eq' : A2 = Aq ∧ n2 = nq ∧ cc2 = cq := by simpa using eq
        obtain ⟨rfl, rfl, rfl⟩ := eq'
        clear eq
        rw [hl, hl'] at hR3
        have hcm2 := hcm
        have hcm2' := hcm'
        unfold maxLen at hcm2 hcm2'
        have hln := ha2.len
        clear h61 h62
        by_cases hne : k1 = k2 ∧ h1 = h2 ∧ n1 = n2
        case neg =>
          rw [if_neg hne] at hR3
          have HR3 := Lib.hid hR3
          clear hum hok2 ha2 i3 hra2 hrc2 hR3 HZ9 HZ11 hxs hys hl hl' hcm hcm' HIH
          by_cases hk : k1 = k2
          case neg =>
            have hdk : (k1 != k2) = true := by simpa using hk
            clear hne hk
            subst hWc
            go_wp2_with fail
            go_ret
            rw [HR3.out]
            exact ⟨HF.out, rfl, by decide, by decide⟩
          have hdk : (k1 != k2) = false := by simpa using hk
          by_cases hh : h1 = h2
          case neg =>
            have hdh : (h1 != h2) = true := by simpa using hh
            clear hne hk hh
            subst hWc
            go_wp2_with fail
            go_ret
            rw [HR3.out]
            exact ⟨HF.out, rfl, by decide, by decide⟩
          have hdh : (h1 != h2) = false := by simpa using hh
          have hdn : ((n1 : Int) != (n2 : Int)) = true := by
            have : n1 ≠ n2 := fun e => hne ⟨hk, hh, e⟩
            simp; omega
          clear hne hk hh
          subst hWc
          go_wp2_with fail
          go_ret
          rw [HR3.out]
          exact ⟨HF.out, rfl, by decide, by decide⟩
        obtain ⟨rfl, rfl, rfl⟩ := hne
        rw [if_pos ⟨rfl, rfl, rfl⟩] at hR3
        have HI : Hid (NdD sz Bk pu As cs f k1 n1 m xs ys N2 R Wc 0 Wc false bs N2) := Lib.hid ⟨Fr.refl _ _, hum, hok2, i2, Nat.le_refl _, by rw [List.drop_zero, List.drop_zero]; exact hR3⟩
        have hdk : (k1 != k1) = false := by simp
        have hdh : (h1 != h1) = false := by simp
        have hdn : ((n1 : Int) != (n1 : Int)) = false := by simp
        have HL := Lib.hid hl; have HL' := Lib.hid hl'
        have HA := Lib.hid (fun j x hj => ha2.arg (j := j) (x := x) hj)
        have HC := Lib.hid (fun j x hj => i3.arg (j := j) (x := x) hj)
        rw [hl] at HA
        rw [hl'] at HC
        have HXS := Lib.hid fun i t ht => hxs i t ht
        have HYS := Lib.hid fun i t ht => hys i t ht
        have HBD := Lib.hid fun (i : Nat) (hi : i < n1) W' => refBinds k1 h1 A1 n1 cc1 hnc hcm i (by unfold maxLen; omega) W'
        clear hl hl' hum hok2 ha2 i3 hra2 hrc2 hxs hys hR3
        subst hWc
        go_wp2_with fail
        generalize w2.alloc _ = Wc at *
        generalize w1.heap.size = p9 at *
        generalize w2.heap.size = p11 at *
        clear a0 a1 a2 hdk hdh hdn hd1 hd2
        go_loopw [14, 15] (fun v i wr => ∃ (j : Nat) (o : Bool) (bs' : List BT) (N' : Nat), j ≤ n1 ∧ i = .int .i64 j ∧ v = .int .i64 (if o = true then 5 else 0) ∧ Hid (NdD sz Bk pu As cs f k1 n1 m xs ys N2 R Wc j wr o bs' N')) (fun _ i _ => n1 - (Go.RowKit.intOf i).toNat)
        case atStart => exact ⟨0, false, bs, N2, Nat.zero_le _, rfl, rfl, HI⟩
        case round =>
          clear HI
          obtain ⟨j, o, bs', N', hj, rfl, rfl, HI⟩ := hrel
          obtain ⟨V, hV⟩ : ∃ V : Int, (if o = true then (5 : Int) else 0) = V := ⟨_, rfl⟩
          rw [hV]
          have HV := Lib.hid hV; clear hV
          have x0 := HZ9.out.fr HI.out.fr hn9
          have x1 := HZ11.out.fr HI.out.fr hn11
          obtain ⟨a0, a1, a2⟩ := x0.three
          by_cases hlt2 : j < n1
          · obtain ⟨x, hx⟩ := at_of HL.out hlt2
            obtain ⟨y, hy⟩ := at_of HL'.out hlt2
            obtain ⟨b, p, k2, h2, A3, n3, c3, rfl, c0, c1, c2', hr⟩ := (rx_fr HI.out.fr (HXS.out j x hx)).full
            obtain ⟨b', p', k3, h3, A4, n4, c4, rfl, d0, d1, d2', hr'⟩ := (rx_fr HI.out.fr (HYS.out j y hy)).full
            have nXb : ¬ UX Bk pu b := by
              obtain ⟨b1, _, _, _, _, e, hb1, _⟩ := HXS.out j x hx
              cases e; exact hb1
            have nXb' : ¬ UX Bk pu b' := by
              obtain ⟨b1, _, _, _, _, e, hb1, _⟩ := HYS.out j y hy
              cases e; exact hb1
            have hi0 : (0 : Int) ≤ j := by omega
            have hi1 : (j : Int) < n1 := by omega
            have heq := HI.out.eq
            rw [drop_at hx, drop_at hy, ndsU] at heq
            have HEQ := Lib.hid heq; clear heq
            have hbd := bd_cases k1 n1 j
            have hsum : IntKind.i64.wrap (m + bd k1 n1 j) = m + bd k1 n1 j := by rw [wrapEq, wrap_small (by omega) (by omega)]
            have hkm := kN_mono HI.out.lo
            have hwx : WT (kN N' + (m + bd k1 n1 j)) x := (HA.out j x hx).mono (by omega)
            have hwy : WT (kN N' + (m + bd k1 n1 j)) y := (HC.out j y hy).mono (by omega)
            have hlo := HI.out.lo
            have HU : Hid (∀ W', Hid (Below wr.heap.size wr W') → Calls Tryz.prog 18 #[.pointer (some ⟨pu, 0, none⟩), .agg #[.int .i64 k2, .int .i64 h2, .slice A3 n3 c3], .agg #[.int .i64 k3, .int .i64 h3, .slice A4 n4 c4], .int .i64 (m + bd k1 n1 j)] W' fun e w' => ∃ ec, e = .returned (.int .i64 ec) ∧ Hid (Fr (UX Bk pu) wr w') ∧ Hid ((∃ o bs N, uND sz f x y (m + bd k1 n1 j) bs' N' = .ok (o, bs, N) ∧ ec = (if o = true then 5 else 0) ∧ RM (UX Bk pu) sz Bk pu As cs bs N w') ∨ (uND sz f x y (m + bd k1 n1 j) bs' N' = .error ec ∧ ec ≠ 0 ∧ ec ≠ 5))) := Lib.hid fun W' hW' => by
              refine (HIH.out x y (m + bd k1 n1 j) bs' N' k2 h2 A3 n3 c3 k3 h3 A4 n4 c4 W' (HI.out.um.keep hW'.out) HI.out.ok hwx hwy (by omega) (by omega) (by omega) HI.out.hi (RX.fr hr (Fr.below hW'.out)) (RX.fr hr' (Fr.below hW'.out))).mono ?_
              intro e w' hE
              obtain ⟨ec, rfl, hfr, hq⟩ := hE.uni
              exact ⟨ec, rfl, Lib.hid ((Fr.below hW'.out).trans hfr fun _ _ e => e), Lib.hid hq⟩
            have HGD := Lib.hid fun o2 bs2 N2 (e : uND sz f x y (m + bd k1 n1 j) bs' N' = .ok (o2, bs2, N2)) => uND_good f x y (m + bd k1 n1 j) bs' N' o2 bs2 N2 (by omega) HI.out.ok hwx hwy e
            have HK : Hid (∀ w', Hid (Fr (UX Bk pu) wr w') → (((w'.cell? ⟨p9, 0, none⟩ = some (.int .i64 k1) ∧ w'.cell? ⟨p9, 1, none⟩ = some (.int .i64 h1) ∧ w'.cell? ⟨p9, 2, none⟩ = some (.slice (some ⟨b, p, none⟩) n1 cc1)) ∧ w'.cell? ⟨p11, 2, none⟩ = some (.slice (some ⟨b', p', none⟩) n1 cc2) ∧
                (w'.cell? ⟨b, p + j * 3, none⟩ = some (.int .i64 k2) ∧ w'.cell? ⟨b, p + j * 3 + 1, none⟩ = some (.int .i64 h2) ∧ w'.cell? ⟨b, p + j * 3 + 2, none⟩ = some (.slice A3 n3 c3)) ∧ w'.cell? ⟨b', p' + j * 3, none⟩ = some (.int .i64 k3) ∧ w'.cell? ⟨b', p' + j * 3 + 1, none⟩ = some (.int .i64 h3) ∧ w'.cell? ⟨b', p' + j * 3 + 2, none⟩ = some (.slice A4 n4 c4)) ∧ Hid (Fr (UX Bk pu) wr w'))) := Lib.hid fun w' h' => by
              have e : ∀ i, w'.cell? ⟨b, i, none⟩ = wr.cell? ⟨b, i, none⟩ := fun i => World.cell?_of_block (w := wr) (h'.out.block b (cell_lt c0) nXb)
              have e' : ∀ i, w'.cell? ⟨b', i, none⟩ = wr.cell? ⟨b', i, none⟩ := fun i => World.cell?_of_block (w := wr) (h'.out.block b' (cell_lt d0) nXb')
              exact ⟨⟨(x0.fr h'.out hn9).three, (x1.fr h'.out hn11).three.2.2, ⟨(e _).trans c0, (e _).trans c1, (e _).trans c2'⟩, (e' _).trans d0, (e' _).trans d1, (e' _).trans d2'⟩, h'⟩
            have hcu : Hid (Below wr.heap.size wr wr.drew) := cur_drew
            have hcf : Hid (Fr (UX Bk pu) wr wr.drew) := Lib.hid (Fr.below hcu.out)
            have HBJ := Lib.hid (HBD.out j hlt2)
            clear hr hr' c0 c1 c2' d0 d1 d2' hx hy hbd hwx hwy x0 x1 nXb nXb' hkm hlo
            go_wp2_with fail
            clear a0 a1 a2
            go_region_held3 (fun w' => ((w'.cell? ⟨p9, 0, none⟩ = some (.int .i64 k1) ∧ w'.cell? ⟨p9, 1, none⟩ = some (.int .i64 h1) ∧ w'.cell? ⟨p9, 2, none⟩ = some (.slice (some ⟨b, p, none⟩) n1 cc1)) ∧ w'.cell? ⟨p11, 2, none⟩ = some (.slice (some ⟨b', p', none⟩) n1 cc2) ∧
                (w'.cell? ⟨b, p + j * 3, none⟩ = some (.int .i64 k2) ∧ w'.cell? ⟨b, p + j * 3 + 1, none⟩ = some (.int .i64 h2) ∧ w'.cell? ⟨b, p + j * 3 + 2, none⟩ = some (.slice A3 n3 c3)) ∧ w'.cell? ⟨b', p' + j * 3, none⟩ = some (.int .i64 k3) ∧ w'.cell? ⟨b', p' + j * 3 + 1, none⟩ = some (.int .i64 h3) ∧ w'.cell? ⟨b', p' + j * 3 + 2, none⟩ = some (.slice A4 n4 c4)) ∧ Hid (Fr (UX Bk pu) wr w'))
              (first | exact HK.out _ (by assumption))
              (first
                | (go_at_call 32
                   refine (HBJ.out _).mono ?_
                   rintro e w1 ⟨rfl, hb1⟩
                   have hcu : Hid (Below wr.heap.size wr w1) := cur_trans (by assumption) hb1
                   have hcf : Hid (Fr (UX Bk pu) wr w1) := Lib.hid (Fr.below hcu.out)
                   clear hb1)
                | (go_at_call 18
                   with_reducible refine Calls.mono (HU.out _ ?hh) ?_
                   case hh => assumption
                   rintro e w5 ⟨ec, rfl, hcf, hQ⟩))
            clear HU HK HBJ hsum
            have HF2 := Lib.hid (HI.out.fr.trans hcf.out fun _ _ e => e)
            clear hcf
            cases hres : uND sz f x y (m + bd k1 n1 j) bs' N' with
            | error e2 =>
              obtain ⟨rfl, hne0, hne5⟩ : e2 = ec ∧ ec ≠ 0 ∧ ec ≠ 5 := by
                rcases hQ.out with ⟨o2, bs2, N2, e1, _, _⟩ | ⟨e1, h1, h2⟩
                · rw [hres] at e1; cases e1
                · rw [hres] at e1; cases e1; exact ⟨rfl, h1, h2⟩
              have hR := HEQ.out
              rw [hres] at hR
              have HR := Lib.hid hR
              have g0 : (e2 != 0) = true := by simpa using hne0
              have g5 : (e2 == 5) = false := by simpa using hne5
              have HN0 := Lib.hid (And.intro hne0 hne5)
              clear hR hQ hres hne0 hne5 HEQ
              go_wp2_with fail
              go_ret
              rw [HR.out]
              exact ⟨HF.out.trans HF2.out fun _ _ e => e, rfl, HN0.out.1, HN0.out.2⟩
            | ok q =>
              obtain ⟨o2, bs2, N3⟩ := q
              obtain ⟨hec, hum⟩ : ec = (if o2 = true then 5 else 0) ∧ RM (UX Bk pu) sz Bk pu As cs bs2 N3 w5 := by
                rcases hQ.out with ⟨o2, bs2, N2, e1, h1, h2⟩ | ⟨e1, h1, h2⟩
                · rw [hres] at e1; cases e1; exact ⟨h1, h2⟩
                · rw [hres] at e1; cases e1
              obtain ⟨gd1, gd2, gd3⟩ := HGD.out _ _ _ hres
              have hR := HEQ.out
              rw [hres] at hR
              have HJ : Hid (NdD sz Bk pu As cs f k1 n1 m xs ys N2 R Wc (j + 1) w5 (o || o2) bs2 N3) := Lib.hid ⟨HF2.out, hum, gd1, gd3, by have := HI.out.lo; omega, hR⟩
              clear hR hQ hres hum gd1 gd2 gd3 HEQ HGD
              cases o2
              · have hec : ec = 0 := hec
                have g0 : (ec != 0) = false := by simpa using hec
                have g5 : (ec == 5) = false := by rw [beq_eq_false_iff_ne]; omega
                clear hec
                go_wp2_with fail
                go_roundw
                case rel => exact ⟨j + 1, o, bs2, N3, by omega, by go_num, by rw [HV.out], by simpa using HJ⟩
                case measure => simp [Go.RowKit.intOf]; omega
              · have hec : ec = 5 := hec
                have g5 : (ec == 5) = true := by simpa using hec
                have HEC := Lib.hid hec; clear hec
                go_wp2_with fail
                go_roundw
                case rel => exact ⟨j + 1, true, bs2, N3, by omega, by go_num, by rw [HEC.out]; rfl, by simpa using HJ⟩
                case measure => simp [Go.RowKit.intOf]; omega
          · have heq := HI.out.eq
            rw [drop_all HL.out (by omega), ndsU_nil] at heq
            have HR := Lib.hid heq; clear heq
            go_wp2_with fail
            go_ret
            rw [HR.out]
            exact ⟨HF.out.trans HI.out.fr fun _ _ e => e, by rw [HV.out]; rfl, HI.out.um⟩
end Go.Proofs.YtnnmnkgogiabiaaGreat

/-
  Contract of the document's Unify of layer 8. No statement is proved here.
-/
namespace Go.Proofs.YtnnmnkgogiabiaaGreat
open Go.ChangeShapes Go.WideShapes Go.ChangeAt Go.RowKit
set_option linter.unusedVariables false

/-- what a meta is has become another term -/
theorem RM.put3 {sz : List Int} {Bk pu : Nat} {As : Option Addr} {cs : Nat} {bs : List BT} {N : Nat} {w w' : World} {j : Nat} {x : BT} {u : T} {k h : Int} {A : Option Addr} {n c : Nat}
    (hs : RM (UX Bk pu) sz Bk pu As cs bs N w) (hl : bs.length = sz.length) (hj : bs[j]? = some x) (hx1 : x.1 = true) (hr : RX (UX Bk pu) w u (.agg #[.int .i64 k, .int .i64 h, .slice A n c]))
    (hw : w' = ((w.setCell ⟨Bk, j * 4 + 1, none⟩ (.int .i64 k)).setCell ⟨Bk, j * 4 + 1 + 1, none⟩ (.int .i64 h)).setCell ⟨Bk, j * 4 + 1 + 2, none⟩ (.slice A n c)) :
    RM (UX Bk pu) sz Bk pu As cs (bs.set j (true, u)) N w' ∧ Fr (UX Bk pu) w w' := by
  have hset : ∀ g, g ≠ Bk → w'.heap[g]? = w.heap[g]? := fun g hg => by
    rw [hw, Below.heap_setCell _ _ _ _ hg, Below.heap_setCell _ _ _ _ hg, Below.heap_setCell _ _ _ _ hg]
  have hjl : j < sz.length := by rw [← hl]; exact (List.getElem?_eq_some_iff.1 hj).1
  have hfr : Fr (UX Bk pu) w w' := ⟨by rw [hw]; rfl, by rw [hw]; rfl, by rw [hw]; rfl, by rw [hw]; simp [World.setCell], fun b _ hb => hset b fun e => hb (.inl e)⟩
  obtain ⟨cs', hb, hsz, hc⟩ := hs.row
  obtain ⟨_, _, _, _, _, t0, _⟩ := hc j x hj
  refine ⟨⟨(hset _ fun e => hs.ne e.symm).trans hs.ptr, ⟨(((cs'.setIfInBounds (j * 4 + 1) (.int .i64 k)).setIfInBounds (j * 4 + 1 + 1) (.int .i64 h)).setIfInBounds (j * 4 + 1 + 2) (.slice A n c)), ?_, by simp [hsz], ?_⟩, hs.ne, hs.sizes.fr hfr, fun b e => e⟩, hfr⟩
  · rw [hw]
    exact ((hb.setAt _ _).setAt _ _).setAt _ _
  · intro i y hy
    by_cases hij : i = j
    · subst hij
      rw [List.getElem?_set_self (by rw [hl]; exact hjl)] at hy
      cases hy
      refine ⟨k, h, A, n, c, ?_, ?_, ?_, ?_, RX.fr hr hfr⟩
      · rw [Array.getElem?_setIfInBounds, if_neg (by omega), Array.getElem?_setIfInBounds, if_neg (by omega), Array.getElem?_setIfInBounds, if_neg (by omega), t0, hx1]
      · rw [Array.getElem?_setIfInBounds, if_neg (by omega), Array.getElem?_setIfInBounds, if_neg (by omega), Array.getElem?_setIfInBounds, if_pos rfl, if_pos (by omega)]
      · rw [Array.getElem?_setIfInBounds, if_neg (by omega), Array.getElem?_setIfInBounds, if_pos (by omega), if_pos (by simp; omega)]
      · rw [Array.getElem?_setIfInBounds, if_pos (by omega), if_pos (by simp; omega)]
    · rw [List.getElem?_set_ne (fun e => hij e.symm)] at hy
      obtain ⟨k', h', A', n', c', e0, e1, e2, e3, hr'⟩ := hc i y hy
      refine ⟨k', h', A', n', c', ?_, ?_, ?_, ?_, RX.fr hr' hfr⟩
      all_goals simp only [Array.getElem?_setIfInBounds]
      · rw [if_neg (by omega), if_neg (by omega), if_neg (by omega)]; exact e0
      · rw [if_neg (by omega), if_neg (by omega), if_neg (by omega)]; exact e1
      · rw [if_neg (by omega), if_neg (by omega), if_neg (by omega)]; exact e2
      · rw [if_neg (by omega), if_neg (by omega), if_neg (by omega)]; exact e3
/-- the count alone has turned -/
def CR (sz : List Int) (Bk pu : Nat) (As : Option Addr) (cs : Nat) (W w' : World) : Prop := FrP pu W w' ∧ ∃ N', PR sz Bk pu As cs w' N'
theorem cr_below {sz : List Int} {Bk pu : Nat} {As : Option Addr} {cs N : Nat} {W w' : World} (h : Hid (Below W.heap.size W w')) (hp : PR sz Bk pu As cs W N) : Hid (CR sz Bk pu As cs W w') := Lib.hid ⟨Fr.below h.out, N, hp.keep h.out hp.lt⟩
theorem cr_alloc {sz : List Int} {Bk pu : Nat} {As : Option Addr} {cs : Nat} {W w : World} (h : Hid (CR sz Bk pu As cs W w)) (o : Obj) : Hid (CR sz Bk pu As cs W (w.alloc o)) := by
  obtain ⟨h1, N, h2⟩ := h.out
  exact Lib.hid ⟨h1.then ((Below.refl _ _).alloc (Nat.le_refl _) _), N, h2.alloc _⟩
theorem cr_set3 {sz : List Int} {Bk pu : Nat} {As : Option Addr} {cs : Nat} {W w : World} (h : Hid (CR sz Bk pu As cs W w)) {p : Nat} (hp : W.heap.size ≤ p) (hpu : p ≠ pu) (u0 u1 u2 : Value) : Hid (CR sz Bk pu As cs W (((w.setCell ⟨p, 0, none⟩ u0).setCell ⟨p, 1, none⟩ u1).setCell ⟨p, 2, none⟩ u2)) := by
  obtain ⟨h1, N, h2⟩ := h.out
  exact Lib.hid ⟨h1.set3 (fun e => by omega) _ _ _, N, (heap_other3 _ _ _ _ _ _ (fun e => hpu e.symm)).trans h2⟩
/-- what holds at the head of the last loop -/
structure RmD (sz : List Int) (Bk pu : Nat) (As : Option Addr) (cs : Nat) (V : Except Int (List BT × Nat)) (w : World) (j : Nat) (wr : World) (bs : List BT) (N : Nat) : Prop where
  fr : Fr (UX Bk pu) w wr
  um : RM (UX Bk pu) sz Bk pu As cs bs N wr
  ok : okU sz bs N
  hi : N ≤ 40000
  eq : V = rvL sz (sz.length - j) j bs N
theorem RM.bl {X : Nat → Prop} {sz : List Int} {Bk pu : Nat} {As : Option Addr} {cs : Nat} {bs : List BT} {N : Nat} {w : World} (h : RM X sz Bk pu As cs bs N w) (hl : bs.length = sz.length) (h2 : sz.length ≤ 200) : BL (fun _ => True) w bs (some ⟨Bk, 0, none⟩) sz.length sz.length :=
  ⟨hl, Nat.le_refl _, by unfold maxLen; omega, fun i x hx => by
    obtain ⟨k, g, A, n, c, e0, e1, e2, e3, hr⟩ := h.cells i x hx
    exact ⟨Bk, 0, k, g, A, n, c, rfl, by rw [Nat.zero_add]; exact e0, by rw [Nat.zero_add]; exact e1, by rw [Nat.zero_add]; exact e2, by rw [Nat.zero_add]; exact e3, rdF_any _ _ hr.rd⟩⟩
theorem RM.first {sz : List Int} {Bk pu : Nat} {As : Option Addr} {cs : Nat} {w : World} (hn : Bk ≠ pu) (h1 : Box w Bk 35 (madeCells #[.bool false, .int .i64 0, .int .i64 0, .slice none 0 0] (sz.length * 4))) (h2 : PR sz Bk pu As cs w 0) (hs : LI (UX Bk pu) w sz As) : RM (UX Bk pu) sz Bk pu As cs (List.replicate sz.length noB) 0 w :=
  ⟨h2, ⟨_, h1, size_madeCells _ _, bcs_made _⟩, hn, hs, fun b e => e⟩
/-- the sizes that were gone through may be -/
def SzA (sz : List Int) (q : Nat) : Prop := ∀ z ∈ sz.take q, 0 ≤ z ∧ z ≤ 1000
theorem sza_succ {sz : List Int} {q : Nat} {z : Int} (h : SzA sz q) (hz : sz[q]? = some z) (h0 : 0 ≤ z) (h1 : z ≤ 1000) : SzA sz (q + 1) := fun y hy => by
  rw [List.take_add_one, hz, List.mem_append] at hy
  rcases hy with hy | hy
  · exact h y hy
  · simp at hy; subst hy; exact ⟨h0, h1⟩
theorem noC_any {sz : List Int} (h : ∀ z ∈ sz, 0 ≤ z ∧ z ≤ 1000) : sz.any noC = false := by
  rw [List.any_eq_false]
  intro z hz
  have := h z hz
  simp [noC]
  omega

set_option maxRecDepth 100000 in
set_option maxHeartbeats 8000000 in
theorem rUnifyC (a c : T) (n : Int) (sz : List Int) (As : Option Addr) (cs : Nat) (k h : Int) (A : Option Addr) (na ca : Nat) (k' h' : Int) (A' : Option Addr) (na' ca' : Nat) (w : World) (ha : Rd w a (.agg #[.int .i64 k, .int .i64 h, .slice A na ca])) (hc : Rd w c (.agg #[.int .i64 k', .int .i64 h', .slice A' na' ca'])) (hoa : myB a = true → okT 1099511627776 a) (hoc : myB c = true → okT 1099511627776 c)
    (hna : nd a ≤ 1099511627776) (hnc : nd c ≤ 1099511627776) (hsc : sz.length ≤ cs) (hscm : cs ≤ maxLen) (hs : Nu w sz As) :
    Calls Tryz.prog 7 #[.agg #[.int .i64 k, .int .i64 h, .slice A na ca], .agg #[.int .i64 k', .int .i64 h', .slice A' na' ca'], .int .i64 n, .slice As sz.length cs] w (UnE w (unR a c n sz)) := by
  obtain ⟨W, hW⟩ : ∃ W, (w.alloc (.cells #[.int .i64 k, .int .i64 h, .slice A na ca] 24)).alloc (.cells #[.int .i64 k', .int .i64 h', .slice A' na' ca'] 24) = W := ⟨_, rfl⟩
  have hb : Below w.heap.size w W := by rw [← hW]; exact ((Below.refl _ _).alloc (Nat.le_refl _) _).alloc (by simp) _
  have x0 : Box W w.heap.size 24 #[.int .i64 k, .int .i64 h, .slice A na ca] := by rw [← hW]; exact (Box.new _ _ _).alloc _
  have x1 : Box W (w.heap.size + 1) 24 #[.int .i64 k', .int .i64 h', .slice A' na' ca'] := by rw [← hW]; exact (Box.new (w.alloc _) _ _).at (by simp)
  have hcm2 := hscm
  unfold maxLen at hcm2
  obtain ⟨L, hL⟩ : ∃ L : Nat, sz.length = L := ⟨_, rfl⟩
  obtain ⟨R, hR⟩ : ∃ R, unR a c n sz = R := ⟨_, rfl⟩
  rw [hR]
  have HR := Lib.hid hR; clear hR
  have HF1 : Hid (∀ w', Below w.heap.size w w' → unA a c n sz = false → UnE w R (.returned (.tuple #[.slice none 0 0, .int .i64 1])) w') := Lib.hid fun w' hb hA => by
    rw [← HR.out, un_false hA]
    exact ⟨none, 0, 0, 1, rfl, hb, rfl, by decide, rfl, rfl, rfl⟩
  have HUA : Hid (unA a c n sz = (decide (0 ≤ n) && decide (n ≤ 1000) && decide (L ≤ 200) && (sz.all fun s => decide (0 ≤ s) && decide (s ≤ 1000)) && (mayB a && mayB c))) := Lib.hid (by rw [unA, hL, mayB_big hna, mayB_big hnc])
  have HMA := Lib.hid (And.intro (mayB_big hna) (mayB_big hnc))
  have HL := Lib.hid hL
  have HHA := Lib.hid ha
  have HHC := Lib.hid hc
  have HOA := Lib.hid hoa
  have HOC := Lib.hid hoc
  have HS := Lib.hid hs
  have HB := Lib.hid hb
  have HX0 := Lib.hid x0
  have HX1 := Lib.hid x1
  have HSC := Lib.hid hsc
  rw [hL]
  obtain ⟨a0, a1, a2⟩ := x0.three
  clear ha hc hoa hoc hs hb x0 x1 hL hna hnc
  have hsc : L ≤ cs := by have := HSC.out; have := HL.out; omega
  have HW := Lib.hid hW; clear hW
  have HM1 := Lib.hid (refMay a _ W (Rd.keep HB.out _ _ HHA.out))
  obtain ⟨b3, hb3⟩ : ∃ b, mayB a = b := ⟨_, rfl⟩
  obtain ⟨b4, hb4⟩ : ∃ b, mayB c = b := ⟨_, rfl⟩
  rw [hb3] at HM1
  go_enter Tryz.func7, Tryz.ntmps7
  go_wp2_with fail
  rw [HW.out]
  clear HW
  go_wp2_with fail
  clear a0 a1 a2
  refine HM1.out.mono ?_
  rintro e w1 ⟨rfl, hb2⟩
  have HB1 := Lib.hid (HB.out.trans (hb2.mono HB.out.size))
  have HC1 := Lib.hid hb2
  clear hb2 HM1
  have y1 := HX1.out.keep HC1.out HX1.out.lt
  obtain ⟨a0, a1, a2⟩ := y1.three
  have HM2 := Lib.hid (refMay c _ w1 (Rd.keep HB1.out _ _ HHC.out))
  rw [hb4] at HM2
  clear y1
  go_wp2_with fail
  clear a0 a1 a2
  refine HM2.out.mono ?_
  rintro e w2 ⟨rfl, hb2⟩
  have HB2 := Lib.hid (HB1.out.trans (hb2.mono HB1.out.size))
  have HC2 := Lib.hid (HC1.out.trans (hb2.mono HC1.out.size))
  clear hb2 HM2 HB1 HC1
  cases b3
  case false =>
    have HA := Lib.hid (HF1.out w2 HB2.out (by rw [HUA.out, hb3]; simp))
    clear hb3 hb4
    go_wp2_with fail
    go_ret2
    exact HA.out
  cases b4
  case false =>
    have HA := Lib.hid (HF1.out w2 HB2.out (by rw [HUA.out, hb4]; simp))
    clear hb3 hb4
    go_wp2_with fail
    go_ret2
    exact HA.out
  have hma : myB a = true := HMA.out.1.symm.trans hb3
  have hmc : myB c = true := HMA.out.2.symm.trans hb4
  have HMM := Lib.hid (And.intro hb3 hb4)
  have HMY := Lib.hid (And.intro hma hmc)
  clear hma hmc hb3 hb4 HMA
  by_cases hn0 : n < 0
  case pos =>
    have hd : decide (n < 0) = true := decide_eq_true hn0
    have HA := Lib.hid (HF1.out w2 HB2.out (by rw [HUA.out, decide_eq_false (show ¬ 0 ≤ n by omega)]; simp))
    clear hn0
    go_wp2_with fail
    go_ret2
    exact HA.out
  have hd0 : decide (n < 0) = false := decide_eq_false hn0
  by_cases hn1 : 1000 < n
  case pos =>
    have hd : decide (1000 < n) = true := decide_eq_true hn1
    have HA := Lib.hid (HF1.out w2 HB2.out (by rw [HUA.out, decide_eq_false (show ¬ n ≤ 1000 by omega)]; simp))
    clear hn0 hn1
    go_wp2_with fail
    go_ret2
    exact HA.out
  have hd1 : decide (1000 < n) = false := decide_eq_false hn1
  by_cases hL2 : L ≤ 200
  case neg =>
    have hd : decide ((200 : Int) < (L : Int)) = true := decide_eq_true (by omega)
    have HA := Lib.hid (HF1.out w2 HB2.out (by rw [HUA.out, decide_eq_false hL2]; simp))
    clear hn0 hn1 hL2
    go_wp2_with fail
    go_ret2
    exact HA.out
  have hd2 : decide ((200 : Int) < (L : Int)) = false := decide_eq_false (by omega)
  have HN := Lib.hid (show 0 ≤ n ∧ n ≤ 1000 by omega)
  clear hn0 hn1
  have hmk := fun W' => make_bindsU (N := L) hL2 W'
  have HSR : Hid (∀ i z, sz[i]? = some z → ∃ b o, As = some ⟨b, o, none⟩ ∧ w2.cell? ⟨b, o + i, none⟩ = some (.int .i64 z)) := Lib.hid fun i z hz => by
    obtain ⟨b, o, e, hc⟩ := HS.out i z hz
    exact ⟨b, o, e, (HB2.out.cell (cell_lt hc)).trans hc⟩
  go_wp2_with fail
  clear hd0 hd1 hd2
  go_loop [12] (fun i => ∃ (q : Nat), q ≤ L ∧ i = .int .i64 q ∧ Hid (SzA sz q)) (fun i => L - (Go.RowKit.intOf i).toNat)
  case atStart => exact ⟨0, Nat.zero_le _, rfl, Lib.hid fun z hz => by simp at hz⟩
  case round =>
    obtain ⟨q, hq, rfl, HT⟩ := hrel
    by_cases hql : q < L
    · obtain ⟨z, hz⟩ := at_of HL.out hql
      obtain ⟨bz, oz, rfl, cz⟩ := HSR.out q z hz
      have HZ := Lib.hid hz
      have hq0 : (0 : Int) ≤ q := by omega
      have hq1 : (q : Int) < L := by omega
      have hbad : ¬ (0 ≤ z ∧ z ≤ 1000) → unA a c n sz = false := fun hne => by
        have : (sz.all fun s => decide (0 ≤ s) && decide (s ≤ 1000)) = false := by
          rw [Bool.eq_false_iff]
          intro h
          have := List.all_eq_true.1 h z (List.mem_of_getElem? hz)
          simp at this
          exact hne this
        rw [HUA.out, this]; simp
      have HBAD := Lib.hid hbad
      clear hz hbad
      by_cases hz0 : z < 0
      · have hd : decide (z < 0) = true := decide_eq_true hz0
        have HA := Lib.hid (HF1.out w2 HB2.out (HBAD.out (by omega)))
        clear hz0
        go_wp2_with fail
        go_ret2
        exact HA.out
      · have hd : decide (z < 0) = false := decide_eq_false hz0
        by_cases hz1 : 1000 < z
        · have hd1 : decide (1000 < z) = true := decide_eq_true hz1
          have HA := Lib.hid (HF1.out w2 HB2.out (HBAD.out (by omega)))
          clear hz0 hz1
          go_wp2_with fail
          go_ret2
          exact HA.out
        · have hd1 : decide (1000 < z) = false := decide_eq_false hz1
          have HJ := Lib.hid (sza_succ HT.out HZ.out (by omega) (by omega))
          clear hz0 hz1
          go_wp2_with fail
          go_round
          case rel => exact ⟨q + 1, by omega, by go_num, HJ⟩
          case measure => simp [Go.RowKit.intOf]; omega
    · have hall : ∀ z ∈ sz, 0 ≤ z ∧ z ≤ 1000 := by
        have h1 := HT.out
        unfold SzA at h1
        rw [List.take_of_length_le (by rw [HL.out]; omega)] at h1
        exact h1
      have hUA : unA a c n sz = true := by
        have : (sz.all fun s => decide (0 ≤ s) && decide (s ≤ 1000)) = true := by
          rw [List.all_eq_true]
          intro z hz
          have := hall z hz
          simp; exact this
        rw [HUA.out, this, HMM.out.1, HMM.out.2, decide_eq_true HN.out.1, decide_eq_true HN.out.2, decide_eq_true hL2]; rfl
      have HUAT := Lib.hid hUA
      have HOKF := Lib.hid (okU_first (sz := sz) (by rw [HL.out]; exact hL2) (noC_any hall))
      have HWA := Lib.hid (wt_first (n := n) HMY.out.1 (HOA.out HMY.out.1) HN.out.1)
      have HWC := Lib.hid (wt_first (n := n) HMY.out.2 (HOC.out HMY.out.2) HN.out.1)
      have z0 := HX0.out.keep HC2.out HX0.out.lt
      have z1 := HX1.out.keep HC2.out HX1.out.lt
      clear hUA HUA HF1 HOA HOC hall HT HMM HMY HSR
      obtain rfl := HL.out
      have s4 := HC2.out.size
      have l1 := HX1.out.lt
      have sB := HB.out.size
      obtain ⟨W5, hW5⟩ : ∃ W5, (w2.alloc (.cells (madeCells #[.bool false, .int .i64 0, .int .i64 0, .slice none 0 0] (sz.length * 4)) 35)).alloc (.cells #[.slice (some ⟨w2.heap.size, 0, none⟩) sz.length sz.length, .slice As sz.length cs, .int .i64 0] 47) = W5 := ⟨_, rfl⟩
      have hb5 : Below w2.heap.size w2 W5 := by rw [← hW5]; exact ((Below.refl _ _).alloc (Nat.le_refl _) _).alloc (by simp) _
      have xB : Box W5 w2.heap.size 35 (madeCells #[.bool false, .int .i64 0, .int .i64 0, .slice none 0 0] (sz.length * 4)) := by rw [← hW5]; exact (Box.new _ _ _).alloc _
      have xP : PR sz w2.heap.size (w2.heap.size + 1) As cs W5 0 := by rw [← hW5]; exact (Box.new (w2.alloc _) _ _).at (by simp)
      have HB5 := Lib.hid (HB2.out.trans (hb5.mono HB2.out.size))
      have hum : RM (UX w2.heap.size (w2.heap.size + 1)) sz w2.heap.size (w2.heap.size + 1) As cs (List.replicate sz.length noB) 0 W5 := RM.first (by omega) xB xP (fun i z hz => by
        obtain ⟨b, o, e, hc⟩ := HS.out i z hz
        have hl := cell_lt hc
        dsimp only at hl
        have := HB2.out.size
        exact ⟨b, o, e, fun e => by rcases e with e | e <;> omega, (HB5.out.cell (cell_lt hc)).trans hc⟩)
      have toX : ∀ {t : T} {v : Value}, Rd w t v → RX (UX w2.heap.size (w2.heap.size + 1)) W5 t v := fun {t v} h => RdF.moveX (fun b hb hl => ⟨fun e => by
        have := HB2.out.size
        have hb : b < w.heap.size := hb.2
        rcases e with e | e <;> omega, HB5.out.block b hb.2⟩) _ _ (rdF_heap _ _ (rdF_any _ _ h))
      have HUN := Lib.hid (rNodeC fu a c n _ 0 k h A na ca k' h' A' na' ca' W5 hum HOKF.out HWA.out HWC.out HN.out.1 (by have := HN.out.2; rw [fu_eq]; omega) (by rw [fu_eq]; omega) (by omega) (toX HHA.out) (toX HHC.out))
      obtain ⟨U, hU⟩ : ∃ U, uND sz fu a c n (List.replicate sz.length noB) 0 = U := ⟨_, rfl⟩
      rw [hU] at HUN
      have HU := Lib.hid hU
      have HG := Lib.hid fun o bs N (e : U = .ok (o, bs, N)) => uND_good fu a c n _ 0 o bs N HN.out.1 HOKF.out HWA.out HWC.out (hU.trans e)
      have u0 := z0.keep hb5 z0.lt
      have u1 := z1.keep hb5 z1.lt
      obtain ⟨a0, a1, a2⟩ := u0.three
      obtain ⟨d0, d1, d2⟩ := u1.three
      clear hU hum toX xB xP z0 z1 u0 u1 hb5
      go_wp2_with fail
      clear hW5 a0 a1 a2 d0 d1 d2
      refine HUN.out.mono ?_
      intro e w5 hE
      obtain ⟨ec, rfl, hfr, hq⟩ := hE.uni
      have hbF : Below w.heap.size w w5 := HB5.out.trans (hfr.to_below (fun i e => by have := HB2.out.size; rcases e with e | e <;> omega) HB5.out.size)
      have HBF := Lib.hid hbF
      clear hE hfr hbF HUN hmk
      by_cases he0 : ec = 0
      case neg =>
        have hR3 : R = .error ec := by
          rw [← HR.out]
          rcases hq with ⟨o, bs, N, e1, e2, e3⟩ | ⟨e1, e2, e3⟩
          · cases o
            · exact absurd e2 he0
            · rw [un_out HUAT.out (HU.out.trans e1), e2]; rfl
          · exact un_err HUAT.out (HU.out.trans e1)
        have HR3 := Lib.hid hR3
        have hd : (ec != 0) = true := by simpa using he0
        clear hR3 hq HR HG
        go_wp2_with fail
        go_ret2
        rw [HR3.out]
        exact ⟨none, 0, 0, ec, rfl, HBF.out, rfl, he0, rfl, rfl, rfl⟩
      obtain ⟨bs, N, hUo, hum⟩ : ∃ bs N, U = .ok (false, bs, N) ∧ RM (UX w2.heap.size (w2.heap.size + 1)) sz w2.heap.size (w2.heap.size + 1) As cs bs N w5 := by
        rcases hq with ⟨o, bs, N, e1, e2, e3⟩ | ⟨e1, e2, e3⟩
        · cases o
          · exact ⟨bs, N, e1, e3⟩
          · simp at e2; omega
        · exact absurd he0 e2
      subst he0
      obtain ⟨g1, g2, g3⟩ := HG.out _ _ _ hUo
      obtain ⟨V, hV⟩ : ∃ V, rvL sz sz.length 0 bs N = V := ⟨_, rfl⟩
      have hR3 : R = unV V := by rw [← HR.out, un_ok HUAT.out (HU.out.trans hUo), hV]
      have HR3 := Lib.hid hR3
      have hwB : w.heap.size ≤ w2.heap.size := HB2.out.size
      obtain ⟨Bk, hBk⟩ : ∃ Bk, w2.heap.size = Bk := ⟨_, rfl⟩
      obtain ⟨pu, hpu⟩ : ∃ pu, w2.heap.size + 1 = pu := ⟨_, rfl⟩
      rw [hpu] at hum ⊢
      rw [hBk] at hum hwB
      have hpB : Bk < pu := by omega
      have HI : Hid (RmD sz Bk pu As cs V w5 0 w5 bs N) := Lib.hid ⟨Fr.refl _ _, hum, g1, g3, by rw [Nat.sub_zero]; exact hV.symm⟩
      have HFB : Hid (∀ w', Fr (UX Bk pu) w5 w' → Below w.heap.size w w') := Lib.hid fun w' hfr => HBF.out.trans (hfr.to_below (fun i e => by rcases e with e | e <;> omega) HBF.out.size)
      clear hR3 hV hUo hum g1 g2 g3 hq HR HG HU HUAT hBk hpu
      have hcap : (sz.length : Nat) ≤ maxLen := by unfold maxLen; omega
      obtain ⟨L, hL⟩ : ∃ L : Nat, sz.length = L := ⟨_, rfl⟩
      rw [hL] at hL2 hcap hq hsc hql ⊢
      have HL := Lib.hid hL; clear hL
      go_wp2_with fail
      go_loopw [15] (fun i wr => ∃ (j : Nat) (bs' : List BT) (N' : Nat), j ≤ L ∧ i = .int .i64 j ∧ Hid (RmD sz Bk pu As cs V w5 j wr bs' N')) (fun i _ => L - (Go.RowKit.intOf i).toNat)
      case atStart => exact ⟨0, bs, N, Nat.zero_le _, rfl, HI⟩
      case round =>
        clear HI
        obtain ⟨j, bs', N', hj, rfl, HI⟩ := hrel
        obtain ⟨p0, p1, p2⟩ := HI.out.um.ptr.three
        rw [HL.out] at p0 p1
        by_cases hlj : j < L
        · obtain ⟨x, hx⟩ := at_of (k := j) HI.out.ok.len (by rw [HL.out]; exact hlj)
          have hgx : bs'.getD j noB = x := by rw [List.getD_eq_getElem?_getD, hx]; rfl
          obtain ⟨kb, gb, Ab, nb, cb, d0, d1, d2, d3, hrb⟩ := HI.out.um.cells j x hx
          obtain ⟨bx, tx⟩ := x
          dsimp only at d0 hrb
          have hi0 : (0 : Int) ≤ j := by omega
          have hi1 : (j : Int) < L := by omega
          have hr1 : L - j = (L - (j + 1)) + 1 := by omega
          have heq := HI.out.eq
          rw [HL.out, hr1] at heq
          have hltr := HI.out.um.lt
          cases bx
          · rw [rvL_no1 (by rw [hgx])] at heq
            have HJ : Hid (RmD sz Bk pu As cs V w5 (j + 1) wr bs' N') := Lib.hid ⟨HI.out.fr, HI.out.um, HI.out.ok, HI.out.hi, by rw [HL.out]; exact heq⟩
            clear heq hrb hgx hx
            go_wp2_with fail
            go_roundw
            case rel => exact ⟨j + 1, bs', N', by omega, by go_num, HJ⟩
            case measure => simp [Go.RowKit.intOf]; omega
          · obtain ⟨z, hz⟩ : ∃ z, sz[j]? = some z := ⟨_, List.getElem?_eq_getElem (by rw [HL.out]; exact hlj)⟩
            have hzD : sz.getD j 0 = z := by rw [List.getD_eq_getElem?_getD, hz]; rfl
            have hzb := HI.out.ok.szs j
            rw [hzD] at hzb
            have hwt := HI.out.ok.at_ j _ hx rfl
            rw [hzD] at hwt
            have hwt : WT (kN N' + z) tx := hwt
            obtain ⟨bS, oS, rfl, nXS, s0⟩ := HI.out.um.sizes j z hz
            obtain ⟨S, hS⟩ : ∃ S, rsU bs' fu tx z N' = S := ⟨_, rfl⟩
            have HS2 := Lib.hid hS
            have HUMR := Lib.hid HI.out.um
            have HRS : Hid (∀ W', Hid (Below wr.heap.size wr W') → Calls Tryz.prog 19 #[.pointer (some ⟨pu, 0, none⟩), .agg #[.int .i64 kb, .int .i64 gb, .slice Ab nb cb], .int .i64 z] W' fun e w' => ∃ k3 h3 A3 n3 c3 ec, e = .returned (.tuple #[.agg #[.int .i64 k3, .int .i64 h3, .slice A3 n3 c3], .int .i64 ec]) ∧ Hid (CR sz Bk pu (some ⟨bS, oS, none⟩) cs wr w') ∧ Hid (FrP pu W' w') ∧ Hid (QRr sz Bk pu (some ⟨bS, oS, none⟩) cs S W'.heap.size w' k3 h3 A3 n3 c3 ec)) := Lib.hid fun W' h' => by
              refine (rResolveC fu tx z N' kb gb Ab nb cb W' (HUMR.out.keep h'.out) HI.out.ok hwt hzb.1 (by rw [fu_eq]; omega) (by rw [fu_eq]; omega) HI.out.hi (RX.fr hrb (Fr.below h'.out))).mono ?_
              intro e w' hE
              have hpp := hE.2.1
              obtain ⟨k3, h3, A3, n3, c3, ec, rfl, hfr, hq⟩ := hE.uni
              rw [hS] at hq
              exact ⟨k3, h3, A3, n3, c3, ec, rfl, Lib.hid ⟨(Fr.below h'.out).trans hfr fun _ _ e => e, hpp⟩, Lib.hid hfr, Lib.hid hq⟩
            have HGX := Lib.hid (And.intro hgx hzD)
            have HEQ := Lib.hid heq
            have HGD := Lib.hid fun t2 N2 (e : S = .ok (t2, N2)) => rsU_good fu tx z N' t2 N2 hzb.1 HI.out.ok hwt (hS.trans e)
            have nS : bS ≠ pu := fun e => nXS (.inr e)
            have hBp : Bk ≠ pu := by omega
            have HK : Hid (∀ w', Hid (CR sz Bk pu (some ⟨bS, oS, none⟩) cs wr w') → ((w'.cell? ⟨pu, 0, none⟩ = some (.slice (some ⟨Bk, 0, none⟩) L L) ∧ (w'.cell? ⟨Bk, j * 4 + 1, none⟩ = some (.int .i64 kb) ∧ w'.cell? ⟨Bk, j * 4 + 2, none⟩ = some (.int .i64 gb) ∧ w'.cell? ⟨Bk, j * 4 + 3, none⟩ = some (.slice Ab nb cb)) ∧ w'.cell? ⟨bS, oS + j, none⟩ = some (.int .i64 z)) ∧ Hid (CR sz Bk pu (some ⟨bS, oS, none⟩) cs wr w'))) := Lib.hid fun w' h' => by
              obtain ⟨hf, N3, hp3⟩ := h'.out
              have q := hp3.three
              rw [HL.out] at q
              have e4 : ∀ i, w'.cell? ⟨Bk, i, none⟩ = wr.cell? ⟨Bk, i, none⟩ := fun i => World.cell?_of_block (w := wr) (hf.block Bk (cell_lt d1) hBp)
              exact ⟨⟨q.1, ⟨(e4 _).trans d1, (e4 _).trans d2, (e4 _).trans d3⟩, (World.cell?_of_block (w := wr) (hf.block bS (cell_lt s0) nS)).trans s0⟩, h'⟩
            have hcu : Hid (Below wr.heap.size wr wr.drew) := cur_drew
            have hcp : Hid (CR sz Bk pu (some ⟨bS, oS, none⟩) cs wr wr.drew) := cr_below hcu HUMR.out.ptr
            have HX := Lib.hid hx
            clear heq hrb hgx hzD hx hz hwt hS s0 nXS
            go_wp2_with fail
            clear d0 d1 d2 d3 p0 p1 p2
            go_region_held3 (fun w' => (w'.cell? ⟨pu, 0, none⟩ = some (.slice (some ⟨Bk, 0, none⟩) L L) ∧ (w'.cell? ⟨Bk, j * 4 + 1, none⟩ = some (.int .i64 kb) ∧ w'.cell? ⟨Bk, j * 4 + 2, none⟩ = some (.int .i64 gb) ∧ w'.cell? ⟨Bk, j * 4 + 3, none⟩ = some (.slice Ab nb cb)) ∧ w'.cell? ⟨bS, oS + j, none⟩ = some (.int .i64 z)) ∧ Hid (CR sz Bk pu (some ⟨bS, oS, none⟩) cs wr w'))
              (first | exact HK.out _ (by assumption) | exact HK.out _ (cr_alloc (by assumption) _) | exact HK.out _ (cr_set3 (by assumption) (by omega) (by omega) _ _ _))
              (first
                | (go_at_call 19
                   with_reducible refine Calls.mono (HRS.out _ ?hh) ?_
                   case hh => first | assumption | exact cur_alloc hcu _
                   rintro e w6 ⟨k3, h3, A3, n3, c3, ec, rfl, hcp, hfr, hQ⟩
                   first | (have zP := Box.fr (cs := #[.int .i64 0, .int .i64 0, .slice none 0 0]) (ty := 24) (by first | exact zP | exact zP.alloc _ | exact Box.new _ _ _ | exact (Box.new _ _ _).alloc _ | exact Box.drewI (Box.new _ _ _)) hfr.out (by omega); have lz2 := zP.lt) | skip
                   first | (obtain ⟨z0, z1, z2⟩ := zP.three; have fz0 := zP.frozen 0; have fz1 := zP.frozen 1; have fz2 := zP.frozen 2) | skip
                   have s2 := hcp.out.1.size
                   have s3 := hfr.out.size
                   clear hfr))
            all_goals first
              | (obtain ⟨Wf, hWf⟩ : ∃ Wf, w6.alloc (.cells #[.int .i64 k3, .int .i64 h3, .slice A3 n3 c3] 24) = Wf := ⟨_, rfl⟩
                 obtain ⟨pI, hpe⟩ : ∃ p, p = w6.heap.size := ⟨_, rfl⟩
                 have xI : Box Wf pI 24 #[.int .i64 k3, .int .i64 h3, .slice A3 n3 c3] := by rw [hpe, ← hWf]; exact Box.new _ _ _
                 have HF2 : Hid (CR sz Bk pu (some ⟨bS, oS, none⟩) cs wr Wf) := by rw [← hWf]; exact cr_alloc (by assumption) _
                 have HQ : Hid (QRr sz Bk pu (some ⟨bS, oS, none⟩) cs S wr.heap.size Wf k3 h3 A3 n3 c3 ec) := by rw [← hWf]; exact Lib.hid (hQ.out.alloc (by first | omega | exact Nat.le_refl _ | (simp; done) | (simp; omega)) _)
                 rw [hWf, ← hpe]
                 clear hWf hpe)
              | (obtain ⟨Wf, hWf⟩ : ∃ Wf, ((w6.setCell ⟨wr.heap.size, 0, none⟩ (.int .i64 k3)).setCell ⟨wr.heap.size, 1, none⟩ (.int .i64 h3)).setCell ⟨wr.heap.size, 2, none⟩ (.slice A3 n3 c3) = Wf := ⟨_, rfl⟩
                 obtain ⟨pI, hpe⟩ : ∃ p, p = wr.heap.size := ⟨_, rfl⟩
                 have xI : Box Wf pI 24 #[.int .i64 k3, .int .i64 h3, .slice A3 n3 c3] := by rw [hpe, ← hWf]; exact zP.put3 _ _ _
                 have HF2 : Hid (CR sz Bk pu (some ⟨bS, oS, none⟩) cs wr Wf) := by rw [← hWf]; exact cr_set3 (by assumption) (by omega) (by omega) _ _ _
                 have HQ : Hid (QRr sz Bk pu (some ⟨bS, oS, none⟩) cs S wr.heap.size Wf k3 h3 A3 n3 c3 ec) := by rw [← hWf]; exact Lib.hid (hQ.out.set3 (by first | omega | (simp; done) | (simp; omega)) (by first | omega | (simp; done) | (simp; omega)) (by omega) _ _ _)
                 rw [hWf, ← hpe]
                 clear hWf hpe)
            all_goals
              (try clear zP z0 z1 z2 fz0 fz1 fz2)
              clear hQ hcp hcu s2 s3 HRS HK
              have hfW : FrP pu wr Wf := HF2.out.1
              have HFW := Lib.hid (HI.out.fr.trans (FrP.ux (Bk := Bk) hfW) fun _ _ e => e)
              have HFF := Lib.hid hfW
              have sF := HF2.out.1.size
              clear hfW
              by_cases he0 : ec = 0
              · have hd : (ec != 0) = false := by simpa using he0
                have hq : ∃ t' N2, S = .ok (t', N2) ∧ RdF (fun b => wr.heap.size ≤ b) Wf t' (.agg #[.int .i64 k3, .int .i64 h3, .slice A3 n3 c3]) ∧ PR sz Bk pu (some ⟨bS, oS, none⟩) cs Wf N2 := by
                  rcases HQ.out with ⟨t', N2, h1, h2, h3, h4⟩ | ⟨h1, h2⟩
                  · exact ⟨t', N2, h1, h3, h4⟩
                  · exact absurd he0 h2.1
                obtain ⟨t', N2, hSo, hrd, hpb⟩ := hq
                obtain ⟨gd1, gd2, gd3, gd4, gd5⟩ := HGD.out t' N2 hSo
                have hres : rsU bs' fu (bs'.getD j noB).2 (sz.getD j 0) N' = .ok (t', N2) := by rw [HGX.out.1, HGX.out.2]; exact HS2.out.trans hSo
                have heq := HEQ.out
                rw [rvL_ok (by rw [HGX.out.1]) hres] at heq
                have hum := HI.out.um.after HFF.out hpb
                have hrx : RX (UX Bk pu) Wf t' (.agg #[.int .i64 k3, .int .i64 h3, .slice A3 n3 c3]) := RdF.moveX (fun b hb hl => by
                  have hb : wr.heap.size ≤ b := hb
                  exact ⟨fun e => by rcases e with e | e <;> omega, rfl⟩) _ _ hrd
                have hokS : okU sz (bs'.set j (true, t')) N2 := (HI.out.ok.mono (by omega)).set (WT.of gd3 gd4 (by omega) (by rw [HGX.out.2]; exact gd5))
                have HUM := Lib.hid hum
                have HRX := Lib.hid hrx
                have HOK := Lib.hid hokS
                have HEQ2 := Lib.hid heq
                have HN2 := Lib.hid gd2
                obtain ⟨p0, p1, p2⟩ := hpb.three
                rw [HL.out] at p0
                obtain ⟨i0, i1, i2⟩ := xI.three
                have t0 := Past.cell p0
                have r0 := Past.cell i0
                have r1 := Past.cell i1
                have r2 := Past.cell i2
                clear hSo hrd hpb gd1 gd2 gd3 gd4 gd5 hres heq hum hrx hokS HQ
                go_wp2_with fail
                refine wp_region_class_tail (C := fun w' => ∃ z : Past Wf, w' = z.wd) 8 (by kernel_rfl) (by kernel_rfl) ⟨⟨Wf.drew, (Below.refl _ _).drew⟩, rfl⟩ ?_
                simp only [List.take_succ_cons, List.take_zero, List.drop_succ_cons, List.drop_zero]
                repeat (go_big_quiet_step (fail))
                refine wpQuiet_nil ?_
                rintro _ ⟨z2, rfl⟩
                obtain ⟨W6, hbq⟩ := z2
                dsimp only
                clear t0 r0 r1 r2 p0 p1 p2 i0 i1 i2 xI
                have hum5 := HUM.out.keep hbq
                have HF7 := Lib.hid (HFW.out.then hbq)
                have HR7 := Lib.hid (RX.fr HRX.out (Fr.below (X := UX Bk pu) hbq))
                obtain ⟨csr, hrow, hsz, hcs⟩ := hum5.row
                rw [HL.out] at hsz
                have HUM7 := Lib.hid hum5
                clear hcs hbq hum5
                obtain ⟨u1, hu1⟩ := hrow.there (i := j * 4 + 1) (by omega)
                obtain ⟨u2, hu2⟩ := hrow.there (i := j * 4 + 1 + 1) (by omega)
                obtain ⟨u3, hu3⟩ := hrow.there (i := j * 4 + 1 + 2) (by omega)
                have f1 := hrow.frozen (j * 4 + 1)
                have f2 := hrow.frozen (j * 4 + 1 + 1)
                have f3 := hrow.frozen (j * 4 + 1 + 2)
                clear hrow hsz HUM HRX
                go_wp2_with fail
                go_roundw
                case rel =>
                  obtain ⟨h1, h2⟩ := HUM7.out.put3 (j := j) (u := t') HI.out.ok.len HX.out rfl HR7.out rfl
                  exact ⟨j + 1, bs'.set j (true, t'), N2, by omega, by go_num, Lib.hid ⟨HF7.out.trans h2 fun _ _ e => e, h1, HOK.out, HN2.out, by rw [HL.out]; exact HEQ2.out⟩⟩
                case measure => simp [Go.RowKit.intOf]; omega
              · have hd : (ec != 0) = true := by simpa using he0
                have hq : S = .error ec := by
                  rcases HQ.out with ⟨t', N2, h1, h2, h3, h4⟩ | ⟨h1, h2⟩
                  · exact absurd h2 he0
                  · exact h1
                have heq := HEQ.out
                rw [rvL_err (ec := ec) (by rw [HGX.out.1]) (by rw [HGX.out.1, HGX.out.2]; exact HS2.out.trans hq)] at heq
                have HR4 : Hid (R = .error ec) := Lib.hid (by rw [HR3.out, heq]; rfl)
                have HB9 := Lib.hid (HFB.out _ HFW.out)
                clear heq hq HQ xI
                go_wp2_with fail
                go_ret2
                rw [HR4.out]
                exact ⟨none, 0, 0, ec, rfl, HB9.out, rfl, he0, rfl, rfl, rfl⟩
        · have heq := HI.out.eq
          rw [HL.out, show L - j = 0 by omega, rvL_end] at heq
          have HR4 : Hid (R = .ok bs') := Lib.hid (by rw [HR3.out, heq]; rfl)
          have HBL := Lib.hid (HI.out.um.bl HI.out.ok.len (by rw [HL.out]; exact hL2))
          rw [HL.out] at HBL
          have HB9 := Lib.hid (HFB.out _ HI.out.fr)
          clear heq
          go_wp2_with fail
          go_ret2
          rw [HR4.out]
          exact ⟨_, _, _, 0, rfl, HB9.out, rfl, HBL.out⟩
end Go.Proofs.YtnnmnkgogiabiaaGreat

/-
  Contracts of the document's Same of two lists of binds, and of layer 7's Few. No statement is proved here.
-/
namespace Go.Proofs.YtnnmnkgogiabiaaGreat
open Go.ChangeShapes Go.WideShapes Go.ChangeAt Go.RowKit
set_option linter.unusedVariables false

def sameL : List BT → List BT → Bool
  | x :: xs, y :: ys => !(x.1 != y.1 || x.1 && !samB x.2 y.2) && sameL xs ys
  | _, _ => true
/-- are two lists of binds the same, where something is told -/
def sameB (a b : List BT) : Bool := decide (a.length = b.length) && sameL a b
set_option maxHeartbeats 4000000 in
theorem refSbC (ok ok' : Nat → Prop) (a b : List BT) (A : Option Addr) (n c : Nat) (A' : Option Addr) (n' c' : Nat) (w : World) (ha : BL ok w a A n c) (hb' : BL ok' w b A' n' c') :
    Calls Tryz.prog 8 #[.slice A n c, .slice A' n' c'] w fun e w' => e = .returned (.bool (sameB a b)) ∧ Below w.heap.size w w' := by
  have hm := ha.cap
  have hc := ha.le
  have hm' := hb'.cap
  have hc' := hb'.le
  unfold maxLen at hm hm'
  have hla := ha.len
  have hlb := hb'.len
  have HX := Lib.hid ha; clear ha
  have HY := Lib.hid hb'; clear hb'
  by_cases hn : n = n'
  · subst hn
    have hs : sameB a b = sameL a b := by rw [sameB, hla, hlb, decide_eq_true rfl]; rfl
    rw [hs]
    clear hs hla hlb
    go_enter Tryz.func8, Tryz.ntmps8
    go_wp2_with fail
    go_loopw [5] (fun i wr => ∃ (j : Nat), j ≤ n ∧ i = .int .i64 j ∧ Hid (sameL (a.drop j) (b.drop j) = sameL a b) ∧ Below w.heap.size w wr) (fun i _ => n - (Go.RowKit.intOf i).toNat)
    case atStart => exact ⟨0, Nat.zero_le _, rfl, Lib.hid (by simp), Below.refl _ _⟩
    case round =>
      obtain ⟨j, hj, rfl, HS, hb⟩ := hrel
      by_cases hlt : j < n
      · obtain ⟨x, hx⟩ := at_of HX.out.len hlt
        obtain ⟨y, hy⟩ := at_of HY.out.len hlt
        obtain ⟨b1, o1, k1, h1, A1, n1, c1, rfl, c0, c1', c2, c3, hr1⟩ := (HX.out.at_ j x hx).keep hb
        obtain ⟨b2, o2, k2, h2, A2, n2, c2', rfl, d0, d1, d2, d3, hr2⟩ := (HY.out.at_ j y hy).keep hb
        have HS' := HS.out
        rw [drop_at hx, drop_at hy, sameL] at HS'
        have HS1 := Lib.hid HS'; clear HS' hx hy HS
        have hi0 : (0 : Int) ≤ j := by omega
        have hi1 : (j : Int) < n := by omega
        have HC := Lib.hid fun W' (h : Below wr.heap.size wr W') => refSame x.2 y.2 _ _ W' (Rd.keep h _ _ (RdF.rd _ _ hr1)) (Rd.keep h _ _ (RdF.rd _ _ hr2))
        clear hr1 hr2
        obtain ⟨x1, x2⟩ := x
        obtain ⟨y1, y2⟩ := y
        dsimp only at c0 d0 HS1 HC
        generalize samB x2 y2 = r at *
        go_wp2_with fail
        have p0 := Past.cell c0
        have p1 := Past.cell c1'
        have p2 := Past.cell c2
        have p3 := Past.cell c3
        have q0 := Past.cell d0
        have q1 := Past.cell d1
        have q2 := Past.cell d2
        have q3 := Past.cell d3
        refine wp_region_past (by kernel_rfl) (by kernel_rfl) ?_
        repeat (go_big_quiet_step ((exact calls_past (HC.out _ (Past.h _)))))
        refine wpQuiet_nil ?_
        rintro _ ⟨z1, rfl⟩
        obtain ⟨w1, hb1⟩ := z1
        dsimp only
        clear p0 p1 p2 p3 q0 q1 q2 q3 HC
        have c0 := (hb1.cell (cell_lt c0)).trans c0
        have d0 := (hb1.cell (cell_lt d0)).trans d0
        replace hb := hb.trans (hb1.mono hb.size)
        clear hb1 c1' c2 c3 d1 d2 d3
        have p0 := Past.cell c0
        have q0 := Past.cell d0
        go_wp2_with fail
        cases x1 <;> cases y1 <;> cases r
        all_goals
          refine wp_region_past (by kernel_rfl) (by kernel_rfl) ?_
          repeat (go_big_quiet_step (fail))
          refine wpQuiet_nil ?_
          rintro _ ⟨z1, rfl⟩
          obtain ⟨w2, hb1⟩ := z1
          dsimp only
          clear p0 q0
          replace hb := hb.trans (hb1.mono hb.size)
          clear hb1 c0 d0
          go_wp2_with fail
          first
            | (go_roundw
               case rel => exact ⟨j + 1, by omega, by go_num, Lib.hid (by simpa using HS1.out), hb⟩
               case measure => simp [Go.RowKit.intOf]; omega)
            | (go_ret
               exact ⟨ret_bool (by rw [← HS1.out]; rfl), hb⟩)
      · go_wp2_with fail
        go_ret
        exact ⟨ret_bool (by rw [← HS.out, drop_all HX.out.len (by omega)]; rfl), hb⟩
  · have hs : sameB a b = false := by rw [sameB, hla, hlb, decide_eq_false hn]; rfl
    have e0 : ((n : Int) != (n' : Int)) = true := by simp; omega
    rw [hs]
    clear hs hla hlb
    go_enter Tryz.func8, Tryz.ntmps8
    go_wp2_with fail
    go_ret
    exact ⟨rfl, Below.refl _ _⟩

/-- few binds, each light -/
def fwBg (bs : List BT) (n : Nat) : Bool := decide (n ≤ 60) && bs.all fun x => ltB x.2 2000 80
end Go.Proofs.YtnnmnkgogiabiaaGreat

/-
  The walk of the law UnifyTells.
-/
namespace Go.Proofs.YtnnmnkgogiabiaaGreat
open Go.ChangeShapes Go.WideShapes Go.ChangeAt Go.RowKit
set_option linter.unusedVariables false

def uLi : Except Int (List BT) → List BT
  | .error _ => []
  | .ok bs => bs
def uEr : Except Int (List BT) → Int
  | .error e => e
  | .ok _ => 0
theorem UnE.both {w : World} {R : Except Int (List BT)} {e : Ending} {w' : World} (h : UnE w R e w') :
    ∃ A n c, e = .returned (.tuple #[.slice A n c, .int .i64 (uEr R)]) ∧ Below w.heap.size w w' ∧ BL (fun _ => True) w' (uLi R) A n c := by
  obtain ⟨A, n, c, ec, rfl, hb, h⟩ := h
  cases R with
  | error er => obtain ⟨rfl, _, rfl, rfl, rfl⟩ := h; exact ⟨none, 0, 0, rfl, hb, rfl, Nat.le_refl _, Nat.zero_le _, fun i x h => by simp [uLi] at h⟩
  | ok bs => obtain ⟨rfl, h⟩ := h; exact ⟨A, n, c, rfl, hb, h⟩
theorem sameL_reflD : ∀ a : List BT, sameL a a = true
  | [] => by rw [sameL]; simp
  | x :: xs => by rw [sameL, sam_refl, sameL_reflD xs]; simp
theorem same_reflD (a : List BT) : sameB a a = true := by rw [sameB, sameL_reflD]; simp

set_option maxRecDepth 100000 in
set_option maxHeartbeats 8000000 in
theorem unifyTellsC (a c : T) (n : Int) (sz : List Int) (As : Option Addr) (L cs : Nat) (va vc : Value) (w : World) (hva : Rd w a va) (hvc : Rd w c vc) (hna : nd a ≤ 1048576) (hnc : nd c ≤ 1048576) (hl : sz.length = L) (hlc : L ≤ cs) (hcm : cs ≤ maxLen) (hs : Nu w sz As) :
    Calls Tryz.prog 3 #[va, vc, .int .i64 n, .slice As L cs] w fun e w' => e = .returned (.bool true) ∧ Below w.heap.size w w' := by
  have HS := Lib.hid hs; clear hs
  have HLZ := Lib.hid hl; clear hl
  have HNA := Lib.hid (show nd a ≤ 1099511627776 by omega); clear hna
  have HNC := Lib.hid (show nd c ≤ 1099511627776 by omega); clear hnc
  have hcm2 := hcm
  unfold maxLen at hcm2
  obtain ⟨ka, ha, Aa, na, ca, rfl⟩ := hva.full
  have HVa := Lib.hid hva; clear hva
  obtain ⟨kc, hc, Ac, nc, cc, rfl⟩ := hvc.full
  have HVc := Lib.hid hvc; clear hvc
  obtain ⟨W0, hW0⟩ : ∃ W0, ((w.alloc (.cells #[.int .i64 ka, .int .i64 ha, .slice Aa na ca] 24)).alloc (.cells #[.int .i64 kc, .int .i64 hc, .slice Ac nc cc] 24)) = W0 := ⟨_, rfl⟩
  have hb : Below w.heap.size w W0 := by rw [← hW0]; exact (((Below.refl _ _).alloc (Nat.le_refl _) _).alloc (by simp) _)
  have bxa : Box W0 (w.heap.size) 24 #[.int .i64 ka, .int .i64 ha, .slice Aa na ca] := by rw [← hW0]; exact ((Box.new w _ _).alloc _)
  have bxc : Box W0 (w.heap.size + 1) 24 #[.int .i64 kc, .int .i64 hc, .slice Ac nc cc] := by rw [← hW0]; exact ((Box.new (w.alloc _) _ _).at (by simp))
  replace HVa := Lib.hid (Rd.keep hb _ _ HVa.out)
  replace HVc := Lib.hid (Rd.keep hb _ _ HVc.out)
  have HW0 := Lib.hid hW0; clear hW0
  go_enter Tryz.func3, Tryz.ntmps3
  go_wp2_with fail
  rw [HW0.out]
  clear HW0
  refine (awakeN _).mono ?_
  rintro e w1 ⟨rfl, hb1⟩
  replace bxa := bxa.keep hb1 bxa.lt
  replace bxc := bxc.keep hb1 bxc.lt
  replace HVa := Lib.hid (Rd.keep hb1 _ _ HVa.out)
  replace HVc := Lib.hid (Rd.keep hb1 _ _ HVc.out)
  replace hb := hb.trans (hb1.mono hb.size)
  clear hb1
  obtain ⟨bxa0, bxa1, bxa2⟩ := bxa.three
  have bxal := bxa.lt
  obtain ⟨bxc0, bxc1, bxc2⟩ := bxc.three
  have bxcl := bxc.lt
  go_wp2_with fail
  refine (refLight a 1000 80 _ _ HVa.out).mono ?_
  have HLa : Hid (ltB a 1000 80 = true → ltB a 1000 80 = true) := Lib.hid fun e => e
  generalize hqa : ltB a 1000 80 = Ra at *
  rintro e w2a ⟨rfl, hb1⟩
  have HQa := Lib.hid hqa; clear hqa HLa
  clear bxa0 bxa1 bxa2 bxal bxc0 bxc1 bxc2 bxcl
  replace bxa := bxa.keep hb1 bxa.lt
  replace bxc := bxc.keep hb1 bxc.lt
  replace HVa := Lib.hid (Rd.keep hb1 _ _ HVa.out)
  replace HVc := Lib.hid (Rd.keep hb1 _ _ HVc.out)
  replace hb := hb.trans (hb1.mono hb.size)
  clear hb1
  obtain ⟨bxa0, bxa1, bxa2⟩ := bxa.three
  have bxal := bxa.lt
  obtain ⟨bxc0, bxc1, bxc2⟩ := bxc.three
  have bxcl := bxc.lt
  go_wp2_with fail
  refine (refLight c 1000 80 _ _ HVc.out).mono ?_
  have HLc : Hid (ltB c 1000 80 = true → ltB c 1000 80 = true) := Lib.hid fun e => e
  generalize hqc : ltB c 1000 80 = Rc at *
  rintro e w2c ⟨rfl, hb1⟩
  have HQc := Lib.hid hqc; clear hqc HLc
  clear bxa0 bxa1 bxa2 bxal bxc0 bxc1 bxc2 bxcl
  replace bxa := bxa.keep hb1 bxa.lt
  replace bxc := bxc.keep hb1 bxc.lt
  replace HVa := Lib.hid (Rd.keep hb1 _ _ HVa.out)
  replace HVc := Lib.hid (Rd.keep hb1 _ _ HVc.out)
  replace hb := hb.trans (hb1.mono hb.size)
  clear hb1
  obtain ⟨bxa0, bxa1, bxa2⟩ := bxa.three
  have bxal := bxa.lt
  obtain ⟨bxc0, bxc1, bxc2⟩ := bxc.three
  have bxcl := bxc.lt
  cases Ra
  · go_wp2_with fail
    go_ret
    exact ⟨rfl, hb⟩
  cases Rc
  · go_wp2_with fail
    go_ret
    exact ⟨rfl, hb⟩
  by_cases hLm : 60 < L
  · have dL : decide ((60 : Int) < (L : Int)) = true := decide_eq_true (by omega)
    go_wp2_with fail
    go_ret
    exact ⟨rfl, hb⟩
  have dL : decide ((60 : Int) < (L : Int)) = false := decide_eq_false (by omega)
  have HU := UnifyC a c n sz As cs _ _ _ _ _ _ _ _ _ _ w2c HVa.out HVc.out (fun hm => (kn_of (s := 1000) (d := 80) HQa.out hm).ok) (fun hm => (kn_of (s := 1000) (d := 80) HQc.out hm).ok) (by rw [HLZ.out]; exact hlc) hcm (HS.out.keep hb)
  rw [HLZ.out] at HU
  have HU := Lib.hid HU
  go_wp2_with fail
  clear bxa0 bxa1 bxa2 bxal bxc0 bxc1 bxc2 bxcl
  refine HU.out.mono ?_
  intro e w4 hE
  obtain ⟨A4, n4, c4, rfl, hb1, hbl⟩ := hE.both
  have HBL := Lib.hid hbl
  replace bxa := bxa.keep hb1 bxa.lt
  replace bxc := bxc.keep hb1 bxc.lt
  replace HVa := Lib.hid (Rd.keep hb1 _ _ HVa.out)
  replace HVc := Lib.hid (Rd.keep hb1 _ _ HVc.out)
  replace hb := hb.trans (hb1.mono hb.size)
  clear hb1 hE hbl HU
  obtain ⟨bxa0, bxa1, bxa2⟩ := bxa.three
  have bxal := bxa.lt
  obtain ⟨bxc0, bxc1, bxc2⟩ := bxc.three
  have bxcl := bxc.lt
  have HU := rUnifyC a c n sz As cs _ _ _ _ _ _ _ _ _ _ w4 HVa.out HVc.out (fun hm => (kn_of (s := 1000) (d := 80) HQa.out hm).ok) (fun hm => (kn_of (s := 1000) (d := 80) HQc.out hm).ok) HNA.out HNC.out (by rw [HLZ.out]; exact hlc) hcm (HS.out.keep hb)
  rw [HLZ.out] at HU
  have HU := Lib.hid HU
  go_wp2_with fail
  clear bxa0 bxa1 bxa2 bxal bxc0 bxc1 bxc2 bxcl
  refine HU.out.mono ?_
  intro e w5 hE
  obtain ⟨A5, n5, c5, rfl, hb1, hbl⟩ := hE.both
  have HSB := Lib.hid (refSbC _ _ (uLi (unR a c n sz)) (uLi (unR a c n sz)) A4 n4 c4 A5 n5 c5 w5 (HBL.out.keep hb1) hbl)
  rw [same_reflD] at HSB
  replace hb := hb.trans (hb1.mono hb.size)
  clear hb1 hE hbl HU HBL bxa bxc
  generalize uEr (unR a c n sz) = E at *
  have hee : (E == E) = true := by simp
  go_wp2_with fail
  refine HSB.out.mono ?_
  rintro e w6 ⟨rfl, hb1⟩
  replace hb := hb.trans (hb1.mono hb.size)
  clear hb1 HSB
  go_wp2_with fail
  go_ret
  exact ⟨rfl, hb⟩
end Go.Proofs.YtnnmnkgogiabiaaGreat
