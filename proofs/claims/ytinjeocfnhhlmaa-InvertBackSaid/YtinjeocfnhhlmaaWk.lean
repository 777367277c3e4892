/-
  The contract of package subst's Under. No statement is proved here.
-/
import Derived.Test.YtinjeocfnhhlmaaWj
namespace Go.Proofs.Ytinjeocfnhhlmaa
open Go.ChangeShapes Go.WideShapes Go.ChangeAt Go.RowKit
set_option linter.unusedVariables false

abbrev upO (t : T) : T := upX t 1 0
/-- what Under tells -/
def undX (L : List T) : List T := L.map upO ++ [.node 4 0 []]
/-- what holds at the head of Under's loop -/
structure UnI (L : List T) (A : Option Addr) (n c : Nat) (sh : Int) (w : World) (j : Nat) (wr : World) (g cap : Nat) (cs : List Value) : Prop where
  box : Box wr w.heap.size 45 #[.slice A n c, .int .i64 sh]
  res : Box wr (w.heap.size + 1) 45 #[.slice none 0 0, .int .i64 0]
  own : wr.ownsRow (w.heap.size + 2) 24 3 (.slice (some ⟨g, 0, none⟩) j cap) j cs
  kids : KidL wr (fun b => w.heap.size + 2 ≤ b ∧ b ≠ g) cs ((L.take j).map upO)
  below : Below w.heap.size w wr

/-- one more is appended -/
theorem UnI.snoc {w wr w1 w4 : World} {g g' : Nat} {cs : List Value} {ys : List T} {u : T} {k h : Int} {A3 : Option Addr} {n3 c3 : Nat}
    (hk : KidL wr (fun b => w.heap.size + 2 ≤ b ∧ b ≠ g) cs ys) (hl : cs.length = ys.length * 3) (hb : Below wr.heap.size wr w1) (hu : RdF (fun b => wr.heap.size ≤ b ∧ b < w1.heap.size) w1 u (.agg #[.int .i64 k, .int .i64 h, .slice A3 n3 c3])) (hwr : w.heap.size + 2 ≤ wr.heap.size) (hg0 : g < wr.heap.size)
    (hgr : World.grownBy (w1.alloc (.cells #[.int .i64 k, .int .i64 h, .slice A3 n3 c3] 24)) w4 (some g)) (hg : g' = g ∨ g' = w1.heap.size + 1) :
    KidL w4 (fun b => w.heap.size + 2 ≤ b ∧ b ≠ g') (cs ++ [.int .i64 k, .int .i64 h, .slice A3 n3 c3]) (ys ++ [u]) := by
  have hsz := hb.size
  have e : ∀ b, b < w1.heap.size → b ≠ g → w4.heap[b]? = w1.heap[b]? := fun b hl hne => (hgr.block b (by simp; omega) (by simpa using hne)).trans (Below.heap_alloc _ _ _ hl)
  refine KidL.snoc (fun i t ht => ?_) hl (RdF.moveX (fun b hb' hl' => ⟨⟨by omega, by omega⟩, e b hl' (by omega)⟩) _ _ hu)
  obtain ⟨k1, h1, A1, n1, c1, e0, e1, e2, hr⟩ := hk i t ht
  exact ⟨k1, h1, A1, n1, c1, e0, e1, e2, RdF.moveX (fun b hb' hl' => ⟨⟨hb'.1, by omega⟩, (e b (by omega) hb'.2).trans (hb.block b hl')⟩) _ _ hr⟩

theorem rx_leaf' {ok : Nat → Prop} {w : World} {k h : Int} (hk : (Lit.int .i64 k).wf = true) (hh : (Lit.int .i64 h).wf = true) : RdF ok w (.node k h []) (.agg #[.int .i64 k, .int .i64 h, .slice none 0 0]) :=
  RdF_node.2 ⟨none, 0, 0, rfl, hk, hh, rfl, Nat.le_refl _, Nat.zero_le _, fun i t ht => by simp at ht⟩
set_option maxRecDepth 100000 in
set_option maxHeartbeats 4000000 in
theorem UnderC {L : List T} {A : Option Addr} {n c : Nat} {sh : Int} {w : World} (hn : L.length = n) (hc : n ≤ c) (hm : c ≤ maxLen) (hx : ∀ i t, L[i]? = some t → RdAt w A i t) (hnd : ∀ t ∈ L, nd t ≤ 1048576) (hn4 : n ≤ 1000000) :
    Calls Try.prog 55 #[.agg #[.slice A n c, .int .i64 sh]] w (SEnd (undX L) (wrap64 (sh + 1)) w) := by
  unfold maxLen at hm
  obtain ⟨i0, hi, hz0, hz1, hz2⟩ := info_parts infoTerm
  have hmk : ∀ W : World, (Instr.makeSlice 22 (.int .i64 0) (.int .i64 ((n : Int) + 1))).run Try.prog W = .ok (.slice (some ⟨W.heap.size, 0, none⟩) 0 (n + 1)) (W.alloc (.cells (madeCells #[.int .i64 0, .int .i64 0, .slice none 0 0] ((n + 1) * 3)) 24)) := by
    intro W
    have := run_make W 22 24 i0 _ Try.underlying22 hi hz0 .i64 .i64 0 ((n : Int) + 1) (by omega) (by omega) (by rw [hz2]; omega) (by omega)
    rw [hz1, show ((n : Int) + 1).toNat = n + 1 by omega] at this
    simpa [Value.cells] using this
  have hcs := size_madeCells #[.int .i64 0, .int .i64 0, .slice none 0 0] ((n + 1) * 3)
  generalize madeCells #[.int .i64 0, .int .i64 0, .slice none 0 0] ((n + 1) * 3) = cs0 at *
  obtain ⟨W, hW⟩ : ∃ W, ((w.alloc (.cells #[.slice A n c, .int .i64 sh] 45)).alloc (.cells #[.slice none 0 0, .int .i64 0] 45)).alloc (.cells cs0 24) = W := ⟨_, rfl⟩
  have hrow : Box W (w.heap.size + 2) 24 cs0 := by rw [← hW]; exact (Box.new ((w.alloc _).alloc _) _ _).at (by simp)
  have HI : Hid (UnI L A n c sh w 0 W (w.heap.size + 2) (n + 1) []) := Lib.hid ⟨by rw [← hW]; exact ((Box.new _ _ _).alloc _).alloc _, by rw [← hW]; exact ((Box.new (w.alloc _) _ _).at (by simp)).alloc _,
    ⟨rfl, .inr ⟨_, _, _, rfl, Nat.le_refl _, hrow, by omega, by unfold maxLen; omega, hcs, by simp⟩⟩, fun i t ht => by simp at ht, by rw [← hW]; exact (((Below.refl _ _).alloc (Nat.le_refl _) _).alloc (by simp) _).alloc (by simp; omega) _⟩
  have HW := Lib.hid hW; clear hW hcs hrow
  have HN := Lib.hid hn; clear hn
  have HX := Lib.hid hx; clear hx
  have HND := Lib.hid hnd; clear hnd
  have HII := Lib.hid (And.intro hi (And.intro hz0 (And.intro hz1 hz2))); clear hi hz0 hz1 hz2
  go_enter Try.func55, Try.ntmps55
  go_wp2_with fail
  rw [HW.out]
  clear HW hmk
  go_loopw [3, 14] (fun v i wr => ∃ (j g cap : Nat) (cs : List Value), j ≤ n ∧ i = .int .i64 j ∧ v = .slice (some ⟨g, 0, none⟩) j cap ∧ Hid (UnI L A n c sh w j wr g cap cs)) (fun _ i _ => n - (intOf i).toNat)
  case atStart => exact ⟨0, w.heap.size + 2, n + 1, [], Nat.zero_le _, rfl, rfl, HI⟩
  case round =>
    clear HI
    obtain ⟨j, g, cap, cs, hj, rfl, rfl, HI⟩ := hrel
    have hlg := HI.out.own.lt g rfl
    by_cases hlt : j < n
    · obtain ⟨t, ht⟩ := at_of HN.out hlt
      obtain ⟨b, o, k2, h2, A2, n2, c2', rfl, c0, c1, c2, hr⟩ := (RdAt.keep HI.out.below (HX.out j t ht)).full
      have HT := Lib.hid ht; clear ht
      have hi0 : (0 : Int) ≤ j := by omega
      have hi1 : (j : Int) < n := by omega
      go_wp2_with fail
      have hbA : Below wr.heap.size wr (wr.alloc (.cells #[.int .i64 k2, .int .i64 h2, .slice A2 n2 c2'] 24)) := (Below.refl _ wr).alloc (Nat.le_refl _) _
      generalize wr.alloc (.cells #[.int .i64 k2, .int .i64 h2, .slice A2 n2 c2'] 24) = Wa at *
      clear c0 c1 c2
      refine (upC t 1 0 _ _ (Rd.keep hbA _ _ hr) (HND.out t (List.mem_of_getElem? HT.out))).mono ?_
      rintro e w1 ⟨v1, rfl, how, hb1⟩
      obtain ⟨k3, h3, A3, n3, c3, rfl⟩ := how.full
      have hbw : Below wr.heap.size wr w1 := hbA.trans (hb1.mono hbA.size)
      have hru : RdF (fun b => wr.heap.size ≤ b ∧ b < w1.heap.size) w1 (upX t 1 0) (.agg #[.int .i64 k3, .int .i64 h3, .slice A3 n3 c3]) := RdF.moveX (fun b hb' hl => ⟨⟨by have := hbA.size; omega, hl⟩, rfl⟩) _ _ how.rdF
      have hbB : Below wr.heap.size wr (w1.alloc (.cells #[.int .i64 k3, .int .i64 h3, .slice A3 n3 c3] 24)) := hbw.alloc hbw.size _
      obtain ⟨hi, hz0, hz1, hz2⟩ := HII.out
      have hszr := HI.out.res.lt
      obtain ⟨g', cap', w4, hrun, how4, hgr, hg4, hlt4⟩ := run_append_lies (P := Try.prog) (w1.alloc (.cells #[.int .i64 k3, .int .i64 h3, .slice A3 n3 c3] 24)) 22 22 (w.heap.size + 2) 24 i0 _ 3 40 Try.underlying22 hi hz0 hz1 hz2 rfl (by omega) (.slice (some ⟨g, 0, none⟩) j cap) j cs
        (HI.out.own.kept (grown_of_below hbB) (own_none _)) ⟨w1.heap.size, 0, none⟩ 1 1 [.int .i64 k3, .int .i64 h3, .slice A3 n3 c3] rfl (World.news_of_block (heap_alloc_new w1 _)) (by intro u hu; simp at hu; rcases hu with rfl | rfl | rfl <;> rfl) (by omega) (by unfold maxLen; omega) (by omega) (by have := hbw.size; simp; omega) _ rfl
      have hg5 : g' = g ∨ g' = w1.heap.size + 1 := by
        rcases hg4 with h4 | h4
        · left; simpa [Value.ownBlock] using h4.symm
        · right; simpa using h4
      have hI' : UnI L (some ⟨b, o, none⟩) n c sh w (j + 1) w4 g' cap' (cs ++ [.int .i64 k3, .int .i64 h3, .slice A3 n3 c3]) := by
        have hsz := hbB.size
        have e : ∀ q, q < wr.heap.size → q ≠ g → w4.heap[q]? = wr.heap[q]? := fun q hq hne => (hgr.block q (by omega) (by simpa [Value.ownBlock] using hne)).trans (hbB.block q hq)
        refine ⟨(e _ HI.out.box.lt (by omega)).trans HI.out.box, (e _ HI.out.res.lt (by omega)).trans HI.out.res, how4, ?_, below_grown (HI.out.below.trans (hbB.mono HI.out.below.size)) hgr (fun r hr => by simp [Value.ownBlock] at hr; omega) (by have := HI.out.below.size; omega)⟩
        rw [List.take_succ_eq_append_getElem (by rw [HN.out]; exact hlt), List.map_append]
        have htj : L[j]'(by rw [HN.out]; exact hlt) = t := by
          have := HT.out
          rw [List.getElem?_eq_getElem (by rw [HN.out]; exact hlt)] at this
          exact Option.some.inj this
        rw [htj]
        exact UnI.snoc HI.out.kids (by rw [HI.out.own.1, List.length_map, List.length_take, HN.out]; omega) hbw hru (by omega) hlg.2 (by simpa [Value.ownBlock] using hgr) hg5
      have HI' := Lib.hid hI'; clear hI' how4 hgr hg4 hg5 hbB hru how hb1 hbA hi hz0 hz1 hz2
      go_wp2_with (at_builtin; refine Lib.wpList_append_run _ rfl _ _ _ _ rfl _ _ rfl rfl _ _ hrun ?_)
      go_roundw
      case rel => exact ⟨j + 1, g', cap', _, by omega, by go_num, rfl, HI'⟩
      case measure => simp [intOf]; omega
    · obtain rfl : j = n := by omega
      have hbx := HI.out.box.lt
      have hrs := HI.out.res.lt
      have hs1 := HI.out.box.two.2
      obtain ⟨hi, hz0, hz1, hz2⟩ := HII.out
      have hw1 : IntKind.i64.wrap (sh + 1) = wrap64 (sh + 1) := wrapEq _
      have HKS : Hid (∀ w', Below wr.heap.size wr w' → w'.cell? ⟨w.heap.size, 1, none⟩ = some (.int .i64 sh)) := Lib.hid fun w' h => (HI.out.box.keep h hbx).two.2
      have hcur : Below wr.heap.size wr wr.drew := (Below.refl _ _).drew
      have hszn := HI.out.below.size
      have HVC : Hid (∀ W', Calls Try.prog 87 #[.int .i64 0] W' fun e w' => e = .returned (.agg #[.int .i64 4, .int .i64 0, .slice none 0 0]) ∧ Below W'.heap.size W' w') := Lib.hid fun W' => varC 0 W'
      go_wp2_with fail
      go_region_held3 (fun w' => w'.cell? ⟨w.heap.size, 1, none⟩ = some (.int .i64 sh))
        (first | exact HKS.out _ hcur | exact HKS.out _ HB2.out | exact HFIN.out | exact HFIN2.out)
        (first
          | (go_at_call 87
             with_reducible refine (HVC.out _).mono ?_
             rintro e w1 ⟨rfl, hb1⟩
             replace hcur := hcur.trans (hb1.mono hcur.size)
             clear hb1
             have HB2 := Lib.hid (hcur.alloc hcur.size (.cells #[.int .i64 4, .int .i64 0, .slice none 0 0] 24)))
          | (refine step_append_lies _ (by rfl) _ _ _ (by rfl) (w.heap.size + 2) 24 i0 _ 3 40 Try.underlying22 hi hz0 hz1 hz2 rfl (by omega) (.slice (some ⟨g, 0, none⟩) j cap) j cs (by rfl) (HI.out.own.kept (grown_of_below HB2.out) (own_none _))
               ⟨w1.heap.size, 0, none⟩ 1 1 [.int .i64 4, .int .i64 0, .slice none 0 0] (by rfl) (by rfl) (World.news_of_block (heap_alloc_new w1 _)) (by intro u hu; simp at hu; rcases hu with rfl | rfl | rfl <;> rfl) (by omega) (by unfold maxLen; omega) (by omega) (by have := hcur.size; simp; omega) _ rfl ?_
             intro g' cap' w4 how4 hgr hg4 hlt4
             have hg5 : g' = g ∨ g' = w1.heap.size + 1 := by
               rcases hg4 with h4 | h4
               · left; simpa [Value.ownBlock] using h4.symm
               · right; simpa using h4
             have hk4 := UnI.snoc (u := .node 4 0 []) HI.out.kids (by rw [HI.out.own.1, List.length_map, List.length_take, HN.out]; omega) hcur (rx_leaf' (by decide) (by decide)) (by omega) hlg.2 (by simpa [Value.ownBlock] using hgr) hg5
             have e4 : ∀ q, q < wr.heap.size → q ≠ g → w4.heap[q]? = wr.heap[q]? := fun q hq hne => (hgr.block q (by have := HB2.out.size; omega) (by simpa [Value.ownBlock] using hne)).trans (HB2.out.block q hq)
             have y0 := (e4 _ hbx (by omega)).trans HI.out.box
             have y1 := (e4 _ hrs (by omega)).trans HI.out.res
             have hb4 := below_grown (HI.out.below.trans (HB2.out.mono HI.out.below.size)) hgr (fun r hr => by simp [Value.ownBlock] at hr; omega) (by have := HB2.out.size; omega)
             have HFIN := Lib.hid (Box.two y0).2
             have HFIN2 := Lib.hid (Box.two ((Box.other y0 (a := ⟨w.heap.size + 1, 0, none⟩) (by dsimp only; omega) (.slice (some ⟨g', 0, none⟩) (j + 1) cap')).other (a := ⟨w.heap.size + 1, 1, none⟩) (by dsimp only; omega) (.int .i64 (wrap64 (sh + 1))))).2
             have HH := Lib.hid (And.intro how4 (And.intro hk4 (And.intro y1 hb4)))
             have r0 := (Box.two y1).1
             have r1 := (Box.two y1).2
             have f0 := Box.frozen y1 0
             have f1 := Box.frozen y1 1
             have HG5 := Lib.hid hg5
             clear hg5 hg4 hgr how4 hk4 e4 hb4 y0 y1))
      go_wp2_with fail
      refine bodyPost_ret (v := .agg #[.slice (some ⟨g', 0, none⟩) (j + 1) cap', .int .i64 (wrap64 (sh + 1))]) (by simp [results, Try.results55, go_sem, r0, r1]) rfl ?_
      obtain ⟨how4, hk4, y1, hb4⟩ := HH.out
      have hgl := (how4.lt g' rfl).1
      refine ⟨_, _, _, rfl, ?_, (hb4.setCell (by dsimp only; omega) _).setCell (by dsimp only; omega) _⟩
      have e5 : ∀ q, q ≠ w.heap.size + 1 → ((w4.setCell ⟨w.heap.size + 1, 0, none⟩ (.slice (some ⟨g', 0, none⟩) (j + 1) cap')).setCell ⟨w.heap.size + 1, 1, none⟩ (.int .i64 (wrap64 (sh + 1)))).heap[q]? = w4.heap[q]? := fun q hq => (Below.heap_setCell _ _ _ _ hq).trans (Below.heap_setCell _ _ _ _ hq)
      have how5 := (how4.kept (grown_set w4 ⟨w.heap.size + 1, 0, none⟩ (.slice (some ⟨g', 0, none⟩) (j + 1) cap')) (.inr (by simp [Value.ownBlock]; omega))).kept (grown_set _ ⟨w.heap.size + 1, 1, none⟩ (.int .i64 (wrap64 (sh + 1)))) (.inr (by simp [Value.ownBlock]; omega))
      have htk : (L.take j).map upO ++ [.node 4 0 []] = undX L := by rw [undX, List.take_of_length_le (by rw [HN.out]; exact Nat.le_refl _)]
      rw [htk] at hk4
      have hk5 : KidL _ (fun b => ¬ b < w.heap.size) (cs ++ [.int .i64 4, .int .i64 0, .slice none 0 0]) (undX L) := fun i t ht => by
        obtain ⟨k1, h1, A1, n1, c1, d0, d1, d2, hr⟩ := hk4 i t ht
        exact ⟨k1, h1, A1, n1, c1, d0, d1, d2, RdF.moveX (fun q hq hl => ⟨by omega, e5 q (by omega)⟩) _ _ hr⟩
      have h := rdF_row (k := 0) (h := 0) (ok' := fun b => ¬ b < w.heap.size) how5 hk5 (by rw [undX, List.length_append, List.length_map, HN.out]; rfl) (fun _ h => h) (fun q hq e => by simp [Value.ownBlock] at hq; omega) (by decide) (by decide)
      obtain ⟨A', n', c', e, _, _, h3, h4, h5, h6⟩ := RdF_node.1 h
      have e' : some ⟨g', 0, none⟩ = A' ∧ j + 1 = n' ∧ cap' = c' := by simpa using e
      obtain ⟨rfl, rfl, rfl⟩ := e'
      exact ⟨h3, h4, h5, h6⟩
end Go.Proofs.Ytinjeocfnhhlmaa
