/-
  Contracts of the document's own Under of layer 3 and of List. No statement is proved here.
-/
import Derived.Test.YtinjeocfnhhlmaaTc
namespace Go.Proofs.Ytinjeocfnhhlmaa
open Go.ChangeShapes Go.WideShapes Go.ChangeAt Go.RowKit
set_option linter.unusedVariables false

/-- what a round of the document's Under reads -/
def SUd (z : Nat) (bA oA n c : Nat) (vs : Value) (j : Nat) (k2 h2 : Int) (A2 : Option Addr) (n2 c2 : Nat) (w' : World) : Prop :=
  w'.cell? ⟨z, 0, none⟩ = some (.slice (some ⟨bA, oA, none⟩) n c) ∧ w'.cell? ⟨z + 1 + 1, 0, none⟩ = some vs ∧ w'.cell? ⟨bA, oA + j * 3, none⟩ = some (.int .i64 k2) ∧
    w'.cell? ⟨bA, oA + j * 3 + 1, none⟩ = some (.int .i64 h2) ∧ w'.cell? ⟨bA, oA + j * 3 + 2, none⟩ = some (.slice A2 n2 c2)
/-- what holds at the head of Under's loop -/
structure RuI (M : List T) (A : Option Addr) (n c : Nat) (s : Int) (w : World) (j : Nat) (wr : World) (Av : Option Addr) (cv : Nat) (cs : List Value) : Prop where
  box : Box wr w.heap.size 45 #[.slice A n c, .int .i64 s]
  res : Box wr (w.heap.size + 1) 45 #[.slice none 0 0, .int .i64 0]
  out : Box wr (w.heap.size + 1 + 1) 45 #[.slice Av j cv, .int .i64 (wrap64 (s + 1))]
  row : GRow (fun b => b < w.heap.size + 3) wr (w.heap.size + 3) (.slice Av j cv) j cs ((M.map fun t => rupX t 1 0).take j)
  below : Below w.heap.size w wr

set_option maxRecDepth 100000 in
set_option maxHeartbeats 8000000 in
theorem runderC {M : List T} {A : Option Addr} {n c : Nat} {s : Int} {w : World} (hn : M.length = n) (hc : n ≤ c) (hm : c ≤ maxLen) (hx : ∀ i t, M[i]? = some t → RdAt w A i t) (hnd : ∀ t ∈ M, nd t ≤ 1048576) (hn4 : n ≤ 100000000) :
    Calls Try.prog 56 #[.agg #[.slice A n c, .int .i64 s]] w (SEnd (rndX M) (wrap64 (s + 1)) w) := by
  unfold maxLen at hm
  obtain ⟨W, hW⟩ : ∃ W, ((w.alloc (.cells #[.slice A n c, .int .i64 s] 45)).alloc (.cells #[.slice none 0 0, .int .i64 0] 45)).alloc (.cells #[.slice none 0 0, .int .i64 (wrap64 (s + 1))] 45) = W := ⟨_, rfl⟩
  have HI : Hid (RuI M A n c s w 0 W none 0 []) := Lib.hid ⟨by rw [← hW]; exact ((Box.new _ _ _).alloc _).alloc _, by rw [← hW]; exact ((Box.new (w.alloc _) _ _).at (by simp)).alloc _, by rw [← hW]; exact (Box.new ((w.alloc _).alloc _) _ _).at (by simp),
    GRow.nil _ _ _, by rw [← hW]; exact (((Below.refl _ _).alloc (Nat.le_refl _) _).alloc (by simp) _).alloc (by simp; omega) _⟩
  have HW := Lib.hid hW; clear hW
  have HN := Lib.hid hn; clear hn
  have HX := Lib.hid hx; clear hx
  have HND := Lib.hid hnd; clear hnd
  have hw0 : IntKind.i64.wrap (s + 1) = wrap64 (s + 1) := wrapEq _
  go_enter Try.func56, Try.ntmps56
  go_wp2_with fail
  rw [HW.out]
  clear HW hw0
  go_loopw [4] (fun i wr => ∃ (j : Nat) (Av : Option Addr) (cv : Nat) (cs : List Value), j ≤ n ∧ i = .int .i64 j ∧ Hid (RuI M A n c s w j wr Av cv cs)) (fun i _ => n - (intOf i).toNat)
  case atStart => exact ⟨0, none, 0, [], Nat.zero_le _, rfl, HI⟩
  case round =>
    clear HI
    obtain ⟨j, Av, cv, cs, hj, rfl, HI⟩ := hrel
    obtain ⟨a0, a1⟩ := HI.out.box.two
    have hbr := HI.out.below
    by_cases hlt : j < n
    · obtain ⟨t, ht⟩ := at_of HN.out hlt
      obtain ⟨bA, oA, k2, h2, A2, n2, c2', rfl, c0, c1, c2, hr⟩ := (RdAt.keep hbr (HX.out j t ht)).full
      have HT := Lib.hid ht; clear ht
      have HR := Lib.hid hr; clear hr
      have hi0 : (0 : Int) ≤ j := by omega
      have hi1 : (j : Int) < n := by omega
      go_wp2_with fail
      obtain ⟨r0, r1⟩ := HI.out.out.two
      have HKS : Hid (∀ w' : World, (∀ g, g < wr.heap.size → some g ≠ Value.ownBlock (.slice Av j cv) → w'.heap[g]? = wr.heap[g]?) → SUd w.heap.size bA oA n c (.slice Av j cv) j k2 h2 A2 n2 c2' w') := Lib.hid fun w' hw' => by
        have nb : ∀ g, g < w.heap.size + 3 → some g ≠ Value.ownBlock (.slice Av j cv) := fun g hg e => by
          have := HI.out.row.lt e.symm
          omega
        have lA := cell_lt c0
        have lA' : bA < w.heap.size + 3 := by
          obtain ⟨bA', oA', _, _, _, _, _, e, q0, _⟩ := (HX.out j t HT.out).full
          have := cell_lt q0
          injection e with e; injection e with e1 e2
          dsimp only at this
          omega
        have l1 := HI.out.box.lt
        have l3 := HI.out.out.lt
        have m1 : ∀ q, w'.cell? ⟨w.heap.size, q, none⟩ = wr.cell? ⟨w.heap.size, q, none⟩ := fun q => World.cell?_of_block (hw' w.heap.size l1 (nb w.heap.size (by omega)))
        have m3 : ∀ q, w'.cell? ⟨w.heap.size + 1 + 1, q, none⟩ = wr.cell? ⟨w.heap.size + 1 + 1, q, none⟩ := fun q => World.cell?_of_block (hw' (w.heap.size + 1 + 1) l3 (nb (w.heap.size + 1 + 1) (by omega)))
        have mA : ∀ q, w'.cell? ⟨bA, q, none⟩ = wr.cell? ⟨bA, q, none⟩ := fun q => World.cell?_of_block (hw' bA lA (nb bA lA'))
        exact ⟨(m1 _).trans a0, (m3 _).trans r0, (mA _).trans c0, (mA _).trans c1, (mA _).trans c2⟩
      have hS := HKS.out wr.drew fun g _ _ => rfl
      refine wp_region_cut rfl (by kernel_rfl) (by kernel_rfl) ?_
      refine wpAny_of_held (S := SUd w.heap.size bA oA n c (.slice Av j cv) j k2 h2 A2 n2 c2') _ _ _ _ ?_
      simp only [List.pop_toArray, List.dropLast, List.size_toArray, List.length_cons, List.length_nil, Nat.reduceAdd, Nat.reduceSub]
      refine wpAnyH_take (i := 0) (v := .pointer (some ⟨w.heap.size + 1 + 1, 0, none⟩)) rfl (by kernel_rfl) (by kernel_rfl) (by kernel_rfl) (fun _ _ _ h => h) (Or.inl ⟨by rfl, ?_⟩) hS ?_
      · intro w' hSw
        obtain ⟨s0, s3, s4, s5, s6⟩ := hSw
        go_simp
      simp only [Act.put, List.setIfInBounds_toArray]
      refine wpAnyH_take (i := 1) (v := .slice Av j cv) rfl (by kernel_rfl) (by kernel_rfl) (by kernel_rfl) (fun _ _ _ h => h) (Or.inl ⟨by rfl, ?_⟩) hS ?_
      · intro w' hSw
        obtain ⟨s0, s3, s4, s5, s6⟩ := hSw
        go_simp
      simp only [Act.put]
      refine wpAnyH_take (i := 2) (v := .pointer (some ⟨w.heap.size, 0, none⟩)) rfl (by kernel_rfl) (by kernel_rfl) (by kernel_rfl) (fun _ _ _ h => h) (Or.inl ⟨by rfl, ?_⟩) hS ?_
      · intro w' hSw
        obtain ⟨s0, s3, s4, s5, s6⟩ := hSw
        go_simp
      simp only [Act.put]
      refine wpAnyH_take (i := 3) (v := .slice (some ⟨bA, oA, none⟩) n c) rfl (by kernel_rfl) (by kernel_rfl) (by kernel_rfl) (fun _ _ _ h => h) (Or.inl ⟨by rfl, ?_⟩) hS ?_
      · intro w' hSw
        obtain ⟨s0, s3, s4, s5, s6⟩ := hSw
        go_simp
      simp only [Act.put]
      refine wpAnyH_take (i := 4) (v := .int .i64 j) rfl (by kernel_rfl) (by kernel_rfl) (by kernel_rfl) (fun _ _ _ h => h) (Or.inl ⟨by rfl, ?_⟩) hS ?_
      · intro w' hSw
        obtain ⟨s0, s3, s4, s5, s6⟩ := hSw
        go_simp
      simp only [Act.put]
      refine wpAnyH_take (i := 5) (v := .pointer (some ⟨bA, oA + j * 3, none⟩)) rfl (by kernel_rfl) (by kernel_rfl) (by kernel_rfl) (fun _ _ _ h => h) (Or.inl ⟨by rfl, ?_⟩) hS ?_
      · intro w' hSw
        obtain ⟨s0, s3, s4, s5, s6⟩ := hSw
        go_simp
      simp only [Act.put]
      refine wpAnyH_take (i := 6) (v := .agg #[.int .i64 k2, .int .i64 h2, .slice A2 n2 c2']) rfl (by kernel_rfl) (by kernel_rfl) (by kernel_rfl) (fun _ _ _ h => h) (Or.inl ⟨by rfl, ?_⟩) hS ?_
      · intro w' hSw
        obtain ⟨s0, s3, s4, s5, s6⟩ := hSw
        go_simp
      simp only [Act.put]
      refine wpAnyH_ready (rs := [7]) (by kernel_rfl) (by simp) ?_
      refine AllReadyH.cons rfl (fun K hK => ?_) AllReadyH.nil
      go_simp
      refine (refUpC t 1 0 _ wr.drew (Rd.keep (Below.refl _ wr).drew _ _ HR.out) (HND.out t (List.mem_of_getElem? HT.out))).mono ?_
      rintro e w2 ⟨v2, rfl, hrf, hb1⟩
      obtain ⟨k3, h3, A3, n3, c3, rfl⟩ := hrf.full
      have hbC : Below wr.heap.size wr w2 := (Below.refl _ wr).drew.trans hb1
      have HRF := Lib.hid hrf; clear hrf hb1
      refine hK.out _ _ (HKS.out w2 fun g hg _ => hbC.block g hg) (fun hS => ?_)
      clear hK K
      try simp only [Act.put, List.setIfInBounds_toArray, List.set_cons_zero, List.set_cons_succ]
      refine wpAnyH_ready (rs := [8]) (by kernel_rfl) (by simp) ?_
      refine AllReadyH.cons rfl (fun K hK => ?_) AllReadyH.nil
      go_simp
      have hbD : Below wr.heap.size wr (w2.alloc (.cells #[.int .i64 k3, .int .i64 h3, .slice A3 n3 c3] 24)) := hbC.alloc hbC.size _
      refine hK.out _ _ (HKS.out _ fun g hg _ => hbD.block g hg) (fun hS => ?_)
      clear hK K
      try simp only [Act.put, List.setIfInBounds_toArray, List.set_cons_zero, List.set_cons_succ]
      refine wpAnyH_ready (rs := [9]) (by kernel_rfl) (by simp) ?_
      refine AllReadyH.cons rfl (fun K hK => ?_) AllReadyH.nil
      obtain ⟨i0, hi, hz0, hz1, hz2⟩ := info_parts infoTerm
      refine step_append_lies (w2.alloc (.cells #[.int .i64 k3, .int .i64 h3, .slice A3 n3 c3] 24)) rfl (.tmp 17) (.tmp 24) 22 rfl (w.heap.size + 3) 24 i0 _ 3 40 Try.underlying22 hi hz0 hz1 hz2 rfl (by omega) (.slice Av j cv) j cs rfl (HI.out.row.own.kept (grown_of_below hbD) (own_none _)) ⟨w2.heap.size, 0, none⟩ 1 1 [.int .i64 k3, .int .i64 h3, .slice A3 n3 c3] rfl rfl (World.news_of_block (heap_alloc_new w2 _)) (by intro u hu; simp at hu; rcases hu with rfl | rfl | rfl <;> rfl) (by omega) (by unfold maxLen; omega) (by omega) (by have := hbD.size; have := HI.out.out.lt; omega) _ rfl ?_
      intro g cap w4 how4 hgr hg4 hlt4
      clear hi hz0 hz1 hz2 i0
      refine hK.out _ _ (HKS.out w4 fun g' hg' hne => (hgr.block g' (Nat.lt_of_lt_of_le hg' hbD.size) hne).trans (hbD.block g' hg')) (fun hS => ?_)
      clear hK K
      try simp only [Act.put, List.setIfInBounds_toArray]
      refine wpAnyH_take (i := 10) (v := .pointer (some ⟨w.heap.size + 1 + 1, 0, none⟩)) rfl (by kernel_rfl) (by kernel_rfl) (by kernel_rfl) (fun _ _ _ h => h) (Or.inl ⟨by rfl, ?_⟩) hS ?_
      · intro w' hSw
        obtain ⟨s0, s3, s4, s5, s6⟩ := hSw
        go_simp
      simp only [Act.put]
      refine wpAnyH_done (by kernel_rfl) ?_ _
      show wpList _ _ _ _ _ _
      have hrow2 : GRow (fun b => b < w.heap.size + 3) w2 (w.heap.size + 3) (.slice Av j cv) j cs ((M.map fun t => rupX t 1 0).take j) := HI.out.row.move (fun b hb _ => hbC.block b hb) (fun g hg => by have := (HI.out.row.lt hg).1; omega)
      have lo3 := HI.out.out.lt
      have hds : wr.drew.heap.size = wr.heap.size := rfl
      have hrow4 := hrow2.grow (RdF.moveX (fun b hb _ => ⟨⟨by omega, fun e => by have := (HI.out.row.lt e.symm).2; omega⟩, rfl⟩) _ _ HRF.out) how4 hgr (by rcases hg4 with h | h; exact .inl h; exact .inr (by simpa using h))
      have nb : ∀ g, g < w.heap.size + 3 → some g ≠ Value.ownBlock (.slice Av j cv) := fun g hg e => by
        have := HI.out.row.lt e.symm
        omega
      have hw4 : ∀ g', g' < wr.heap.size → some g' ≠ Value.ownBlock (.slice Av j cv) → w4.heap[g']? = wr.heap[g']? := fun g' hg' hne => (hgr.block g' (Nat.lt_of_lt_of_le hg' hbD.size) hne).trans (hbD.block g' hg')
      have z1 : Box w4 w.heap.size _ _ := (hw4 _ HI.out.box.lt (nb _ (by omega))).trans HI.out.box
      have z2 : Box w4 (w.heap.size + 1) _ _ := (hw4 _ HI.out.res.lt (nb _ (by omega))).trans HI.out.res
      have z3 : Box w4 (w.heap.size + 1 + 1) _ _ := (hw4 _ HI.out.out.lt (nb _ (by omega))).trans HI.out.out
      have hb4 : Below w.heap.size w w4 := below_grown (hbr.trans (hbD.mono hbr.size)) hgr (fun r hr => by have := HI.out.row.lt hr; omega) (by have := hbD.size; omega)
      have hrow5 : GRow (fun b => b < w.heap.size + 3) (w4.setCell ⟨w.heap.size + 1 + 1, 0, none⟩ (.slice (some ⟨g, 0, none⟩) (j + 1) cap)) (w.heap.size + 3) (.slice (some ⟨g, 0, none⟩) (j + 1) cap) (j + 1) (cs ++ [.int .i64 k3, .int .i64 h3, .slice A3 n3 c3]) ((M.map fun t => rupX t 1 0).take (j + 1)) := by
        have e : (M.map fun t => rupX t 1 0).take j ++ [rupX t 1 0] = (M.map fun t => rupX t 1 0).take (j + 1) := by
          rw [List.take_succ_eq_append_getElem (by rw [List.length_map, HN.out]; exact hlt), List.getElem_map]
          have htj : M[j]'(by rw [HN.out]; exact hlt) = t := by
            have := HT.out
            rw [List.getElem?_eq_getElem (by rw [HN.out]; exact hlt)] at this
            exact Option.some.inj this
          rw [htj]
        rw [← e]
        exact hrow4.move (fun b _ hb => Below.heap_setCell _ _ _ _ (by dsimp only; omega)) (fun g' hg' => by have := (hrow4.lt hg').1; omega)
      have HJ : Hid (RuI M (some ⟨bA, oA, none⟩) n c s w (j + 1) (w4.setCell ⟨w.heap.size + 1 + 1, 0, none⟩ (.slice (some ⟨g, 0, none⟩) (j + 1) cap)) (some ⟨g, 0, none⟩) cap (cs ++ [.int .i64 k3, .int .i64 h3, .slice A3 n3 c3])) := Lib.hid
        ⟨z1.other (by dsimp only; omega) _, z2.other (by dsimp only; omega) _, by simpa using z3.setAt 0 (.slice (some ⟨g, 0, none⟩) (j + 1) cap), hrow5, hb4.setCell (by dsimp only; omega) _⟩
      obtain ⟨q0, q1⟩ := z3.two
      have f0 := z3.frozen 0
      have l4 := z3.lt
      clear hrow2 hrow4 hrow5 how4 hgr hg4 hb4 hbD hbC hw4 nb z1 z2 z3 HRF hS
      go_wp2_with fail
      go_roundw
      case rel => exact ⟨j + 1, some ⟨g, 0, none⟩, cap, _, by omega, by go_num, HJ⟩
      case measure => simp [intOf]; omega
    · obtain rfl : j = n := by omega
      obtain ⟨o0, o1⟩ := HI.out.out.two
      have lres := HI.out.res.lt
      have lout := HI.out.out.lt
      obtain ⟨g, cap, w4, hrun, hrow, hold, hb4⟩ := HI.out.row.push (t := .node 4 0 []) (k := 4) (h := 0) (A := none) (m := 0) (c := 0) (rx_leaf' (by decide) (by decide)) (by omega) (by omega)
      have nb : ∀ q, q < w.heap.size + 3 → some q ≠ Value.ownBlock (.slice Av j cv) := fun q hq e => by have := (HI.out.row.lt e.symm).1; omega
      have z2 : Box w4 (w.heap.size + 1) _ _ := (hold _ lres (nb _ (by omega))).trans HI.out.res
      have z3 : Box w4 (w.heap.size + 1 + 1) _ _ := (hold _ lout (nb _ (by omega))).trans HI.out.out
      have lw4 := z3.lt
      obtain ⟨q0, q1⟩ := z3.two
      have g0 := z3.frozen 0
      have hset : ∀ b, w.heap.size + 3 ≤ b → ((((w4.setCell ⟨w.heap.size + 1 + 1, 0, none⟩ (.slice (some ⟨g, 0, none⟩) (j + 1) cap)).setCell ⟨w.heap.size + 1, 0, none⟩ (.slice (some ⟨g, 0, none⟩) (j + 1) cap)).setCell ⟨w.heap.size + 1, 1, none⟩ (.int .i64 (wrap64 (s + 1)))).heap)[b]? = w4.heap[b]? := fun b hb => ((Below.heap_setCell _ _ _ _ (by dsimp only; omega)).trans (Below.heap_setCell _ _ _ _ (by dsimp only; omega))).trans (Below.heap_setCell _ _ _ _ (by dsimp only; omega))
      have y2 : Box (w4.setCell ⟨w.heap.size + 1 + 1, 0, none⟩ (.slice (some ⟨g, 0, none⟩) (j + 1) cap)) (w.heap.size + 1) _ _ := z2.other (by dsimp only; omega) _
      have y3 : Box (w4.setCell ⟨w.heap.size + 1 + 1, 0, none⟩ (.slice (some ⟨g, 0, none⟩) (j + 1) cap)) (w.heap.size + 1 + 1) 45 #[.slice (some ⟨g, 0, none⟩) (j + 1) cap, .int .i64 (wrap64 (s + 1))] := by simpa using z3.setAt 0 (.slice (some ⟨g, 0, none⟩) (j + 1) cap)
      have hrl : RXL (fun b => b < w.heap.size) (((w4.setCell ⟨w.heap.size + 1 + 1, 0, none⟩ (.slice (some ⟨g, 0, none⟩) (j + 1) cap)).setCell ⟨w.heap.size + 1, 0, none⟩ (.slice (some ⟨g, 0, none⟩) (j + 1) cap)).setCell ⟨w.heap.size + 1, 1, none⟩ (.int .i64 (wrap64 (s + 1)))) (rndX M) (some ⟨g, 0, none⟩) (j + 1) cap := by
        rw [List.take_of_length_le (by rw [List.length_map, HN.out]; exact Nat.le_refl _)] at hrow
        exact ((hrow.move (fun b _ hb => hset b (by omega)) (fun g' hg' => by have := (hrow.lt hg').1; omega)).rxl (fun b hb => hb)).mono fun b _ hb => by omega
      have HRL := Lib.hid hrl
      have HBB : Hid (Below w.heap.size w (((w4.setCell ⟨w.heap.size + 1 + 1, 0, none⟩ (.slice (some ⟨g, 0, none⟩) (j + 1) cap)).setCell ⟨w.heap.size + 1, 0, none⟩ (.slice (some ⟨g, 0, none⟩) (j + 1) cap)).setCell ⟨w.heap.size + 1, 1, none⟩ (.int .i64 (wrap64 (s + 1))))) := Lib.hid ((((hbr.trans (hb4.mono (by omega))).setCell (by dsimp only; omega) _).setCell (by dsimp only; omega) _).setCell (by dsimp only; omega) _)
      obtain ⟨r0, r1⟩ := y2.two
      obtain ⟨t0, t1⟩ := y3.two
      have f0 := y2.frozen 0
      have f1 := y2.frozen 1
      clear hrow hold hb4 nb hset hrl
      go_wp2_with (at_builtin; refine Lib.wpList_append_run _ rfl _ _ _ _ rfl _ _ rfl rfl _ _ hrun ?_)
      refine bodyPost_ret (v := .agg #[.slice (some ⟨g, 0, none⟩) (j + 1) cap, .int .i64 (wrap64 (s + 1))]) (by simp [results, Try.results56, go_sem, r0, r1]) rfl ?_
      exact ⟨_, _, _, rfl, HRL.out, HBB.out⟩

/-! ### List -/
def lstB : List T → List T → Bool
  | xs, ys => xs.length == ys.length && samL xs ys
end Go.Proofs.Ytinjeocfnhhlmaa
