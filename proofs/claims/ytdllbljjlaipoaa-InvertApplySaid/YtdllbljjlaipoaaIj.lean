/-
  Contract of the laws' metaOf: a meta with variables as its Args. No statement is proved here.
-/
import Derived.Test.YtdllbljjlaipoaaIb
import Derived.Test.YtdllbljjlaipoaaLast
import Derived.Test.YtdllbljjlaipoaaRq
import Derived.Deep.AppendLies
import Derived.Deep.RegionHeld3
namespace Go.Proofs.Ytdllbljjlaipoaa
open Go.ChangeShapes Go.WideShapes Go.ChangeAt Go.RowKit
set_option linter.unusedVariables false

/-- variables as cells -/
def rowV (vs : List Int) : List Value := vs.flatMap fun v => [.int .i64 4, .int .i64 v, .slice none 0 0]
theorem rowV_snoc (vs : List Int) (v : Int) : rowV (vs ++ [v]) = rowV vs ++ [.int .i64 4, .int .i64 v, .slice none 0 0] := by simp [rowV]
theorem rowV_at : ∀ {vs : List Int} {i : Nat} {v : Int}, vs[i]? = some v → (rowV vs)[i * 3]? = some (.int .i64 4) ∧ (rowV vs)[i * 3 + 1]? = some (.int .i64 v) ∧ (rowV vs)[i * 3 + 2]? = some (.slice none 0 0)
  | x :: vs, 0, v, h => by cases h; exact ⟨rfl, rfl, rfl⟩
  | x :: vs, i + 1, v, h => by
    have := rowV_at (vs := vs) (i := i) (v := v) (by simpa using h)
    have e : ∀ q, (rowV (x :: vs))[i * 3 + q + 3]? = (rowV vs)[i * 3 + q]? := fun q => rfl
    have e0 : (i + 1) * 3 = i * 3 + 3 := by omega
    rw [e0]
    exact ⟨(e 0).trans this.1, (e 1).trans this.2.1, (e 2).trans this.2.2⟩
/-- a row of variables reads as terms -/
theorem rowV_rd {w : World} {base : Nat} {A : Option Addr} {n c : Nat} {vs : List Int} (h : w.ownsRow base 24 3 (.slice A n c) n (rowV vs)) (hn : vs.length = n) (hw : ∀ v ∈ vs, (Lit.int .i64 v).wf = true) :
    n ≤ c ∧ c ≤ maxLen ∧ ∀ i t, (vrs vs)[i]? = some t → RdAt w A i t := by
  rcases h.2 with ⟨e, h0⟩ | ⟨g, cap, cur, e, _, hb, h1, h2, h3, h4⟩
  · simp only [Value.slice.injEq] at e
    obtain ⟨rfl, _, rfl⟩ := e
    refine ⟨by omega, Nat.zero_le _, fun i t ht => ?_⟩
    rw [List.length_eq_zero_iff.1 (hn.trans h0)] at ht
    simp [vrs] at ht
  · simp only [Value.slice.injEq] at e
    obtain ⟨rfl, _, rfl⟩ := e
    refine ⟨h1, h2, fun i t ht => ?_⟩
    have hi : i < vs.length := by have := (List.getElem?_eq_some_iff.1 ht).1; simpa [vrs_len] using this
    obtain ⟨v, hv⟩ : ∃ v, vs[i]? = some v := ⟨_, List.getElem?_eq_getElem hi⟩
    have e2 := vrs_at hv
    rw [ht] at e2
    cases e2
    obtain ⟨r0, r1, r2⟩ := rowV_at hv
    have cc : ∀ q x, q < n * 3 → (rowV vs)[q]? = some x → w.cell? ⟨g, 0 + q, none⟩ = some x := fun q x hq hx => by
      rw [← h4, List.getElem?_take_of_lt hq, Array.getElem?_toList] at hx
      simp only [World.cell?, hb, Nat.zero_add]
      simpa using hx
    refine ⟨g, 0, .int .i64 4, .int .i64 v, .slice none 0 0, rfl, cc _ _ (by omega) r0, ?_, ?_, ?_⟩
    · rw [Nat.add_assoc]; exact cc _ _ (by omega) r1
    · rw [Nat.add_assoc]; exact cc _ _ (by omega) r2
    · exact Rd_node.2 ⟨none, 0, 0, rfl, by decide, hw v (List.mem_of_getElem? hv), rfl, Nat.le_refl _, Nat.zero_le _, fun i t h => by simp at h⟩

/-- what a round reads -/
def SMo (z bV oV : Nat) (s : Value) (j : Nat) (v : Int) (w' : World) : Prop := w'.cell? ⟨z + 1, 2, none⟩ = some s ∧ w'.cell? ⟨bV, oV + j, none⟩ = some (.int .i64 v)
/-- what holds at the head of the loop -/
structure MoI (vs : List Int) (w : World) (j : Nat) (wr : World) (Av : Option Addr) (cv : Nat) : Prop where
  res : Box wr w.heap.size 24 #[.int .i64 0, .int .i64 0, .slice none 0 0]
  out : Box wr (w.heap.size + 1) 24 #[.int .i64 6, .int .i64 0, .slice Av j cv]
  row : wr.ownsRow (w.heap.size + 2) 24 3 (.slice Av j cv) j (rowV (vs.take j))
  below : Below w.heap.size w wr

set_option maxRecDepth 100000 in
set_option maxHeartbeats 8000000 in
theorem metaOfC (vs : List Int) (V0 : Option Addr) (nv c0v : Nat) (w : World) (hnv : vs.length = nv) (hnc : nv ≤ c0v) (hnm : c0v ≤ maxLen) (hn4 : nv ≤ 100000000) (hx : ∀ i z, vs[i]? = some z → ∃ b o, V0 = some ⟨b, o, none⟩ ∧ w.cell? ⟨b, o + i, none⟩ = some (.int .i64 z)) (hwf : ∀ v ∈ vs, (Lit.int .i64 v).wf = true) :
    Calls Try.prog 18 #[.slice V0 nv c0v] w fun e w' => ∃ A c, e = .returned (.agg #[.int .i64 6, .int .i64 0, .slice A nv c]) ∧ nv ≤ c ∧ c ≤ maxLen ∧ (∀ i t, (vrs vs)[i]? = some t → RdAt w' A i t) ∧ Below w.heap.size w w' := by
  unfold maxLen at hnm
  have HX := Lib.hid hx; clear hx
  have HN := Lib.hid hnv; clear hnv
  have HWF := Lib.hid hwf; clear hwf
  obtain ⟨W, hW⟩ : ∃ W, (w.alloc (.cells #[.int .i64 0, .int .i64 0, .slice none 0 0] 24)).alloc (.cells #[.int .i64 6, .int .i64 0, .slice none 0 0] 24) = W := ⟨_, rfl⟩
  have HI : Hid (MoI vs w 0 W none 0) := Lib.hid ⟨by rw [← hW]; exact (Box.new _ _ _).alloc _, by rw [← hW]; exact (Box.new (w.alloc _) _ _).at (by simp), World.ownsRow_nil _ _ _ _, by rw [← hW]; exact ((Below.refl _ _).alloc (Nat.le_refl _) _).alloc (by simp) _⟩
  have HW := Lib.hid hW; clear hW
  go_enter Try.func18, Try.ntmps18
  go_wp2_with fail
  rw [HW.out]
  clear HW
  go_loopw [4] (fun i wr => ∃ (j : Nat) (Av : Option Addr) (cv : Nat), j ≤ nv ∧ i = .int .i64 j ∧ Hid (MoI vs w j wr Av cv)) (fun i _ => nv - (Go.RowKit.intOf i).toNat)
  case atStart => exact ⟨0, none, 0, Nat.zero_le _, rfl, HI⟩
  case round =>
    clear HI
    obtain ⟨j, Av, cv, hj, rfl, HI⟩ := hrel
    obtain ⟨r0, r1, r2⟩ := HI.out.out.three
    have hbr := HI.out.below
    by_cases hlt : j < nv
    · obtain ⟨v, hv⟩ := at_of HN.out hlt
      obtain ⟨bV, oV, rfl, hc0⟩ := HX.out j v hv
      have HV := Lib.hid hv; clear hv
      have lV := cell_lt hc0
      dsimp only at lV
      have hcv := (hbr.cell (cell_lt hc0)).trans hc0
      have hi0 : (0 : Int) ≤ j := by omega
      have hi1 : (j : Int) < nv := by omega
      have nb : ∀ g, g < w.heap.size + 2 → some g ≠ Value.ownBlock (.slice Av j cv) := fun g hg e => by
        have := (HI.out.row.lt g e.symm).1
        omega
      have NB := Lib.hid nb; clear nb
      go_wp2_with fail
      have HKS : Hid (∀ w' : World, (∀ g, g < wr.heap.size → some g ≠ Value.ownBlock (.slice Av j cv) → w'.heap[g]? = wr.heap[g]?) → SMo w.heap.size bV oV (.slice Av j cv) j v w') := Lib.hid fun w' hw' => by
        have l1 := HI.out.out.lt
        have m1 : ∀ q, w'.cell? ⟨w.heap.size + 1, q, none⟩ = wr.cell? ⟨w.heap.size + 1, q, none⟩ := fun q => World.cell?_of_block (hw' (w.heap.size + 1) l1 (NB.out (w.heap.size + 1) (by omega)))
        have mA : ∀ q, w'.cell? ⟨bV, q, none⟩ = wr.cell? ⟨bV, q, none⟩ := fun q => World.cell?_of_block (hw' bV (by have := hbr.size; omega) (NB.out bV (by omega)))
        exact ⟨(m1 _).trans r2, (mA _).trans hcv⟩
      have hS := HKS.out wr.drew fun g _ _ => rfl
      refine wp_region_cut rfl (by kernel_rfl) (by kernel_rfl) ?_
      refine wpAny_of_held (S := SMo w.heap.size bV oV (.slice Av j cv) j v) _ _ _ _ ?_
      simp only [List.pop_toArray, List.dropLast, List.size_toArray, List.length_cons, List.length_nil, Nat.reduceAdd, Nat.reduceSub]
      refine wpAnyH_take (i := 0) (v := .pointer (some ⟨w.heap.size + 1, 2, none⟩)) rfl (by kernel_rfl) (by kernel_rfl) (by kernel_rfl) (fun _ _ _ h => h) (Or.inl ⟨by rfl, ?_⟩) hS ?_
      · intro w' hSw
        obtain ⟨s0, s1⟩ := hSw
        go_simp
      simp only [Act.put, List.setIfInBounds_toArray]
      refine wpAnyH_take (i := 1) (v := .slice Av j cv) rfl (by kernel_rfl) (by kernel_rfl) (by kernel_rfl) (fun _ _ _ h => h) (Or.inl ⟨by rfl, ?_⟩) hS ?_
      · intro w' hSw
        obtain ⟨s0, s1⟩ := hSw
        go_simp
      simp only [Act.put]
      refine wpAnyH_take (i := 2) (v := .slice (some ⟨bV, oV, none⟩) nv c0v) rfl (by kernel_rfl) (by kernel_rfl) (by kernel_rfl) (fun _ _ _ h => h) (Or.inl ⟨by rfl, ?_⟩) hS ?_
      · intro w' hSw
        obtain ⟨s0, s1⟩ := hSw
        go_simp
      simp only [Act.put]
      refine wpAnyH_take (i := 3) (v := .int .i64 j) rfl (by kernel_rfl) (by kernel_rfl) (by kernel_rfl) (fun _ _ _ h => h) (Or.inl ⟨by rfl, ?_⟩) hS ?_
      · intro w' hSw
        obtain ⟨s0, s1⟩ := hSw
        go_simp
      simp only [Act.put]
      refine wpAnyH_take (i := 4) (v := .pointer (some ⟨bV, oV + j, none⟩)) rfl (by kernel_rfl) (by kernel_rfl) (by kernel_rfl) (fun _ _ _ h => h) (Or.inl ⟨by rfl, ?_⟩) hS ?_
      · intro w' hSw
        obtain ⟨s0, s1⟩ := hSw
        go_simp
      simp only [Act.put]
      refine wpAnyH_take (i := 5) (v := .int .i64 v) rfl (by kernel_rfl) (by kernel_rfl) (by kernel_rfl) (fun _ _ _ h => h) (Or.inl ⟨by rfl, ?_⟩) hS ?_
      · intro w' hSw
        obtain ⟨s0, s1⟩ := hSw
        go_simp
      simp only [Act.put]
      refine wpAnyH_take (i := 6) (v := .agg #[.int .i64 4, .int .i64 v, .slice none 0 0]) rfl (by kernel_rfl) (by kernel_rfl) (by kernel_rfl) (fun _ _ _ h => h) (Or.inl ⟨by rfl, ?_⟩) hS ?_
      · intro w' hSw
        obtain ⟨s0, s1⟩ := hSw
        go_simp
      simp only [Act.put]
      refine wpAnyH_ready (rs := [7]) (by kernel_rfl) (by simp) ?_
      refine AllReadyH.cons rfl (fun K hK => ?_) AllReadyH.nil
      go_simp
      have hbD : Below wr.heap.size wr (wr.drew.alloc (.cells #[.int .i64 4, .int .i64 v, .slice none 0 0] 24)) := (Below.refl _ wr).drew.alloc (Nat.le_refl _) _
      refine hK.out _ _ (HKS.out _ fun g hg _ => hbD.block g hg) (fun hS => ?_)
      clear hK K
      try simp only [Act.put, List.setIfInBounds_toArray, List.set_cons_zero, List.set_cons_succ]
      refine wpAnyH_ready (rs := [8]) (by kernel_rfl) (by simp) ?_
      refine AllReadyH.cons rfl (fun K hK => ?_) AllReadyH.nil
      obtain ⟨i0, hi, hz0, hz1, hz2⟩ := info_parts infoTerm
      refine step_append_lies (wr.drew.alloc (.cells #[.int .i64 4, .int .i64 v, .slice none 0 0] 24)) rfl (.tmp 13) (.tmp 19) 22 rfl (w.heap.size + 2) 24 i0 _ 3 40 Try.underlying22 hi hz0 hz1 hz2 rfl (by omega) (.slice Av j cv) j (rowV (vs.take j)) rfl (HI.out.row.kept (grown_of_below hbD) (own_none _)) ⟨wr.drew.heap.size, 0, none⟩ 1 1 [.int .i64 4, .int .i64 v, .slice none 0 0] rfl rfl (World.news_of_block (heap_alloc_new wr.drew _)) (by intro u hu; simp at hu; rcases hu with rfl | rfl | rfl <;> rfl) (by omega) (by unfold maxLen; omega) (by omega) (by have := hbD.size; have := HI.out.out.lt; omega) _ rfl ?_
      intro g cap w4 how4 hgr hg4 hlt4
      clear hi hz0 hz1 hz2 i0
      refine hK.out _ _ (HKS.out w4 fun g' hg' hne => (hgr.block g' (Nat.lt_of_lt_of_le hg' hbD.size) hne).trans (hbD.block g' hg')) (fun hS => ?_)
      clear hK K
      try simp only [Act.put, List.setIfInBounds_toArray]
      refine wpAnyH_take (i := 9) (v := .pointer (some ⟨w.heap.size + 1, 2, none⟩)) rfl (by kernel_rfl) (by kernel_rfl) (by kernel_rfl) (fun _ _ _ h => h) (Or.inl ⟨by rfl, ?_⟩) hS ?_
      · intro w' hSw
        obtain ⟨s0, s1⟩ := hSw
        go_simp
      simp only [Act.put]
      refine wpAnyH_done (by kernel_rfl) ?_ _
      show wpList _ _ _ _ _ _
      have hds : wr.drew.heap.size = wr.heap.size := rfl
      have hw4 : ∀ g', g' < wr.heap.size → some g' ≠ Value.ownBlock (.slice Av j cv) → w4.heap[g']? = wr.heap[g']? := fun g' hg' hne => (hgr.block g' (Nat.lt_of_lt_of_le hg' hbD.size) hne).trans (hbD.block g' hg')
      have z1 : Box w4 w.heap.size _ _ := (hw4 _ HI.out.res.lt (NB.out _ (by omega))).trans HI.out.res
      have z2 : Box w4 (w.heap.size + 1) _ _ := (hw4 _ HI.out.out.lt (NB.out _ (by omega))).trans HI.out.out
      have hb4 : Below w.heap.size w w4 := below_grown (hbr.trans (hbD.mono hbr.size)) hgr (fun r hr => by have := (HI.out.row.lt r hr).1; omega) (by have := hbD.size; have := hbr.size; omega)
      have hg6 : w.heap.size + 2 ≤ g := by
        rcases hg4 with h4 | h4
        · exact (HI.out.row.lt g h4).1
        · have h5 : g = wr.heap.size + 1 := by simpa using h4
          have := HI.out.out.lt
          omega
      have hrow5 : (w4.setCell ⟨w.heap.size + 1, 2, none⟩ (.slice (some ⟨g, 0, none⟩) (j + 1) cap)).ownsRow (w.heap.size + 2) 24 3 (.slice (some ⟨g, 0, none⟩) (j + 1) cap) (j + 1) (rowV (vs.take (j + 1))) := by
        have e : rowV (vs.take (j + 1)) = rowV (vs.take j) ++ [.int .i64 4, .int .i64 v, .slice none 0 0] := by
          have hjl := (List.getElem?_eq_some_iff.1 HV.out).1
          have ev := (List.getElem?_eq_some_iff.1 HV.out).2
          rw [List.take_succ_eq_append_getElem hjl, ev, rowV_snoc]
        rw [e]
        exact how4.kept (grown_set w4 ⟨w.heap.size + 1, 2, none⟩ _) (.inr (by simp [Value.ownBlock]; omega))
      have HJ : Hid (MoI vs w (j + 1) (w4.setCell ⟨w.heap.size + 1, 2, none⟩ (.slice (some ⟨g, 0, none⟩) (j + 1) cap)) (some ⟨g, 0, none⟩) cap) := Lib.hid
        ⟨z1.other (by dsimp only; omega) _, by simpa using z2.setAt 2 (.slice (some ⟨g, 0, none⟩) (j + 1) cap), hrow5, hb4.setCell (by dsimp only; omega) _⟩
      obtain ⟨q0, q1, q2⟩ := z2.three
      have f2 := z2.frozen 2
      have l4 := z2.lt
      clear hrow5 how4 hgr hg4 hb4 hbD hw4 z1 z2 hS hcv hc0 r0 r1 r2
      go_wp2_with fail
      go_roundw
      case rel => exact ⟨j + 1, some ⟨g, 0, none⟩, cap, by omega, by go_num, HJ⟩
      case measure => simp [Go.RowKit.intOf]; omega
    · obtain rfl : j = nv := by omega
      obtain ⟨s0, s1, s2⟩ := HI.out.res.three
      have f0 := HI.out.res.frozen 0
      have f1 := HI.out.res.frozen 1
      have f2 := HI.out.res.frozen 2
      have lr := HI.out.res.lt
      have lo := HI.out.out.lt
      go_wp2_with fail
      refine bodyPost_ret (v := .agg #[.int .i64 6, .int .i64 0, .slice Av j cv]) (by simp [results, Try.results18, go_sem, s0, s1, s2]) rfl ?_
      have hrow := HI.out.row.kept (grown_set3 wr w.heap.size (.int .i64 6) (.int .i64 0) (.slice Av j cv)) (.inr fun e => by have := (HI.out.row.lt _ e).1; omega)
      rw [List.take_of_length_le (by rw [HN.out]; exact Nat.le_refl _)] at hrow
      obtain ⟨h1, h2, h3⟩ := rowV_rd hrow HN.out HWF.out
      exact ⟨Av, cv, rfl, h1, h2, h3, below_set3 hbr (Nat.le_refl _) _ _ _⟩
end Go.Proofs.Ytdllbljjlaipoaa
