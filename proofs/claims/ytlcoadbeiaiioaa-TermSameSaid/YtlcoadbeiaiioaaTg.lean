/-
  Contract of package term's Depth.
-/
import Derived.Test.YtlcoadbeiaiioaaTd
namespace Go.Proofs.Ytlcoadbeiaiioaa
open Go.ChangeShapes Go.WideShapes Go.ChangeAt Go.RowKit Go.Shelf
set_option linter.unusedVariables false

attribute [local go_sem] Oper.semAt_some

set_option maxRecDepth 100000 in
set_option maxHeartbeats 2000000 in
theorem termDepth (t : T) (v : Value) (w : World) (hv : Rd w t v) :
    Calls Try.prog 21 #[v] w fun e w' => e = .returned (.int .i64 (maxD (flat t 1 0))) ∧ Below w.heap.size w w' := by
  obtain ⟨k, h, A, n, c, rfl⟩ := hv.full
  have HV := Lib.hid hv; clear hv
  refine (callsIn_wide (n := 8)).1 (callsIn_of_wp_marks Try.func21 rfl trivial ?_ rfl)
  simp only [Try.ntmps21, List.size_toArray, List.length_cons, List.length_nil, Nat.reduceAdd, Nat.reduceSub, Array.replicate_succ, Array.replicate_zero, List.push_toArray, List.append_toArray, List.nil_append, List.cons_append]
  gi_wp2_with (refine ⟨trivial, ?_⟩; gi_at_call 36; refine (callsIn_wide.2 (nodesC k h _ ⟨A, n, c, rfl⟩ _)).mono ?_; rintro e w' ⟨rfl, rfl⟩)
  have hbW : Below w.heap.size w (((w.alloc (.cells #[.int .i64 k, .int .i64 h, .slice A n c] 24)).alloc (.cells #[.int .i64 0] 3)).alloc (.cells #[.int .i64 k, .int .i64 h, .slice A n c] 24)) :=
    ((((Below.refl _ w).alloc (Nat.le_refl _) _).alloc (by simp) _).alloc (by simp; omega) _)
  have bx1 : Box (((w.alloc (.cells #[.int .i64 k, .int .i64 h, .slice A n c] 24)).alloc (.cells #[.int .i64 0] 3)).alloc (.cells #[.int .i64 k, .int .i64 h, .slice A n c] 24)) (w.heap.size + 1) 3 #[.int .i64 0] :=
    ((Box.new (w.alloc _) _ _).at (b' := w.heap.size + 1) (by simp)).alloc _
  have bx2 : Box (((w.alloc (.cells #[.int .i64 k, .int .i64 h, .slice A n c] 24)).alloc (.cells #[.int .i64 0] 3)).alloc (.cells #[.int .i64 k, .int .i64 h, .slice A n c] 24)) (w.heap.size + 1 + 1) 24 #[.int .i64 k, .int .i64 h, .slice A n c] :=
    (Box.new ((w.alloc _).alloc _) _ _).at (b' := w.heap.size + 1 + 1) (by simp)
  generalize (((w.alloc (.cells #[.int .i64 k, .int .i64 h, .slice A n c] 24)).alloc (.cells #[.int .i64 0] 3)).alloc (.cells #[.int .i64 k, .int .i64 h, .slice A n c] 24)) = W0 at *
  have hl := bx2.lt
  refine wpIn_rangeFunc_ownH rfl (by omega) (gf := 45) (lb := #[.pointer (some ⟨w.heap.size + 1 + 1, 0, none⟩)]) rfl trivial (enters_of Try.func45 (by kernel_rfl) rfl)
    (nodesStops 7 w W0 t k h _ (w.heap.size + 2) (w.heap.size + 1 + 1) HV.out hbW (by omega) (by omega) bx2) KB.trans (fun W l o o' _ h1 h2 _ => KB.putObj W l o o' h1 h2) (Below.refl _ _) (fun _ => rfl)
    (fun pre W => Box W (w.heap.size + 1) 3 #[.int .i64 (maxD (pre.map Nd.key))] ∧ Below w.heap.size w W) (fun _ _ _ => False)
    (fun s A B row hs hg hr => ⟨hs.1.kept hg hr, below_kept hs.2 hg hr (by omega) hs.2.size⟩) (fun _ _ _ _ _ hs _ _ => hs) ⟨bx1, hbW⟩
    (fun x a' W => ∃ Bx, w.heap.size + 2 ≤ Bx ∧ Box W Bx 41 #[.int .i64 x.d, .int .i64 x.b] ∧ a' = { tmps := #[.agg #[.int .i64 k, .int .i64 h, .slice A n c], .pointer (some ⟨w.heap.size, 0, none⟩), .int .i64 0, .pointer (some ⟨w.heap.size + 1, 0, none⟩), .pointer (some ⟨Bx, 0, none⟩), .agg #[.int .i64 k, .int .i64 h, .slice A n c],
        .func (.func 45) #[] #[.pointer (some ⟨w.heap.size + 1 + 1, 0, none⟩)], .agg #[.int .i64 x.d, .int .i64 x.b], .agg #[.int .i64 x.k, .int .i64 x.h, .slice x.A x.n x.c], undef, undef, undef, undef, undef], defers := [] })
    (fun _ _ _ A B row hs hg hr => by obtain ⟨Bx, h1, h2, h3⟩ := hs; exact ⟨Bx, h1, h2.kept hg hr, h3⟩) ?assign ?body ?done ?stop
  case assign =>
    rintro l pre x W K ⟨hbx, hB⟩ hK
    have e := hB.size
    have hz := hbx.lt
    simp only [encN, List.zip_toArray, List.zip_cons_cons, List.zip_nil_right, List.foldl_toArray, List.foldl_cons, List.foldl_nil, List.setIfInBounds_toArray, List.set_cons_succ, List.set_cons_zero]
    gi_wp2
    have hbA : Below W.heap.size W (W.alloc (.cells #[.int .i64 x.d, .int .i64 x.b] 41)) := (Below.refl _ _).alloc (Nat.le_refl _) _
    exact hK _ _ (keepsFrom_of_below hbA) (KB.of_below hbA) ⟨hbx.alloc _, hB.trans (hbA.mono hB.size)⟩ ⟨W.heap.size, by omega, Box.new _ _ _, rfl⟩
  case body =>
    rintro l pre x a' W hl ⟨r, hr⟩ ⟨hbx, hB⟩ ⟨Bx, hBx, hbp, rfl⟩ _
    have c0 := hbx.cell 0
    have f0 := hbx.frozen 0
    simp only [List.getElem?_toArray, List.getElem?_cons_zero] at c0
    obtain ⟨p0, p1⟩ := hbp.two
    have hm : maxD ((pre ++ [x]).map Nd.key) = if maxD (pre.map Nd.key) < x.d then x.d else maxD (pre.map Nd.key) := by rw [List.map_append, maxD, List.foldl_append]; rfl
    have HM := Lib.hid hm; clear hm
    gi_wp2
    all_goals
      refine ⟨(KeepsOthers.setCell _ _ _).from _, KB.setCell _ _ _ ⟨by dsimp only; omega, by dsimp only; omega⟩, ?_, hB.setCell (by dsimp only; omega) _⟩
      rw [HM.out]
      first
        | (rw [if_pos (by omega)]; exact hbx.set _)
        | (rw [if_neg (by omega)]; exact hbx.set _)
  case done =>
    rintro D ys W hD hS ⟨hbx, hB⟩ hK
    have c0 := hbx.cell 0
    simp only [List.getElem?_toArray, List.getElem?_cons_zero] at c0
    gi_wp2
    refine ⟨by simp, .inl ⟨_, _, rfl, run_takeDeferred hK, ?_⟩⟩
    exact ⟨_, results_tmp rfl _ _ _, by rw [← hS]; rfl, below_putObj hB (by omega) _⟩
  case stop =>
    rintro D c pre W _ _ h _
    exact h.elim
end Go.Proofs.Ytlcoadbeiaiioaa
