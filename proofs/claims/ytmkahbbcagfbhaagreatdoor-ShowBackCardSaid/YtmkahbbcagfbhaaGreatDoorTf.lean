/-
  Contract of package term's Scoped.
-/
import Derived.Test.YtmkahbbcagfbhaaGreatDoorTe
namespace Go.Proofs.YtmkahbbcagfbhaaGreatDoor
open Go.ChangeShapes Go.WideShapes Go.ChangeAt Go.RowKit Go.Shelf
set_option linter.unusedVariables false

attribute [local go_sem] Oper.semAt_some

/-- is one node in scope? -/
def scT (vars metas : Int) (x : Key) : Bool := !(x.k == 4 && decide (wrap64 (vars + x.b) ≤ x.h)) && !(x.k == 6 && decide (metas ≤ x.h))
theorem all_prefix {p : Key → Bool} {ks ls : List Key} (h : ks <+: ls) (hf : ks.all p = false) : ls.all p = false := by
  obtain ⟨r, rfl⟩ := h
  rw [List.all_append, hf, Bool.false_and]
/-- are all in scope that have come? -/
def scAll (vars metas : Int) (pre : List Nd) : Bool := (pre.map Nd.key).all (scT vars metas)
theorem all_snoc (p : Key → Bool) (pre : List Nd) (x : Nd) (h : (pre.map Nd.key).all p = true) : ((pre ++ [x]).map Nd.key).all p = p x.key := by
  rw [List.map_append, List.all_append, h, Bool.true_and]; simp

set_option maxRecDepth 100000 in
set_option maxHeartbeats 4000000 in
theorem termScoped (t : T) (vars metas : Int) (v : Value) (w : World) (hv : Rd w t v) :
    Calls Tryz.prog 34 #[v, .int .i64 vars, .int .i64 metas] w fun e w' => e = .returned (.bool ((flat t 1 0).all (scT vars metas))) ∧ Below w.heap.size w w' := by
  obtain ⟨k, h, A, n, c, rfl⟩ := hv.full
  have HV := Lib.hid hv; clear hv
  refine (callsIn_wide (n := 8)).1 (callsIn_of_wp_marks Tryz.func34 rfl trivial ?_ rfl)
  simp only [Tryz.ntmps34, List.size_toArray, List.length_cons, List.length_nil, Nat.reduceAdd, Nat.reduceSub, Array.replicate_succ, Array.replicate_zero, List.push_toArray, List.append_toArray, List.nil_append, List.cons_append]
  gi_wp2_with (refine ⟨trivial, ?_⟩; gi_at_call 52; refine (callsIn_wide.2 (nodesC k h _ ⟨A, n, c, rfl⟩ _)).mono ?_; rintro e w' ⟨rfl, rfl⟩)
  obtain ⟨W0, hW0⟩ : ∃ W0, (((((w.alloc (.cells #[.int .i64 k, .int .i64 h, .slice A n c] 36)).alloc (.cells #[.int .i64 vars] 3)).alloc (.cells #[.int .i64 metas] 3)).alloc (.cells #[.bool false] 4)).alloc (.cells #[.int .i64 k, .int .i64 h, .slice A n c] 36)) = W0 := ⟨_, rfl⟩
  rw [hW0]
  have hbW : Below w.heap.size w W0 := by
    rw [← hW0]; exact (((((Below.refl _ w).alloc (Nat.le_refl _) _).alloc (by simp) _).alloc (by simp; omega) _).alloc (by simp; omega) _).alloc (by simp; omega) _
  have bx1 : Box W0 (w.heap.size + 1) 3 #[.int .i64 vars] := by
    rw [← hW0]; exact ((((Box.new (w.alloc _) _ _).at (b' := w.heap.size + 1) (by simp)).alloc _).alloc _).alloc _
  have bx2 : Box W0 (w.heap.size + 1 + 1) 3 #[.int .i64 metas] := by
    rw [← hW0]; exact (((Box.new ((w.alloc _).alloc _) _ _).at (b' := w.heap.size + 1 + 1) (by simp)).alloc _).alloc _
  have bx3 : Box W0 (w.heap.size + 1 + 1 + 1) 4 #[.bool false] := by
    rw [← hW0]; exact ((Box.new (((w.alloc _).alloc _).alloc _) _ _).at (b' := w.heap.size + 1 + 1 + 1) (by simp)).alloc _
  have bx4 : Box W0 (w.heap.size + 1 + 1 + 1 + 1) 36 #[.int .i64 k, .int .i64 h, .slice A n c] := by
    rw [← hW0]; exact (Box.new ((((w.alloc _).alloc _).alloc _).alloc _) _ _).at (b' := w.heap.size + 1 + 1 + 1 + 1) (by simp)
  clear hW0
  have hl := bx4.lt
  refine wpIn_rangeFunc_ownH rfl (by omega) (gf := 75) (lb := #[.pointer (some ⟨w.heap.size + 1 + 1 + 1 + 1, 0, none⟩)]) rfl trivial (enters_of Tryz.func75 (by kernel_rfl) rfl)
    (nodesStops 7 w W0 t k h _ (w.heap.size + 1 + 1 + 1 + 1) (w.heap.size + 1 + 1 + 1 + 1) HV.out hbW (by omega) (by omega) bx4) KB.trans (fun W l o o' _ h1 h2 _ => KB.putObj W l o o' h1 h2) (Below.refl _ _) (fun _ => rfl)
    (fun pre W => Box W (w.heap.size + 1) 3 #[.int .i64 vars] ∧ Box W (w.heap.size + 1 + 1) 3 #[.int .i64 metas] ∧ Box W (w.heap.size + 1 + 1 + 1) 4 #[.bool false] ∧ Hid (scAll vars metas pre = true) ∧ Below w.heap.size w W)
    (fun cd pre W => cd = .ret ∧ Box W (w.heap.size + 1 + 1 + 1) 4 #[.bool false] ∧ Hid (scAll vars metas pre = false) ∧ Below w.heap.size w W)
    (fun s A B row hs hg hr => ⟨hs.1.kept hg hr, hs.2.1.kept hg hr, hs.2.2.1.kept hg hr, hs.2.2.2.1, below_kept hs.2.2.2.2 hg hr (by omega) hs.2.2.2.2.size⟩)
    (fun _ s A B row hs hg hr => ⟨hs.1, hs.2.1.kept hg hr, hs.2.2.1, below_kept hs.2.2.2 hg hr (by omega) hs.2.2.2.size⟩) ⟨bx1, bx2, bx3, Lib.hid rfl, hbW⟩
    (fun x a' W => ∃ Bx By, w.heap.size + 1 + 1 + 1 + 1 ≤ Bx ∧ w.heap.size + 1 + 1 + 1 + 1 ≤ By ∧ Box W Bx 93 #[.int .i64 x.d, .int .i64 x.b] ∧ Box W By 36 #[.int .i64 x.k, .int .i64 x.h, .slice x.A x.n x.c] ∧
      a' = { tmps := #[.agg #[.int .i64 k, .int .i64 h, .slice A n c], .int .i64 vars, .int .i64 metas, .pointer (some ⟨w.heap.size, 0, none⟩), .pointer (some ⟨w.heap.size + 1, 0, none⟩), .pointer (some ⟨w.heap.size + 1 + 1, 0, none⟩), .pointer (some ⟨w.heap.size + 1 + 1 + 1, 0, none⟩), .pointer (some ⟨Bx, 0, none⟩), .pointer (some ⟨By, 0, none⟩), .agg #[.int .i64 k, .int .i64 h, .slice A n c],
        .func (.func 75) #[] #[.pointer (some ⟨w.heap.size + 1 + 1 + 1 + 1, 0, none⟩)], .agg #[.int .i64 x.d, .int .i64 x.b], .agg #[.int .i64 x.k, .int .i64 x.h, .slice x.A x.n x.c], undef, undef, undef, undef, undef, undef, undef, undef, undef, undef, undef, undef, undef, undef, undef, undef, undef, undef, undef, undef, undef], defers := [] })
    (fun _ _ _ A B row hs hg hr => by obtain ⟨Bx, By, h1, h2, h3, h4, h5⟩ := hs; exact ⟨Bx, By, h1, h2, h3.kept hg hr, h4.kept hg hr, h5⟩) ?assign ?body ?done ?stop
  case assign =>
    rintro l pre x W K ⟨hb1, hb2, hb3, hM, hB⟩ hK
    have hz := hb3.lt
    have e := hB.size
    simp only [encN, List.zip_toArray, List.zip_cons_cons, List.zip_nil_right, List.foldl_toArray, List.foldl_cons, List.foldl_nil, List.setIfInBounds_toArray, List.set_cons_succ, List.set_cons_zero]
    gi_wp2
    have hbA : Below W.heap.size W ((W.alloc (.cells #[.int .i64 x.d, .int .i64 x.b] 93)).alloc (.cells #[.int .i64 x.k, .int .i64 x.h, .slice x.A x.n x.c] 36)) := ((Below.refl _ _).alloc (Nat.le_refl _) _).alloc (by simp) _
    exact hK _ _ (keepsFrom_of_below hbA) (KB.of_below hbA) ⟨(hb1.alloc _).alloc _, (hb2.alloc _).alloc _, (hb3.alloc _).alloc _, hM, hB.trans (hbA.mono hB.size)⟩ ⟨W.heap.size, W.heap.size + 1, by omega, by omega, (Box.new _ _ _).alloc _, (Box.new (W.alloc _) _ _).at (by simp), rfl⟩
  case body =>
    rintro l pre x a' W hl ⟨r, hr⟩ ⟨hb1, hb2, hb3, hM, hB⟩ ⟨Bx, By, hBx, hBy, hbp, hbn, rfl⟩ _
    have HS : Hid (scAll vars metas (pre ++ [x]) = scT vars metas x.key) := Lib.hid (all_snoc (scT vars metas) pre x hM.out)
    obtain ⟨c1, f1⟩ := hb1.one
    obtain ⟨c2, f2⟩ := hb2.one
    obtain ⟨c3, f3⟩ := hb3.one
    obtain ⟨p0, p1⟩ := hbp.two
    obtain ⟨q0, q1, q2⟩ := hbn.three
    obtain ⟨xd, xb, xk, xh, xA, xn, xcap, xhc, xhm⟩ := x
    dsimp only [Nd.key, scT] at *
    have cs : xk = 4 ∨ xk = 6 ∨ (xk ≠ 4 ∧ xk ≠ 6) := by omega
    rcases cs with rfl | rfl | ⟨k4, k6⟩
    · by_cases h4 : wrap64 (vars + xb) ≤ xh
      · have d4 : decide (wrap64 (vars + xb) ≤ xh) = true := by simpa using h4
        gi_wp2_with fail
        exact ⟨(KeepsOthers.setCell _ _ _).from _, rfl, hb3.set _, Lib.hid (by rw [HS.out, d4]; rfl), hB.setCell (by dsimp only; omega) _⟩
      · have d4 : decide (wrap64 (vars + xb) ≤ xh) = false := by simpa using h4
        gi_wp2_with fail
        exact ⟨KeepsFrom.refl _ _, KB.refl _ _ _, hb1, hb2, hb3, Lib.hid (by rw [HS.out, d4]; rfl), hB⟩
    · by_cases h6 : metas ≤ xh
      · have d6 : decide (metas ≤ xh) = true := by simpa using h6
        gi_wp2_with fail
        exact ⟨(KeepsOthers.setCell _ _ _).from _, rfl, hb3.set _, Lib.hid (by rw [HS.out, d6]; rfl), hB.setCell (by dsimp only; omega) _⟩
      · have d6 : decide (metas ≤ xh) = false := by simpa using h6
        gi_wp2_with fail
        exact ⟨KeepsFrom.refl _ _, KB.refl _ _ _, hb1, hb2, hb3, Lib.hid (by rw [HS.out, d6]; rfl), hB⟩
    · have e4 : (xk == 4) = false := by simpa using k4
      have e6 : (xk == 6) = false := by simpa using k6
      clear k4 k6
      gi_wp2_with fail
      exact ⟨KeepsFrom.refl _ _, KB.refl _ _ _, hb1, hb2, hb3, Lib.hid (by rw [HS.out, e4, e6]; rfl), hB⟩
  case done =>
    rintro D ys W hD hS ⟨hb1, hb2, hb3, hM, hB⟩ hK
    obtain ⟨c3, f3⟩ := hb3.one
    gi_wp2
    have b1' := hb3.set (.bool true)
    have hK' := (KeepsOthers.setCell W ⟨w.heap.size + 1 + 1 + 1, 0, none⟩ (.bool true)).same D _ hK rfl
    have hB' := below_putObj (hB.setCell (p := ⟨w.heap.size + 1 + 1 + 1, 0, none⟩) (by dsimp only; omega) (.bool true)) (show w.heap.size ≤ D by omega) (.deferred none)
    have e := (b1'.kept (B := 0) (grownBy_putObj' _ D (.deferred none)) (fun r e => by cases e; exact ⟨Nat.zero_le _, _, hK', rfl⟩)).one
    refine ⟨by simp, .inl ⟨_, _, rfl, run_takeDeferred hK', ?_⟩⟩
    refine ⟨.bool true, by simp [results, Tryz.results34, go_sem, e.1], by rw [← hS]; exact congrArg (fun b => Ending.returned (.bool b)) hM.out.symm, hB'⟩
  case stop =>
    rintro D cd pre W hD hS ⟨rfl, hb3, hM, hB⟩ hK
    obtain ⟨c3, f3⟩ := hb3.one
    gi_wp2
    have hB' := below_putObj hB (show w.heap.size ≤ D by omega) (.deferred none)
    have e := (hb3.kept (B := 0) (grownBy_putObj' _ D (.deferred none)) (fun r e => by cases e; exact ⟨Nat.zero_le _, _, hK, rfl⟩)).one
    refine ⟨by simp, .inl ⟨_, _, rfl, run_takeDeferred hK, ?_⟩⟩
    exact ⟨.bool false, by simp [results, Tryz.results34, go_sem, e.1], by rw [all_prefix hS hM.out], hB'⟩
end Go.Proofs.YtmkahbbcagfbhaaGreatDoor
