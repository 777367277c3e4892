/-
  Contracts of package term's May and Scoped.
-/
import Derived.Test.YtmkahbbcagfbhaaGreatDoorTd
namespace Go.Proofs.YtmkahbbcagfbhaaGreatDoor
open Go.ChangeShapes Go.WideShapes Go.ChangeAt Go.RowKit Go.Shelf
set_option linter.unusedVariables false

attribute [local go_sem] Oper.semAt_some

theorem Box.one {w : World} {b : Nat} {ty : TypeId} {x : Value} (h : Box w b ty #[x]) : w.cell? ⟨b, 0, none⟩ = some x ∧ w.frozen? ⟨b, 0, none⟩ = false := ⟨h.cell 0, h.frozen 0⟩
theorem mayK_snoc (ks : List Key) (x : Key) : mayK (ks ++ [x]) = (mayK ks && decide (ks.length < 4000) && okK x) := by
  simp only [mayK, List.length_append, List.all_append, List.length_cons, List.length_nil, List.all_cons, List.all_nil, Bool.and_true]
  rw [Bool.eq_iff_iff]
  simp only [Bool.and_eq_true, decide_eq_true_eq]
  constructor
  · rintro ⟨h1, h2, h3⟩; exact ⟨⟨⟨by omega, h2⟩, by omega⟩, h3⟩
  · rintro ⟨⟨⟨h1, h2⟩, h4⟩, h3⟩; exact ⟨by omega, h2, h3⟩

set_option maxRecDepth 100000 in
set_option maxHeartbeats 4000000 in
theorem termMay (t : T) (v : Value) (w : World) (hv : Rd w t v) :
    Calls Tryz.prog 33 #[v] w fun e w' => e = .returned (.bool (mayK (flat t 1 0))) ∧ Below w.heap.size w w' := by
  obtain ⟨k, h, A, n, c, rfl⟩ := hv.full
  have HV := Lib.hid hv; clear hv
  refine (callsIn_wide (n := 8)).1 (callsIn_of_wp_marks Tryz.func33 rfl trivial ?_ rfl)
  simp only [Tryz.ntmps33, List.size_toArray, List.length_cons, List.length_nil, Nat.reduceAdd, Nat.reduceSub, Array.replicate_succ, Array.replicate_zero, List.push_toArray, List.append_toArray, List.nil_append, List.cons_append]
  gi_wp2_with (refine ⟨trivial, ?_⟩; gi_at_call 52; refine (callsIn_wide.2 (nodesC k h _ ⟨A, n, c, rfl⟩ _)).mono ?_; rintro e w' ⟨rfl, rfl⟩)
  obtain ⟨W0, hW0⟩ : ∃ W0, ((((w.alloc (.cells #[.int .i64 k, .int .i64 h, .slice A n c] 36)).alloc (.cells #[.bool false] 4)).alloc (.cells #[.int .i64 0] 3)).alloc (.cells #[.int .i64 k, .int .i64 h, .slice A n c] 36)) = W0 := ⟨_, rfl⟩
  rw [hW0]
  have hbW : Below w.heap.size w W0 := by
    rw [← hW0]; exact ((((Below.refl _ w).alloc (Nat.le_refl _) _).alloc (by simp) _).alloc (by simp; omega) _).alloc (by simp; omega) _
  have bx1 : Box W0 (w.heap.size + 1) 4 #[.bool false] := by
    rw [← hW0]; exact (((Box.new (w.alloc _) _ _).at (b' := w.heap.size + 1) (by simp)).alloc _).alloc _
  have bx2 : Box W0 (w.heap.size + 1 + 1) 3 #[.int .i64 0] := by
    rw [← hW0]; exact ((Box.new ((w.alloc _).alloc _) _ _).at (b' := w.heap.size + 1 + 1) (by simp)).alloc _
  have bx3 : Box W0 (w.heap.size + 1 + 1 + 1) 36 #[.int .i64 k, .int .i64 h, .slice A n c] := by
    rw [← hW0]; exact (Box.new (((w.alloc _).alloc _).alloc _) _ _).at (b' := w.heap.size + 1 + 1 + 1) (by simp)
  clear hW0
  have hl := bx3.lt
  refine wpIn_rangeFunc_ownH rfl (by omega) (gf := 75) (lb := #[.pointer (some ⟨w.heap.size + 1 + 1 + 1, 0, none⟩)]) rfl trivial (enters_of Tryz.func75 (by kernel_rfl) rfl)
    (nodesStops 7 w W0 t k h _ (w.heap.size + 1 + 1 + 1) (w.heap.size + 1 + 1 + 1) HV.out hbW (by omega) (by omega) bx3) KB.trans (fun W l o o' _ h1 h2 _ => KB.putObj W l o o' h1 h2) (Below.refl _ _) (fun _ => rfl)
    (fun pre W => Box W (w.heap.size + 1) 4 #[.bool false] ∧ Box W (w.heap.size + 1 + 1) 3 #[.int .i64 (pre.length : Nat)] ∧ Hid (mayK (pre.map Nd.key) = true) ∧ Below w.heap.size w W)
    (fun cd pre W => cd = .ret ∧ Box W (w.heap.size + 1) 4 #[.bool false] ∧ Hid (mayK (pre.map Nd.key) = false) ∧ Below w.heap.size w W)
    (fun s A B row hs hg hr => ⟨hs.1.kept hg hr, hs.2.1.kept hg hr, hs.2.2.1, below_kept hs.2.2.2 hg hr (by omega) hs.2.2.2.size⟩)
    (fun _ s A B row hs hg hr => ⟨hs.1, hs.2.1.kept hg hr, hs.2.2.1, below_kept hs.2.2.2 hg hr (by omega) hs.2.2.2.size⟩) ⟨bx1, bx2, Lib.hid rfl, hbW⟩
    (fun x a' W => ∃ Bx By, w.heap.size + 1 + 1 + 1 ≤ Bx ∧ w.heap.size + 1 + 1 + 1 ≤ By ∧ Box W Bx 93 #[.int .i64 x.d, .int .i64 x.b] ∧ Box W By 36 #[.int .i64 x.k, .int .i64 x.h, .slice x.A x.n x.c] ∧
      a' = { tmps := #[.agg #[.int .i64 k, .int .i64 h, .slice A n c], .pointer (some ⟨w.heap.size, 0, none⟩), .pointer (some ⟨w.heap.size + 1, 0, none⟩), .pointer (some ⟨w.heap.size + 1 + 1, 0, none⟩), .pointer (some ⟨Bx, 0, none⟩), .pointer (some ⟨By, 0, none⟩), .agg #[.int .i64 k, .int .i64 h, .slice A n c],
        .func (.func 75) #[] #[.pointer (some ⟨w.heap.size + 1 + 1 + 1, 0, none⟩)], .agg #[.int .i64 x.d, .int .i64 x.b], .agg #[.int .i64 x.k, .int .i64 x.h, .slice x.A x.n x.c], undef, undef, undef, undef, undef, undef, undef, undef, undef, undef, undef, undef, undef, undef], defers := [] })
    (fun _ _ _ A B row hs hg hr => by obtain ⟨Bx, By, h1, h2, h3, h4, h5⟩ := hs; exact ⟨Bx, By, h1, h2, h3.kept hg hr, h4.kept hg hr, h5⟩) ?assign ?body ?done ?stop
  case assign =>
    rintro l pre x W K ⟨hb1, hb2, hM, hB⟩ hK
    have hz := hb2.lt
    have e := hB.size
    simp only [encN, List.zip_toArray, List.zip_cons_cons, List.zip_nil_right, List.foldl_toArray, List.foldl_cons, List.foldl_nil, List.setIfInBounds_toArray, List.set_cons_succ, List.set_cons_zero]
    gi_wp2
    have hbA : Below W.heap.size W ((W.alloc (.cells #[.int .i64 x.d, .int .i64 x.b] 93)).alloc (.cells #[.int .i64 x.k, .int .i64 x.h, .slice x.A x.n x.c] 36)) := ((Below.refl _ _).alloc (Nat.le_refl _) _).alloc (by simp) _
    exact hK _ _ (keepsFrom_of_below hbA) (KB.of_below hbA) ⟨(hb1.alloc _).alloc _, (hb2.alloc _).alloc _, hM, hB.trans (hbA.mono hB.size)⟩ ⟨W.heap.size, W.heap.size + 1, by omega, by omega, (Box.new _ _ _).alloc _, (Box.new (W.alloc _) _ _).at (by simp), rfl⟩
  case body =>
    rintro l pre x a' W hl ⟨r, hr⟩ ⟨hb1, hb2, hM, hB⟩ ⟨Bx, By, hBx, hBy, hbp, hbn, rfl⟩ _
    have hlen : pre.length ≤ 4000 := by have := hM.out; simp [mayK] at this; exact this.1
    have hsn := mayK_snoc (pre.map Nd.key) x.key
    rw [hM.out, List.length_map, Bool.true_and] at hsn
    have HSN : Hid (mayK ((pre ++ [x]).map Nd.key) = (decide (pre.length < 4000) && okK x.key)) := Lib.hid (by rw [List.map_append]; exact hsn)
    clear hsn
    obtain ⟨c1, f1⟩ := hb1.one
    obtain ⟨c2, f2⟩ := hb2.one
    have g1 := hb1.other (a := ⟨w.heap.size + 1 + 1, 0, none⟩) (by dsimp only; omega) (.int .i64 ((pre.length : Int) + 1))
    have g2 := hb2.set (.int .i64 ((pre.length : Int) + 1))
    have gp := hbp.other (a := ⟨w.heap.size + 1 + 1, 0, none⟩) (by dsimp only; omega) (.int .i64 ((pre.length : Int) + 1))
    have gn := hbn.other (a := ⟨w.heap.size + 1 + 1, 0, none⟩) (by dsimp only; omega) (.int .i64 ((pre.length : Int) + 1))
    have gB : Below w.heap.size w (W.setCell ⟨w.heap.size + 1 + 1, 0, none⟩ (.int .i64 ((pre.length : Int) + 1))) := hB.setCell (by dsimp only; omega) _
    have gK : KB w.heap.size (w.heap.size + 1 + 1 + 1) W (W.setCell ⟨w.heap.size + 1 + 1, 0, none⟩ (.int .i64 ((pre.length : Int) + 1))) := KB.setCell _ _ _ ⟨by dsimp only; omega, by dsimp only; omega⟩
    have gF : KeepsFrom W0.heap.size W (W.setCell ⟨w.heap.size + 1 + 1, 0, none⟩ (.int .i64 ((pre.length : Int) + 1))) := (KeepsOthers.setCell _ _ _).from _
    obtain ⟨p0, p1⟩ := hbp.two
    obtain ⟨q0, q1, q2⟩ := hbn.three
    have xc := x.hc
    have XM := Lib.hid x.hm
    by_cases h1 : pre.length < 4000
    · have d1 : decide ((4000 : Int) < (pre.length : Int) + 1) = false := by simp; omega
      have d1' : decide (pre.length < 4000) = true := by simpa using h1
      by_cases h2 : x.d ≤ 60
      · have d2 : decide (60 < x.d) = false := by simpa using h2
        have d2' : decide (x.d ≤ 60) = true := by simpa using h2
        have HR : Hid (mayK ((pre ++ [x]).map Nd.key) = okN x.k x.h x.n) := Lib.hid (by rw [HSN.out, d1']; show (true && (decide (x.d ≤ 60) && okN x.k x.h x.n)) = _; rw [d2']; simp)
        clear HSN d1' d2'
        gi_wp2_with (refine ⟨trivial, ?_⟩; gi_at_call 53; refine (CallsIn.inRound l (callsIn_wide.2 (shapedC x.k x.h x.A x.n x.c xc XM.out _))).mono ?_; generalize okN x.k x.h x.n = R at *; rintro e w1 ⟨rfl, hbs⟩; have s1 := g1.keep hbs g1.lt; have s2 := g2.keep hbs g2.lt; have sB := gB.trans (hbs.mono gB.size); have sK := gK.trans (KB.of_below hbs); have sF := gF.trans (keepsFrom_of_below (B := W0.heap.size) hbs); obtain ⟨t1, tf⟩ := s1.one; cases R)
        · exact ⟨sF.trans ((KeepsOthers.setCell _ _ _).from _), rfl, s1.set _, HR, sB.setCell (by dsimp only; omega) _⟩
        · exact ⟨sF, sK, s1, by rw [List.length_append]; exact s2, HR, sB⟩
      · have d2 : decide (60 < x.d) = true := by simpa using h2
        have HR : Hid (mayK ((pre ++ [x]).map Nd.key) = false) := Lib.hid (by rw [HSN.out, d1']; show (true && (decide (x.d ≤ 60) && okN x.k x.h x.n)) = _; rw [show decide (x.d ≤ 60) = false by simpa using h2]; simp)
        clear HSN d1'
        gi_wp2_with fail
        refine ⟨trivial, ?_⟩
        gi_wp2_with fail
        exact ⟨gF.trans ((KeepsOthers.setCell _ _ _).from _), rfl, g1.set _, HR, gB.setCell (by dsimp only; omega) _⟩
    · have d1 : decide ((4000 : Int) < (pre.length : Int) + 1) = true := by simp; omega
      have HR : Hid (mayK ((pre ++ [x]).map Nd.key) = false) := Lib.hid (by rw [HSN.out, show decide (pre.length < 4000) = false by simpa using h1]; rfl)
      clear HSN
      gi_wp2_with fail
      refine ⟨trivial, ?_⟩
      gi_wp2_with fail
      exact ⟨gF.trans ((KeepsOthers.setCell _ _ _).from _), rfl, g1.set _, HR, gB.setCell (by dsimp only; omega) _⟩
  case done =>
    rintro D ys W hD hS ⟨hb1, hb2, hM, hB⟩ hK
    obtain ⟨c1, f1⟩ := hb1.one
    gi_wp2
    have b1' := hb1.set (.bool true)
    have hK' := (KeepsOthers.setCell W ⟨w.heap.size + 1, 0, none⟩ (.bool true)).same D _ hK rfl
    have hB' := below_putObj (hB.setCell (p := ⟨w.heap.size + 1, 0, none⟩) (by dsimp only; omega) (.bool true)) (show w.heap.size ≤ D by omega) (.deferred none)
    have e := (b1'.kept (B := 0) (grownBy_putObj' _ D (.deferred none)) (fun r e => by cases e; exact ⟨Nat.zero_le _, _, hK', rfl⟩)).one
    refine ⟨by simp, .inl ⟨_, _, rfl, run_takeDeferred hK', ?_⟩⟩
    refine ⟨.bool true, by simp [results, Tryz.results33, go_sem, e.1], by rw [← hS, hM.out], hB'⟩
  case stop =>
    rintro D cd pre W hD hS ⟨rfl, hb1, hM, hB⟩ hK
    obtain ⟨c1, f1⟩ := hb1.one
    gi_wp2
    have hB' := below_putObj hB (show w.heap.size ≤ D by omega) (.deferred none)
    have e := (hb1.kept (B := 0) (grownBy_putObj' _ D (.deferred none)) (fun r e => by cases e; exact ⟨Nat.zero_le _, _, hK, rfl⟩)).one
    refine ⟨by simp, .inl ⟨_, _, rfl, run_takeDeferred hK, ?_⟩⟩
    exact ⟨.bool false, by simp [results, Tryz.results33, go_sem, e.1], by rw [mayK_prefix hS hM.out], hB'⟩
end Go.Proofs.YtmkahbbcagfbhaaGreatDoor
