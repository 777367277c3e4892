/-
  Contract of package occur's Patterns. No statement is proved here.
-/
import Derived.Test.YtelicajhamgibaaGreatPkA
namespace Go.Proofs.YtelicajhamgibaaGreat
open Go.ChangeShapes Go.WideShapes Go.ChangeAt Go.RowKit Go.Shelf
set_option linter.unusedVariables false

attribute [local go_sem] Oper.semAt_some

theorem all_prefix2 {α : Type} {p : α → Bool} {ks ls : List α} (h : ks <+: ls) (hf : ks.all p = false) : ls.all p = false := by
  obtain ⟨r, rfl⟩ := h
  rw [List.all_append, hf, Bool.false_and]
/-- are all patterns that have come? -/
def paP {w0 : World} (n : Int) (pre : List (No w0)) : Bool := (pre.map No.key).all (pa1 n)
theorem paP_snoc {w0 : World} (n : Int) (pre : List (No w0)) (x : No w0) (h : paP n pre = true) : paP n (pre ++ [x]) = pa1 n x.key := by
  unfold paP at *
  rw [List.map_append, List.all_append, h, Bool.true_and]; simp
theorem PtEnd.tuple {o : Option (List Int)} {w w' : World} {e : Ending} (h : PtEnd o w e w') : ∃ v, e = .returned (.tuple #[v, .bool o.isSome]) ∧ Below w.heap.size w w' := by
  rcases h with ⟨zs, v, rfl, rfl, _, hb⟩ | ⟨rfl, rfl, hb⟩
  · exact ⟨v, rfl, hb⟩
  · exact ⟨_, rfl, hb⟩
theorem rdAt_ck {w w' : World} (hk : CK w.heap.size w w') {A : Option Addr} {j : Nat} {t : T} (h : RdAt w A j t) : RdAt w' A j t := by
  obtain ⟨b, o, v0, v1, v2, rfl, c0, c1, c2, hr⟩ := h
  exact ⟨b, o, v0, v1, v2, rfl, hk.cell (cell_lt c0) c0, hk.cell (cell_lt c1) c1, hk.cell (cell_lt c2) c2, Rd.ck hk t _ hr⟩

set_option maxRecDepth 100000 in
set_option maxHeartbeats 4000000 in
theorem oPatternsC (t : T) (nn : Int) (v : Value) (w : World) (hv : Rd w t v) (hs : wd t ≤ 3518437208780) :
    Calls Tryz.prog 17 #[v, .int .i64 nn] w fun e w' => e = .returned (.bool ((nds t 0).all (pa1 nn))) ∧ Below w.heap.size w w' := by
  obtain ⟨k, h, A, n, c, rfl⟩ := hv.full
  have HV := Lib.hid hv; clear hv
  have HS := Lib.hid hs; clear hs
  refine (callsIn_wide (n := 8)).1 (callsIn_of_wp_marks Tryz.func17 rfl trivial ?_ rfl)
  simp only [Tryz.ntmps17, List.size_toArray, List.length_cons, List.length_nil, Nat.reduceAdd, Nat.reduceSub, Array.replicate_succ, Array.replicate_zero, List.push_toArray, List.append_toArray, List.nil_append, List.cons_append]
  gi_wp2_with (refine ⟨trivial, ?_⟩; gi_at_call 32; refine (callsIn_wide.2 (onodesC k h _ ⟨A, n, c, rfl⟩ _)).mono ?_; rintro e w' ⟨rfl, rfl⟩)
  obtain ⟨W0, hW0⟩ : ∃ W0, ((((w.alloc (.cells #[.int .i64 k, .int .i64 h, .slice A n c] 24)).alloc (.cells #[.int .i64 nn] 3)).alloc (.cells #[.bool false] 4)).alloc (.cells #[.int .i64 k, .int .i64 h, .slice A n c] 24)) = W0 := ⟨_, rfl⟩
  rw [hW0]
  have hbW : Below w.heap.size w W0 := by
    rw [← hW0]; exact ((((Below.refl _ w).alloc (Nat.le_refl _) _).alloc (by simp) _).alloc (by simp; omega) _).alloc (by simp; omega) _
  have bx1 : Box W0 (w.heap.size + 1) 3 #[.int .i64 nn] := by
    rw [← hW0]; exact (((Box.new (w.alloc _) _ _).at (b' := w.heap.size + 1) (by simp)).alloc _).alloc _
  have bx2 : Box W0 (w.heap.size + 1 + 1) 4 #[.bool false] := by
    rw [← hW0]; exact ((Box.new ((w.alloc _).alloc _) _ _).at (b' := w.heap.size + 1 + 1) (by simp)).alloc _
  have bx3 : Box W0 (w.heap.size + 1 + 1 + 1) 24 #[.int .i64 k, .int .i64 h, .slice A n c] := by
    rw [← hW0]; exact (Box.new (((w.alloc _).alloc _).alloc _) _ _).at (b' := w.heap.size + 1 + 1 + 1) (by simp)
  clear hW0
  have hl := bx3.lt
  refine wpIn_rangeFunc_ownH rfl (by omega) (gf := 55) (lb := #[.pointer (some ⟨w.heap.size + 1 + 1 + 1, 0, none⟩)]) rfl trivial (enters_of Tryz.func55 (by kernel_rfl) rfl)
    (onodesStops 7 w W0 t k h _ (w.heap.size + 1 + 1 + 1) (w.heap.size + 1 + 1 + 1) HS.out HV.out hbW (by omega) (by omega) bx3) KB.trans (fun W l o o' _ h1 h2 _ => KB.putObj W l o o' h1 h2) (Below.refl _ _) (fun _ => rfl)
    (fun pre W => Box W (w.heap.size + 1) 3 #[.int .i64 nn] ∧ Box W (w.heap.size + 1 + 1) 4 #[.bool false] ∧ Hid (paP nn pre = true) ∧ Below w.heap.size w W)
    (fun cd pre W => cd = .ret ∧ Box W (w.heap.size + 1 + 1) 4 #[.bool false] ∧ Hid (paP nn pre = false) ∧ Below w.heap.size w W)
    (fun s A B row hs hg hr => ⟨hs.1.kept hg hr, hs.2.1.kept hg hr, hs.2.2.1, below_kept hs.2.2.2 hg hr (by omega) hs.2.2.2.size⟩)
    (fun _ s A B row hs hg hr => ⟨hs.1, hs.2.1.kept hg hr, hs.2.2.1, below_kept hs.2.2.2 hg hr (by omega) hs.2.2.2.size⟩) ⟨bx1, bx2, Lib.hid rfl, hbW⟩
    (fun x a' W => ∃ By, w.heap.size + 1 + 1 + 1 ≤ By ∧ Box W By 24 #[.int .i64 x.k, .int .i64 x.h, .slice x.A x.n x.c] ∧
      a' = { tmps := #[.agg #[.int .i64 k, .int .i64 h, .slice A n c], .int .i64 nn, .pointer (some ⟨w.heap.size, 0, none⟩), .pointer (some ⟨w.heap.size + 1, 0, none⟩), .pointer (some ⟨w.heap.size + 1 + 1, 0, none⟩), .int .i64 x.b, .pointer (some ⟨By, 0, none⟩), undef, undef, .agg #[.int .i64 k, .int .i64 h, .slice A n c],
        .func (.func 55) #[] #[.pointer (some ⟨w.heap.size + 1 + 1 + 1, 0, none⟩)], .int .i64 x.b, .agg #[.int .i64 x.k, .int .i64 x.h, .slice x.A x.n x.c], undef, undef, undef, undef, undef, undef, undef, undef, undef, undef, undef, undef, undef, undef], defers := [] })
    (fun _ _ _ A B row hs hg hr => by obtain ⟨By, h2, h4, h5⟩ := hs; exact ⟨By, h2, h4.kept hg hr, h5⟩) ?assign ?body ?done ?stop
  case assign =>
    rintro l pre x W K ⟨hb1, hb2, hM, hB⟩ hK
    have hz := hb2.lt
    have e := hB.size
    simp only [encO, List.zip_toArray, List.zip_cons_cons, List.zip_nil_right, List.foldl_toArray, List.foldl_cons, List.foldl_nil, List.setIfInBounds_toArray, List.set_cons_succ, List.set_cons_zero]
    gi_wp2
    have hbA : Below W.heap.size W (W.alloc (.cells #[.int .i64 x.k, .int .i64 x.h, .slice x.A x.n x.c] 24)) := (Below.refl _ _).alloc (Nat.le_refl _) _
    exact hK _ _ (keepsFrom_of_below hbA) (KB.of_below hbA) ⟨hb1.alloc _, hb2.alloc _, hM, hB.trans (hbA.mono hB.size)⟩ ⟨W.heap.size, by omega, Box.new _ _ _, rfl⟩
  case body =>
    rintro l pre x a' W hl ⟨r, hr⟩ ⟨hb1, hb2, hM, hB⟩ ⟨By, hBy, hbn, rfl⟩ _
    have HSN : Hid (paP nn (pre ++ [x]) = pa1 nn x.key) := Lib.hid (paP_snoc nn pre x hM.out)
    obtain ⟨xs, hxt, _, _, hxl, hxc, hxm, hxa⟩ := x.full
    have hp1 : pa1 nn x.key = (!(x.k == 6) || (ptn (wrap64 (nn + x.b)) [] xs).isSome) := by unfold No.key; rw [hxt]; rfl
    rw [hp1] at HSN
    have HPC := Lib.hid (fun W' (hbw : Below w.heap.size w W') => (oPatternC xs x.A x.n x.c (wrap64 (nn + x.b)) W' hxl hxc hxm (by have := x.hn; omega) (fun i t ht => (hxa i t ht).keep hbw)).mono fun e w' hp => hp.tuple)
    clear hp1 hxt hxl hxc hxm hxa
    generalize pre ++ [x] = px at *
    obtain ⟨c1, f1⟩ := hb1.one
    obtain ⟨c2, f2⟩ := hb2.one
    obtain ⟨q0, q1, q2⟩ := hbn.three
    obtain ⟨xb, xk, xh, xA, xn, xc, xt, xr, xs'⟩ := x
    dsimp only at *
    clear xs'
    have hwr : IntKind.i64.wrap (nn + xb) = wrap64 (nn + xb) := wrapEq _
    by_cases k6 : xk = 6
    · subst k6
      rw [show (!((6 : Int) == 6) || (ptn (wrap64 (nn + xb)) [] xs).isSome) = (ptn (wrap64 (nn + xb)) [] xs).isSome by simp] at HSN
      generalize wrap64 (nn + xb) = B at *
      gi_wp2_with (refine ⟨trivial, ?_⟩; gi_at_call 38; refine (CallsIn.inRound l (callsIn_wide.2 (HPC.out _ hB))).mono ?_; generalize (ptn B [] xs).isSome = R at *; rintro e w1 ⟨v1, rfl, hbs⟩; have s2 := hb2.keep hbs hb2.lt; have s1 := hb1.keep hbs hb1.lt; have sB := hB.trans (hbs.mono hB.size); have sF := keepsFrom_of_below (B := W0.heap.size) hbs; have sK := KB.of_below (n₀ := w.heap.size) (n₁ := w.heap.size + 1 + 1 + 1) hbs; obtain ⟨t1, tf⟩ := s2.one; cases R)
      · exact ⟨sF.trans ((KeepsOthers.setCell _ _ _).from _), rfl, s2.set _, HSN, sB.setCell (by dsimp only; omega) _⟩
      · exact ⟨sF, sK, s1, s2, HSN, sB⟩
    · have e6 : (xk == 6) = false := by simpa using k6
      rw [e6] at HSN
      have HH := Lib.hid k6; clear k6
      gi_wp2_with fail
      exact ⟨KeepsFrom.refl _ _, KB.refl _ _ _, hb1, hb2, Lib.hid (by rw [HSN.out]; rfl), hB⟩
  case done =>
    rintro D ys W hD hS ⟨hb1, hb3, hM, hB⟩ hK
    obtain ⟨c3, f3⟩ := hb3.one
    gi_wp2
    have b1' := hb3.set (.bool true)
    have hK' := (KeepsOthers.setCell W ⟨w.heap.size + 1 + 1, 0, none⟩ (.bool true)).same D _ hK rfl
    have hB' := below_putObj (hB.setCell (p := ⟨w.heap.size + 1 + 1, 0, none⟩) (by dsimp only; omega) (.bool true)) (show w.heap.size ≤ D by omega) (.deferred none)
    have e := (b1'.kept (B := 0) (grownBy_putObj' _ D (.deferred none)) (fun r e => by cases e; exact ⟨Nat.zero_le _, _, hK', rfl⟩)).one
    refine ⟨by simp, .inl ⟨_, _, rfl, run_takeDeferred hK', ?_⟩⟩
    refine ⟨.bool true, by simp [results, Tryz.results17, go_sem, e.1], by rw [← hS]; exact congrArg (fun b => Ending.returned (.bool b)) hM.out.symm, hB'⟩
  case stop =>
    rintro D cd pre W hD hS ⟨rfl, hb3, hM, hB⟩ hK
    obtain ⟨c3, f3⟩ := hb3.one
    gi_wp2
    have hB' := below_putObj hB (show w.heap.size ≤ D by omega) (.deferred none)
    have e := (hb3.kept (B := 0) (grownBy_putObj' _ D (.deferred none)) (fun r e => by cases e; exact ⟨Nat.zero_le _, _, hK, rfl⟩)).one
    refine ⟨by simp, .inl ⟨_, _, rfl, run_takeDeferred hK, ?_⟩⟩
    exact ⟨.bool false, by simp [results, Tryz.results17, go_sem, e.1], by rw [all_prefix2 hS hM.out], hB'⟩
end Go.Proofs.YtelicajhamgibaaGreat
