/-
  Contracts of package occur's Vars and Metas. No statement is proved here.
-/
import Derived.Test.YtooihffijpndoaaOc
namespace Go.Proofs.Ytooihffijpndoaa
open Go.ChangeShapes Go.WideShapes Go.ChangeAt Go.RowKit Go.Shelf
set_option linter.unusedVariables false

attribute [local go_sem] Oper.semAt_some

theorem No.full {w0 : World} (x : No w0) : ∃ xs, x.t = .node x.k x.h xs ∧ (Lit.int .i64 x.h).wf = true ∧ (Lit.int .i64 x.k).wf = true ∧ xs.length = x.n ∧ x.n ≤ x.c ∧ x.c ≤ maxLen ∧ ∀ i t, xs[i]? = some t → RdAt w0 x.A i t := by
  obtain ⟨b, k, h, A, n, c, ⟨k', h', xs⟩, hr, hs⟩ := x
  obtain ⟨A', n', c', e, hk, hh, hl, hc, hm, hx⟩ := Rd_node.1 hr
  have e' : k = k' ∧ h = h' ∧ A = A' ∧ n = n' ∧ c = c' := by simpa using e
  obtain ⟨rfl, rfl, rfl, rfl, rfl⟩ := e'
  exact ⟨xs, rfl, hh, hk, hl, hc, hm, hx⟩
theorem No.fv {w0 : World} (x : No w0) : fv1 x.key = if x.k = 4 ∧ x.b ≤ x.h then [wrap64 (x.h - x.b)] else [] := by
  obtain ⟨xs, e, _⟩ := x.full
  unfold No.key
  rw [e]
  rfl
theorem No.mt {w0 : World} (x : No w0) : mt1 x.key = if x.k = 6 then [x.h] else [] := by
  obtain ⟨xs, e, _⟩ := x.full
  unfold No.key
  rw [e]
  rfl
theorem flat1_le {α : Type} (f : α → List Int) (hf : ∀ x, (f x).length ≤ 1) : ∀ l : List α, (l.flatMap f).length ≤ l.length
  | [] => by simp
  | x :: l => by rw [List.flatMap_cons, List.length_append, List.length_cons]; have := hf x; have := flat1_le f hf l; omega
theorem fv1_le (x : Int × T) : (fv1 x).length ≤ 1 := by obtain ⟨b, k, h, xs⟩ := x; unfold fv1; dsimp only; split <;> simp
theorem mt1_le (x : Int × T) : (mt1 x).length ≤ 1 := by obtain ⟨b, k, h, xs⟩ := x; unfold mt1; dsimp only; split <;> simp
/-- what has been seen -/
def fvP {w0 : World} (pre : List (No w0)) : List Int := (pre.map No.key).flatMap fv1
def mtP {w0 : World} (pre : List (No w0)) : List Int := (pre.map No.key).flatMap mt1
theorem fvP_snoc {w0 : World} (pre : List (No w0)) (x : No w0) : fvP (pre ++ [x]) = fvP pre ++ fv1 x.key := by simp [fvP]
theorem mtP_snoc {w0 : World} (pre : List (No w0)) (x : No w0) : mtP (pre ++ [x]) = mtP pre ++ mt1 x.key := by simp [mtP]
theorem fvP_le {w0 : World} (pre : List (No w0)) : (fvP pre).length ≤ pre.length := by have := flat1_le fv1 fv1_le (pre.map No.key); simpa [fvP] using this
theorem mtP_le {w0 : World} (pre : List (No w0)) : (mtP pre).length ≤ pre.length := by have := flat1_le mt1 mt1_le (pre.map No.key); simpa [mtP] using this
theorem Sn.keptR {w w' : World} {b B : Nat} {l : List Int} {row : Option Nat} (h : Sn w b l) (hg : w.grownBy w' row) (hr : ∀ r, row = some r → B ≤ r ∧ ∃ o : Obj, w.heap[r]? = some o ∧ o.isCells = false) (hb : b < B) : Sn w' b l :=
  h.kept hg fun e => by have := (hr b e.symm).1; omega
theorem Sn.isMap {w : World} {b : Nat} {l : List Int} (h : Sn w b l) : ∃ es cl, w.heap[b]? = some (.map es cl) := by
  obtain ⟨n, D, ⟨es, cl, hb, _⟩, _⟩ := h
  exact ⟨es, cl, hb⟩
theorem KB.of_map {n₀ n₁ b : Nat} {w w' : World} {l : List Int} (h : Sn w b l) (hg : w.grownBy w' (some b)) : KB n₀ n₁ w w' :=
  ⟨hg.size, fun k o _ hk hc => (hg.block k (Array.getElem?_eq_some_iff.1 hk).1 (fun e => by
    cases e
    obtain ⟨es, cl, hm⟩ := h.isMap
    rw [hm] at hk
    cases hk
    cases hc)).trans hk⟩
theorem Sn.boxed {w w' : World} {b B : Nat} {ty : TypeId} {cs : Array Value} {l : List Int} (h : Sn w b l) (hg : w.grownBy w' (some b)) (hx : Box w B ty cs) : Box w' B ty cs :=
  (KB.of_map (n₀ := w.heap.size) (n₁ := 0) h hg).box hx (Nat.zero_le _)
theorem below_map {w0 w w' : World} {b B : Nat} (h : Below B w0 w) (hg : w.grownBy w' (some b)) (hb : B ≤ b) (hB : B ≤ w.heap.size) : Below B w0 w' := h.grown hg hB fun j e => by cases e; exact hb
theorem snR {w : World} {b : Nat} {l m : List Int} (h : Sn w b l) (e : l = m) : Sn w b m := e ▸ h

theorem Ns.put {w : World} {v : Value} {zs : List Int} {D : Nat} {o' : Obj} (h : Ns w v zs) (hD : w.heap[D]? = some (.deferred (some []))) : Ns (w.putObj D o') v zs := by
  obtain ⟨A, c, h1, h2, h3, h4⟩ := h
  refine ⟨A, c, h1, h2, h3, fun i z hz => ?_⟩
  obtain ⟨b, o, e, hc⟩ := h4 i z hz
  refine ⟨b, o, e, ?_⟩
  have hne : D ≠ b := by
    rintro rfl
    unfold World.cell? at hc
    rw [hD] at hc
    cases hc
  rw [← hc]
  exact World.cell?_of_block (by simp only [World.putObj]; rw [Array.getElem?_setIfInBounds_ne hne])

set_option maxRecDepth 100000 in
set_option maxHeartbeats 4000000 in
theorem oVarsC (t : T) (v : Value) (w : World) (hv : Rd w t v) (hs : nd t ≤ 1048576) :
    Calls Try.prog 22 #[v] w fun e w' => ∃ u, e = .returned u ∧ Ns w' u (rs ((nds t 0).flatMap fv1)) ∧ Below w.heap.size w w' := by
  obtain ⟨k, h, A, n, c, rfl⟩ := hv.full
  have HV := Lib.hid hv; clear hv
  have HS := Lib.hid hs; clear hs
  have hmm := @run_makeMap Try.prog
  refine (callsIn_wide (n := 8)).1 (callsIn_of_wp_marks Try.func22 rfl trivial ?_ rfl)
  simp only [Try.ntmps22, List.size_toArray, List.length_cons, List.length_nil, Nat.reduceAdd, Nat.reduceSub, Array.replicate_succ, Array.replicate_zero, List.push_toArray, List.append_toArray, List.nil_append, List.cons_append]
  gi_wp2_with (refine ⟨trivial, ?_⟩; gi_at_call 39; refine (callsIn_wide.2 (onodesC k h _ ⟨A, n, c, rfl⟩ _)).mono ?_; rintro e w' ⟨rfl, rfl⟩)
  clear hmm
  obtain ⟨W0, hW0⟩ : ∃ W0, ((((w.alloc (.cells #[.int .i64 k, .int .i64 h, .slice A n c] 24)).alloc (.map #[] 0)).alloc (.cells #[.map (some (w.heap.size + 1))] 53)).alloc (.cells #[.int .i64 k, .int .i64 h, .slice A n c] 24)) = W0 := ⟨_, rfl⟩
  rw [hW0]
  have hbW : Below w.heap.size w W0 := by
    rw [← hW0]; exact ((((Below.refl _ w).alloc (Nat.le_refl _) _).alloc (by simp) _).alloc (by simp; omega) _).alloc (by simp; omega) _
  have sn0 : Sn W0 (w.heap.size + 1) [] := by
    rw [← hW0]
    have := Sn.new (w.alloc (.cells #[.int .i64 k, .int .i64 h, .slice A n c] 24))
    simp only [World.size_alloc] at this
    exact (this.kept (World.grownBy_alloc _ _ none) (by simp)).kept (World.grownBy_alloc _ _ none) (by simp)
  have bx2 : Box W0 (w.heap.size + 1 + 1) 53 #[.map (some (w.heap.size + 1))] := by
    rw [← hW0]; exact ((Box.new ((w.alloc _).alloc _) _ _).at (b' := w.heap.size + 1 + 1) (by simp)).alloc _
  have bx3 : Box W0 (w.heap.size + 1 + 1 + 1) 24 #[.int .i64 k, .int .i64 h, .slice A n c] := by
    rw [← hW0]; exact (Box.new (((w.alloc _).alloc _).alloc _) _ _).at (b' := w.heap.size + 1 + 1 + 1) (by simp)
  clear hW0
  have hl := bx3.lt
  refine wpIn_rangeFunc_ownH rfl (by omega) (gf := 49) (lb := #[.pointer (some ⟨w.heap.size + 1 + 1 + 1, 0, none⟩)]) rfl trivial (enters_of Try.func49 (by kernel_rfl) rfl)
    (onodesStops 7 w W0 t k h _ (w.heap.size + 1 + 1 + 1) (w.heap.size + 1 + 1 + 1) (by have h1 := wd_nd t; have h2 := HS.out; omega) HV.out hbW (by omega) (by omega) bx3) KB.trans (fun W l o o' _ h1 h2 _ => KB.putObj W l o o' h1 h2) (Below.refl _ _) (fun _ => rfl)
    (fun pre W => Sn W (w.heap.size + 1) (fvP pre) ∧ Box W (w.heap.size + 1 + 1) 53 #[.map (some (w.heap.size + 1))] ∧ Below w.heap.size w W)
    (fun cd pre W => False)
    (fun s A B row hs hg hr => ⟨hs.1.keptR hg hr (by omega), hs.2.1.kept hg hr, below_kept hs.2.2 hg hr (by omega) hs.2.2.size⟩)
    (fun _ s A B row hs hg hr => hs) ⟨sn0, bx2, hbW⟩
    (fun x a' W => ∃ By, w.heap.size + 1 + 1 + 1 ≤ By ∧ Box W By 24 #[.int .i64 x.k, .int .i64 x.h, .slice x.A x.n x.c] ∧
      a' = { tmps := #[.agg #[.int .i64 k, .int .i64 h, .slice A n c], .pointer (some ⟨w.heap.size, 0, none⟩), .slice none 0 0, .pointer (some ⟨w.heap.size + 1 + 1, 0, none⟩), .int .i64 x.b, .pointer (some ⟨By, 0, none⟩), .map (some (w.heap.size + 1)), .agg #[.int .i64 k, .int .i64 h, .slice A n c],
        .func (.func 49) #[] #[.pointer (some ⟨w.heap.size + 1 + 1 + 1, 0, none⟩)], .int .i64 x.b, .agg #[.int .i64 x.k, .int .i64 x.h, .slice x.A x.n x.c], undef, undef, undef, undef, undef, undef, undef, undef, undef, undef, undef, undef, undef, undef, undef, undef, undef], defers := [] })
    (fun _ _ _ A B row hs hg hr => by obtain ⟨By, h2, h4, h5⟩ := hs; exact ⟨By, h2, h4.kept hg hr, h5⟩) ?assign ?body ?done ?stop
  case assign =>
    rintro l pre x W K ⟨hb1, hb2, hB⟩ hK
    have hz := hb2.lt
    have e := hB.size
    simp only [encO, List.zip_toArray, List.zip_cons_cons, List.zip_nil_right, List.foldl_toArray, List.foldl_cons, List.foldl_nil, List.setIfInBounds_toArray, List.set_cons_succ, List.set_cons_zero]
    gi_wp2
    have hbA : Below W.heap.size W (W.alloc (.cells #[.int .i64 x.k, .int .i64 x.h, .slice x.A x.n x.c] 24)) := (Below.refl _ _).alloc (Nat.le_refl _) _
    exact hK _ _ (keepsFrom_of_below hbA) (KB.of_below hbA) ⟨hb1.keep hbA, hb2.alloc _, hB.trans (hbA.mono hB.size)⟩ ⟨W.heap.size, by omega, Box.new _ _ _, rfl⟩
  case body =>
    rintro l pre x a' W hl ⟨r, hr⟩ ⟨hb1, hb2, hB⟩ ⟨By, hBy, hbn, rfl⟩ hlen
    have hsn := fvP_snoc pre x
    rw [x.fv] at hsn
    have HSN := Lib.hid hsn; clear hsn
    generalize pre ++ [x] = px at *
    have hpl : (fvP pre).length < maxLen := by
      have h1 := fvP_le pre
      have h2 := HS.out
      rw [nds_len] at hlen
      unfold maxLen
      omega
    have hxw : (Lit.int .i64 x.h).wf = true := by obtain ⟨xs, _, h1, _⟩ := x.full; exact h1
    obtain ⟨c2, f2⟩ := hb2.one
    obtain ⟨q0, q1, q2⟩ := hbn.three
    have HB1 := Lib.hid hb1
    have HPL := Lib.hid hpl
    have HXW := Lib.hid hxw
    clear hb1 hpl hxw hlen
    obtain ⟨xb, xk, xh, xA, xn, xc, xt, xr, xs⟩ := x
    dsimp only at *
    by_cases k4 : xk = 4
    · subst k4
      by_cases h4 : xb ≤ xh
      · have hadd := addC (w.heap.size + 1) (fvP pre) (wrap64 (xh - xb)) W HB1.out (wrap64_wf _) HPL.out
        have HAD := Lib.hid hadd; clear hadd
        have d4 : decide (xb ≤ xh) = true := by simpa using h4
        have hw : IntKind.i64.wrap (xh - xb) = wrap64 (xh - xb) := wrapEq _
        have HH := Lib.hid h4; clear h4
        gi_wp2_with (refine ⟨trivial, ?_⟩; gi_at_call 40; refine (CallsIn.inRound l (callsIn_wide.2 HAD.out)).mono ?_; rintro e w1 ⟨rfl, hsn1, hg1⟩)
        exact ⟨KeepsFrom.of_grownBy hg1 (fun j hj => by cases hj; omega), KB.of_map HB1.out hg1, snR hsn1 (by rw [HSN.out, if_pos (by have := HH.out; simp; omega)]), HB1.out.boxed hg1 hb2, below_map hB hg1 (by omega) hB.size⟩
      · have d4 : decide (xb ≤ xh) = false := by simpa using h4
        have HH := Lib.hid h4; clear h4
        gi_wp2_with fail
        exact ⟨KeepsFrom.refl _ _, KB.refl _ _ _, snR HB1.out (by rw [HSN.out, if_neg (by have := HH.out; simp; omega)]; simp), hb2, hB⟩
    · have e4 : (xk == 4) = false := by simpa using k4
      have HH := Lib.hid k4; clear k4
      gi_wp2_with fail
      exact ⟨KeepsFrom.refl _ _, KB.refl _ _ _, snR HB1.out (by rw [HSN.out, if_neg (by have := HH.out; simp; omega)]; simp), hb2, hB⟩
  case done =>
    rintro D ys W hD hS ⟨hb1, hb2, hB⟩ hK
    obtain ⟨c2, f2⟩ := hb2.one
    have hle : (fvP ys).length ≤ 1048576 := by
      have h1 := fvP_le ys
      have h2 := HS.out
      have h3 := congrArg List.length hS
      rw [List.length_map, nds_len] at h3
      omega
    have HRC := Lib.hid (risingC (w.heap.size + 1) (fvP ys) W hb1 hle)
    have e9 : fvP ys = (nds t 0).flatMap fv1 := by rw [← hS]; rfl
    have HE := Lib.hid e9
    clear e9 hS hle
    gi_wp2_with (refine ⟨trivial, ?_⟩; gi_at_call 41; refine (callsIn_wide.2 HRC.out).mono ?_; rintro e w1 ⟨u, rfl, hn, hb9⟩)
    have hK' : w1.heap[D]? = some (.deferred (some [])) := (hb9.block D (Array.getElem?_eq_some_iff.1 hK).1).trans hK
    have hB' := below_putObj (hB.trans (hb9.mono hB.size)) (show w.heap.size ≤ D by omega) (.deferred none)
    refine ⟨by simp, .inl ⟨_, _, rfl, run_takeDeferred hK', ?_⟩⟩
    refine ⟨_, results_tmp rfl _ _ _, ⟨_, rfl, ?_, hB'⟩⟩
    rw [← HE.out]
    exact hn.put hK'
  case stop =>
    rintro D cd pre W _ _ h _
    exact h.elim


end Go.Proofs.Ytooihffijpndoaa
