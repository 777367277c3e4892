/-
  Texts of one proof, put together. No statement is proved here.
-/
import Derived.Test.YtkakfckjmmmjgaaPkA
import Derived.Test.YtkakfckjmmmjgaaLast
import Derived.Test.YtkakfckjmmmjgaaRq
import Derived.Deep.AppendLies
import Derived.Deep.RegionHeld3
import Derived.Test.YtkakfckjmmmjgaaPc
import Derived.Test.YtkakfckjmmmjgaaPkB
import Derived.Test.YtkakfckjmmmjgaaWl

/-
  Contract of the laws' metaOf: a meta with variables as its Args. No statement is proved here.
-/
namespace Go.Proofs.Ytkakfckjmmmjgaa
open Go.ChangeShapes Go.WideShapes Go.ChangeAt Go.RowKit
set_option linter.unusedVariables false

/-- variables as cells -/
def rowV (vs : List Int) : List Value := vs.flatMap fun v => [.int .i64 4, .int .i64 v, .slice none 0 0]
theorem rowV_snoc (vs : List Int) (v : Int) : rowV (vs ++ [v]) = rowV vs ++ [.int .i64 4, .int .i64 v, .slice none 0 0] := by simp [rowV]
theorem rowV_at : ∀ {vs : List Int} {i : Nat} {v : Int}, vs[i]? = some v → (rowV vs)[i * 3]? = some (.int .i64 4) ∧ (rowV vs)[i * 3 + 1]? = some (.int .i64 v) ∧ (rowV vs)[i * 3 + 2]? = some (.slice none 0 0)
  | x :: vs, 0, v, h => by cases h; exact ⟨rfl, rfl, rfl⟩
  | x :: vs, i + 1, v, h => by
    have := rowV_at (vs := vs) (i := i) (v := v) (by simpa using h)
    have e : ∀ q, (rowV (x :: vs))[i * 3 + q + 3]? = (rowV vs)[i * 3 + q]? := fun q => rfl
    have e0 : (i + 1) * 3 = i * 3 + 3 := by omega
    rw [e0]
    exact ⟨(e 0).trans this.1, (e 1).trans this.2.1, (e 2).trans this.2.2⟩
/-- a row of variables reads as terms -/
theorem rowV_rd {w : World} {base : Nat} {A : Option Addr} {n c : Nat} {vs : List Int} (h : w.ownsRow base 24 3 (.slice A n c) n (rowV vs)) (hn : vs.length = n) (hw : ∀ v ∈ vs, (Lit.int .i64 v).wf = true) :
    n ≤ c ∧ c ≤ maxLen ∧ ∀ i t, (vrs vs)[i]? = some t → RdAt w A i t := by
  rcases h.2 with ⟨e, h0⟩ | ⟨g, cap, cur, e, _, hb, h1, h2, h3, h4⟩
  · simp only [Value.slice.injEq] at e
    obtain ⟨rfl, _, rfl⟩ := e
    refine ⟨by omega, Nat.zero_le _, fun i t ht => ?_⟩
    rw [List.length_eq_zero_iff.1 (hn.trans h0)] at ht
    simp [vrs] at ht
  · simp only [Value.slice.injEq] at e
    obtain ⟨rfl, _, rfl⟩ := e
    refine ⟨h1, h2, fun i t ht => ?_⟩
    have hi : i < vs.length := by have := (List.getElem?_eq_some_iff.1 ht).1; simpa [vrs_len] using this
    obtain ⟨v, hv⟩ : ∃ v, vs[i]? = some v := ⟨_, List.getElem?_eq_getElem hi⟩
    have e2 := vrs_at hv
    rw [ht] at e2
    cases e2
    obtain ⟨r0, r1, r2⟩ := rowV_at hv
    have cc : ∀ q x, q < n * 3 → (rowV vs)[q]? = some x → w.cell? ⟨g, 0 + q, none⟩ = some x := fun q x hq hx => by
      rw [← h4, List.getElem?_take_of_lt hq, Array.getElem?_toList] at hx
      simp only [World.cell?, hb, Nat.zero_add]
      simpa using hx
    refine ⟨g, 0, .int .i64 4, .int .i64 v, .slice none 0 0, rfl, cc _ _ (by omega) r0, ?_, ?_, ?_⟩
    · rw [Nat.add_assoc]; exact cc _ _ (by omega) r1
    · rw [Nat.add_assoc]; exact cc _ _ (by omega) r2
    · exact Rd_node.2 ⟨none, 0, 0, rfl, by decide, hw v (List.mem_of_getElem? hv), rfl, Nat.le_refl _, Nat.zero_le _, fun i t h => by simp at h⟩

/-- what a round reads -/
def SMo (z bV oV : Nat) (s : Value) (j : Nat) (v : Int) (w' : World) : Prop := w'.cell? ⟨z + 1, 2, none⟩ = some s ∧ w'.cell? ⟨bV, oV + j, none⟩ = some (.int .i64 v)
/-- what holds at the head of the loop -/
structure MoI (vs : List Int) (w : World) (j : Nat) (wr : World) (Av : Option Addr) (cv : Nat) : Prop where
  res : Box wr w.heap.size 24 #[.int .i64 0, .int .i64 0, .slice none 0 0]
  out : Box wr (w.heap.size + 1) 24 #[.int .i64 6, .int .i64 0, .slice Av j cv]
  row : wr.ownsRow (w.heap.size + 2) 24 3 (.slice Av j cv) j (rowV (vs.take j))
  below : Below w.heap.size w wr

end Go.Proofs.Ytkakfckjmmmjgaa

/-
  What Invert's answer says of a term that is known. No statement is proved here.
-/
namespace Go.Proofs.Ytkakfckjmmmjgaa
open Go.ChangeShapes Go.WideShapes Go.ChangeAt Go.RowKit
set_option linter.unusedVariables false

theorem ivR_cases {s d : Nat} {t : T} (k : Kn s d t) (vs : List Int) (n : Int) (hl : vs.length ≤ 1000) :
    ((0 ≤ n ∧ n ≤ 1000) ∧ vB n [] vs = true ∧ ((∃ u, ivR t vs n = .ok u ∧ ivT (igo vs n) t 0 = some u) ∨ (ivR t vs n = .error 7 ∧ ivT (igo vs n) t 0 = none))) ∨ ivR t vs n = .error 1 := by
  have hs : nd t ≤ 1048576 := by have := ((myB_iff t).1 k.my).2.1; omega
  have ho := okT_of t k.nod k.lo
  by_cases h : (decide (0 ≤ n) && decide (n ≤ 1000) && mayB t && vB n [] vs) = true
  · have h2 := h
    simp only [Bool.and_eq_true, decide_eq_true_eq] at h2
    have hr : ivR t vs n = ivO (ivT (igo vs n) t 0) := by
      rw [ivR, if_pos h, rn_iv (M := 1099511627776) (g := igo vs n) (by omega) (fun x h0 hx => ⟨igW_eq h0 (by omega) h2.1.1 (by omega), fun y hy => by have := igo_bd (M := 1099511627776) (by omega) hx h2.1.1.1 hy; omega⟩) t 0 ho (by omega) (by omega)]
    refine .inl ⟨h2.1.1, h2.2, ?_⟩
    cases hq : ivT (igo vs n) t 0 with
    | none => exact .inr ⟨by rw [hr, hq]; rfl, rfl⟩
    | some u => exact .inl ⟨u, by rw [hr, hq]; rfl, rfl⟩
  · exact .inr (ivR_bad (by simpa using h))
/-- how great Heads are in what is told -/
theorem iv_low {s d : Nat} {t u : T} (k : Kn s d t) {vs : List Int} {n : Int} (hn : 0 ≤ n ∧ n ≤ 1000) (hl : vs.length ≤ 1000) (h : ivT (igo vs n) t 0 = some u) : okT (1099511627776 + 1000) u :=
  ok_iv (M := 1099511627776) (fun x h0 hx y hy => by
    unfold igo at hy
    split at hy
    · cases hy; omega
    · have := pls_lt hy; omega) (by omega) t 0 u (Int.le_refl _) (okT_of t k.nod k.lo) h
theorem vrs_low {vs : List Int} {n : Int} (hn : n ≤ 1000) (hv : vB n [] vs = true) : ∀ x ∈ vrs vs, okT 1099511627776 x := fun x hx => by
  obtain ⟨v, hm, rfl⟩ := List.mem_map.1 hx
  have := (vB_top.1 hv).1 v hm
  rw [okT, okL]
  exact ⟨fun _ => by omega, trivial⟩
theorem vrs_wf {vs : List Int} {n : Int} (hn : n ≤ 1000) (hv : vB n [] vs = true) : ∀ v ∈ vs, (Lit.int .i64 v).wf = true := fun v hm => by
  have := (vB_top.1 hv).1 v hm
  have h : -9223372036854775808 ≤ v ∧ v ≤ 9223372036854775807 := by omega
  simpa [Lit.wf, IntKind.min, IntKind.max, IntKind.signed, IntKind.bits] using h
/-- a leaf has no Args -/
theorem leaf_len {ok : Nat → Prop} {w : World} {k h k' h' : Int} {A : Option Addr} {n c : Nat} (hr : RdF ok w (.node k' h' []) (.agg #[.int .i64 k, .int .i64 h, .slice A n c])) : n = 0 := by
  obtain ⟨A', n', c', e, _, _, h3, _⟩ := RdF_node.1 hr
  simp at e
  have : n' = 0 := h3.symm
  omega
end Go.Proofs.Ytkakfckjmmmjgaa

/-
  What the laws of layer 6 need of Fill and of patterns. No statement is proved here.
-/
namespace Go.Proofs.Ytkakfckjmmmjgaa
open Go.ChangeShapes Go.WideShapes Go.ChangeAt Go.RowKit
set_option linter.unusedVariables false
set_option maxRecDepth 100000

theorem ptn_vrs (n : Int) : ∀ (vs seen : List Int), (ptn n seen (vrs vs)).isSome = vB n seen vs
  | [], seen => rfl
  | v :: vs, seen => by
    have ih := ptn_vrs n vs (seen ++ [v])
    have e : vrs (v :: vs) = .node 4 v [] :: vrs vs := rfl
    have hp : pt1 seen n (.node 4 v []) = (decide (0 ≤ v) && decide (v < n) && !seen.contains v) := rfl
    rw [e, ptn, hp, vB]
    cases decide (0 ≤ v) && decide (v < n) && !seen.contains v with
    | false => rfl
    | true => exact ih
theorem PtEnd.tupleI {o : Option (List Int)} {w w' : World} {e : Ending} (h : PtEnd o w e w') : ∃ v, e = .returned (.tuple #[v, .bool o.isSome]) ∧ Below w.heap.size w w' := by
  rcases h with ⟨zs, v, rfl, rfl, _, hb⟩ | ⟨rfl, rfl, hb⟩
  · exact ⟨v, rfl, hb⟩
  · exact ⟨_, rfl, hb⟩
theorem has_vrs : ∀ vs : List Int, hasL (vrs vs) = false
  | [] => rfl
  | v :: vs => by
    have := has_vrs vs
    show hasL (.node 4 v [] :: vrs vs) = false
    rw [hasL, hasB, hasL, this]
    rfl
theorem my_meta {vs : List Int} {n : Int} (hl : vs.length ≤ 20) (hv : vB n [] vs = true) : myB (.node 6 0 (vrs vs)) = true ∧ (vrs vs).all myB = true := by
  have hm := vrs_my fun v h => ((vB_top.1 hv).1 v h).1
  obtain ⟨h1, h2⟩ := vs_nd 0 (vrs vs) fun x hx => by
    obtain ⟨v, _, rfl⟩ := List.mem_map.1 hx
    exact ⟨v, rfl⟩
  have h3 := vrs_len vs
  refine ⟨(myB_iff _).2 ⟨?_, by rw [nd]; omega, by rw [dp]; omega⟩, List.all_eq_true.2 hm⟩
  rw [nodB, nodL_of fun x hx' => ((myB_iff x).1 (hm x hx')).1]
  simp [okN]
/-- a meta that is what is told -/
theorem fill_back {vs : List Int} {n : Int} {x y : T} (hl : vs.length ≤ 20) (hn : 0 ≤ n ∧ n ≤ 1000) (hv : vB n [] vs = true) (hx : myB x = true) (h : apT x (vrs vs) n = y ∧ apE x (vrs vs) n = 0) : fiR [x] n (.node 6 0 (vrs vs)) = .ok y := by
  obtain ⟨h1, h2⟩ := my_meta hl hv
  rw [fi_one hx (has_vrs vs) h1 h2 hn, if_pos h.2, h.1]
/-- what a meta becomes inverts to what it was filled with -/
theorem only_facts {x : T} (k : Kn 1000 60 x) {vs : List Int} {n : Int} (hl : vs.length ≤ 20) (hn : 0 ≤ n ∧ n ≤ 1000) (hv : vB n [] vs = true) :
    ∃ u, fiR [x] n (.node 6 0 (vrs vs)) = .ok u ∧ nd u ≤ 1048576 ∧ ivR u vs n = .ok x := by
  have ho := okT_of x k.nod k.lo
  obtain ⟨u, hu⟩ := rho_all (vs := vs) (n := n) x 0
  have hg : ∀ i, 0 ≤ i → i ≤ 1099511627776 → ∀ y, rho vs n i = some y → (0 ≤ y ∧ y ≤ i + 1000) ∧ igo vs n y = some i := fun i h0 _ y hy => by
    rcases igo_rho hv h0 hy with h | h
    · exact ⟨⟨h.1.1, by omega⟩, h.2⟩
    · omega
  have hou : okT (1099511627776 + 1000) u := ok_iv (fun i h0 hi y hy => (hg i h0 hi y hy).1) (by omega) x 0 u (Int.le_refl _) ho hu
  have hmu : myB u = true := my_iv (M := 1099511627776) (fun i h0 hi y hy => (hg i h0 hi y hy).1.1) ho k.my hu
  have hback : ivT (igo vs n) u 0 = some x := iv_iv (M := 1099511627776) (fun i h0 hi y hy => ⟨(hg i h0 hi y hy).1.1, (hg i h0 hi y hy).2⟩) x 0 u (Int.le_refl _) ho hu
  have hv' := (vB_top.1 hv).1
  have hap := ren_tells k.my (sb_of (L := vrs vs) (sh := n) (by rw [vrs_len]; omega) (by omega) (vrs_my fun v h => (hv' v h).1)) (iv_ren hv' hn.1 u 0 x hou hback) hmu
  have hnd : nd u ≤ 1048576 := by have := ((myB_iff u).1 hmu).2.1; omega
  refine ⟨u, fill_back hl hn hv k.my hap, hnd, ?_⟩
  rw [ivR, if_pos (by rw [mayB_my hnd, hmu, hv, decide_eq_true hn.1, decide_eq_true hn.2]; rfl), rn_iv (M := 1099511627776 + 1000) (g := igo vs n) (by omega) (fun i h0 hi => ⟨igW_eq h0 (by omega) hn (by omega), fun y hy => by have := igo_bd (M := 1099511627776 + 1000) (by omega) hi hn.1 hy; omega⟩) u 0 hou (by omega) (by omega), hback]
  rfl
end Go.Proofs.Ytkakfckjmmmjgaa

/-
  Contract of package occur's Patterns. No statement is proved here.
-/
namespace Go.Proofs.Ytkakfckjmmmjgaa
open Go.ChangeShapes Go.WideShapes Go.ChangeAt Go.RowKit Go.Shelf
set_option linter.unusedVariables false

attribute [local go_sem] Oper.semAt_some

theorem all_prefix2 {α : Type} {p : α → Bool} {ks ls : List α} (h : ks <+: ls) (hf : ks.all p = false) : ls.all p = false := by
  obtain ⟨r, rfl⟩ := h
  rw [List.all_append, hf, Bool.false_and]
/-- are all patterns that have come? -/
def paP {w0 : World} (n : Int) (pre : List (No w0)) : Bool := (pre.map No.key).all (pa1 n)
theorem paP_snoc {w0 : World} (n : Int) (pre : List (No w0)) (x : No w0) (h : paP n pre = true) : paP n (pre ++ [x]) = pa1 n x.key := by
  unfold paP at *
  rw [List.map_append, List.all_append, h, Bool.true_and]; simp
theorem PtEnd.tuple {o : Option (List Int)} {w w' : World} {e : Ending} (h : PtEnd o w e w') : ∃ v, e = .returned (.tuple #[v, .bool o.isSome]) ∧ Below w.heap.size w w' := by
  rcases h with ⟨zs, v, rfl, rfl, _, hb⟩ | ⟨rfl, rfl, hb⟩
  · exact ⟨v, rfl, hb⟩
  · exact ⟨_, rfl, hb⟩
theorem rdAt_ck {w w' : World} (hk : CK w.heap.size w w') {A : Option Addr} {j : Nat} {t : T} (h : RdAt w A j t) : RdAt w' A j t := by
  obtain ⟨b, o, v0, v1, v2, rfl, c0, c1, c2, hr⟩ := h
  exact ⟨b, o, v0, v1, v2, rfl, hk.cell (cell_lt c0) c0, hk.cell (cell_lt c1) c1, hk.cell (cell_lt c2) c2, Rd.ck hk t _ hr⟩

set_option maxRecDepth 100000 in
set_option maxHeartbeats 4000000 in
theorem oPatternsC (t : T) (nn : Int) (v : Value) (w : World) (hv : Rd w t v) (hs : wd t ≤ 3518437208780) :
    Calls Try.prog 11 #[v, .int .i64 nn] w fun e w' => e = .returned (.bool ((nds t 0).all (pa1 nn))) ∧ Below w.heap.size w w' := by
  obtain ⟨k, h, A, n, c, rfl⟩ := hv.full
  have HV := Lib.hid hv; clear hv
  have HS := Lib.hid hs; clear hs
  refine (callsIn_wide (n := 8)).1 (callsIn_of_wp_marks Try.func11 rfl trivial ?_ rfl)
  simp only [Try.ntmps11, List.size_toArray, List.length_cons, List.length_nil, Nat.reduceAdd, Nat.reduceSub, Array.replicate_succ, Array.replicate_zero, List.push_toArray, List.append_toArray, List.nil_append, List.cons_append]
  gi_wp2_with (refine ⟨trivial, ?_⟩; gi_at_call 23; refine (callsIn_wide.2 (onodesC k h _ ⟨A, n, c, rfl⟩ _)).mono ?_; rintro e w' ⟨rfl, rfl⟩)
  obtain ⟨W0, hW0⟩ : ∃ W0, ((((w.alloc (.cells #[.int .i64 k, .int .i64 h, .slice A n c] 24)).alloc (.cells #[.int .i64 nn] 3)).alloc (.cells #[.bool false] 4)).alloc (.cells #[.int .i64 k, .int .i64 h, .slice A n c] 24)) = W0 := ⟨_, rfl⟩
  rw [hW0]
  have hbW : Below w.heap.size w W0 := by
    rw [← hW0]; exact ((((Below.refl _ w).alloc (Nat.le_refl _) _).alloc (by simp) _).alloc (by simp; omega) _).alloc (by simp; omega) _
  have bx1 : Box W0 (w.heap.size + 1) 3 #[.int .i64 nn] := by
    rw [← hW0]; exact (((Box.new (w.alloc _) _ _).at (b' := w.heap.size + 1) (by simp)).alloc _).alloc _
  have bx2 : Box W0 (w.heap.size + 1 + 1) 4 #[.bool false] := by
    rw [← hW0]; exact ((Box.new ((w.alloc _).alloc _) _ _).at (b' := w.heap.size + 1 + 1) (by simp)).alloc _
  have bx3 : Box W0 (w.heap.size + 1 + 1 + 1) 24 #[.int .i64 k, .int .i64 h, .slice A n c] := by
    rw [← hW0]; exact (Box.new (((w.alloc _).alloc _).alloc _) _ _).at (b' := w.heap.size + 1 + 1 + 1) (by simp)
  clear hW0
  have hl := bx3.lt
  refine wpIn_rangeFunc_ownH rfl (by omega) (gf := 35) (lb := #[.pointer (some ⟨w.heap.size + 1 + 1 + 1, 0, none⟩)]) rfl trivial (enters_of Try.func35 (by kernel_rfl) rfl)
    (onodesStops 7 w W0 t k h _ (w.heap.size + 1 + 1 + 1) (w.heap.size + 1 + 1 + 1) HS.out HV.out hbW (by omega) (by omega) bx3) KB.trans (fun W l o o' _ h1 h2 _ => KB.putObj W l o o' h1 h2) (Below.refl _ _) (fun _ => rfl)
    (fun pre W => Box W (w.heap.size + 1) 3 #[.int .i64 nn] ∧ Box W (w.heap.size + 1 + 1) 4 #[.bool false] ∧ Hid (paP nn pre = true) ∧ Below w.heap.size w W)
    (fun cd pre W => cd = .ret ∧ Box W (w.heap.size + 1 + 1) 4 #[.bool false] ∧ Hid (paP nn pre = false) ∧ Below w.heap.size w W)
    (fun s A B row hs hg hr => ⟨hs.1.kept hg hr, hs.2.1.kept hg hr, hs.2.2.1, below_kept hs.2.2.2 hg hr (by omega) hs.2.2.2.size⟩)
    (fun _ s A B row hs hg hr => ⟨hs.1, hs.2.1.kept hg hr, hs.2.2.1, below_kept hs.2.2.2 hg hr (by omega) hs.2.2.2.size⟩) ⟨bx1, bx2, Lib.hid rfl, hbW⟩
    (fun x a' W => ∃ By, w.heap.size + 1 + 1 + 1 ≤ By ∧ Box W By 24 #[.int .i64 x.k, .int .i64 x.h, .slice x.A x.n x.c] ∧
      a' = { tmps := #[.agg #[.int .i64 k, .int .i64 h, .slice A n c], .int .i64 nn, .pointer (some ⟨w.heap.size, 0, none⟩), .pointer (some ⟨w.heap.size + 1, 0, none⟩), .pointer (some ⟨w.heap.size + 1 + 1, 0, none⟩), .int .i64 x.b, .pointer (some ⟨By, 0, none⟩), undef, undef, .agg #[.int .i64 k, .int .i64 h, .slice A n c],
        .func (.func 35) #[] #[.pointer (some ⟨w.heap.size + 1 + 1 + 1, 0, none⟩)], .int .i64 x.b, .agg #[.int .i64 x.k, .int .i64 x.h, .slice x.A x.n x.c], undef, undef, undef, undef, undef, undef, undef, undef, undef, undef, undef, undef, undef, undef], defers := [] })
    (fun _ _ _ A B row hs hg hr => by obtain ⟨By, h2, h4, h5⟩ := hs; exact ⟨By, h2, h4.kept hg hr, h5⟩) ?assign ?body ?done ?stop
  case assign =>
    rintro l pre x W K ⟨hb1, hb2, hM, hB⟩ hK
    have hz := hb2.lt
    have e := hB.size
    simp only [encO, List.zip_toArray, List.zip_cons_cons, List.zip_nil_right, List.foldl_toArray, List.foldl_cons, List.foldl_nil, List.setIfInBounds_toArray, List.set_cons_succ, List.set_cons_zero]
    gi_wp2
    have hbA : Below W.heap.size W (W.alloc (.cells #[.int .i64 x.k, .int .i64 x.h, .slice x.A x.n x.c] 24)) := (Below.refl _ _).alloc (Nat.le_refl _) _
    exact hK _ _ (keepsFrom_of_below hbA) (KB.of_below hbA) ⟨hb1.alloc _, hb2.alloc _, hM, hB.trans (hbA.mono hB.size)⟩ ⟨W.heap.size, by omega, Box.new _ _ _, rfl⟩
  case body =>
    rintro l pre x a' W hl ⟨r, hr⟩ ⟨hb1, hb2, hM, hB⟩ ⟨By, hBy, hbn, rfl⟩ _
    have HSN : Hid (paP nn (pre ++ [x]) = pa1 nn x.key) := Lib.hid (paP_snoc nn pre x hM.out)
    obtain ⟨xs, hxt, _, _, hxl, hxc, hxm, hxa⟩ := x.full
    have hp1 : pa1 nn x.key = (!(x.k == 6) || (ptn (wrap64 (nn + x.b)) [] xs).isSome) := by unfold No.key; rw [hxt]; rfl
    rw [hp1] at HSN
    have HPC := Lib.hid (fun W' (hbw : Below w.heap.size w W') => (oPatternC xs x.A x.n x.c (wrap64 (nn + x.b)) W' hxl hxc hxm (by have := x.hn; omega) (fun i t ht => (hxa i t ht).keep hbw)).mono fun e w' hp => hp.tuple)
    clear hp1 hxt hxl hxc hxm hxa
    generalize pre ++ [x] = px at *
    obtain ⟨c1, f1⟩ := hb1.one
    obtain ⟨c2, f2⟩ := hb2.one
    obtain ⟨q0, q1, q2⟩ := hbn.three
    obtain ⟨xb, xk, xh, xA, xn, xc, xt, xr, xs'⟩ := x
    dsimp only at *
    clear xs'
    have hwr : IntKind.i64.wrap (nn + xb) = wrap64 (nn + xb) := wrapEq _
    by_cases k6 : xk = 6
    · subst k6
      rw [show (!((6 : Int) == 6) || (ptn (wrap64 (nn + xb)) [] xs).isSome) = (ptn (wrap64 (nn + xb)) [] xs).isSome by simp] at HSN
      generalize wrap64 (nn + xb) = B at *
      gi_wp2_with (refine ⟨trivial, ?_⟩; gi_at_call 24; refine (CallsIn.inRound l (callsIn_wide.2 (HPC.out _ hB))).mono ?_; generalize (ptn B [] xs).isSome = R at *; rintro e w1 ⟨v1, rfl, hbs⟩; have s2 := hb2.keep hbs hb2.lt; have s1 := hb1.keep hbs hb1.lt; have sB := hB.trans (hbs.mono hB.size); have sF := keepsFrom_of_below (B := W0.heap.size) hbs; have sK := KB.of_below (n₀ := w.heap.size) (n₁ := w.heap.size + 1 + 1 + 1) hbs; obtain ⟨t1, tf⟩ := s2.one; cases R)
      · exact ⟨sF.trans ((KeepsOthers.setCell _ _ _).from _), rfl, s2.set _, HSN, sB.setCell (by dsimp only; omega) _⟩
      · exact ⟨sF, sK, s1, s2, HSN, sB⟩
    · have e6 : (xk == 6) = false := by simpa using k6
      rw [e6] at HSN
      have HH := Lib.hid k6; clear k6
      gi_wp2_with fail
      exact ⟨KeepsFrom.refl _ _, KB.refl _ _ _, hb1, hb2, Lib.hid (by rw [HSN.out]; rfl), hB⟩
  case done =>
    rintro D ys W hD hS ⟨hb1, hb3, hM, hB⟩ hK
    obtain ⟨c3, f3⟩ := hb3.one
    gi_wp2
    have b1' := hb3.set (.bool true)
    have hK' := (KeepsOthers.setCell W ⟨w.heap.size + 1 + 1, 0, none⟩ (.bool true)).same D _ hK rfl
    have hB' := below_putObj (hB.setCell (p := ⟨w.heap.size + 1 + 1, 0, none⟩) (by dsimp only; omega) (.bool true)) (show w.heap.size ≤ D by omega) (.deferred none)
    have e := (b1'.kept (B := 0) (grownBy_putObj' _ D (.deferred none)) (fun r e => by cases e; exact ⟨Nat.zero_le _, _, hK', rfl⟩)).one
    refine ⟨by simp, .inl ⟨_, _, rfl, run_takeDeferred hK', ?_⟩⟩
    refine ⟨.bool true, by simp [results, Try.results11, go_sem, e.1], by rw [← hS]; exact congrArg (fun b => Ending.returned (.bool b)) hM.out.symm, hB'⟩
  case stop =>
    rintro D cd pre W hD hS ⟨rfl, hb3, hM, hB⟩ hK
    obtain ⟨c3, f3⟩ := hb3.one
    gi_wp2
    have hB' := below_putObj hB (show w.heap.size ≤ D by omega) (.deferred none)
    have e := (hb3.kept (B := 0) (grownBy_putObj' _ D (.deferred none)) (fun r e => by cases e; exact ⟨Nat.zero_le _, _, hK, rfl⟩)).one
    refine ⟨by simp, .inl ⟨_, _, rfl, run_takeDeferred hK, ?_⟩⟩
    exact ⟨.bool false, by simp [results, Try.results11, go_sem, e.1], by rw [all_prefix2 hS hM.out], hB'⟩
end Go.Proofs.Ytkakfckjmmmjgaa

/-
  Patterns of patterns alone: what is filled is matched, and what is matched is filled. No statement is proved here.
-/
namespace Go.Proofs.Ytkakfckjmmmjgaa
open Go.ChangeShapes Go.WideShapes Go.ChangeAt Go.RowKit
set_option linter.unusedVariables false

mutual
theorem sam_eq : ∀ (t u : T), samB t u = true → t = u
  | .node k h xs, .node k' h' ys, e => by
    rw [samB] at e
    simp only [Bool.and_eq_true, beq_iff_eq] at e
    obtain ⟨⟨⟨rfl, rfl⟩, hl⟩, hs⟩ := e
    rw [sam_eqL xs ys hl hs]
theorem sam_eqL : ∀ (xs ys : List T), xs.length = ys.length → samL xs ys = true → xs = ys
  | [], [], _, _ => rfl
  | x :: xs, y :: ys, hl, e => by
    rw [samL, Bool.and_eq_true] at e
    rw [sam_eq x y e.1, sam_eqL xs ys (by simpa using hl) e.2]
end
theorem len_nodup : ∀ (n : Nat) (l : List Int), l.Nodup → (∀ x ∈ l, 0 ≤ x ∧ x < n) → l.length ≤ n
  | 0, l, _, h => by
    cases l with
    | nil => exact Nat.le_refl _
    | cons x xs => have := h x (List.mem_cons_self ..); omega
  | n + 1, l, hd, h => by
    have h1 := len_nodup n (l.erase (n : Int)) (hd.erase _) fun x hx => by
      obtain ⟨h2, h3⟩ := (hd.mem_erase_iff).1 hx
      have := h x h3
      omega
    have h2 := List.length_erase (a := (n : Int)) (l := l)
    split at h2 <;> omega
theorem vB_len {n : Int} {vs : List Int} (h0 : 0 ≤ n) (h : vB n [] vs = true) : (vs.length : Int) ≤ n := by
  obtain ⟨h1, h2⟩ := vB_top.1 h
  have := len_nodup n.toNat vs h2 fun x hx => by have := h1 x hx; omega
  omega
theorem ptn_some (n : Int) : ∀ (xs : List T) (seen zs : List Int), ptn n seen xs = some zs → ∃ vs, zs = seen ++ vs ∧ xs = vrs vs ∧ vB n seen vs = true
  | [], seen, zs, h => by rw [ptn] at h; cases h; exact ⟨[], by simp, rfl, rfl⟩
  | .node k h' ys :: ts, seen, zs, h => by
    by_cases hp : pt1 seen n (.node k h' ys) = true
    · rw [ptn_step hp] at h
      obtain ⟨vs, h1, h2, h3⟩ := ptn_some n ts _ zs h
      rw [pt1] at hp
      simp only [Bool.and_eq_true, beq_iff_eq] at hp
      obtain ⟨⟨⟨⟨rfl, hy⟩, h5⟩, h6⟩, h7⟩ := hp
      have hy' : ys = [] := List.length_eq_zero_iff.1 hy
      subst hy'
      refine ⟨h' :: vs, by rw [h1]; simp, by rw [h2]; rfl, ?_⟩
      rw [vB, h5, h6, h7, h3]; rfl
    · rw [ptn_stop (by simpa using hp)] at h
      cases h
theorem ptn_top7 {n : Int} {xs : List T} {zs : List Int} (h : ptn n [] xs = some zs) : xs = vrs zs ∧ vB n [] zs = true := by
  obtain ⟨vs, h1, h2, h3⟩ := ptn_some n xs [] zs h
  rw [List.nil_append] at h1
  subst h1
  exact ⟨h2, h3⟩
theorem vrs_mts : ∀ vs : List Int, mtsL (vrs vs) = []
  | [] => rfl
  | v :: vs => by
    have := vrs_mts vs
    show mtsL (.node 4 v [] :: vrs vs) = []
    rw [mtsL, mts, mtsL, this]
    rfl
/-- a meta's term under variables: what it is filled with, and back -/
theorem pat_core {x : T} (hm : myB x = true) (ho : okT 2199023255552 x) {vs : List Int} {n : Int} (hl : vs.length ≤ 200) (hn : 0 ≤ n ∧ n ≤ 1000) (hv : vB n [] vs = true) :
    ∃ u, apT x (vrs vs) n = u ∧ apE x (vrs vs) n = 0 ∧ ivR u vs n = .ok x := by
  obtain ⟨u, hu⟩ := rho_all (vs := vs) (n := n) x 0
  have hg : ∀ i, 0 ≤ i → i ≤ 2199023255552 → ∀ y, rho vs n i = some y → (0 ≤ y ∧ y ≤ i + 1000) ∧ igo vs n y = some i := fun i h0 _ y hy => by
    rcases igo_rho hv h0 hy with h | h
    · exact ⟨⟨h.1.1, by omega⟩, h.2⟩
    · omega
  have hou : okT (2199023255552 + 1000) u := ok_iv (fun i h0 hi y hy => (hg i h0 hi y hy).1) (by omega) x 0 u (Int.le_refl _) ho hu
  have hmu : myB u = true := my_iv (M := 2199023255552) (fun i h0 hi y hy => (hg i h0 hi y hy).1.1) ho hm hu
  have hback : ivT (igo vs n) u 0 = some x := iv_iv (M := 2199023255552) (fun i h0 hi y hy => ⟨(hg i h0 hi y hy).1.1, (hg i h0 hi y hy).2⟩) x 0 u (Int.le_refl _) ho hu
  have hv' := (vB_top.1 hv).1
  have hap := ren_tells hm (sb_of (L := vrs vs) (sh := n) (by rw [vrs_len]; exact hl) (by omega) (vrs_my fun v h => (hv' v h).1)) (iv_ren hv' hn.1 u 0 x hou hback) hmu
  have hnd : nd u ≤ 1048576 := by have := ((myB_iff u).1 hmu).2.1; omega
  refine ⟨u, hap.1, hap.2, ?_⟩
  rw [ivR, if_pos (by rw [mayB_my hnd, hmu, hv, decide_eq_true hn.1, decide_eq_true hn.2]; rfl), rn_iv (M := 2199023255552 + 1000) (g := igo vs n) (by omega) (fun i h0 hi => ⟨igW_eq h0 (by omega) hn (by omega), fun y hy => by have := igo_bd (M := 2199023255552 + 1000) (by omega) hi hn.1 hy; omega⟩) u 0 hou (by omega) (by omega), hback]
  rfl
/-- a meta whose Args are a pattern, filled -/
theorem fl_meta (th : List T) {h n : Int} {vs : List Int} (hv : vB n [] vs = true) : flT th (.node 6 h (vrs vs)) n = if (th.length : Int) ≤ h then .error 2 else if apE (th.getD h.toNat (.node 0 0 [])) (vrs vs) n = 0 then .ok (apT (th.getD h.toNat (.node 0 0 [])) (vrs vs) n) else .error (apE (th.getD h.toNat (.node 0 0 [])) (vrs vs) n) := by
  have hm : (vrs vs).all myB = true := List.all_eq_true.2 (vrs_my fun v h => ((vB_top.1 hv).1 v h).1)
  rw [flT, flL_none th 6 (vrs vs).length (vrs vs) 0 n (has_vrs vs)]
  simp only [flN, if_true, hm]

mutual
/-- are all metas of a term patterns -/
def paT : T → Int → Bool
  | .node k h xs, n => (!(k == 6) || (ptn n [] xs).isSome) && paL k xs.length xs 0 n
def paL (k : Int) (m : Nat) : List T → Nat → Int → Bool
  | [], _, _ => true
  | t :: ts, i, n => paT t (n + bd k m i) && paL k m ts (i + 1) n
end
mutual
theorem pa_nds (n : Int) (hn : 0 ≤ n ∧ n ≤ 1048576) : ∀ (t : T) (b : Int), 0 ≤ b → b + nd t ≤ 1048576 → (nds t b).all (pa1 n) = paT t (n + b)
  | .node k h xs, b, h0, h1 => by
    rw [nd] at h1
    have hw : wrap64 (n + b) = n + b := wrap_small (by omega) (by omega)
    rw [nds, List.all_cons, paT, pa_ndsL n hn k xs.length xs 0 b h0 (by omega)]
    congr 1
    show (!(k == 6) || (ptn (wrap64 (n + b)) [] xs).isSome) = _
    rw [hw]
theorem pa_ndsL (n : Int) (hn : 0 ≤ n ∧ n ≤ 1048576) (k : Int) (m : Nat) : ∀ (xs : List T) (i : Nat) (b : Int), 0 ≤ b → b + 1 + ndL xs ≤ 1048576 → (ndsL k m xs i b).all (pa1 n) = paL k m xs i (n + b)
  | [], _, _, _, _ => by rw [ndsL, paL]; rfl
  | t :: ts, i, b, h0, h1 => by
    rw [ndL] at h1
    have hb : 0 ≤ bd k m i ∧ bd k m i ≤ 1 := by rw [bd_bdn]; have := bdn_le k m i; omega
    have hw : wrap64 (b + bd k m i) = b + bd k m i := wrap_small (by omega) (by omega)
    rw [ndsL, List.all_append, paL, hw, pa_nds n hn t (b + bd k m i) (by omega) (by omega), pa_ndsL n hn k m ts (i + 1) b h0 (by omega), Int.add_assoc]
end
end Go.Proofs.Ytkakfckjmmmjgaa

/-
  Patterns of patterns alone: what is filled is matched, and what is matched is filled. No statement is proved here.
-/
namespace Go.Proofs.Ytkakfckjmmmjgaa
open Go.ChangeShapes Go.WideShapes Go.ChangeAt Go.RowKit
set_option linter.unusedVariables false

/-- terms for metas -/
structure ThA (th : List T) : Prop where
  few : th.length ≤ 200
  my : ∀ x ∈ th, myB x = true
  ok : ∀ x ∈ th, okT 2199023255552 x
/-- what is told so far is of those -/
structure CoB (th : List T) (bs : List BT) : Prop where
  len : bs.length = th.length
  at_ : ∀ (i : Nat) (x : BT), bs[i]? = some x → x.1 = true → th[i]? = some x.2
def told (bs : List BT) (m : Int) : Prop := ∃ x, bs[m.toNat]? = some x ∧ x.1 = true
theorem told.keep {a b : List BT} {m : Int} (h : told a m) (k : KpB a b) : told b m := by
  obtain ⟨x, hx, h1⟩ := h
  exact ⟨x, k.2 _ x hx h1, h1⟩
theorem getD_at {α : Type} {l : List α} {i : Nat} {x d : α} (h : l[i]? = some x) : l.getD i d = x := by rw [List.getD_eq_getElem?_getD, h]; rfl
theorem my_nought : myB (.node 0 0 []) = true := by decide
theorem rs_one (h : Int) : rs [h] = [h] := rfl
theorem mtO_meta {h : Int} {vs : List Int} : mtO (.node 6 h (vrs vs)) = [h] := by
  rw [mtO, mts, vrs_mts, if_pos rfl]; rfl
/-- with the terms that are told, a meta is filled as with all -/
theorem thL_one {bs : List BT} {h : Int} {x : BT} (h0 : 0 ≤ h) (hx : bs[h.toNat]? = some x) : (thL bs [h]).getD h.toNat (.node 0 0 []) = x.2 := by
  have hl : h.toNat < bs.length := (List.getElem?_eq_some_iff.1 hx).1
  have : (thL bs [h])[h.toNat]? = some x.2 := by
    simp [thL, hl]
    rw [if_pos (by omega)]
    have := List.getElem?_eq_getElem hl
    rw [hx] at this
    cases this; rfl
  exact getD_at this
theorem thL_my {bs : List BT} {h : Int} {x : BT} (h0 : 0 ≤ h) (hx : bs[h.toNat]? = some x) (hm : myB x.2 = true) : ∀ y ∈ thL bs [h], myB y = true := fun y hy => by
  obtain ⟨i, hi⟩ := List.getElem?_of_mem hy
  obtain ⟨hl, rfl⟩ := thL_at hi
  by_cases hm' : (i : Int) ∈ [h]
  · rw [if_pos hm']
    rw [List.mem_singleton] at hm'
    have : i = h.toNat := by omega
    rw [this, getD_at hx]
    exact hm
  · rw [if_neg hm']; exact my_nought
theorem vs_few {n : Int} {vs : List Int} (h0 : 0 ≤ n) (h1 : n ≤ 200) (hv : vB n [] vs = true) : vs.length ≤ 200 := by have := vB_len h0 hv; omega
theorem head_pos {h : Int} {xs : List T} (hm : myB (.node 6 h xs) = true) : 0 ≤ h := by
  have := (node_parts ((myB_iff _).1 hm).1).1
  simp [okN] at this
  omega
theorem nodB_part {k h : Int} {xs : List T} (hm : myB (.node k h xs) = true) : ∀ x ∈ xs, myB x = true ∧ dp x < dp (.node k h xs) := fun x hx => by
  obtain ⟨h1, h2, h3⟩ := (myB_iff _).1 hm
  rw [nd] at h2
  have h4 := nd_mem hx
  have h5 := dpL_mem hx
  rw [dp] at h3 ⊢
  exact ⟨(myB_iff _).2 ⟨(node_parts h1).2 x hx, by omega, by omega⟩, by omega⟩

theorem F_meta {th : List T} {pa : List Bool} {bs : List BT} {h : Int} {xs : List T} {t : T} {n : Int} (hth : ThA th) (hc : CoB th bs) (hpa : ∀ i, pa.getD i false = false) (hp : myB (.node 6 h xs) = true) (hpt : (ptn n [] xs).isSome = true) (h0 : 0 ≤ n) (h1 : n ≤ 200)
    (ht : flT th (.node 6 h xs) n = .ok t) (hmt : myB t = true) : ∃ bs', hdM pa [] bs h xs t n = .ok bs' ∧ CoB th bs' ∧ KpB bs bs' ∧ told bs' h := by
  obtain ⟨vs, hvs⟩ := Option.isSome_iff_exists.1 hpt
  obtain ⟨rfl, hv⟩ := ptn_top7 hvs
  have hh := head_pos hp
  have hfew := vs_few h0 h1 hv
  rw [fl_meta th hv] at ht
  have hlt : ¬ (th.length : Int) ≤ h := fun e => by rw [if_pos e] at ht; cases ht
  rw [if_neg hlt] at ht
  obtain ⟨x, hx⟩ : ∃ x, th[h.toNat]? = some x := ⟨_, List.getElem?_eq_getElem (by omega)⟩
  rw [getD_at hx] at ht
  have hxm := List.mem_of_getElem? hx
  obtain ⟨u, hu1, hu2, hu3⟩ := pat_core (hth.my x hxm) (hth.ok x hxm) hfew ⟨h0, by omega⟩ hv
  rw [if_pos hu2, hu1] at ht
  have hut : u = t := by injection ht
  subst hut
  clear ht
  obtain ⟨b, hb⟩ : ∃ b, bs[h.toNat]? = some b := ⟨_, List.getElem?_eq_getElem (by have := hc.len; omega)⟩
  have hll : ¬ (bs.length : Int) ≤ h := by have := hc.len; omega
  rw [hdM, if_neg hll, getD_at hb]
  by_cases hb1 : b.1 = true
  · have hbx : b.2 = x := by have := hc.at_ _ b hb hb1; rw [hx] at this; cases this; rfl
    have hcmp : cmpR bs (.node 6 h (vrs vs)) u n = 0 := by
      have hI : thI bs h = true := by rw [thI, getD_at hb, hb1, decide_eq_true (by omega)]; rfl
      have hall : (mtO (.node 6 h (vrs vs))).all (thI bs) = true := by rw [mtO_meta]; simp [hI]
      have hB : thB (thL bs [h]) = true := by
        rw [thB, thL_len, decide_eq_true (by have := hc.len; have := hth.few; omega), Bool.true_and]
        exact List.all_eq_true.2 (thL_my hh hb (by rw [hbx]; exact hth.my x hxm))
      have hf : fiR (thL bs [h]) n (.node 6 h (vrs vs)) = .ok u := by
        rw [fi_good hB h0 (by omega) hp, fl_meta _ hv, if_neg (by rw [thL_len]; exact hll), thL_one hh hb, hbx, if_pos hu2, hu1]
        simp only [hmt, if_true]
      rw [cmpR, if_pos hall, mtO_meta, hf]
      simp only [sam_refl, if_true]
    rw [if_pos hb1, if_pos hcmp]
    exact ⟨bs, rfl, hc, KpB.refl _, b, hb, hb1⟩
  · rw [if_neg hb1, becR, hvs]
    simp only [hu3, hpa, Bool.false_and]
    refine ⟨_, rfl, ⟨by rw [List.length_set]; exact hc.len, fun i y hy hy1 => ?_⟩, ⟨List.length_set, fun i y hy hy1 => ?_⟩, (true, x), ?_, rfl⟩
    · by_cases hi : h.toNat = i
      · subst hi
        rw [List.getElem?_set_self (by have := hc.len; omega)] at hy
        cases hy
        exact hx
      · rw [List.getElem?_set_ne hi] at hy
        exact hc.at_ i y hy hy1
    · have hne : h.toNat ≠ i := fun e => by
        subst e
        rw [hb] at hy
        cases hy
        exact hb1 hy1
      rw [List.getElem?_set_ne hne, hy]
    · exact List.getElem?_set_self (by have := hc.len; omega)
mutual
theorem F_T {th : List T} {pa : List Bool} (hth : ThA th) (hpa : ∀ i, pa.getD i false = false) : ∀ (p t : T) (n : Int) (bs : List BT), myB p = true → paT p n = true → 0 ≤ n → n + dp p ≤ 200 → flT th p n = .ok t → myB t = true → CoB th bs →
    ∃ bs', hdT pa [] p t n bs = .ok bs' ∧ CoB th bs' ∧ KpB bs bs' ∧ ∀ m ∈ mts p, told bs' m
  | .node k h xs, .node k' h' ys, n, bs, hp, hpt, h0, h1, ht, hmt, hc => by
    rw [paT, Bool.and_eq_true] at hpt
    by_cases hk : k = 6
    · subst hk
      have hpt1 : (ptn n [] xs).isSome = true := by simpa using hpt.1
      obtain ⟨bs', e1, e2, e3, e4⟩ := F_meta hth hc hpa hp hpt1 h0 (by omega) ht hmt
      refine ⟨bs', by rw [hdT, if_pos rfl]; exact e1, e2, e3, fun m hm => ?_⟩
      obtain ⟨vs, hvs⟩ := Option.isSome_iff_exists.1 hpt1
      obtain ⟨rfl, _⟩ := ptn_top7 hvs
      rw [mts, vrs_mts, if_pos rfl, List.append_nil, List.mem_singleton] at hm
      subst hm
      exact e4
    · obtain ⟨zs, hf, e⟩ := fl_node hk ht
      obtain ⟨rfl, rfl, rfl⟩ : k' = k ∧ h' = h ∧ ys = zs := by injection e with e1 e2 e3; exact ⟨e1, e2, e3⟩
      have hd1 : 1 + dpL xs ≤ dp (.node k' h' xs) := by rw [dp]; omega
      obtain ⟨hl, bs', e1, e2, e3, e4⟩ := F_L hth hpa k' xs.length xs ys 0 n bs (fun x hx => (nodB_part hp x hx).1) hpt.2 h0 (by omega) hf (fun x hx => (nodB_part hmt x hx).1) hc
      refine ⟨bs', by rw [hdT, if_neg hk, if_pos ⟨rfl, rfl, hl⟩]; exact e1, e2, e3, fun m hm => ?_⟩
      rw [mts, if_neg hk, List.nil_append] at hm
      exact e4 m hm
theorem F_L {th : List T} {pa : List Bool} (hth : ThA th) (hpa : ∀ i, pa.getD i false = false) (k : Int) (m : Nat) : ∀ (xs ys : List T) (i : Nat) (n : Int) (bs : List BT), (∀ x ∈ xs, myB x = true) → paL k m xs i n = true → 0 ≤ n → n + 1 + dpL xs ≤ 200 → flL th k m xs i n = .ok ys → (∀ x ∈ ys, myB x = true) → CoB th bs →
    xs.length = ys.length ∧ ∃ bs', hdL pa [] k m xs ys i n bs = .ok bs' ∧ CoB th bs' ∧ KpB bs bs' ∧ ∀ q ∈ mtsL xs, told bs' q
  | [], ys, i, n, bs, _, _, _, _, hf, _, hc => by
    rw [flL] at hf
    cases hf
    exact ⟨rfl, bs, by rw [hdL], hc, KpB.refl _, fun q hq => by rw [mtsL] at hq; cases hq⟩
  | x :: xs, ys, i, n, bs, hp, hpt, h0, h1, hf, hmt, hc => by
    obtain ⟨y, zs, hy, hz, rfl⟩ := flL_cons hf
    rw [paL, Bool.and_eq_true] at hpt
    have hb : 0 ≤ bd k m i ∧ bd k m i ≤ 1 := by rw [bd_bdn]; have := bdn_le k m i; omega
    have hd1 : dp x ≤ dpL (x :: xs) ∧ dpL xs ≤ dpL (x :: xs) := by rw [dpL]; omega
    obtain ⟨b1, e1, e2, e3, e4⟩ := F_T hth hpa x y (n + bd k m i) bs (hp x (List.mem_cons_self ..)) hpt.1 (by omega) (by omega) hy (hmt y (List.mem_cons_self ..)) hc
    obtain ⟨hl, b2, f1, f2, f3, f4⟩ := F_L hth hpa k m xs zs (i + 1) n b1 (fun z hz => hp z (List.mem_cons_of_mem _ hz)) hpt.2 h0 (by omega) hz (fun z hz => hmt z (List.mem_cons_of_mem _ hz)) e2
    refine ⟨by simp [hl], b2, ?_, f2, e3.trans f3, fun q hq => ?_⟩
    · rw [hdL]
      simp only [e1]
      exact f1
    · rw [mtsL, List.mem_append] at hq
      rcases hq with hq | hq
      · exact (e4 q hq).keep f3
      · exact f4 q hq
end
end Go.Proofs.Ytkakfckjmmmjgaa

/-
  What the laws need of patterns: heads of what is filled, what is filled is matched, what is matched is filled. No statement is proved here.
-/
namespace Go.Proofs.Ytkakfckjmmmjgaa
open Go.ChangeShapes Go.WideShapes Go.ChangeAt Go.RowKit
set_option linter.unusedVariables false

theorem pat_ok {x : T} {M : Int} (h0 : 0 ≤ M) (h1 : M ≤ 2199023255552) (hm : myB x = true) (ho : okT M x) {vs : List Int} {n : Int} (hl : vs.length ≤ 200) (hn : 0 ≤ n ∧ n ≤ 1000) (hv : vB n [] vs = true) : okT (M + 1000) (apT x (vrs vs) n) := by
  obtain ⟨u, hu⟩ := rho_all (vs := vs) (n := n) x 0
  have hg : ∀ i, 0 ≤ i → i ≤ M → ∀ y, rho vs n i = some y → (0 ≤ y ∧ y ≤ i + 1000) ∧ igo vs n y = some i := fun i h0 _ y hy => by
    rcases igo_rho hv h0 hy with h | h
    · exact ⟨⟨h.1.1, by omega⟩, h.2⟩
    · omega
  have hou : okT (M + 1000) u := ok_iv (fun i h0 hi y hy => (hg i h0 hi y hy).1) (by omega) x 0 u (Int.le_refl _) ho hu
  have hmu : myB u = true := my_iv (M := M) (fun i h0 hi y hy => (hg i h0 hi y hy).1.1) ho hm hu
  have hback : ivT (igo vs n) u 0 = some x := iv_iv (M := M) (fun i h0 hi y hy => ⟨(hg i h0 hi y hy).1.1, (hg i h0 hi y hy).2⟩) x 0 u (Int.le_refl _) ho hu
  have hv' := (vB_top.1 hv).1
  have hap := ren_tells hm (sb_of (L := vrs vs) (sh := n) (by rw [vrs_len]; exact hl) (by omega) (vrs_my fun v h => (hv' v h).1)) (iv_ren hv' hn.1 u 0 x hou hback) hmu
  rw [hap.1]
  exact hou
mutual
theorem P_T {th : List T} {M : Int} (hM0 : 0 ≤ M) (hM : M ≤ 2199023255552) (hmy : ∀ x ∈ th, myB x = true) (hok : ∀ x ∈ th, okT M x) : ∀ (p t : T) (n : Int), okT M p → paT p n = true → 0 ≤ n → n + dp p ≤ 200 → flT th p n = .ok t → okT (M + 1000) t
  | .node k h xs, t, n, hp, hpt, h0, h1, ht => by
    rw [paT, Bool.and_eq_true] at hpt
    by_cases hk : k = 6
    · subst hk
      have hpt1 : (ptn n [] xs).isSome = true := by simpa using hpt.1
      obtain ⟨vs, hvs⟩ := Option.isSome_iff_exists.1 hpt1
      obtain ⟨rfl, hv⟩ := ptn_top7 hvs
      rw [fl_meta th hv] at ht
      split at ht
      · cases ht
      · split at ht
        · cases ht
          have hmem : ∀ y, y = th.getD h.toNat (.node 0 0 []) → myB y = true ∧ okT M y := fun y hy => by
            rw [List.getD_eq_getElem?_getD] at hy
            cases hq : th[h.toNat]? with
            | none => rw [hq] at hy; subst hy; exact ⟨my_nought, by rw [Option.getD_none, okT, okL]; exact ⟨fun h => by omega, trivial⟩⟩
            | some z => rw [hq] at hy; subst hy; exact ⟨hmy _ (List.mem_of_getElem? hq), hok _ (List.mem_of_getElem? hq)⟩
          exact pat_ok hM0 hM (hmem _ rfl).1 (hmem _ rfl).2 (vs_few h0 (by omega) hv) ⟨h0, by omega⟩ hv
        · cases ht
    · obtain ⟨zs, hf, rfl⟩ := fl_node hk ht
      rw [okT] at hp
      have hd1 : 1 + dpL xs ≤ dp (.node k h xs) := by rw [dp]; omega
      rw [okT]
      exact ⟨fun e => by have := hp.1 e; omega, P_L hM0 hM hmy hok k xs.length xs zs 0 n hp.2 hpt.2 h0 (by omega) hf⟩
theorem P_L {th : List T} {M : Int} (hM0 : 0 ≤ M) (hM : M ≤ 2199023255552) (hmy : ∀ x ∈ th, myB x = true) (hok : ∀ x ∈ th, okT M x) (k : Int) (m : Nat) : ∀ (xs ys : List T) (i : Nat) (n : Int), okL M xs → paL k m xs i n = true → 0 ≤ n → n + 1 + dpL xs ≤ 200 → flL th k m xs i n = .ok ys → okL (M + 1000) ys
  | [], ys, i, n, _, _, _, _, hf => by rw [flL] at hf; cases hf; rw [okL]; trivial
  | x :: xs, ys, i, n, hp, hpt, h0, h1, hf => by
    obtain ⟨y, zs, hy, hz, rfl⟩ := flL_cons hf
    rw [paL, Bool.and_eq_true] at hpt
    rw [okL] at hp
    have hb : 0 ≤ bd k m i ∧ bd k m i ≤ 1 := by rw [bd_bdn]; have := bdn_le k m i; omega
    have hd1 : dp x ≤ dpL (x :: xs) ∧ dpL xs ≤ dpL (x :: xs) := by rw [dpL]; omega
    rw [okL]
    exact ⟨P_T hM0 hM hmy hok x y (n + bd k m i) hp.1 hpt.1 (by omega) (by omega) hy, P_L hM0 hM hmy hok k m xs zs (i + 1) n hp.2 hpt.2 h0 (by omega) hz⟩
end

theorem pa_top {p : T} {n : Int} (hm : myB p = true) (hn : 0 ≤ n ∧ n ≤ 1000) (h : (nds p 0).all (pa1 n) = true) : paT p n = true := by
  have h4 := ((myB_iff p).1 hm).2.1
  rw [pa_nds n (by omega) p 0 (by omega) (by omega), Int.add_zero] at h
  exact h
theorem rep_false (N : Nat) : ∀ i, (List.replicate N false).getD i false = false := fun i => by
  rw [List.getD_eq_getElem?_getD, List.getElem?_replicate]
  split <;> rfl
theorem rep_noB {N i : Nat} {x : BT} (h : (List.replicate N noB)[i]? = some x) : x = noB := by
  rw [List.getElem?_replicate] at h
  split at h <;> cases h
  rfl
theorem co_rep {th : List T} : CoB th (List.replicate th.length noB) := ⟨by simp, fun i x hx h1 => by rw [rep_noB hx] at h1; cases h1⟩
theorem mtA_rep {p t : T} {n : Int} {N : Nat} (hp : myB p = true) (ht : myB t = true) (hn : 0 ≤ n ∧ n ≤ 1000) (hN : N ≤ 200) : mtA p t n (List.replicate N noB) (List.replicate N false) = true := by
  have ha : (List.replicate N noB).all myA = true := List.all_eq_true.2 fun x hx => by rw [List.eq_of_mem_replicate hx]; rfl
  rw [mtA, hp, ht, ha, decide_eq_true hn.1, decide_eq_true hn.2, List.length_replicate, List.length_replicate, decide_eq_true hN, decide_eq_true rfl]
  rfl
mutual
/-- a pattern's metas may lack alone -/
theorem E_T {th : List T} (hth : ThA th) : ∀ (p : T) (n : Int) (e : Int), myB p = true → paT p n = true → 0 ≤ n → n + dp p ≤ 200 → flT th p n = .error e → e = 2
  | .node k h xs, n, e, hp, hpt, h0, h1, he => by
    rw [paT, Bool.and_eq_true] at hpt
    by_cases hk : k = 6
    · subst hk
      have hpt1 : (ptn n [] xs).isSome = true := by simpa using hpt.1
      obtain ⟨vs, hvs⟩ := Option.isSome_iff_exists.1 hpt1
      obtain ⟨rfl, hv⟩ := ptn_top7 hvs
      have hh := head_pos hp
      rw [fl_meta th hv] at he
      split at he
      · cases he; rfl
      · rename_i hlt
        split at he
        · cases he
        · rename_i hne
          obtain ⟨y, hy⟩ : ∃ y, th[h.toNat]? = some y := ⟨_, List.getElem?_eq_getElem (by omega)⟩
          rw [getD_at hy] at hne
          have hm := List.mem_of_getElem? hy
          obtain ⟨u, _, hu2, _⟩ := pat_core (hth.my y hm) (hth.ok y hm) (vs_few h0 (by omega) hv) ⟨h0, by omega⟩ hv
          exact absurd hu2 hne
    · rw [flT] at he
      split at he
      · rename_i e' hf
        cases he
        have hd1 : 1 + dpL xs ≤ dp (.node k h xs) := by rw [dp]; omega
        exact E_L hth k xs.length xs 0 n _ (fun x hx => (nodB_part hp x hx).1) hpt.2 h0 (by omega) hf
      · rw [flN, if_neg hk] at he
        cases he
theorem E_L {th : List T} (hth : ThA th) (k : Int) (m : Nat) : ∀ (xs : List T) (i : Nat) (n : Int) (e : Int), (∀ x ∈ xs, myB x = true) → paL k m xs i n = true → 0 ≤ n → n + 1 + dpL xs ≤ 200 → flL th k m xs i n = .error e → e = 2
  | [], i, n, e, _, _, _, _, he => by rw [flL] at he; cases he
  | x :: xs, i, n, e, hp, hpt, h0, h1, he => by
    rw [paL, Bool.and_eq_true] at hpt
    have hb : 0 ≤ bd k m i ∧ bd k m i ≤ 1 := by rw [bd_bdn]; have := bdn_le k m i; omega
    have hd1 : dp x ≤ dpL (x :: xs) ∧ dpL xs ≤ dpL (x :: xs) := by rw [dpL]; omega
    rw [flL] at he
    cases hx : flT th x (n + bd k m i) with
    | error e' =>
      rw [hx] at he
      cases he
      exact E_T hth x _ _ (hp x (List.mem_cons_self ..)) hpt.1 (by omega) (by omega) hx
    | ok y =>
      rw [hx] at he
      try simp only at he
      cases hz : flL th k m xs (i + 1) n with
      | error e' =>
        rw [hz] at he
        cases he
        exact E_L hth k m xs (i + 1) n _ (fun z hz => hp z (List.mem_cons_of_mem _ hz)) hpt.2 h0 (by omega) hz
      | ok zs => rw [hz] at he; cases he
end
theorem thB_of {th : List T} (hth : ThA th) : thB th = true := by
  rw [thB, decide_eq_true hth.few, Bool.true_and]
  exact List.all_eq_true.2 hth.my
theorem finds_err {p : T} {th : List T} {n e : Int} (hth : ThA th) (hmp : myB p = true) (hn : 0 ≤ n ∧ n ≤ 100) (hpt : (nds p 0).all (pa1 n) = true) (hf : fiR th n p = .error e) : e = 2 ∨ e = 4 := by
  have hpa := pa_top hmp (by omega) hpt
  have hd := ((myB_iff p).1 hmp).2.2
  rw [fi_good (thB_of hth) hn.1 (by omega) hmp] at hf
  cases hl : flT th p n with
  | error e' =>
    rw [hl] at hf
    cases hf
    exact .inl (E_T hth p n _ hmp hpa hn.1 (by omega) hl)
  | ok t =>
    rw [hl] at hf
    try simp only at hf
    split at hf
    · cases hf
    · cases hf; exact .inr rfl
/-- lists that are made -/
theorem make_binds {N : Nat} (hN : N ≤ 200) (W : World) : (Instr.makeSlice 35 (.int .i64 (N : Int)) (.int .i64 (N : Int))).run Try.prog W = .ok (.slice (some ⟨W.heap.size, 0, none⟩) N N) (W.alloc (.cells (madeCells #[.bool false, .int .i64 0, .int .i64 0, .slice none 0 0] (N * 4)) 40)) := by
  obtain ⟨i0, hi, hz0, hz1, hz2⟩ := info_parts infoBind
  have := run_make W 35 40 i0 _ Try.underlying35 hi hz0 .i64 .i64 (N : Int) (N : Int) (by omega) (Int.le_refl _) (by rw [hz2]; omega) (by omega)
  rw [hz1] at this
  simpa [Value.cells] using this
theorem infoBool : (Try.prog.info? 4).map (fun i => (i.zero, i.size, i.bytes)) = some (some (.bool false), 1, 1) := by kernel_rfl
theorem make_bools {N : Nat} (hN : N ≤ 200) (W : World) : (Instr.makeSlice 38 (.int .i64 (N : Int)) (.int .i64 (N : Int))).run Try.prog W = .ok (.slice (some ⟨W.heap.size, 0, none⟩) N N) (W.alloc (.cells (madeCells #[.bool false] N) 4)) := by
  obtain ⟨i0, hi, hz0, hz1, hz2⟩ := info_parts infoBool
  have := run_make W 38 4 i0 _ Try.underlying38 hi hz0 .i64 .i64 (N : Int) (N : Int) (by omega) (Int.le_refl _) (by rw [hz2]; omega) (by omega)
  rw [hz1] at this
  simpa [Value.cells] using this
theorem bl_made {ok : Nat → Prop} {w : World} {q N : Nat} {ty : TypeId} (hN : N ≤ 200) (h : Box w q ty (madeCells #[.bool false, .int .i64 0, .int .i64 0, .slice none 0 0] (N * 4))) : BL ok w (List.replicate N noB) (some ⟨q, 0, none⟩) N N :=
  BFs.list (bs := List.replicate N noB) ((bfs_made (w := w) (ok := ok) N).move (fun b hb _ => ⟨hb, rfl⟩) fun i hi => by rw [List.getD_eq_getElem?_getD, List.getElem?_replicate, if_pos hi]; rfl) h (by simp) (by omega)
theorem lb_made {w : World} {q N : Nat} {ty : TypeId} (hN : N ≤ 200) (h : Box w q ty (madeCells #[.bool false] N)) : LB w (List.replicate N false) (some ⟨q, 0, none⟩) N N :=
  ⟨by simp, Nat.le_refl _, by unfold maxLen; omega, fun i x hx => by
    rw [List.getElem?_replicate] at hx
    split at hx
    · rename_i hi
      cases hx
      refine ⟨q, 0, rfl, ?_⟩
      rw [Nat.zero_add, h.cell]
      simp [madeCells, hi, Nat.mod_one]
    · cases hx⟩
/-- MatchFinds -/
theorem finds_facts {p t : T} {th : List T} {n : Int} (hth : ThA th) (hok : ∀ x ∈ th, okT 1099511627776 x) (hop : okT 1099511627776 p) (hn : 0 ≤ n ∧ n ≤ 100) (hpt : (nds p 0).all (pa1 n) = true) (hf : fiR th n p = .ok t) :
    okT 2199021158400 t ∧ ∃ b, mtR p t n (List.replicate th.length noB) (List.replicate th.length false) [] = .ok b ∧ b.length = th.length ∧ ∀ m ∈ mts p, 0 ≤ m ∧ ∃ x, b[m.toNat]? = some x ∧ x.1 = true ∧ th[m.toNat]? = some x.2 := by
  obtain ⟨_, _, _, hmp, hfl, hmt⟩ := fi_ok hf
  have hpa := pa_top hmp (by omega) hpt
  have hd := ((myB_iff p).1 hmp).2.2
  obtain ⟨b, e1, e2, e3, e4⟩ := F_T (pa := List.replicate th.length false) hth (rep_false _) p t n _ hmp hpa hn.1 (by omega) hfl hmt co_rep
  refine ⟨okT_mono (by omega) _ (P_T (M := 1099511627776) (by omega) (by omega) hth.my hok p t n hop hpa hn.1 (by omega) hfl), b.map ownB, ?_, by rw [List.length_map]; exact e2.len, fun m hm => ⟨mts_pos p ((myB_iff p).1 hmp).1 m hm, ?_⟩⟩
  · rw [mtR, if_pos (mtA_rep hmp hmt (by omega) hth.few), e1]
  · obtain ⟨x, hx, h1⟩ := e4 m hm
    exact ⟨x, by rw [List.getElem?_map, hx, Option.map_some, ownB, if_pos h1], h1, e2.at_ _ x hx h1⟩
end Go.Proofs.Ytkakfckjmmmjgaa

/-
  The walk of the law MatchFinds.
-/
namespace Go.Proofs.Ytkakfckjmmmjgaa
open Go.ChangeShapes Go.WideShapes Go.ChangeAt Go.RowKit
set_option linter.unusedVariables false

set_option maxRecDepth 100000 in
set_option maxHeartbeats 8000000 in
theorem matchFindsC (p : T) (xs : List T) (Ax : Option Addr) (N cx : Nat) (n : Int) (vp : Value) (w : World) (hvp : Rd w p vp) (hxn : xs.length = N) (hxc : N ≤ cx) (hxm : cx ≤ maxLen) (hx : ∀ i t, xs[i]? = some t → RdAt w Ax i t) :
    Calls Try.prog 3 #[vp, .slice Ax N cx, .int .i64 n] w fun e w' => e = .returned (.bool true) ∧ Below w.heap.size w w' := by
  have hxm' := hxm
  unfold maxLen at hxm'
  have HXN := Lib.hid hxn; clear hxn
  have HXM := Lib.hid hxm; clear hxm
  have HX : Hid (∀ W, Below w.heap.size w W → ∀ i t, xs[i]? = some t → RdAt W Ax i t) := Lib.hid fun W h i t ht => RdAt.keep h (hx i t ht)
  clear hx
  obtain ⟨kp, hp, Ap, np, cp, rfl⟩ := hvp.full
  have HVp := Lib.hid hvp; clear hvp
  obtain ⟨W0, hW0⟩ : ∃ W0, (w.alloc (.cells #[.int .i64 kp, .int .i64 hp, .slice Ap np cp] 24)) = W0 := ⟨_, rfl⟩
  have hb : Below w.heap.size w W0 := by rw [← hW0]; exact ((Below.refl _ _).alloc (Nat.le_refl _) _)
  have bxp : Box W0 (w.heap.size) 24 #[.int .i64 kp, .int .i64 hp, .slice Ap np cp] := by rw [← hW0]; exact (Box.new w _ _)
  replace HVp := Lib.hid (Rd.keep hb _ _ HVp.out)
  have HW0 := Lib.hid hW0; clear hW0
  go_enter Try.func3, Try.ntmps3
  go_wp2_with fail
  rw [HW0.out]
  clear HW0
  refine (awakeH _).mono ?_
  rintro e w1 ⟨rfl, hb1⟩
  replace bxp := bxp.keep hb1 bxp.lt
  replace HVp := Lib.hid (Rd.keep hb1 _ _ HVp.out)
  replace hb := hb.trans (hb1.mono hb.size)
  clear hb1
  obtain ⟨bxp0, bxp1, bxp2⟩ := bxp.three
  have bxpl := bxp.lt
  go_wp2_with fail
  refine (refLight p 300 60 _ _ HVp.out).mono ?_
  have HLp : Hid (ltB p 300 60 = true → ltB p 300 60 = true) := Lib.hid fun e => e
  generalize hqp : ltB p 300 60 = Rp at *
  rintro e w2p ⟨rfl, hb1⟩
  have HQp := Lib.hid hqp; clear hqp HLp
  clear bxp0 bxp1 bxp2 bxpl
  replace bxp := bxp.keep hb1 bxp.lt
  replace HVp := Lib.hid (Rd.keep hb1 _ _ HVp.out)
  replace hb := hb.trans (hb1.mono hb.size)
  clear hb1
  obtain ⟨bxp0, bxp1, bxp2⟩ := bxp.three
  have bxpl := bxp.lt
  go_wp2_with fail
  refine (lightsC xs Ax N cx 300 60 _ HXN.out hxc HXM.out (HX.out _ hb)).mono ?_
  generalize hql : lsB xs 300 60 = Rl at *
  rintro e w2l ⟨rfl, hb1⟩
  have HQl := Lib.hid hql; clear hql
  clear bxp0 bxp1 bxp2 bxpl
  replace bxp := bxp.keep hb1 bxp.lt
  replace HVp := Lib.hid (Rd.keep hb1 _ _ HVp.out)
  replace hb := hb.trans (hb1.mono hb.size)
  clear hb1
  obtain ⟨bxp0, bxp1, bxp2⟩ := bxp.three
  have bxpl := bxp.lt
  cases Rp
  · go_wp2_with fail
    go_ret
    exact ⟨rfl, hb⟩
  cases Rl
  · go_wp2_with fail
    go_ret
    exact ⟨rfl, hb⟩
  by_cases x1 : n < 0
  · have dx1 : decide (n < 0) = true := by simpa using x1
    go_wp2_with fail
    go_ret
    exact ⟨rfl, hb⟩
  have dx1 : decide (n < 0) = false := by simpa using x1
  by_cases x2 : 100 < n
  · have dx2 : decide (100 < n) = true := by simpa using x2
    go_wp2_with fail
    go_ret
    exact ⟨rfl, hb⟩
  have dx2 : decide (100 < n) = false := by simpa using x2
  go_wp2_with fail
  refine (myC p _ _ HVp.out).mono ?_
  generalize hqp : myB p = Mp at *
  rintro e w3p ⟨rfl, hb1⟩
  have HMp := Lib.hid hqp; clear hqp
  clear bxp0 bxp1 bxp2 bxpl
  replace bxp := bxp.keep hb1 bxp.lt
  replace HVp := Lib.hid (Rd.keep hb1 _ _ HVp.out)
  replace hb := hb.trans (hb1.mono hb.size)
  clear hb1
  obtain ⟨bxp0, bxp1, bxp2⟩ := bxp.three
  have bxpl := bxp.lt
  cases Mp
  · go_wp2_with fail
    go_ret
    exact ⟨rfl, hb⟩
  have KNp : Hid (Kn 300 60 p) := Lib.hid (kn_of HQp.out HMp.out); clear HQp HMp
  go_wp2_with fail
  refine (oPatternsC p n _ _ HVp.out (by have := wd_nd p; have := KNp.out.n4; omega)).mono ?_
  generalize hqa : (nds p 0).all (pa1 n) = Ra at *
  rintro e w4 ⟨rfl, hb1⟩
  have HPA := Lib.hid hqa; clear hqa
  clear bxp0 bxp1 bxp2 bxpl
  replace bxp := bxp.keep hb1 bxp.lt
  replace HVp := Lib.hid (Rd.keep hb1 _ _ HVp.out)
  replace hb := hb.trans (hb1.mono hb.size)
  clear hb1
  obtain ⟨bxp0, bxp1, bxp2⟩ := bxp.three
  have bxpl := bxp.lt
  cases Ra
  · go_wp2_with fail
    go_ret
    exact ⟨rfl, hb⟩
  have hl60 : N ≤ 60 ∧ ∀ x ∈ xs, ltB x 300 60 = true := by
    have := HQl.out
    rw [lsB, HXN.out, Bool.and_eq_true, decide_eq_true_eq] at this
    exact ⟨this.1, List.all_eq_true.1 this.2⟩
  have HLX := Lib.hid hl60.2
  have hN60 := hl60.1
  clear hl60 HQl
  have hn0 : 0 ≤ n := by omega
  have hn1 : n ≤ 100 := by omega
  clear bxp0 bxp1 bxp2 bxpl
  go_wp2_with fail
  go_loopw [10] (fun i wr => ∃ (j : Nat), j ≤ N ∧ i = .int .i64 j ∧ Hid (∀ i x, i < j → xs[i]? = some x → myB x = true) ∧ Hid (Below w4.heap.size w4 wr)) (fun i _ => N - (Go.RowKit.intOf i).toNat)
  case atStart => exact ⟨0, Nat.zero_le _, rfl, Lib.hid (fun i x h => by omega), Lib.hid (Below.refl _ _)⟩
  case round =>
    obtain ⟨j, hj, rfl, HMY, HBR⟩ := hrel
    have hbr := hb.trans (HBR.out.mono hb.size)
    by_cases hlt : j < N
    · obtain ⟨x, hx⟩ := at_of HXN.out hlt
      obtain ⟨b1, o1, k1, h1, A1, n1, c1, rfl, c0, c1', c2, hr1⟩ := (HX.out _ hbr j x hx).full
      have hi0 : (0 : Int) ≤ j := by omega
      have hi1 : (j : Int) < N := by omega
      have HR1 := Lib.hid hr1; clear hr1
      have HJX := Lib.hid hx; clear hx
      go_wp2_with fail
      refine (myC x _ _ HR1.out).mono ?_
      obtain ⟨mx, hmx⟩ : ∃ m, myB x = m := ⟨_, rfl⟩
      rw [hmx]
      have HMX := Lib.hid hmx; clear hmx
      rintro e w5 ⟨rfl, hb1⟩
      have HB5 := Lib.hid (HBR.out.trans (hb1.mono HBR.out.size))
      have hbf := hb.trans (HB5.out.mono hb.size)
      have HR2 := Lib.hid (Rd.keep hb1 _ _ HR1.out)
      have d0 := (hb1.cell (cell_lt c0)).trans c0
      have d1 := (hb1.cell (cell_lt c1')).trans c1'
      have d2 := (hb1.cell (cell_lt c2)).trans c2
      clear hb1 c0 c1' c2 HR1
      cases mx
      · go_wp2_with fail
        go_ret
        exact ⟨rfl, hbf⟩
      go_wp2_with fail
      refine (oMetasC x _ _ HR2.out (by have := ((myB_iff x).1 HMX.out).2.1; omega)).mono ?_
      rintro e w6 ⟨u, rfl, hns, hb1⟩
      obtain ⟨Am, cm, rfl, _⟩ := hns
      obtain ⟨Lm, hLm⟩ : ∃ L, (rs ((nds x 0).flatMap mt1)).length = L := ⟨_, rfl⟩
      rw [hLm]
      have HB6 := Lib.hid (HB5.out.trans (hb1.mono HB5.out.size))
      have hbg := hb.trans (HB6.out.mono hb.size)
      clear hb1 hLm d0 d1 d2 hbf
      by_cases hL0 : 0 < Lm
      · have dL : decide ((0 : Int) < (Lm : Int)) = true := by simp; omega
        have dL2 : decide (0 < Lm) = true := by simpa using hL0
        go_wp2_with fail
        go_ret
        exact ⟨rfl, hbg⟩
      · have dL : decide ((0 : Int) < (Lm : Int)) = false := by simp; omega
        have dL2 : decide (0 < Lm) = false := by simpa using hL0
        go_wp2_with fail
        go_roundw
        case rel => exact ⟨j + 1, by omega, by go_num, Lib.hid (fun i y hi hy => by
          by_cases hij : i < j
          · exact HMY.out i y hij hy
          · obtain rfl : i = j := by omega
            have := HJX.out
            rw [hy] at this
            cases this
            exact HMX.out), HB6⟩
        case measure => simp [Go.RowKit.intOf]; omega
    · obtain rfl : j = N := by omega
      have hmy : ∀ x ∈ xs, myB x = true := fun x hx => by
        obtain ⟨i, hi⟩ := List.getElem?_of_mem hx
        exact HMY.out i x (by have := (List.getElem?_eq_some_iff.1 hi).1; have := HXN.out; omega) hi
      have hok : ∀ x ∈ xs, okT 1099511627776 x := fun x hx => okT_of x ((myB_iff x).1 (hmy x hx)).1 (lt_low (HLX.out x hx))
      have HTH : Hid (ThA xs) := Lib.hid ⟨by have := HXN.out; omega, hmy, fun x hx => okT_mono (by omega) _ (hok x hx)⟩
      have hb1 := HBR.out
      clear hbr
      replace bxp := bxp.keep hb1 bxp.lt
      replace HVp := Lib.hid (Rd.keep hb1 _ _ HVp.out)
      replace hb := hb.trans (hb1.mono hb.size)
      clear hb1
      have hthI : ThI xs wr Ax j cx := ⟨fun x hx _ => okT_mono (by omega) _ (hok x hx), HXN.out, hxc, HXM.out, HX.out _ hb⟩
      have HFC := Lib.hid (FillC (n := n) wr hthI HVp.out (fun _ => okT_mono (by omega) _ KNp.out.ok))
      have HFF := Lib.hid fun t (hf : fiR xs n p = .ok t) => finds_facts HTH.out hok KNp.out.ok ⟨hn0, hn1⟩ HPA.out hf
      have HFE := Lib.hid fun e (hf : fiR xs n p = .error e) => finds_err HTH.out KNp.out.my ⟨hn0, hn1⟩ HPA.out hf
      clear hmy hok hthI HMY HBR
      obtain ⟨bxp0, bxp1, bxp2⟩ := bxp.three
      have bxpl := bxp.lt
      go_wp2_with fail
      refine HFC.out.mono ?_
      clear HFC
      generalize fiR xs n p = R at *
      intro e w5 hE
      have hb1 := hE.below
      clear bxp0 bxp1 bxp2 bxpl
      replace bxp := bxp.keep hb1 bxp.lt
      replace HVp := Lib.hid (Rd.keep hb1 _ _ HVp.out)
      replace hb := hb.trans (hb1.mono hb.size)
      clear hb1
      cases R with
      | error ec =>
        obtain ⟨rfl, hne, _⟩ := hE
        have hne' : (ec != 0) = true := by simpa using hne
        have hbf := hb.alloc hb.size (.cells #[.int .i64 0, .int .i64 0, .slice none 0 0] 24)
        rcases HFE.out ec rfl with rfl | rfl
        · go_wp2_with fail
          go_ret
          exact ⟨rfl, hbf⟩
        · go_wp2_with fail
          go_ret
          exact ⟨rfl, hbf⟩
      | ok t =>
        obtain ⟨hot, b, hmt, hbl, hfacts⟩ := HFF.out t rfl
        obtain ⟨kt, ht, At, nt, ct, rfl, hrt, _⟩ := hE
        have HVt := Lib.hid (RdF.rd _ _ hrt); clear hrt
        have HMT := Lib.hid hmt; clear hmt
        have HFA := Lib.hid hfacts; clear hfacts HFF HFE
        have HOT := Lib.hid hot; clear hot
        have HBLN := Lib.hid hbl; clear hbl
        have hmkb := fun W => make_binds (N := j) (by omega) W
        have hmkv := fun W => make_bools (N := j) (by omega) W
        obtain ⟨W6, hW6⟩ : ∃ W6, w5.alloc (.cells #[.int .i64 kt, .int .i64 ht, .slice At nt ct] 24) = W6 := ⟨_, rfl⟩
        have hb1 : Below w5.heap.size w5 W6 := by rw [← hW6]; exact (Below.refl _ _).alloc (Nat.le_refl _) _
        have bxt : Box W6 w5.heap.size 24 #[.int .i64 kt, .int .i64 ht, .slice At nt ct] := by rw [← hW6]; exact Box.new _ _ _
        have HW6 := Lib.hid hW6; clear hW6
        replace bxp := bxp.keep hb1 bxp.lt
        replace HVp := Lib.hid (Rd.keep hb1 _ _ HVp.out)
        replace HVt := Lib.hid (Rd.keep hb1 _ _ HVt.out)
        replace hb := hb.trans (hb1.mono hb.size)
        clear hb1
        go_wp2_with fail
        rw [HW6.out]
        clear HW6
        have H1 : Hid (∀ W' q1 q2, Hid (Below W6.heap.size W6 W') → Box W' q1 40 (madeCells #[.bool false, .int .i64 0, .int .i64 0, .slice none 0 0] (j * 4)) → Box W' q2 4 (madeCells #[.bool false] j) → Calls Try.prog 14 #[.agg #[.int .i64 kp, .int .i64 hp, .slice Ap np cp], .agg #[.int .i64 kt, .int .i64 ht, .slice At nt ct], .int .i64 n, .slice (some ⟨q1, 0, none⟩) j j, .slice (some ⟨q2, 0, none⟩) j j, .slice none 0 0] W' (fun e w' => (∃ A n' c, e = .returned (.tuple #[.slice A n' c, .int .i64 0]) ∧ n' = j ∧ BL (fun _ => True) w' b A n' c) ∧ Hid (Below W6.heap.size W6 w'))) := Lib.hid fun W' q1 q2 hb' h1 h2 => by
          have := MatchC p t n (List.replicate j noB) (List.replicate j false) [] _ _ _ j j _ j j none 0 0 W' (Rd.keep hb'.out _ _ HVp.out) (Rd.keep hb'.out _ _ HVt.out) (bl_made (by omega) h1) (lb_made (by omega) h2) (lb_nil _) (fun _ => KNp.out.ok) (fun _ => HOT.out) fun x hx h1 => by rw [List.eq_of_mem_replicate hx] at h1; cases h1
          refine this.mono fun e w' h => ?_
          have hm := HMT.out
          rw [HXN.out] at hm
          rw [hm] at h
          obtain ⟨q, he, hbl, hbe⟩ := h
          have hbn : b.length = j := HBLN.out.trans HXN.out
          rw [hbn] at he hbl
          exact ⟨⟨_, _, _, he, rfl, ⟨hbl.len, hbl.le, hbl.cap, fun i x hx => (hbl.at_ i x hx).any⟩⟩, cur_trans hb' hbe⟩
        obtain ⟨bxp0, bxp1, bxp2⟩ := bxp.three
        have bxpl := bxp.lt
        obtain ⟨bxt0, bxt1, bxt2⟩ := bxt.three
        have bxtl := bxt.lt
        have HK : Hid (∀ w', Hid (Below W6.heap.size W6 w') → (w'.cell? ⟨w.heap.size, 0, none⟩ = some (.int .i64 kp) ∧ w'.cell? ⟨w.heap.size, 1, none⟩ = some (.int .i64 hp) ∧ w'.cell? ⟨w.heap.size, 2, none⟩ = some (.slice Ap np cp) ∧ w'.cell? ⟨w5.heap.size, 0, none⟩ = some (.int .i64 kt) ∧ w'.cell? ⟨w5.heap.size, 1, none⟩ = some (.int .i64 ht) ∧ w'.cell? ⟨w5.heap.size, 2, none⟩ = some (.slice At nt ct) ∧ Hid (Below W6.heap.size W6 w'))) := Lib.hid fun w' h => by
          have s0 := bxp.keep h.out bxp.lt
          have s1 := bxt.keep h.out bxt.lt
          exact ⟨s0.three.1, s0.three.2.1, s0.three.2.2, s1.three.1, s1.three.2.1, s1.three.2.2, h⟩
        have hcu0 : Hid (Below W6.heap.size W6 W6.drew) := cur_drew
        go_region_held3 (fun w' => w'.cell? ⟨w.heap.size, 0, none⟩ = some (.int .i64 kp) ∧ w'.cell? ⟨w.heap.size, 1, none⟩ = some (.int .i64 hp) ∧ w'.cell? ⟨w.heap.size, 2, none⟩ = some (.slice Ap np cp) ∧ w'.cell? ⟨w5.heap.size, 0, none⟩ = some (.int .i64 kt) ∧ w'.cell? ⟨w5.heap.size, 1, none⟩ = some (.int .i64 ht) ∧ w'.cell? ⟨w5.heap.size, 2, none⟩ = some (.slice At nt ct) ∧ Hid (Below W6.heap.size W6 w'))
          (first | exact HK.out _ (by assumption) | exact HK.out _ (cur_alloc (by assumption) _) | exact HK.out _ (cur_alloc (cur_alloc (by assumption) _) _))
          (first
            | (go_at_call 14
               with_reducible refine Calls.mono (H1.out _ _ _ ?hh ?hx ?hy) ?_
               case hh => first | assumption | exact cur_alloc (by assumption) _ | exact cur_alloc (cur_alloc (by assumption) _) _ | exact Lib.hid (((Below.refl _ _).alloc (Nat.le_refl _) _).drew) | exact Lib.hid ((((Below.refl _ _).alloc (Nat.le_refl _) _).alloc (by simp) _).drew)
               case hx => first | exact (Box.new _ _ _).alloc _ | exact Box.at1 (Box.new _ _ _) | exact Box.drewI ((Box.new _ _ _).alloc _) | exact Box.drewI (Box.at1 (Box.new _ _ _)) | exact Box.at1 (Box.drewI (Box.new _ _ _)) | exact (Box.drewI (Box.new _ _ _)).alloc _
               case hy => first | exact (Box.new _ _ _).alloc _ | exact Box.at1 (Box.new _ _ _) | exact Box.drewI ((Box.new _ _ _).alloc _) | exact Box.drewI (Box.at1 (Box.new _ _ _)) | exact Box.at1 (Box.drewI (Box.new _ _ _)) | exact (Box.drewI (Box.new _ _ _)).alloc _
               rintro e w7 ⟨⟨A1, n1, c1, rfl, hn1', hbl⟩, hcu⟩
               have HL := Lib.hid hbl; clear hbl
               have HN1 := Lib.hid hn1'; clear hn1'))
        all_goals (
          obtain rfl := HN1.out
          have hb1 := hcu.out
          clear H1 HK hcu0 hmkb hmkv HN1
          clear bxp0 bxp1 bxp2 bxpl bxt0 bxt1 bxt2 bxtl
          replace bxp := bxp.keep hb1 bxp.lt
          replace bxt := bxt.keep hb1 bxt.lt
          replace HVp := Lib.hid (Rd.keep hb1 _ _ HVp.out)
          replace HVt := Lib.hid (Rd.keep hb1 _ _ HVt.out)
          replace hb := hb.trans (hb1.mono hb.size)
          clear hb1
          obtain ⟨bxp0, bxp1, bxp2⟩ := bxp.three
          have bxpl := bxp.lt
          obtain ⟨bxt0, bxt1, bxt2⟩ := bxt.three
          have bxtl := bxt.lt
          have HMO := Lib.hid (oMetasC p _ w7 HVp.out (by have := KNp.out.n4; omega))
          rw [mtO_eq] at HMO
          go_wp2_with fail
          refine HMO.out.mono ?_
          clear HMO
          rintro e w8 ⟨u, rfl, hns, hb1⟩
          obtain ⟨Am, cm, rfl, hcm1, hcm2, hma⟩ := hns
          obtain ⟨Lm, hLm⟩ : ∃ L, (mtO p).length = L := ⟨_, rfl⟩
          rw [hLm] at hcm1 ⊢
          have HLM := Lib.hid hLm; clear hLm
          have HL := Lib.hid (HL.out.keep hb1)
          have HMA := Lib.hid hma; clear hma
          have hcm3 := hcm2
          unfold maxLen at hcm3
          clear bxp0 bxp1 bxp2 bxpl bxt0 bxt1 bxt2 bxtl
          replace bxp := bxp.keep hb1 bxp.lt
          replace bxt := bxt.keep hb1 bxt.lt
          replace HVp := Lib.hid (Rd.keep hb1 _ _ HVp.out)
          replace HVt := Lib.hid (Rd.keep hb1 _ _ HVt.out)
          replace hb := hb.trans (hb1.mono hb.size)
          clear hb1
          go_wp2_with fail
          go_loopw [16] (fun i wr' => ∃ (q : Nat), q ≤ Lm ∧ i = .int .i64 q ∧ Hid (Below w8.heap.size w8 wr')) (fun i _ => Lm - (Go.RowKit.intOf i).toNat)
          case atStart => exact ⟨0, Nat.zero_le _, rfl, Lib.hid (Below.refl _ _)⟩
          case round =>
            obtain ⟨q, hq, rfl, HBR⟩ := hrel
            have hbr := hb.trans (HBR.out.mono hb.size)
            by_cases hlt : q < Lm
            · obtain ⟨m, hm⟩ := at_of HLM.out hlt
              obtain ⟨bm, om, rfl, cm0⟩ := HMA.out q m hm
              have cm1 := (HBR.out.cell (cell_lt cm0)).trans cm0
              obtain ⟨hm0, x, hx, hx1, hxt⟩ := HFA.out m (mem_rs.1 (List.mem_of_getElem? hm))
              obtain ⟨b2, o2, k2, h2, A2, n2, c2, rfl, d0, d1, d2, d3, hr2⟩ := (HL.out.at_ _ x hx).keep HBR.out
              obtain ⟨b3, o3, k3, h3, A3, n3, c3, rfl, g0, g1, g2, hr3⟩ := (HX.out _ hbr _ _ hxt).full
              have hmj : m < (n1 : Int) := by have := (List.getElem?_eq_some_iff.1 hxt).1; have := HXN.out; omega
              obtain ⟨x1, x2⟩ := x
              dsimp only at hx1 d0 hr2 hxt hr3
              subst hx1
              have HC := Lib.hid fun W' h => termSame x2 x2 _ _ W' (Rd.keep h _ _ (RdF.rd _ _ hr2)) (Rd.keep h _ _ hr3)
              rw [sam_refl] at HC
              have hge : decide ((n1 : Int) ≤ m) = false := by simp; omega
              have hi0 : (0 : Int) ≤ q := by omega
              have hi1 : (q : Int) < Lm := by omega
              clear hm hx hxt hr2 hr3 cm0
              go_wp2_with fail
              have p0 := Past.cell cm1
              have q0 := Past.cell d0
              have q1 := Past.cell d1
              have q2 := Past.cell d2
              have q3 := Past.cell d3
              have r0 := Past.cell g0
              have r1 := Past.cell g1
              have r2 := Past.cell g2
              refine wp_region_past (by kernel_rfl) (by kernel_rfl) ?_
              repeat (go_big_quiet_step ((exact calls_past (HC.out _ (Past.h _)))))
              refine wpQuiet_nil ?_
              rintro _ ⟨z1, rfl⟩
              obtain ⟨w9, hb1⟩ := z1
              dsimp only
              clear p0 q0 q1 q2 q3 r0 r1 r2 HC cm1 d0 d1 d2 d3 g0 g1 g2
              go_wp2_with fail
              go_roundw
              case rel => exact ⟨q + 1, by omega, by go_num, Lib.hid (HBR.out.trans (hb1.mono HBR.out.size))⟩
              case measure => simp [Go.RowKit.intOf]; omega
            · obtain rfl : q = Lm := by omega
              go_wp2_with fail
              go_ret
              exact ⟨rfl, hbr⟩)
end Go.Proofs.Ytkakfckjmmmjgaa
