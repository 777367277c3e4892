/-
  Texts of one proof, put together. No statement is proved here.
-/
import Derived.Test.YtkakfckjmmmjgaaGreatPkA
import Derived.Test.YtkakfckjmmmjgaaGreatLast
import Derived.Test.YtkakfckjmmmjgaaGreatRq
import Derived.Deep.AppendLies
import Derived.Deep.RegionHeld3
import Derived.Test.YtkakfckjmmmjgaaGreatPc
import Derived.Test.YtkakfckjmmmjgaaGreatPkB
import Derived.Test.YtkakfckjmmmjgaaGreatWl

/-
  Contract of the laws' metaOf: a meta with variables as its Args. No statement is proved here.
-/
namespace Go.Proofs.YtkakfckjmmmjgaaGreat
open Go.ChangeShapes Go.WideShapes Go.ChangeAt Go.RowKit
set_option linter.unusedVariables false

/-- variables as cells -/
def rowV (vs : List Int) : List Value := vs.flatMap fun v => [.int .i64 4, .int .i64 v, .slice none 0 0]
theorem rowV_snoc (vs : List Int) (v : Int) : rowV (vs ++ [v]) = rowV vs ++ [.int .i64 4, .int .i64 v, .slice none 0 0] := by simp [rowV]
theorem rowV_at : ∀ {vs : List Int} {i : Nat} {v : Int}, vs[i]? = some v → (rowV vs)[i * 3]? = some (.int .i64 4) ∧ (rowV vs)[i * 3 + 1]? = some (.int .i64 v) ∧ (rowV vs)[i * 3 + 2]? = some (.slice none 0 0)
  | x :: vs, 0, v, h => by cases h; exact ⟨rfl, rfl, rfl⟩
  | x :: vs, i + 1, v, h => by
    have := rowV_at (vs := vs) (i := i) (v := v) (by simpa using h)
    have e : ∀ q, (rowV (x :: vs))[i * 3 + q + 3]? = (rowV vs)[i * 3 + q]? := fun q => rfl
    have e0 : (i + 1) * 3 = i * 3 + 3 := by omega
    rw [e0]
    exact ⟨(e 0).trans this.1, (e 1).trans this.2.1, (e 2).trans this.2.2⟩
/-- a row of variables reads as terms -/
theorem rowV_rd {w : World} {base : Nat} {A : Option Addr} {n c : Nat} {vs : List Int} (h : w.ownsRow base 24 3 (.slice A n c) n (rowV vs)) (hn : vs.length = n) (hw : ∀ v ∈ vs, (Lit.int .i64 v).wf = true) :
    n ≤ c ∧ c ≤ maxLen ∧ ∀ i t, (vrs vs)[i]? = some t → RdAt w A i t := by
  rcases h.2 with ⟨e, h0⟩ | ⟨g, cap, cur, e, _, hb, h1, h2, h3, h4⟩
  · simp only [Value.slice.injEq] at e
    obtain ⟨rfl, _, rfl⟩ := e
    refine ⟨by omega, Nat.zero_le _, fun i t ht => ?_⟩
    rw [List.length_eq_zero_iff.1 (hn.trans h0)] at ht
    simp [vrs] at ht
  · simp only [Value.slice.injEq] at e
    obtain ⟨rfl, _, rfl⟩ := e
    refine ⟨h1, h2, fun i t ht => ?_⟩
    have hi : i < vs.length := by have := (List.getElem?_eq_some_iff.1 ht).1; simpa [vrs_len] using this
    obtain ⟨v, hv⟩ : ∃ v, vs[i]? = some v := ⟨_, List.getElem?_eq_getElem hi⟩
    have e2 := vrs_at hv
    rw [ht] at e2
    cases e2
    obtain ⟨r0, r1, r2⟩ := rowV_at hv
    have cc : ∀ q x, q < n * 3 → (rowV vs)[q]? = some x → w.cell? ⟨g, 0 + q, none⟩ = some x := fun q x hq hx => by
      rw [← h4, List.getElem?_take_of_lt hq, Array.getElem?_toList] at hx
      simp only [World.cell?, hb, Nat.zero_add]
      simpa using hx
    refine ⟨g, 0, .int .i64 4, .int .i64 v, .slice none 0 0, rfl, cc _ _ (by omega) r0, ?_, ?_, ?_⟩
    · rw [Nat.add_assoc]; exact cc _ _ (by omega) r1
    · rw [Nat.add_assoc]; exact cc _ _ (by omega) r2
    · exact Rd_node.2 ⟨none, 0, 0, rfl, by decide, hw v (List.mem_of_getElem? hv), rfl, Nat.le_refl _, Nat.zero_le _, fun i t h => by simp at h⟩

/-- what a round reads -/
def SMo (z bV oV : Nat) (s : Value) (j : Nat) (v : Int) (w' : World) : Prop := w'.cell? ⟨z + 1, 2, none⟩ = some s ∧ w'.cell? ⟨bV, oV + j, none⟩ = some (.int .i64 v)
/-- what holds at the head of the loop -/
structure MoI (vs : List Int) (w : World) (j : Nat) (wr : World) (Av : Option Addr) (cv : Nat) : Prop where
  res : Box wr w.heap.size 24 #[.int .i64 0, .int .i64 0, .slice none 0 0]
  out : Box wr (w.heap.size + 1) 24 #[.int .i64 6, .int .i64 0, .slice Av j cv]
  row : wr.ownsRow (w.heap.size + 2) 24 3 (.slice Av j cv) j (rowV (vs.take j))
  below : Below w.heap.size w wr

end Go.Proofs.YtkakfckjmmmjgaaGreat

/-
  What Invert's answer says of a term that is known. No statement is proved here.
-/
namespace Go.Proofs.YtkakfckjmmmjgaaGreat
open Go.ChangeShapes Go.WideShapes Go.ChangeAt Go.RowKit
set_option linter.unusedVariables false

theorem ivR_cases {s d : Nat} {t : T} (k : Kn s d t) (vs : List Int) (n : Int) (hl : vs.length ≤ 1000) :
    ((0 ≤ n ∧ n ≤ 1000) ∧ vB n [] vs = true ∧ ((∃ u, ivR t vs n = .ok u ∧ ivT (igo vs n) t 0 = some u) ∨ (ivR t vs n = .error 7 ∧ ivT (igo vs n) t 0 = none))) ∨ ivR t vs n = .error 1 := by
  have hs : nd t ≤ 1048576 := by have := ((myB_iff t).1 k.my).2.1; omega
  have ho := okT_of t k.nod k.lo
  by_cases h : (decide (0 ≤ n) && decide (n ≤ 1000) && mayB t && vB n [] vs) = true
  · have h2 := h
    simp only [Bool.and_eq_true, decide_eq_true_eq] at h2
    have hr : ivR t vs n = ivO (ivT (igo vs n) t 0) := by
      rw [ivR, if_pos h, rn_iv (M := 1099511627776) (g := igo vs n) (by omega) (fun x h0 hx => ⟨igW_eq h0 (by omega) h2.1.1 (by omega), fun y hy => by have := igo_bd (M := 1099511627776) (by omega) hx h2.1.1.1 hy; omega⟩) t 0 ho (by omega) (by omega)]
    refine .inl ⟨h2.1.1, h2.2, ?_⟩
    cases hq : ivT (igo vs n) t 0 with
    | none => exact .inr ⟨by rw [hr, hq]; rfl, rfl⟩
    | some u => exact .inl ⟨u, by rw [hr, hq]; rfl, rfl⟩
  · exact .inr (ivR_bad (by simpa using h))
/-- how great Heads are in what is told -/
theorem iv_low {s d : Nat} {t u : T} (k : Kn s d t) {vs : List Int} {n : Int} (hn : 0 ≤ n ∧ n ≤ 1000) (hl : vs.length ≤ 1000) (h : ivT (igo vs n) t 0 = some u) : okT (1099511627776 + 1000) u :=
  ok_iv (M := 1099511627776) (fun x h0 hx y hy => by
    unfold igo at hy
    split at hy
    · cases hy; omega
    · have := pls_lt hy; omega) (by omega) t 0 u (Int.le_refl _) (okT_of t k.nod k.lo) h
theorem vrs_low {vs : List Int} {n : Int} (hn : n ≤ 1000) (hv : vB n [] vs = true) : ∀ x ∈ vrs vs, okT 1099511627776 x := fun x hx => by
  obtain ⟨v, hm, rfl⟩ := List.mem_map.1 hx
  have := (vB_top.1 hv).1 v hm
  rw [okT, okL]
  exact ⟨fun _ => by omega, trivial⟩
theorem vrs_wf {vs : List Int} {n : Int} (hn : n ≤ 1000) (hv : vB n [] vs = true) : ∀ v ∈ vs, (Lit.int .i64 v).wf = true := fun v hm => by
  have := (vB_top.1 hv).1 v hm
  have h : -9223372036854775808 ≤ v ∧ v ≤ 9223372036854775807 := by omega
  simpa [Lit.wf, IntKind.min, IntKind.max, IntKind.signed, IntKind.bits] using h
/-- a leaf has no Args -/
theorem leaf_len {ok : Nat → Prop} {w : World} {k h k' h' : Int} {A : Option Addr} {n c : Nat} (hr : RdF ok w (.node k' h' []) (.agg #[.int .i64 k, .int .i64 h, .slice A n c])) : n = 0 := by
  obtain ⟨A', n', c', e, _, _, h3, _⟩ := RdF_node.1 hr
  simp at e
  have : n' = 0 := h3.symm
  omega
end Go.Proofs.YtkakfckjmmmjgaaGreat

/-
  What the laws of layer 6 need of Fill and of patterns. No statement is proved here.
-/
namespace Go.Proofs.YtkakfckjmmmjgaaGreat
open Go.ChangeShapes Go.WideShapes Go.ChangeAt Go.RowKit
set_option linter.unusedVariables false
set_option maxRecDepth 100000

theorem ptn_vrs (n : Int) : ∀ (vs seen : List Int), (ptn n seen (vrs vs)).isSome = vB n seen vs
  | [], seen => rfl
  | v :: vs, seen => by
    have ih := ptn_vrs n vs (seen ++ [v])
    have e : vrs (v :: vs) = .node 4 v [] :: vrs vs := rfl
    have hp : pt1 seen n (.node 4 v []) = (decide (0 ≤ v) && decide (v < n) && !seen.contains v) := rfl
    rw [e, ptn, hp, vB]
    cases decide (0 ≤ v) && decide (v < n) && !seen.contains v with
    | false => rfl
    | true => exact ih
theorem PtEnd.tupleI {o : Option (List Int)} {w w' : World} {e : Ending} (h : PtEnd o w e w') : ∃ v, e = .returned (.tuple #[v, .bool o.isSome]) ∧ Below w.heap.size w w' := by
  rcases h with ⟨zs, v, rfl, rfl, _, hb⟩ | ⟨rfl, rfl, hb⟩
  · exact ⟨v, rfl, hb⟩
  · exact ⟨_, rfl, hb⟩
theorem has_vrs : ∀ vs : List Int, hasL (vrs vs) = false
  | [] => rfl
  | v :: vs => by
    have := has_vrs vs
    show hasL (.node 4 v [] :: vrs vs) = false
    rw [hasL, hasB, hasL, this]
    rfl
theorem my_meta {vs : List Int} {n : Int} (hl : vs.length ≤ 20) (hv : vB n [] vs = true) : myB (.node 6 0 (vrs vs)) = true ∧ (vrs vs).all myB = true := by
  have hm := vrs_my fun v h => ((vB_top.1 hv).1 v h).1
  obtain ⟨h1, h2⟩ := vs_nd 0 (vrs vs) fun x hx => by
    obtain ⟨v, _, rfl⟩ := List.mem_map.1 hx
    exact ⟨v, rfl⟩
  have h3 := vrs_len vs
  refine ⟨(myB_iff _).2 ⟨?_, by rw [nd]; omega, by rw [dp]; omega⟩, List.all_eq_true.2 hm⟩
  rw [nodB, nodL_of fun x hx' => ((myB_iff x).1 (hm x hx')).1]
  simp [okN]
/-- a meta that is what is told -/
theorem fill_back {vs : List Int} {n : Int} {x y : T} (hl : vs.length ≤ 20) (hn : 0 ≤ n ∧ n ≤ 1000) (hv : vB n [] vs = true) (hx : myB x = true) (h : apT x (vrs vs) n = y ∧ apE x (vrs vs) n = 0) : fiR [x] n (.node 6 0 (vrs vs)) = .ok y := by
  obtain ⟨h1, h2⟩ := my_meta hl hv
  rw [fi_one hx (has_vrs vs) h1 h2 hn, if_pos h.2, h.1]
/-- what a meta becomes inverts to what it was filled with -/
theorem only_facts {x : T} (k : Kn 1000 60 x) {vs : List Int} {n : Int} (hl : vs.length ≤ 20) (hn : 0 ≤ n ∧ n ≤ 1000) (hv : vB n [] vs = true) :
    ∃ u, fiR [x] n (.node 6 0 (vrs vs)) = .ok u ∧ nd u ≤ 1048576 ∧ ivR u vs n = .ok x := by
  have ho := okT_of x k.nod k.lo
  obtain ⟨u, hu⟩ := rho_all (vs := vs) (n := n) x 0
  have hg : ∀ i, 0 ≤ i → i ≤ 1099511627776 → ∀ y, rho vs n i = some y → (0 ≤ y ∧ y ≤ i + 1000) ∧ igo vs n y = some i := fun i h0 _ y hy => by
    rcases igo_rho hv h0 hy with h | h
    · exact ⟨⟨h.1.1, by omega⟩, h.2⟩
    · omega
  have hou : okT (1099511627776 + 1000) u := ok_iv (fun i h0 hi y hy => (hg i h0 hi y hy).1) (by omega) x 0 u (Int.le_refl _) ho hu
  have hmu : myB u = true := my_iv (M := 1099511627776) (fun i h0 hi y hy => (hg i h0 hi y hy).1.1) ho k.my hu
  have hback : ivT (igo vs n) u 0 = some x := iv_iv (M := 1099511627776) (fun i h0 hi y hy => ⟨(hg i h0 hi y hy).1.1, (hg i h0 hi y hy).2⟩) x 0 u (Int.le_refl _) ho hu
  have hv' := (vB_top.1 hv).1
  have hap := ren_tells k.my (sb_of (L := vrs vs) (sh := n) (by rw [vrs_len]; omega) (by omega) (vrs_my fun v h => (hv' v h).1)) (iv_ren hv' hn.1 u 0 x hou hback) hmu
  have hnd : nd u ≤ 1048576 := by have := ((myB_iff u).1 hmu).2.1; omega
  refine ⟨u, fill_back hl hn hv k.my hap, hnd, ?_⟩
  rw [ivR, if_pos (by rw [mayB_my hnd, hmu, hv, decide_eq_true hn.1, decide_eq_true hn.2]; rfl), rn_iv (M := 1099511627776 + 1000) (g := igo vs n) (by omega) (fun i h0 hi => ⟨igW_eq h0 (by omega) hn (by omega), fun y hy => by have := igo_bd (M := 1099511627776 + 1000) (by omega) hi hn.1 hy; omega⟩) u 0 hou (by omega) (by omega), hback]
  rfl
end Go.Proofs.YtkakfckjmmmjgaaGreat

/-
  Contract of package occur's Patterns. No statement is proved here.
-/
namespace Go.Proofs.YtkakfckjmmmjgaaGreat
open Go.ChangeShapes Go.WideShapes Go.ChangeAt Go.RowKit Go.Shelf
set_option linter.unusedVariables false

attribute [local go_sem] Oper.semAt_some

theorem all_prefix2 {α : Type} {p : α → Bool} {ks ls : List α} (h : ks <+: ls) (hf : ks.all p = false) : ls.all p = false := by
  obtain ⟨r, rfl⟩ := h
  rw [List.all_append, hf, Bool.false_and]
/-- are all patterns that have come? -/
def paP {w0 : World} (n : Int) (pre : List (No w0)) : Bool := (pre.map No.key).all (pa1 n)
theorem paP_snoc {w0 : World} (n : Int) (pre : List (No w0)) (x : No w0) (h : paP n pre = true) : paP n (pre ++ [x]) = pa1 n x.key := by
  unfold paP at *
  rw [List.map_append, List.all_append, h, Bool.true_and]; simp
theorem PtEnd.tuple {o : Option (List Int)} {w w' : World} {e : Ending} (h : PtEnd o w e w') : ∃ v, e = .returned (.tuple #[v, .bool o.isSome]) ∧ Below w.heap.size w w' := by
  rcases h with ⟨zs, v, rfl, rfl, _, hb⟩ | ⟨rfl, rfl, hb⟩
  · exact ⟨v, rfl, hb⟩
  · exact ⟨_, rfl, hb⟩
theorem rdAt_ck {w w' : World} (hk : CK w.heap.size w w') {A : Option Addr} {j : Nat} {t : T} (h : RdAt w A j t) : RdAt w' A j t := by
  obtain ⟨b, o, v0, v1, v2, rfl, c0, c1, c2, hr⟩ := h
  exact ⟨b, o, v0, v1, v2, rfl, hk.cell (cell_lt c0) c0, hk.cell (cell_lt c1) c1, hk.cell (cell_lt c2) c2, Rd.ck hk t _ hr⟩

set_option maxRecDepth 100000 in
set_option maxHeartbeats 4000000 in
theorem oPatternsC (t : T) (nn : Int) (v : Value) (w : World) (hv : Rd w t v) (hs : wd t ≤ 3518437208780) :
    Calls Tryz.prog 16 #[v, .int .i64 nn] w fun e w' => e = .returned (.bool ((nds t 0).all (pa1 nn))) ∧ Below w.heap.size w w' := by
  obtain ⟨k, h, A, n, c, rfl⟩ := hv.full
  have HV := Lib.hid hv; clear hv
  have HS := Lib.hid hs; clear hs
  refine (callsIn_wide (n := 8)).1 (callsIn_of_wp_marks Tryz.func16 rfl trivial ?_ rfl)
  simp only [Tryz.ntmps16, List.size_toArray, List.length_cons, List.length_nil, Nat.reduceAdd, Nat.reduceSub, Array.replicate_succ, Array.replicate_zero, List.push_toArray, List.append_toArray, List.nil_append, List.cons_append]
  gi_wp2_with (refine ⟨trivial, ?_⟩; gi_at_call 34; refine (callsIn_wide.2 (onodesC k h _ ⟨A, n, c, rfl⟩ _)).mono ?_; rintro e w' ⟨rfl, rfl⟩)
  obtain ⟨W0, hW0⟩ : ∃ W0, ((((w.alloc (.cells #[.int .i64 k, .int .i64 h, .slice A n c] 24)).alloc (.cells #[.int .i64 nn] 3)).alloc (.cells #[.bool false] 4)).alloc (.cells #[.int .i64 k, .int .i64 h, .slice A n c] 24)) = W0 := ⟨_, rfl⟩
  rw [hW0]
  have hbW : Below w.heap.size w W0 := by
    rw [← hW0]; exact ((((Below.refl _ w).alloc (Nat.le_refl _) _).alloc (by simp) _).alloc (by simp; omega) _).alloc (by simp; omega) _
  have bx1 : Box W0 (w.heap.size + 1) 3 #[.int .i64 nn] := by
    rw [← hW0]; exact (((Box.new (w.alloc _) _ _).at (b' := w.heap.size + 1) (by simp)).alloc _).alloc _
  have bx2 : Box W0 (w.heap.size + 1 + 1) 4 #[.bool false] := by
    rw [← hW0]; exact ((Box.new ((w.alloc _).alloc _) _ _).at (b' := w.heap.size + 1 + 1) (by simp)).alloc _
  have bx3 : Box W0 (w.heap.size + 1 + 1 + 1) 24 #[.int .i64 k, .int .i64 h, .slice A n c] := by
    rw [← hW0]; exact (Box.new (((w.alloc _).alloc _).alloc _) _ _).at (b' := w.heap.size + 1 + 1 + 1) (by simp)
  clear hW0
  have hl := bx3.lt
  refine wpIn_rangeFunc_ownH rfl (by omega) (gf := 47) (lb := #[.pointer (some ⟨w.heap.size + 1 + 1 + 1, 0, none⟩)]) rfl trivial (enters_of Tryz.func47 (by kernel_rfl) rfl)
    (onodesStops 7 w W0 t k h _ (w.heap.size + 1 + 1 + 1) (w.heap.size + 1 + 1 + 1) HS.out HV.out hbW (by omega) (by omega) bx3) KB.trans (fun W l o o' _ h1 h2 _ => KB.putObj W l o o' h1 h2) (Below.refl _ _) (fun _ => rfl)
    (fun pre W => Box W (w.heap.size + 1) 3 #[.int .i64 nn] ∧ Box W (w.heap.size + 1 + 1) 4 #[.bool false] ∧ Hid (paP nn pre = true) ∧ Below w.heap.size w W)
    (fun cd pre W => cd = .ret ∧ Box W (w.heap.size + 1 + 1) 4 #[.bool false] ∧ Hid (paP nn pre = false) ∧ Below w.heap.size w W)
    (fun s A B row hs hg hr => ⟨hs.1.kept hg hr, hs.2.1.kept hg hr, hs.2.2.1, below_kept hs.2.2.2 hg hr (by omega) hs.2.2.2.size⟩)
    (fun _ s A B row hs hg hr => ⟨hs.1, hs.2.1.kept hg hr, hs.2.2.1, below_kept hs.2.2.2 hg hr (by omega) hs.2.2.2.size⟩) ⟨bx1, bx2, Lib.hid rfl, hbW⟩
    (fun x a' W => ∃ By, w.heap.size + 1 + 1 + 1 ≤ By ∧ Box W By 24 #[.int .i64 x.k, .int .i64 x.h, .slice x.A x.n x.c] ∧
      a' = { tmps := #[.agg #[.int .i64 k, .int .i64 h, .slice A n c], .int .i64 nn, .pointer (some ⟨w.heap.size, 0, none⟩), .pointer (some ⟨w.heap.size + 1, 0, none⟩), .pointer (some ⟨w.heap.size + 1 + 1, 0, none⟩), .int .i64 x.b, .pointer (some ⟨By, 0, none⟩), undef, undef, .agg #[.int .i64 k, .int .i64 h, .slice A n c],
        .func (.func 47) #[] #[.pointer (some ⟨w.heap.size + 1 + 1 + 1, 0, none⟩)], .int .i64 x.b, .agg #[.int .i64 x.k, .int .i64 x.h, .slice x.A x.n x.c], undef, undef, undef, undef, undef, undef, undef, undef, undef, undef, undef, undef, undef, undef], defers := [] })
    (fun _ _ _ A B row hs hg hr => by obtain ⟨By, h2, h4, h5⟩ := hs; exact ⟨By, h2, h4.kept hg hr, h5⟩) ?assign ?body ?done ?stop
  case assign =>
    rintro l pre x W K ⟨hb1, hb2, hM, hB⟩ hK
    have hz := hb2.lt
    have e := hB.size
    simp only [encO, List.zip_toArray, List.zip_cons_cons, List.zip_nil_right, List.foldl_toArray, List.foldl_cons, List.foldl_nil, List.setIfInBounds_toArray, List.set_cons_succ, List.set_cons_zero]
    gi_wp2
    have hbA : Below W.heap.size W (W.alloc (.cells #[.int .i64 x.k, .int .i64 x.h, .slice x.A x.n x.c] 24)) := (Below.refl _ _).alloc (Nat.le_refl _) _
    exact hK _ _ (keepsFrom_of_below hbA) (KB.of_below hbA) ⟨hb1.alloc _, hb2.alloc _, hM, hB.trans (hbA.mono hB.size)⟩ ⟨W.heap.size, by omega, Box.new _ _ _, rfl⟩
  case body =>
    rintro l pre x a' W hl ⟨r, hr⟩ ⟨hb1, hb2, hM, hB⟩ ⟨By, hBy, hbn, rfl⟩ _
    have HSN : Hid (paP nn (pre ++ [x]) = pa1 nn x.key) := Lib.hid (paP_snoc nn pre x hM.out)
    obtain ⟨xs, hxt, _, _, hxl, hxc, hxm, hxa⟩ := x.full
    have hp1 : pa1 nn x.key = (!(x.k == 6) || (ptn (wrap64 (nn + x.b)) [] xs).isSome) := by unfold No.key; rw [hxt]; rfl
    rw [hp1] at HSN
    have HPC := Lib.hid (fun W' (hbw : Below w.heap.size w W') => (oPatternC xs x.A x.n x.c (wrap64 (nn + x.b)) W' hxl hxc hxm (by have := x.hn; omega) (fun i t ht => (hxa i t ht).keep hbw)).mono fun e w' hp => hp.tuple)
    clear hp1 hxt hxl hxc hxm hxa
    generalize pre ++ [x] = px at *
    obtain ⟨c1, f1⟩ := hb1.one
    obtain ⟨c2, f2⟩ := hb2.one
    obtain ⟨q0, q1, q2⟩ := hbn.three
    obtain ⟨xb, xk, xh, xA, xn, xc, xt, xr, xs'⟩ := x
    dsimp only at *
    clear xs'
    have hwr : IntKind.i64.wrap (nn + xb) = wrap64 (nn + xb) := wrapEq _
    by_cases k6 : xk = 6
    · subst k6
      rw [show (!((6 : Int) == 6) || (ptn (wrap64 (nn + xb)) [] xs).isSome) = (ptn (wrap64 (nn + xb)) [] xs).isSome by simp] at HSN
      generalize wrap64 (nn + xb) = B at *
      gi_wp2_with (refine ⟨trivial, ?_⟩; gi_at_call 37; refine (CallsIn.inRound l (callsIn_wide.2 (HPC.out _ hB))).mono ?_; generalize (ptn B [] xs).isSome = R at *; rintro e w1 ⟨v1, rfl, hbs⟩; have s2 := hb2.keep hbs hb2.lt; have s1 := hb1.keep hbs hb1.lt; have sB := hB.trans (hbs.mono hB.size); have sF := keepsFrom_of_below (B := W0.heap.size) hbs; have sK := KB.of_below (n₀ := w.heap.size) (n₁ := w.heap.size + 1 + 1 + 1) hbs; obtain ⟨t1, tf⟩ := s2.one; cases R)
      · exact ⟨sF.trans ((KeepsOthers.setCell _ _ _).from _), rfl, s2.set _, HSN, sB.setCell (by dsimp only; omega) _⟩
      · exact ⟨sF, sK, s1, s2, HSN, sB⟩
    · have e6 : (xk == 6) = false := by simpa using k6
      rw [e6] at HSN
      have HH := Lib.hid k6; clear k6
      gi_wp2_with fail
      exact ⟨KeepsFrom.refl _ _, KB.refl _ _ _, hb1, hb2, Lib.hid (by rw [HSN.out]; rfl), hB⟩
  case done =>
    rintro D ys W hD hS ⟨hb1, hb3, hM, hB⟩ hK
    obtain ⟨c3, f3⟩ := hb3.one
    gi_wp2
    have b1' := hb3.set (.bool true)
    have hK' := (KeepsOthers.setCell W ⟨w.heap.size + 1 + 1, 0, none⟩ (.bool true)).same D _ hK rfl
    have hB' := below_putObj (hB.setCell (p := ⟨w.heap.size + 1 + 1, 0, none⟩) (by dsimp only; omega) (.bool true)) (show w.heap.size ≤ D by omega) (.deferred none)
    have e := (b1'.kept (B := 0) (grownBy_putObj' _ D (.deferred none)) (fun r e => by cases e; exact ⟨Nat.zero_le _, _, hK', rfl⟩)).one
    refine ⟨by simp, .inl ⟨_, _, rfl, run_takeDeferred hK', ?_⟩⟩
    refine ⟨.bool true, by simp [results, Tryz.results16, go_sem, e.1], by rw [← hS]; exact congrArg (fun b => Ending.returned (.bool b)) hM.out.symm, hB'⟩
  case stop =>
    rintro D cd pre W hD hS ⟨rfl, hb3, hM, hB⟩ hK
    obtain ⟨c3, f3⟩ := hb3.one
    gi_wp2
    have hB' := below_putObj hB (show w.heap.size ≤ D by omega) (.deferred none)
    have e := (hb3.kept (B := 0) (grownBy_putObj' _ D (.deferred none)) (fun r e => by cases e; exact ⟨Nat.zero_le _, _, hK, rfl⟩)).one
    refine ⟨by simp, .inl ⟨_, _, rfl, run_takeDeferred hK, ?_⟩⟩
    exact ⟨.bool false, by simp [results, Tryz.results16, go_sem, e.1], by rw [all_prefix2 hS hM.out], hB'⟩
end Go.Proofs.YtkakfckjmmmjgaaGreat

/-
  Patterns of patterns alone: what is filled is matched, and what is matched is filled. No statement is proved here.
-/
namespace Go.Proofs.YtkakfckjmmmjgaaGreat
open Go.ChangeShapes Go.WideShapes Go.ChangeAt Go.RowKit
set_option linter.unusedVariables false

mutual
theorem sam_eq : ∀ (t u : T), samB t u = true → t = u
  | .node k h xs, .node k' h' ys, e => by
    rw [samB] at e
    simp only [Bool.and_eq_true, beq_iff_eq] at e
    obtain ⟨⟨⟨rfl, rfl⟩, hl⟩, hs⟩ := e
    rw [sam_eqL xs ys hl hs]
theorem sam_eqL : ∀ (xs ys : List T), xs.length = ys.length → samL xs ys = true → xs = ys
  | [], [], _, _ => rfl
  | x :: xs, y :: ys, hl, e => by
    rw [samL, Bool.and_eq_true] at e
    rw [sam_eq x y e.1, sam_eqL xs ys (by simpa using hl) e.2]
end
theorem len_nodup : ∀ (n : Nat) (l : List Int), l.Nodup → (∀ x ∈ l, 0 ≤ x ∧ x < n) → l.length ≤ n
  | 0, l, _, h => by
    cases l with
    | nil => exact Nat.le_refl _
    | cons x xs => have := h x (List.mem_cons_self ..); omega
  | n + 1, l, hd, h => by
    have h1 := len_nodup n (l.erase (n : Int)) (hd.erase _) fun x hx => by
      obtain ⟨h2, h3⟩ := (hd.mem_erase_iff).1 hx
      have := h x h3
      omega
    have h2 := List.length_erase (a := (n : Int)) (l := l)
    split at h2 <;> omega
theorem vB_len {n : Int} {vs : List Int} (h0 : 0 ≤ n) (h : vB n [] vs = true) : (vs.length : Int) ≤ n := by
  obtain ⟨h1, h2⟩ := vB_top.1 h
  have := len_nodup n.toNat vs h2 fun x hx => by have := h1 x hx; omega
  omega
theorem ptn_some (n : Int) : ∀ (xs : List T) (seen zs : List Int), ptn n seen xs = some zs → ∃ vs, zs = seen ++ vs ∧ xs = vrs vs ∧ vB n seen vs = true
  | [], seen, zs, h => by rw [ptn] at h; cases h; exact ⟨[], by simp, rfl, rfl⟩
  | .node k h' ys :: ts, seen, zs, h => by
    by_cases hp : pt1 seen n (.node k h' ys) = true
    · rw [ptn_step hp] at h
      obtain ⟨vs, h1, h2, h3⟩ := ptn_some n ts _ zs h
      rw [pt1] at hp
      simp only [Bool.and_eq_true, beq_iff_eq] at hp
      obtain ⟨⟨⟨⟨rfl, hy⟩, h5⟩, h6⟩, h7⟩ := hp
      have hy' : ys = [] := List.length_eq_zero_iff.1 hy
      subst hy'
      refine ⟨h' :: vs, by rw [h1]; simp, by rw [h2]; rfl, ?_⟩
      rw [vB, h5, h6, h7, h3]; rfl
    · rw [ptn_stop (by simpa using hp)] at h
      cases h
theorem ptn_top7 {n : Int} {xs : List T} {zs : List Int} (h : ptn n [] xs = some zs) : xs = vrs zs ∧ vB n [] zs = true := by
  obtain ⟨vs, h1, h2, h3⟩ := ptn_some n xs [] zs h
  rw [List.nil_append] at h1
  subst h1
  exact ⟨h2, h3⟩
theorem vrs_mts : ∀ vs : List Int, mtsL (vrs vs) = []
  | [] => rfl
  | v :: vs => by
    have := vrs_mts vs
    show mtsL (.node 4 v [] :: vrs vs) = []
    rw [mtsL, mts, mtsL, this]
    rfl
/-- a meta's term under variables: what it is filled with, and back -/
theorem pat_core {x : T} (hm : myB x = true) (ho : okT 2199023255552 x) {vs : List Int} {n : Int} (hl : vs.length ≤ 200) (hn : 0 ≤ n ∧ n ≤ 1000) (hv : vB n [] vs = true) :
    ∃ u, apT x (vrs vs) n = u ∧ apE x (vrs vs) n = 0 ∧ ivR u vs n = .ok x := by
  obtain ⟨u, hu⟩ := rho_all (vs := vs) (n := n) x 0
  have hg : ∀ i, 0 ≤ i → i ≤ 2199023255552 → ∀ y, rho vs n i = some y → (0 ≤ y ∧ y ≤ i + 1000) ∧ igo vs n y = some i := fun i h0 _ y hy => by
    rcases igo_rho hv h0 hy with h | h
    · exact ⟨⟨h.1.1, by omega⟩, h.2⟩
    · omega
  have hou : okT (2199023255552 + 1000) u := ok_iv (fun i h0 hi y hy => (hg i h0 hi y hy).1) (by omega) x 0 u (Int.le_refl _) ho hu
  have hmu : myB u = true := my_iv (M := 2199023255552) (fun i h0 hi y hy => (hg i h0 hi y hy).1.1) ho hm hu
  have hback : ivT (igo vs n) u 0 = some x := iv_iv (M := 2199023255552) (fun i h0 hi y hy => ⟨(hg i h0 hi y hy).1.1, (hg i h0 hi y hy).2⟩) x 0 u (Int.le_refl _) ho hu
  have hv' := (vB_top.1 hv).1
  have hap := ren_tells hm (sb_of (L := vrs vs) (sh := n) (by rw [vrs_len]; exact hl) (by omega) (vrs_my fun v h => (hv' v h).1)) (iv_ren hv' hn.1 u 0 x hou hback) hmu
  have hnd : nd u ≤ 1048576 := by have := ((myB_iff u).1 hmu).2.1; omega
  refine ⟨u, hap.1, hap.2, ?_⟩
  rw [ivR, if_pos (by rw [mayB_my hnd, hmu, hv, decide_eq_true hn.1, decide_eq_true hn.2]; rfl), rn_iv (M := 2199023255552 + 1000) (g := igo vs n) (by omega) (fun i h0 hi => ⟨igW_eq h0 (by omega) hn (by omega), fun y hy => by have := igo_bd (M := 2199023255552 + 1000) (by omega) hi hn.1 hy; omega⟩) u 0 hou (by omega) (by omega), hback]
  rfl
/-- a meta whose Args are a pattern, filled -/
theorem fl_meta (th : List T) {h n : Int} {vs : List Int} (hv : vB n [] vs = true) : flT th (.node 6 h (vrs vs)) n = if (th.length : Int) ≤ h then .error 2 else if apE (th.getD h.toNat (.node 0 0 [])) (vrs vs) n = 0 then .ok (apT (th.getD h.toNat (.node 0 0 [])) (vrs vs) n) else .error (apE (th.getD h.toNat (.node 0 0 [])) (vrs vs) n) := by
  have hm : (vrs vs).all myB = true := List.all_eq_true.2 (vrs_my fun v h => ((vB_top.1 hv).1 v h).1)
  rw [flT, flL_none th 6 (vrs vs).length (vrs vs) 0 n (has_vrs vs)]
  simp only [flN, if_true, hm]

mutual
/-- are all metas of a term patterns -/
def paT : T → Int → Bool
  | .node k h xs, n => (!(k == 6) || (ptn n [] xs).isSome) && paL k xs.length xs 0 n
def paL (k : Int) (m : Nat) : List T → Nat → Int → Bool
  | [], _, _ => true
  | t :: ts, i, n => paT t (n + bd k m i) && paL k m ts (i + 1) n
end
mutual
theorem pa_nds (n : Int) (hn : 0 ≤ n ∧ n ≤ 1048576) : ∀ (t : T) (b : Int), 0 ≤ b → b + nd t ≤ 1048576 → (nds t b).all (pa1 n) = paT t (n + b)
  | .node k h xs, b, h0, h1 => by
    rw [nd] at h1
    have hw : wrap64 (n + b) = n + b := wrap_small (by omega) (by omega)
    rw [nds, List.all_cons, paT, pa_ndsL n hn k xs.length xs 0 b h0 (by omega)]
    congr 1
    show (!(k == 6) || (ptn (wrap64 (n + b)) [] xs).isSome) = _
    rw [hw]
theorem pa_ndsL (n : Int) (hn : 0 ≤ n ∧ n ≤ 1048576) (k : Int) (m : Nat) : ∀ (xs : List T) (i : Nat) (b : Int), 0 ≤ b → b + 1 + ndL xs ≤ 1048576 → (ndsL k m xs i b).all (pa1 n) = paL k m xs i (n + b)
  | [], _, _, _, _ => by rw [ndsL, paL]; rfl
  | t :: ts, i, b, h0, h1 => by
    rw [ndL] at h1
    have hb : 0 ≤ bd k m i ∧ bd k m i ≤ 1 := by rw [bd_bdn]; have := bdn_le k m i; omega
    have hw : wrap64 (b + bd k m i) = b + bd k m i := wrap_small (by omega) (by omega)
    rw [ndsL, List.all_append, paL, hw, pa_nds n hn t (b + bd k m i) (by omega) (by omega), pa_ndsL n hn k m ts (i + 1) b h0 (by omega), Int.add_assoc]
end
end Go.Proofs.YtkakfckjmmmjgaaGreat

/-
  Patterns of patterns alone: what is filled is matched, and what is matched is filled. No statement is proved here.
-/
namespace Go.Proofs.YtkakfckjmmmjgaaGreat
open Go.ChangeShapes Go.WideShapes Go.ChangeAt Go.RowKit
set_option linter.unusedVariables false

/-- terms for metas -/
structure ThA (th : List T) : Prop where
  few : th.length ≤ 200
  my : ∀ x ∈ th, myB x = true
  ok : ∀ x ∈ th, okT 2199023255552 x
/-- what is told so far is of those -/
structure CoB (th : List T) (bs : List BT) : Prop where
  len : bs.length = th.length
  at_ : ∀ (i : Nat) (x : BT), bs[i]? = some x → x.1 = true → th[i]? = some x.2
def told (bs : List BT) (m : Int) : Prop := ∃ x, bs[m.toNat]? = some x ∧ x.1 = true
theorem told.keep {a b : List BT} {m : Int} (h : told a m) (k : KpB a b) : told b m := by
  obtain ⟨x, hx, h1⟩ := h
  exact ⟨x, k.2 _ x hx h1, h1⟩
theorem getD_at {α : Type} {l : List α} {i : Nat} {x d : α} (h : l[i]? = some x) : l.getD i d = x := by rw [List.getD_eq_getElem?_getD, h]; rfl
theorem my_nought : myB (.node 0 0 []) = true := by decide
theorem rs_one (h : Int) : rs [h] = [h] := rfl
theorem mtO_meta {h : Int} {vs : List Int} : mtO (.node 6 h (vrs vs)) = [h] := by
  rw [mtO, mts, vrs_mts, if_pos rfl]; rfl
/-- with the terms that are told, a meta is filled as with all -/
theorem thL_one {bs : List BT} {h : Int} {x : BT} (h0 : 0 ≤ h) (hx : bs[h.toNat]? = some x) : (thL bs [h]).getD h.toNat (.node 0 0 []) = x.2 := by
  have hl : h.toNat < bs.length := (List.getElem?_eq_some_iff.1 hx).1
  have : (thL bs [h])[h.toNat]? = some x.2 := by
    simp [thL, hl]
    rw [if_pos (by omega)]
    have := List.getElem?_eq_getElem hl
    rw [hx] at this
    cases this; rfl
  exact getD_at this
theorem thL_my {bs : List BT} {h : Int} {x : BT} (h0 : 0 ≤ h) (hx : bs[h.toNat]? = some x) (hm : myB x.2 = true) : ∀ y ∈ thL bs [h], myB y = true := fun y hy => by
  obtain ⟨i, hi⟩ := List.getElem?_of_mem hy
  obtain ⟨hl, rfl⟩ := thL_at hi
  by_cases hm' : (i : Int) ∈ [h]
  · rw [if_pos hm']
    rw [List.mem_singleton] at hm'
    have : i = h.toNat := by omega
    rw [this, getD_at hx]
    exact hm
  · rw [if_neg hm']; exact my_nought
theorem vs_few {n : Int} {vs : List Int} (h0 : 0 ≤ n) (h1 : n ≤ 200) (hv : vB n [] vs = true) : vs.length ≤ 200 := by have := vB_len h0 hv; omega
theorem head_pos {h : Int} {xs : List T} (hm : myB (.node 6 h xs) = true) : 0 ≤ h := by
  have := (node_parts ((myB_iff _).1 hm).1).1
  simp [okN] at this
  omega
theorem nodB_part {k h : Int} {xs : List T} (hm : myB (.node k h xs) = true) : ∀ x ∈ xs, myB x = true ∧ dp x < dp (.node k h xs) := fun x hx => by
  obtain ⟨h1, h2, h3⟩ := (myB_iff _).1 hm
  rw [nd] at h2
  have h4 := nd_mem hx
  have h5 := dpL_mem hx
  rw [dp] at h3 ⊢
  exact ⟨(myB_iff _).2 ⟨(node_parts h1).2 x hx, by omega, by omega⟩, by omega⟩

theorem F_meta {th : List T} {pa : List Bool} {bs : List BT} {h : Int} {xs : List T} {t : T} {n : Int} (hth : ThA th) (hc : CoB th bs) (hpa : ∀ i, pa.getD i false = false) (hp : myB (.node 6 h xs) = true) (hpt : (ptn n [] xs).isSome = true) (h0 : 0 ≤ n) (h1 : n ≤ 200)
    (ht : flT th (.node 6 h xs) n = .ok t) (hmt : myB t = true) : ∃ bs', hdM pa [] bs h xs t n = .ok bs' ∧ CoB th bs' ∧ KpB bs bs' ∧ told bs' h := by
  obtain ⟨vs, hvs⟩ := Option.isSome_iff_exists.1 hpt
  obtain ⟨rfl, hv⟩ := ptn_top7 hvs
  have hh := head_pos hp
  have hfew := vs_few h0 h1 hv
  rw [fl_meta th hv] at ht
  have hlt : ¬ (th.length : Int) ≤ h := fun e => by rw [if_pos e] at ht; cases ht
  rw [if_neg hlt] at ht
  obtain ⟨x, hx⟩ : ∃ x, th[h.toNat]? = some x := ⟨_, List.getElem?_eq_getElem (by omega)⟩
  rw [getD_at hx] at ht
  have hxm := List.mem_of_getElem? hx
  obtain ⟨u, hu1, hu2, hu3⟩ := pat_core (hth.my x hxm) (hth.ok x hxm) hfew ⟨h0, by omega⟩ hv
  rw [if_pos hu2, hu1] at ht
  have hut : u = t := by injection ht
  subst hut
  clear ht
  obtain ⟨b, hb⟩ : ∃ b, bs[h.toNat]? = some b := ⟨_, List.getElem?_eq_getElem (by have := hc.len; omega)⟩
  have hll : ¬ (bs.length : Int) ≤ h := by have := hc.len; omega
  rw [hdM, if_neg hll, getD_at hb]
  by_cases hb1 : b.1 = true
  · have hbx : b.2 = x := by have := hc.at_ _ b hb hb1; rw [hx] at this; cases this; rfl
    have hcmp : cmpR bs (.node 6 h (vrs vs)) u n = 0 := by
      have hI : thI bs h = true := by rw [thI, getD_at hb, hb1, decide_eq_true (by omega)]; rfl
      have hall : (mtO (.node 6 h (vrs vs))).all (thI bs) = true := by rw [mtO_meta]; simp [hI]
      have hB : thB (thL bs [h]) = true := by
        rw [thB, thL_len, decide_eq_true (by have := hc.len; have := hth.few; omega), Bool.true_and]
        exact List.all_eq_true.2 (thL_my hh hb (by rw [hbx]; exact hth.my x hxm))
      have hf : fiR (thL bs [h]) n (.node 6 h (vrs vs)) = .ok u := by
        rw [fi_good hB h0 (by omega) hp, fl_meta _ hv, if_neg (by rw [thL_len]; exact hll), thL_one hh hb, hbx, if_pos hu2, hu1]
        simp only [hmt, if_true]
      rw [cmpR, if_pos hall, mtO_meta, hf]
      simp only [sam_refl, if_true]
    rw [if_pos hb1, if_pos hcmp]
    exact ⟨bs, rfl, hc, KpB.refl _, b, hb, hb1⟩
  · rw [if_neg hb1, becR, hvs]
    simp only [hu3, hpa, Bool.false_and]
    refine ⟨_, rfl, ⟨by rw [List.length_set]; exact hc.len, fun i y hy hy1 => ?_⟩, ⟨List.length_set, fun i y hy hy1 => ?_⟩, (true, x), ?_, rfl⟩
    · by_cases hi : h.toNat = i
      · subst hi
        rw [List.getElem?_set_self (by have := hc.len; omega)] at hy
        cases hy
        exact hx
      · rw [List.getElem?_set_ne hi] at hy
        exact hc.at_ i y hy hy1
    · have hne : h.toNat ≠ i := fun e => by
        subst e
        rw [hb] at hy
        cases hy
        exact hb1 hy1
      rw [List.getElem?_set_ne hne, hy]
    · exact List.getElem?_set_self (by have := hc.len; omega)
mutual
theorem F_T {th : List T} {pa : List Bool} (hth : ThA th) (hpa : ∀ i, pa.getD i false = false) : ∀ (p t : T) (n : Int) (bs : List BT), myB p = true → paT p n = true → 0 ≤ n → n + dp p ≤ 200 → flT th p n = .ok t → myB t = true → CoB th bs →
    ∃ bs', hdT pa [] p t n bs = .ok bs' ∧ CoB th bs' ∧ KpB bs bs' ∧ ∀ m ∈ mts p, told bs' m
  | .node k h xs, .node k' h' ys, n, bs, hp, hpt, h0, h1, ht, hmt, hc => by
    rw [paT, Bool.and_eq_true] at hpt
    by_cases hk : k = 6
    · subst hk
      have hpt1 : (ptn n [] xs).isSome = true := by simpa using hpt.1
      obtain ⟨bs', e1, e2, e3, e4⟩ := F_meta hth hc hpa hp hpt1 h0 (by omega) ht hmt
      refine ⟨bs', by rw [hdT, if_pos rfl]; exact e1, e2, e3, fun m hm => ?_⟩
      obtain ⟨vs, hvs⟩ := Option.isSome_iff_exists.1 hpt1
      obtain ⟨rfl, _⟩ := ptn_top7 hvs
      rw [mts, vrs_mts, if_pos rfl, List.append_nil, List.mem_singleton] at hm
      subst hm
      exact e4
    · obtain ⟨zs, hf, e⟩ := fl_node hk ht
      obtain ⟨rfl, rfl, rfl⟩ : k' = k ∧ h' = h ∧ ys = zs := by injection e with e1 e2 e3; exact ⟨e1, e2, e3⟩
      have hd1 : 1 + dpL xs ≤ dp (.node k' h' xs) := by rw [dp]; omega
      obtain ⟨hl, bs', e1, e2, e3, e4⟩ := F_L hth hpa k' xs.length xs ys 0 n bs (fun x hx => (nodB_part hp x hx).1) hpt.2 h0 (by omega) hf (fun x hx => (nodB_part hmt x hx).1) hc
      refine ⟨bs', by rw [hdT, if_neg hk, if_pos ⟨rfl, rfl, hl⟩]; exact e1, e2, e3, fun m hm => ?_⟩
      rw [mts, if_neg hk, List.nil_append] at hm
      exact e4 m hm
theorem F_L {th : List T} {pa : List Bool} (hth : ThA th) (hpa : ∀ i, pa.getD i false = false) (k : Int) (m : Nat) : ∀ (xs ys : List T) (i : Nat) (n : Int) (bs : List BT), (∀ x ∈ xs, myB x = true) → paL k m xs i n = true → 0 ≤ n → n + 1 + dpL xs ≤ 200 → flL th k m xs i n = .ok ys → (∀ x ∈ ys, myB x = true) → CoB th bs →
    xs.length = ys.length ∧ ∃ bs', hdL pa [] k m xs ys i n bs = .ok bs' ∧ CoB th bs' ∧ KpB bs bs' ∧ ∀ q ∈ mtsL xs, told bs' q
  | [], ys, i, n, bs, _, _, _, _, hf, _, hc => by
    rw [flL] at hf
    cases hf
    exact ⟨rfl, bs, by rw [hdL], hc, KpB.refl _, fun q hq => by rw [mtsL] at hq; cases hq⟩
  | x :: xs, ys, i, n, bs, hp, hpt, h0, h1, hf, hmt, hc => by
    obtain ⟨y, zs, hy, hz, rfl⟩ := flL_cons hf
    rw [paL, Bool.and_eq_true] at hpt
    have hb : 0 ≤ bd k m i ∧ bd k m i ≤ 1 := by rw [bd_bdn]; have := bdn_le k m i; omega
    have hd1 : dp x ≤ dpL (x :: xs) ∧ dpL xs ≤ dpL (x :: xs) := by rw [dpL]; omega
    obtain ⟨b1, e1, e2, e3, e4⟩ := F_T hth hpa x y (n + bd k m i) bs (hp x (List.mem_cons_self ..)) hpt.1 (by omega) (by omega) hy (hmt y (List.mem_cons_self ..)) hc
    obtain ⟨hl, b2, f1, f2, f3, f4⟩ := F_L hth hpa k m xs zs (i + 1) n b1 (fun z hz => hp z (List.mem_cons_of_mem _ hz)) hpt.2 h0 (by omega) hz (fun z hz => hmt z (List.mem_cons_of_mem _ hz)) e2
    refine ⟨by simp [hl], b2, ?_, f2, e3.trans f3, fun q hq => ?_⟩
    · rw [hdL]
      simp only [e1]
      exact f1
    · rw [mtsL, List.mem_append] at hq
      rcases hq with hq | hq
      · exact (e4 q hq).keep f3
      · exact f4 q hq
end
end Go.Proofs.YtkakfckjmmmjgaaGreat

/-
  What the laws need of patterns: heads of what is filled, what is filled is matched, what is matched is filled. No statement is proved here.
-/
namespace Go.Proofs.YtkakfckjmmmjgaaGreat
open Go.ChangeShapes Go.WideShapes Go.ChangeAt Go.RowKit
set_option linter.unusedVariables false

theorem pat_ok {x : T} {M : Int} (h0 : 0 ≤ M) (h1 : M ≤ 2199023255552) (hm : myB x = true) (ho : okT M x) {vs : List Int} {n : Int} (hl : vs.length ≤ 200) (hn : 0 ≤ n ∧ n ≤ 1000) (hv : vB n [] vs = true) : okT (M + 1000) (apT x (vrs vs) n) := by
  obtain ⟨u, hu⟩ := rho_all (vs := vs) (n := n) x 0
  have hg : ∀ i, 0 ≤ i → i ≤ M → ∀ y, rho vs n i = some y → (0 ≤ y ∧ y ≤ i + 1000) ∧ igo vs n y = some i := fun i h0 _ y hy => by
    rcases igo_rho hv h0 hy with h | h
    · exact ⟨⟨h.1.1, by omega⟩, h.2⟩
    · omega
  have hou : okT (M + 1000) u := ok_iv (fun i h0 hi y hy => (hg i h0 hi y hy).1) (by omega) x 0 u (Int.le_refl _) ho hu
  have hmu : myB u = true := my_iv (M := M) (fun i h0 hi y hy => (hg i h0 hi y hy).1.1) ho hm hu
  have hback : ivT (igo vs n) u 0 = some x := iv_iv (M := M) (fun i h0 hi y hy => ⟨(hg i h0 hi y hy).1.1, (hg i h0 hi y hy).2⟩) x 0 u (Int.le_refl _) ho hu
  have hv' := (vB_top.1 hv).1
  have hap := ren_tells hm (sb_of (L := vrs vs) (sh := n) (by rw [vrs_len]; exact hl) (by omega) (vrs_my fun v h => (hv' v h).1)) (iv_ren hv' hn.1 u 0 x hou hback) hmu
  rw [hap.1]
  exact hou
mutual
theorem P_T {th : List T} {M : Int} (hM0 : 0 ≤ M) (hM : M ≤ 2199023255552) (hmy : ∀ x ∈ th, myB x = true) (hok : ∀ x ∈ th, okT M x) : ∀ (p t : T) (n : Int), okT M p → paT p n = true → 0 ≤ n → n + dp p ≤ 200 → flT th p n = .ok t → okT (M + 1000) t
  | .node k h xs, t, n, hp, hpt, h0, h1, ht => by
    rw [paT, Bool.and_eq_true] at hpt
    by_cases hk : k = 6
    · subst hk
      have hpt1 : (ptn n [] xs).isSome = true := by simpa using hpt.1
      obtain ⟨vs, hvs⟩ := Option.isSome_iff_exists.1 hpt1
      obtain ⟨rfl, hv⟩ := ptn_top7 hvs
      rw [fl_meta th hv] at ht
      split at ht
      · cases ht
      · split at ht
        · cases ht
          have hmem : ∀ y, y = th.getD h.toNat (.node 0 0 []) → myB y = true ∧ okT M y := fun y hy => by
            rw [List.getD_eq_getElem?_getD] at hy
            cases hq : th[h.toNat]? with
            | none => rw [hq] at hy; subst hy; exact ⟨my_nought, by rw [Option.getD_none, okT, okL]; exact ⟨fun h => by omega, trivial⟩⟩
            | some z => rw [hq] at hy; subst hy; exact ⟨hmy _ (List.mem_of_getElem? hq), hok _ (List.mem_of_getElem? hq)⟩
          exact pat_ok hM0 hM (hmem _ rfl).1 (hmem _ rfl).2 (vs_few h0 (by omega) hv) ⟨h0, by omega⟩ hv
        · cases ht
    · obtain ⟨zs, hf, rfl⟩ := fl_node hk ht
      rw [okT] at hp
      have hd1 : 1 + dpL xs ≤ dp (.node k h xs) := by rw [dp]; omega
      rw [okT]
      exact ⟨fun e => by have := hp.1 e; omega, P_L hM0 hM hmy hok k xs.length xs zs 0 n hp.2 hpt.2 h0 (by omega) hf⟩
theorem P_L {th : List T} {M : Int} (hM0 : 0 ≤ M) (hM : M ≤ 2199023255552) (hmy : ∀ x ∈ th, myB x = true) (hok : ∀ x ∈ th, okT M x) (k : Int) (m : Nat) : ∀ (xs ys : List T) (i : Nat) (n : Int), okL M xs → paL k m xs i n = true → 0 ≤ n → n + 1 + dpL xs ≤ 200 → flL th k m xs i n = .ok ys → okL (M + 1000) ys
  | [], ys, i, n, _, _, _, _, hf => by rw [flL] at hf; cases hf; rw [okL]; trivial
  | x :: xs, ys, i, n, hp, hpt, h0, h1, hf => by
    obtain ⟨y, zs, hy, hz, rfl⟩ := flL_cons hf
    rw [paL, Bool.and_eq_true] at hpt
    rw [okL] at hp
    have hb : 0 ≤ bd k m i ∧ bd k m i ≤ 1 := by rw [bd_bdn]; have := bdn_le k m i; omega
    have hd1 : dp x ≤ dpL (x :: xs) ∧ dpL xs ≤ dpL (x :: xs) := by rw [dpL]; omega
    rw [okL]
    exact ⟨P_T hM0 hM hmy hok x y (n + bd k m i) hp.1 hpt.1 (by omega) (by omega) hy, P_L hM0 hM hmy hok k m xs zs (i + 1) n hp.2 hpt.2 h0 (by omega) hz⟩
end

theorem pa_top {p : T} {n : Int} (hm : myB p = true) (hn : 0 ≤ n ∧ n ≤ 1000) (h : (nds p 0).all (pa1 n) = true) : paT p n = true := by
  have h4 := ((myB_iff p).1 hm).2.1
  rw [pa_nds n (by omega) p 0 (by omega) (by omega), Int.add_zero] at h
  exact h
theorem rep_false (N : Nat) : ∀ i, (List.replicate N false).getD i false = false := fun i => by
  rw [List.getD_eq_getElem?_getD, List.getElem?_replicate]
  split <;> rfl
theorem rep_noB {N i : Nat} {x : BT} (h : (List.replicate N noB)[i]? = some x) : x = noB := by
  rw [List.getElem?_replicate] at h
  split at h <;> cases h
  rfl
theorem co_rep {th : List T} : CoB th (List.replicate th.length noB) := ⟨by simp, fun i x hx h1 => by rw [rep_noB hx] at h1; cases h1⟩
theorem mtA_rep {p t : T} {n : Int} {N : Nat} (hp : myB p = true) (ht : myB t = true) (hn : 0 ≤ n ∧ n ≤ 1000) (hN : N ≤ 200) : mtA p t n (List.replicate N noB) (List.replicate N false) = true := by
  have ha : (List.replicate N noB).all myA = true := List.all_eq_true.2 fun x hx => by rw [List.eq_of_mem_replicate hx]; rfl
  rw [mtA, hp, ht, ha, decide_eq_true hn.1, decide_eq_true hn.2, List.length_replicate, List.length_replicate, decide_eq_true hN, decide_eq_true rfl]
  rfl
mutual
/-- a pattern's metas may lack alone -/
theorem E_T {th : List T} (hth : ThA th) : ∀ (p : T) (n : Int) (e : Int), myB p = true → paT p n = true → 0 ≤ n → n + dp p ≤ 200 → flT th p n = .error e → e = 2
  | .node k h xs, n, e, hp, hpt, h0, h1, he => by
    rw [paT, Bool.and_eq_true] at hpt
    by_cases hk : k = 6
    · subst hk
      have hpt1 : (ptn n [] xs).isSome = true := by simpa using hpt.1
      obtain ⟨vs, hvs⟩ := Option.isSome_iff_exists.1 hpt1
      obtain ⟨rfl, hv⟩ := ptn_top7 hvs
      have hh := head_pos hp
      rw [fl_meta th hv] at he
      split at he
      · cases he; rfl
      · rename_i hlt
        split at he
        · cases he
        · rename_i hne
          obtain ⟨y, hy⟩ : ∃ y, th[h.toNat]? = some y := ⟨_, List.getElem?_eq_getElem (by omega)⟩
          rw [getD_at hy] at hne
          have hm := List.mem_of_getElem? hy
          obtain ⟨u, _, hu2, _⟩ := pat_core (hth.my y hm) (hth.ok y hm) (vs_few h0 (by omega) hv) ⟨h0, by omega⟩ hv
          exact absurd hu2 hne
    · rw [flT] at he
      split at he
      · rename_i e' hf
        cases he
        have hd1 : 1 + dpL xs ≤ dp (.node k h xs) := by rw [dp]; omega
        exact E_L hth k xs.length xs 0 n _ (fun x hx => (nodB_part hp x hx).1) hpt.2 h0 (by omega) hf
      · rw [flN, if_neg hk] at he
        cases he
theorem E_L {th : List T} (hth : ThA th) (k : Int) (m : Nat) : ∀ (xs : List T) (i : Nat) (n : Int) (e : Int), (∀ x ∈ xs, myB x = true) → paL k m xs i n = true → 0 ≤ n → n + 1 + dpL xs ≤ 200 → flL th k m xs i n = .error e → e = 2
  | [], i, n, e, _, _, _, _, he => by rw [flL] at he; cases he
  | x :: xs, i, n, e, hp, hpt, h0, h1, he => by
    rw [paL, Bool.and_eq_true] at hpt
    have hb : 0 ≤ bd k m i ∧ bd k m i ≤ 1 := by rw [bd_bdn]; have := bdn_le k m i; omega
    have hd1 : dp x ≤ dpL (x :: xs) ∧ dpL xs ≤ dpL (x :: xs) := by rw [dpL]; omega
    rw [flL] at he
    cases hx : flT th x (n + bd k m i) with
    | error e' =>
      rw [hx] at he
      cases he
      exact E_T hth x _ _ (hp x (List.mem_cons_self ..)) hpt.1 (by omega) (by omega) hx
    | ok y =>
      rw [hx] at he
      try simp only at he
      cases hz : flL th k m xs (i + 1) n with
      | error e' =>
        rw [hz] at he
        cases he
        exact E_L hth k m xs (i + 1) n _ (fun z hz => hp z (List.mem_cons_of_mem _ hz)) hpt.2 h0 (by omega) hz
      | ok zs => rw [hz] at he; cases he
end
theorem thB_of {th : List T} (hth : ThA th) : thB th = true := by
  rw [thB, decide_eq_true hth.few, Bool.true_and]
  exact List.all_eq_true.2 hth.my
theorem finds_err {p : T} {th : List T} {n e : Int} (hth : ThA th) (hmp : myB p = true) (hn : 0 ≤ n ∧ n ≤ 100) (hpt : (nds p 0).all (pa1 n) = true) (hf : fiR th n p = .error e) : e = 2 ∨ e = 4 := by
  have hpa := pa_top hmp (by omega) hpt
  have hd := ((myB_iff p).1 hmp).2.2
  rw [fi_good (thB_of hth) hn.1 (by omega) hmp] at hf
  cases hl : flT th p n with
  | error e' =>
    rw [hl] at hf
    cases hf
    exact .inl (E_T hth p n _ hmp hpa hn.1 (by omega) hl)
  | ok t =>
    rw [hl] at hf
    try simp only at hf
    split at hf
    · cases hf
    · cases hf; exact .inr rfl
/-- lists that are made -/
theorem make_binds {N : Nat} (hN : N ≤ 200) (W : World) : (Instr.makeSlice 25 (.int .i64 (N : Int)) (.int .i64 (N : Int))).run Tryz.prog W = .ok (.slice (some ⟨W.heap.size, 0, none⟩) N N) (W.alloc (.cells (madeCells #[.bool false, .int .i64 0, .int .i64 0, .slice none 0 0] (N * 4)) 43)) := by
  obtain ⟨i0, hi, hz0, hz1, hz2⟩ := info_parts infoBind
  have := run_make W 25 43 i0 _ Tryz.underlying25 hi hz0 .i64 .i64 (N : Int) (N : Int) (by omega) (Int.le_refl _) (by rw [hz2]; omega) (by omega)
  rw [hz1] at this
  simpa [Value.cells] using this
theorem infoBool : (Tryz.prog.info? 4).map (fun i => (i.zero, i.size, i.bytes)) = some (some (.bool false), 1, 1) := by kernel_rfl
theorem make_bools {N : Nat} (hN : N ≤ 200) (W : World) : (Instr.makeSlice 26 (.int .i64 (N : Int)) (.int .i64 (N : Int))).run Tryz.prog W = .ok (.slice (some ⟨W.heap.size, 0, none⟩) N N) (W.alloc (.cells (madeCells #[.bool false] N) 4)) := by
  obtain ⟨i0, hi, hz0, hz1, hz2⟩ := info_parts infoBool
  have := run_make W 26 4 i0 _ Tryz.underlying26 hi hz0 .i64 .i64 (N : Int) (N : Int) (by omega) (Int.le_refl _) (by rw [hz2]; omega) (by omega)
  rw [hz1] at this
  simpa [Value.cells] using this
theorem bl_made {ok : Nat → Prop} {w : World} {q N : Nat} {ty : TypeId} (hN : N ≤ 200) (h : Box w q ty (madeCells #[.bool false, .int .i64 0, .int .i64 0, .slice none 0 0] (N * 4))) : BL ok w (List.replicate N noB) (some ⟨q, 0, none⟩) N N :=
  BFs.list (bs := List.replicate N noB) ((bfs_made (w := w) (ok := ok) N).move (fun b hb _ => ⟨hb, rfl⟩) fun i hi => by rw [List.getD_eq_getElem?_getD, List.getElem?_replicate, if_pos hi]; rfl) h (by simp) (by omega)
theorem lb_made {w : World} {q N : Nat} {ty : TypeId} (hN : N ≤ 200) (h : Box w q ty (madeCells #[.bool false] N)) : LB w (List.replicate N false) (some ⟨q, 0, none⟩) N N :=
  ⟨by simp, Nat.le_refl _, by unfold maxLen; omega, fun i x hx => by
    rw [List.getElem?_replicate] at hx
    split at hx
    · rename_i hi
      cases hx
      refine ⟨q, 0, rfl, ?_⟩
      rw [Nat.zero_add, h.cell]
      simp [madeCells, hi, Nat.mod_one]
    · cases hx⟩
/-- MatchFinds -/
theorem finds_facts {p t : T} {th : List T} {n : Int} (hth : ThA th) (hok : ∀ x ∈ th, okT 1099511627776 x) (hop : okT 1099511627776 p) (hn : 0 ≤ n ∧ n ≤ 100) (hpt : (nds p 0).all (pa1 n) = true) (hf : fiR th n p = .ok t) :
    okT 2199021158400 t ∧ ∃ b, mtR p t n (List.replicate th.length noB) (List.replicate th.length false) [] = .ok b ∧ b.length = th.length ∧ ∀ m ∈ mts p, 0 ≤ m ∧ ∃ x, b[m.toNat]? = some x ∧ x.1 = true ∧ th[m.toNat]? = some x.2 := by
  obtain ⟨_, _, _, hmp, hfl, hmt⟩ := fi_ok hf
  have hpa := pa_top hmp (by omega) hpt
  have hd := ((myB_iff p).1 hmp).2.2
  obtain ⟨b, e1, e2, e3, e4⟩ := F_T (pa := List.replicate th.length false) hth (rep_false _) p t n _ hmp hpa hn.1 (by omega) hfl hmt co_rep
  refine ⟨okT_mono (by omega) _ (P_T (M := 1099511627776) (by omega) (by omega) hth.my hok p t n hop hpa hn.1 (by omega) hfl), b.map ownB, ?_, by rw [List.length_map]; exact e2.len, fun m hm => ⟨mts_pos p ((myB_iff p).1 hmp).1 m hm, ?_⟩⟩
  · rw [mtR, if_pos (mtA_rep hmp hmt (by omega) hth.few), e1]
  · obtain ⟨x, hx, h1⟩ := e4 m hm
    exact ⟨x, by rw [List.getElem?_map, hx, Option.map_some, ownB, if_pos h1], h1, e2.at_ _ x hx h1⟩
end Go.Proofs.YtkakfckjmmmjgaaGreat

/-
  What is matched is filled, and matched again: patterns of patterns alone. No statement is proved here.
-/
namespace Go.Proofs.YtkakfckjmmmjgaaGreat
open Go.ChangeShapes Go.WideShapes Go.ChangeAt Go.RowKit
set_option linter.unusedVariables false

/-- what all are, noughts where one is nothing yet -/
def thF (bs : List BT) : List T := bs.map fun x => (ownB x).2
theorem thF_at {bs : List BT} {i : Nat} {x : BT} (h : bs[i]? = some x) (h1 : x.1 = true) : (thF bs)[i]? = some x.2 := by
  rw [thF, List.getElem?_map, h, Option.map_some, ownB, if_pos h1]
theorem thF_len (bs : List BT) : (thF bs).length = bs.length := List.length_map _
theorem G_meta {pa : List Bool} {bs bs' bf : List BT} {h : Int} {xs : List T} {t : T} {n : Int} (hok : okBs bs) (hp : HoT (.node 6 h xs)) (ht : HoT t) (hpt : (ptn n [] xs).isSome = true) (h0 : 0 ≤ n) (h1 : n ≤ 200) (hN : bs.length ≤ 200)
    (he : hdM pa [] bs h xs t n = .ok bs') (hk : KpB bs' bf) : flT (thF bf) (.node 6 h xs) n = .ok t ∧ told bs' h := by
  obtain ⟨vs, hvs⟩ := Option.isSome_iff_exists.1 hpt
  obtain ⟨rfl, hv⟩ := ptn_top7 hvs
  have hh := head_pos hp.my
  have hfew := vs_few h0 h1 hv
  rw [hdM] at he
  split at he
  · cases he
  · rename_i hlt
    obtain ⟨b, hb⟩ : ∃ b, bs[h.toNat]? = some b := ⟨_, List.getElem?_eq_getElem (by omega)⟩
    rw [getD_at hb] at he
    by_cases hb1 : b.1 = true
    · rw [if_pos hb1] at he
      split at he
      · rename_i hz
        cases he
        have hbm := hok b (List.mem_of_getElem? hb) hb1
        obtain ⟨u, hu1, hu2, _⟩ := pat_core hbm.2 hbm.1 hfew ⟨h0, by omega⟩ hv
        have hI : thI bs h = true := by rw [thI, getD_at hb, hb1, decide_eq_true (by omega)]; rfl
        have hall : (mtO (.node 6 h (vrs vs))).all (thI bs) = true := by rw [mtO_meta]; simp [hI]
        have hB : thB (thL bs [h]) = true := by
          rw [thB, thL_len, decide_eq_true hN, Bool.true_and]
          exact List.all_eq_true.2 (thL_my hh hb hbm.2)
        rw [cmpR, if_pos hall, mtO_meta, fi_good hB h0 (by omega) hp.my, fl_meta _ hv, if_neg (by rw [thL_len]; exact hlt), thL_one hh hb, if_pos hu2, hu1] at hz
        try simp only at hz
        have hut : u = t := by
          by_cases hmu : myB u = true
          · rw [if_pos hmu] at hz
            try simp only at hz
            by_cases hs : samB u t = true
            · exact sam_eq u t hs
            · rw [if_neg hs] at hz; cases hz
          · rw [if_neg hmu] at hz
            cases hz
        refine ⟨?_, b, hb, hb1⟩
        have hbf := hk.2 _ b hb hb1
        rw [fl_meta _ hv, if_neg (by rw [thF_len, hk.1]; exact hlt), getD_at (thF_at hbf hb1), if_pos hu2, hu1, hut]
      · cases he
    · rw [if_neg hb1, becR, hvs] at he
      try simp only at he
      cases hi : ivR t vs n with
      | error e => rw [hi] at he; cases he
      | ok u =>
        rw [hi] at he
        try simp only at he
        split at he
        · cases he
        · cases he
          obtain ⟨hiv, _, hn, _⟩ := iv_told ht (by omega) hi
          obtain ⟨hap1, hap2, _⟩ := iv_apply hv hn hfew ht.ok ht.my hiv
          have hset : (bs.set h.toNat (true, u))[h.toNat]? = some (true, u) := List.getElem?_set_self (by omega)
          refine ⟨?_, (true, u), hset, rfl⟩
          have hbf := hk.2 _ _ hset rfl
          have hkl := hk.1
          rw [List.length_set] at hkl
          rw [fl_meta _ hv, if_neg (by rw [thF_len, hkl]; exact hlt), getD_at (thF_at hbf rfl), if_pos hap2, hap1]
set_option maxRecDepth 100000 in
mutual
theorem G_T {pa : List Bool} : ∀ (p t : T) (n : Int) (bs bs' bf : List BT), okBs bs → HoT p → HoT t → paT p n = true → 0 ≤ n → n + dp p ≤ 200 → bs.length ≤ 200 → hdT pa [] p t n bs = .ok bs' → KpB bs' bf → flT (thF bf) p n = .ok t ∧ ∀ m ∈ mts p, told bs' m
  | .node k h xs, .node k' h' ys, n, bs, bs', bf, hok, hp, ht, hpt, h0, h1, hN, he, hk => by
    rw [paT, Bool.and_eq_true] at hpt
    rw [hdT] at he
    by_cases h6 : k = 6
    · subst h6
      rw [if_pos rfl] at he
      have hpt1 : (ptn n [] xs).isSome = true := by simpa using hpt.1
      obtain ⟨e1, e2⟩ := G_meta hok hp ht hpt1 h0 (by omega) hN he hk
      refine ⟨e1, fun m hm => ?_⟩
      obtain ⟨vs, hvs⟩ := Option.isSome_iff_exists.1 hpt1
      obtain ⟨rfl, _⟩ := ptn_top7 hvs
      rw [mts, vrs_mts, if_pos rfl, List.append_nil, List.mem_singleton] at hm
      subst hm
      exact e2
    · rw [if_neg h6] at he
      split at he
      · rename_i hc
        obtain ⟨rfl, rfl, hl⟩ := hc
        have hd1 : 1 + dpL xs ≤ dp (.node k h xs) := by rw [dp]; omega
        obtain ⟨e1, e2⟩ := G_L k xs.length xs ys 0 n bs bs' bf hok (fun x hx => (hp.part x hx).1) (fun x hx => (ht.part x hx).1) hpt.2 h0 (by omega) hN hl he hk
        refine ⟨?_, fun m hm => ?_⟩
        · rw [flT, e1]
          simp only [flN, if_neg h6]
        · rw [mts, if_neg h6, List.nil_append] at hm
          exact e2 m hm
      · cases he
theorem G_L {pa : List Bool} (k : Int) (m : Nat) : ∀ (xs ys : List T) (i : Nat) (n : Int) (bs bs' bf : List BT), okBs bs → (∀ x ∈ xs, HoT x) → (∀ x ∈ ys, HoT x) → paL k m xs i n = true → 0 ≤ n → n + 1 + dpL xs ≤ 200 → bs.length ≤ 200 → xs.length = ys.length → hdL pa [] k m xs ys i n bs = .ok bs' → KpB bs' bf → flL (thF bf) k m xs i n = .ok ys ∧ ∀ q ∈ mtsL xs, told bs' q
  | [], [], i, n, bs, bs', bf, _, _, _, _, _, _, _, _, he, _ => by
    rw [hdL] at he
    cases he
    exact ⟨by rw [flL], fun q hq => by rw [mtsL] at hq; cases hq⟩
  | x :: xs, y :: ys, i, n, bs, bs', bf, hok, hp, ht, hpt, h0, h1, hN, hl, he, hk => by
    rw [paL, Bool.and_eq_true] at hpt
    rw [hdL] at he
    try simp only at he
    have hb : 0 ≤ bd k m i ∧ bd k m i ≤ 1 := by rw [bd_bdn]; have := bdn_le k m i; omega
    have hd1 : dp x ≤ dpL (x :: xs) ∧ dpL xs ≤ dpL (x :: xs) := by rw [dpL]; omega
    cases hx : hdT pa [] x y (n + bd k m i) bs with
    | error e => rw [hx] at he; cases he
    | ok b1 =>
      rw [hx] at he
      try simp only at he
      have hpx := hp x (List.mem_cons_self ..)
      have hty := ht y (List.mem_cons_self ..)
      have hok1 := okBs_keep x y _ bs b1 hpx hty hok hx
      have hkx := hd_keep x y _ bs b1 hx
      have hkr := hd_keepL k m xs ys (i + 1) n b1 bs' he
      obtain ⟨e1, e2⟩ := G_T x y (n + bd k m i) bs b1 bf hok hpx hty hpt.1 (by omega) (by omega) hN hx (hkr.trans hk)
      obtain ⟨f1, f2⟩ := G_L k m xs ys (i + 1) n b1 bs' bf hok1 (fun z hz => hp z (List.mem_cons_of_mem _ hz)) (fun z hz => ht z (List.mem_cons_of_mem _ hz)) hpt.2 h0 (by omega) (by rw [hkx.1]; exact hN) (by simpa using hl) he hk
      refine ⟨by rw [flL, e1]; simp only [f1], fun q hq => ?_⟩
      rw [mtsL, List.mem_append] at hq
      rcases hq with hq | hq
      · exact (e2 q hq).keep hkr
      · exact f2 q hq
end
/-- what does not stand in the pattern stays -/
theorem N_meta {pa ri : List Bool} {bs bs' : List BT} {h : Int} {xs : List T} {t : T} {n : Int} (he : hdM pa ri bs h xs t n = .ok bs') (i : Nat) (hi : h.toNat ≠ i) : bs'[i]? = bs[i]? := by
  rw [hdM] at he
  split at he
  · cases he
  · split at he
    · split at he
      · cases he; rfl
      · cases he
    · rw [becR] at he
      cases hq : ptn n [] xs with
      | none => rw [hq] at he; cases he
      | some vs =>
        rw [hq] at he
        try simp only at he
        cases hi' : ivR t vs n with
        | error e => rw [hi'] at he; cases he
        | ok u =>
          rw [hi'] at he
          try simp only at he
          split at he
          · cases he
          · cases he
            exact List.getElem?_set_ne hi
mutual
theorem N_T {pa ri : List Bool} : ∀ (p t : T) (n : Int) (bs bs' : List BT), hdT pa ri p t n bs = .ok bs' → ∀ i, (∀ m ∈ mts p, m.toNat ≠ i) → bs'[i]? = bs[i]?
  | .node k h xs, .node k' h' ys, n, bs, bs', he, i, hi => by
    rw [hdT] at he
    split at he
    · rename_i h6
      exact N_meta he i (hi h (by rw [mts, if_pos h6]; exact List.mem_append_left _ (List.mem_singleton.2 rfl)))
    · split at he
      · exact N_L k xs.length xs ys 0 n bs bs' he i fun m hm => hi m (by rw [mts]; exact List.mem_append_right _ hm)
      · cases he
theorem N_L {pa ri : List Bool} (k : Int) (m : Nat) : ∀ (xs ys : List T) (j : Nat) (n : Int) (bs bs' : List BT), hdL pa ri k m xs ys j n bs = .ok bs' → ∀ i, (∀ q ∈ mtsL xs, q.toNat ≠ i) → bs'[i]? = bs[i]?
  | [], ys, j, n, bs, bs', he, i, hi => by rw [hdL] at he; cases he; rfl
  | x :: xs, [], j, n, bs, bs', he, i, hi => by rw [hdL] at he; cases he; rfl
  | x :: xs, y :: ys, j, n, bs, bs', he, i, hi => by
    rw [hdL] at he
    try simp only at he
    cases h1 : hdT pa ri x y (n + bd k m j) bs with
    | error e => rw [h1] at he; cases he
    | ok b1 =>
      rw [h1] at he
      exact (N_L k m xs ys (j + 1) n b1 bs' he i fun q hq => hi q (by rw [mtsL]; exact List.mem_append_right _ hq)).trans (N_T x y _ bs b1 h1 i fun q hq => hi q (by rw [mtsL]; exact List.mem_append_left _ hq))
end
theorem own_own (x : BT) : ownB (ownB x) = ownB x := by
  by_cases h : x.1 = true
  · have e : ownB x = x := if_pos h
    rw [e, e]
  · have e : ownB x = noB := if_neg h
    rw [e]
    rfl
theorem thF_ok {b : List BT} (h : okBs b) : ∀ y ∈ thF b, okT 2199023255552 y := fun y hy => by
  obtain ⟨x, hx, rfl⟩ := List.mem_map.1 hy
  by_cases h1 : x.1 = true
  · rw [ownB, if_pos h1]
    exact (h x hx h1).1
  · rw [ownB, if_neg h1]
    simp [noB, okT, okL]
theorem okBs_rep (N : Nat) : okBs (List.replicate N noB) := fun x hx h1 => by rw [List.eq_of_mem_replicate hx] at h1; cases h1
/-- MatchFills -/
theorem fills_facts {p t : T} {n : Int} {N : Nat} {b : List BT} (hp : HoT p) (ht : HoT t) (hn : 0 ≤ n ∧ n ≤ 100) (hN : N ≤ 60) (hpt : (nds p 0).all (pa1 n) = true) (hm : mtR p t n (List.replicate N noB) (List.replicate N false) [] = .ok b) :
    b.length = N ∧ okBs b ∧ (∀ m ∈ mts p, 0 ≤ m ∧ ∃ x, b[m.toNat]? = some x ∧ x.1 = true) ∧ fiR (thF b) n p = .ok t ∧ mtR p t n b (List.replicate N false) [] = .ok b := by
  have hpa := pa_top hp.my (by omega) hpt
  have hd := ((myB_iff p).1 hp.my).2.2
  rw [mtR, if_pos (mtA_rep hp.my ht.my (by omega) (by omega))] at hm
  cases hh : hdT (List.replicate N false) [] p t n (List.replicate N noB) with
  | error e => rw [hh] at hm; cases hm
  | ok bs' =>
    rw [hh] at hm
    cases hm
    have hk0 := hd_keep p t n _ bs' hh
    have hlen : bs'.length = N := hk0.1.trans (by simp)
    have hok' := okBs_keep p t n _ bs' hp ht (okBs_rep N) hh
    have hkb : KpB bs' (bs'.map ownB) := ⟨List.length_map _, fun i x hx h1 => by rw [List.getElem?_map, hx, Option.map_some, ownB, if_pos h1]⟩
    have hokb : okBs (bs'.map ownB) := fun x hx h1 => by
      obtain ⟨y, hy, rfl⟩ := List.mem_map.1 hx
      unfold ownB at h1 ⊢
      by_cases hy1 : y.1 = true
      · rw [if_pos hy1]; exact hok' y hy hy1
      · rw [if_neg hy1] at h1; cases h1
    have hlb : (bs'.map ownB).length = N := (List.length_map _).trans hlen
    obtain ⟨e1, e2⟩ := G_T p t n _ bs' (bs'.map ownB) (okBs_rep N) hp ht hpa hn.1 (by omega) (by simp; omega) hh hkb
    have htold : ∀ m ∈ mts p, told (bs'.map ownB) m := fun m hm => (e2 m hm).keep hkb
    have hth : ThA (thF (bs'.map ownB)) := by
      have key : ∀ y ∈ thF (bs'.map ownB), myB y = true ∧ okT 2199023255552 y := fun y hy => by
        obtain ⟨x, hx, rfl⟩ := List.mem_map.1 hy
        by_cases h1 : x.1 = true
        · have := hokb x hx h1
          rw [ownB, if_pos h1]
          exact ⟨this.2, this.1⟩
        · rw [ownB, if_neg h1]
          exact ⟨my_nought, by simp [noB, okT, okL]⟩
      exact ⟨by rw [thF_len, hlb]; omega, fun y hy => (key y hy).1, fun y hy => (key y hy).2⟩
    have hco : CoB (thF (bs'.map ownB)) (bs'.map ownB) := ⟨(thF_len _).symm, fun i x hx h1 => thF_at hx h1⟩
    obtain ⟨b2, f1, _, f3, _⟩ := F_T (pa := List.replicate N false) hth (rep_false N) p t n _ hp.my hpa hn.1 (by omega) e1 ht.my hco
    have hb2 : b2 = bs'.map ownB := by
      apply List.ext_getElem?
      intro i
      by_cases hi : ∀ m ∈ mts p, m.toNat ≠ i
      · exact N_T p t n _ b2 f1 i hi
      · simp only [Classical.not_forall, Classical.not_not] at hi
        obtain ⟨m, hm, rfl⟩ := hi
        obtain ⟨x, hx, h1⟩ := htold m hm
        rw [hx, f3.2 _ x hx h1]
    refine ⟨hlb, hokb, fun m hm => ⟨mts_pos p ((myB_iff p).1 hp.my).1 m hm, htold m hm⟩, ?_, ?_⟩
    · rw [fi_good (thB_of hth) hn.1 (by omega) hp.my, e1]
      simp only [ht.my, if_true]
    · have hall : (bs'.map ownB).all myA = true := List.all_eq_true.2 fun x hx => by
        rw [myA]
        by_cases h1 : x.1 = true
        · rw [(hokb x hx h1).2, Bool.or_true]
        · simp [h1]
      have hA : mtA p t n (bs'.map ownB) (List.replicate N false) = true := by
        rw [mtA, hp.my, ht.my, hall, decide_eq_true hn.1, decide_eq_true (p := n ≤ 1000) (by omega), hlb, List.length_replicate, decide_eq_true (p := N ≤ 200) (by omega), decide_eq_true rfl]; rfl
      rw [mtR, if_pos hA, f1, hb2]
      show (Except.ok ((bs'.map ownB).map ownB) : Except Int (List BT)) = .ok (bs'.map ownB)
      rw [List.map_map]
      congr 1
      exact List.map_congr_left fun x _ => own_own x
end Go.Proofs.YtkakfckjmmmjgaaGreat

/-
  The document's Told: what all metas are. No statement is proved here.
-/
namespace Go.Proofs.YtkakfckjmmmjgaaGreat
open Go.ChangeShapes Go.WideShapes Go.ChangeAt Go.RowKit
set_option linter.unusedVariables false

/-! ### A row of terms that grows (as in layer 3) -/
structure RowT (X : Nat → Prop) (w : World) (base : Nat) (v : Value) (n : Nat) (cs : List Value) (ys : List T) : Prop where
  own : w.ownsRow base 24 3 v n cs
  len : ys.length = n
  kids : KidL w (fun b => ¬ X b ∧ some b ≠ v.ownBlock) cs ys
theorem RowT.nil (X : Nat → Prop) (w : World) (base : Nat) : RowT X w base (.slice none 0 0) 0 [] [] :=
  ⟨World.ownsRow_nil _ _ _ _, rfl, fun i t ht => by simp at ht⟩
theorem RowT.full {X : Nat → Prop} {w : World} {base : Nat} {v : Value} {n : Nat} {cs : List Value} {ys : List T} (h : RowT X w base v n cs ys) : ∃ A c, v = .slice A n c ∧ n ≤ c ∧ c ≤ maxLen := by
  rcases h.own.2 with ⟨rfl, rfl⟩ | ⟨g, cap, cur, rfl, _, _, h1, h2, _⟩
  · exact ⟨none, 0, rfl, Nat.le_refl _, Nat.zero_le _⟩
  · exact ⟨_, _, rfl, h1, h2⟩
theorem RowT.lt {X : Nat → Prop} {w : World} {base : Nat} {v : Value} {n : Nat} {cs : List Value} {ys : List T} (h : RowT X w base v n cs ys) {g : Nat} (hg : v.ownBlock = some g) : base ≤ g ∧ g < w.heap.size := h.own.lt g hg
theorem KidL.moveT {w w' : World} {ok ok' : Nat → Prop} {cs : List Value} {ys : List T} (hk : KidL w ok cs ys) (hm : ∀ b, ok b → b < w.heap.size → ok' b ∧ w'.heap[b]? = w.heap[b]?) : KidL w' ok' cs ys := fun i t ht => by
  obtain ⟨k, h, A, n, c, e0, e1, e2, hr⟩ := hk i t ht
  exact ⟨k, h, A, n, c, e0, e1, e2, RdF.moveX hm _ _ hr⟩
theorem RowT.rxl {X : Nat → Prop} {w : World} {base n c : Nat} {A : Option Addr} {cs : List Value} {ys : List T} (h : RowT X w base (.slice A n c) n cs ys) (hX : ∀ b, X b → b < base) : RXL X w ys A n c := by
  have h := rdF_row (k := 0) (h := 0) (ok' := fun b => ¬ X b) h.own h.kids h.len (fun _ h => h.1) (fun g hg e => by have := (h.own.lt g hg).1; have := hX g e; omega) (by decide) (by decide)
  obtain ⟨A', n', c', e, _, _, h3, h4, h5, h6⟩ := RdF_node.1 h
  simp only [Value.agg.injEq] at e
  have e' : A = A' ∧ n = n' ∧ c = c' := by simpa using e
  obtain ⟨rfl, rfl, rfl⟩ := e'
  exact ⟨h3, h4, h5, h6⟩
theorem RowT.grow {X : Nat → Prop} {w1 w4 : World} {base : Nat} {v : Value} {n m cap g : Nat} {cs : List Value} {ys : List T} {t : T} {k h : Int} {A : Option Addr} {c : Nat} (hg : RowT X w1 base v n cs ys) (hr : RdF (fun b => ¬ X b ∧ some b ≠ v.ownBlock) w1 t (.agg #[.int .i64 k, .int .i64 h, .slice A m c]))
    (how : w4.ownsRow base 24 3 (.slice (some ⟨g, 0, none⟩) (n + 1) cap) (n + 1) (cs ++ [.int .i64 k, .int .i64 h, .slice A m c]))
    (hgr : (w1.alloc (.cells #[.int .i64 k, .int .i64 h, .slice A m c] 24)).grownBy w4 v.ownBlock) (h4 : v.ownBlock = some g ∨ g = w1.heap.size + 1) :
    RowT X w4 base (.slice (some ⟨g, 0, none⟩) (n + 1) cap) (n + 1) (cs ++ [.int .i64 k, .int .i64 h, .slice A m c]) (ys ++ [t]) := by
  have hgo : ∀ q, q < w1.heap.size → some q ≠ v.ownBlock → w4.heap[q]? = w1.heap[q]? := fun q hq hne => (hgr.block q (by simp; omega) hne).trans (Below.heap_alloc _ _ _ hq)
  have hne : ∀ q, q < w1.heap.size → some q ≠ v.ownBlock → q ≠ g := fun q hq hv e => by
    rcases h4 with h4 | h4
    · rw [h4, e] at hv; exact hv rfl
    · omega
  have hm : ∀ b, (¬ X b ∧ some b ≠ v.ownBlock) → b < w1.heap.size → (¬ X b ∧ some b ≠ Value.ownBlock (.slice (some ⟨g, 0, none⟩) (n + 1) cap)) ∧ w4.heap[b]? = w1.heap[b]? := fun b hb hl =>
    ⟨⟨hb.1, fun e => hne b hl hb.2 (by simpa [Value.ownBlock] using e)⟩, hgo b hl hb.2⟩
  exact ⟨how, by rw [List.length_append, hg.len]; rfl, KidL.snoc (hg.kids.moveT hm) (by rw [hg.own.1, hg.len]) (RdF.moveX hm _ _ hr)⟩
/-- one term is appended -/
theorem RowT.push {X : Nat → Prop} {w1 : World} {base : Nat} {v : Value} {n m : Nat} {cs : List Value} {ys : List T} {t : T} {k h : Int} {A : Option Addr} {c : Nat} (hg : RowT X w1 base v n cs ys) (hr : RdF (fun b => ¬ X b ∧ some b ≠ v.ownBlock) w1 t (.agg #[.int .i64 k, .int .i64 h, .slice A m c]))
    (hbase : base ≤ w1.heap.size) (hn : n + 1 ≤ 3518437208780) :
    ∃ g cap w4, (Builtin.append_ #[22, 22] 22 #[v, .slice (some ⟨w1.heap.size, 0, none⟩) 1 1]).run Tryz.prog (w1.alloc (.cells #[.int .i64 k, .int .i64 h, .slice A m c] 24)) = .ok (.slice (some ⟨g, 0, none⟩) (n + 1) cap) w4 ∧
      RowT X w4 base (.slice (some ⟨g, 0, none⟩) (n + 1) cap) (n + 1) (cs ++ [.int .i64 k, .int .i64 h, .slice A m c]) (ys ++ [t]) ∧ (∀ q, q < w1.heap.size → some q ≠ v.ownBlock → w4.heap[q]? = w1.heap[q]?) ∧ Below base w1 w4 := by
  obtain ⟨i0, hi, hz0, hz1, hz2⟩ := info_parts infoTerm
  have hbA : Below w1.heap.size w1 (w1.alloc (.cells #[.int .i64 k, .int .i64 h, .slice A m c] 24)) := (Below.refl _ _).alloc (Nat.le_refl _) _
  obtain ⟨g, cap, w4, hrun, how4, hgr, hg4, _⟩ := run_append_lies (P := Tryz.prog) (w1.alloc (.cells #[.int .i64 k, .int .i64 h, .slice A m c] 24)) 22 22 base 24 i0 _ 3 40 Tryz.underlying22 hi hz0 hz1 hz2 rfl (by omega) v n cs
    (hg.own.kept (grown_of_below hbA) (own_none _)) ⟨w1.heap.size, 0, none⟩ 1 1 [.int .i64 k, .int .i64 h, .slice A m c] rfl (World.news_of_block (heap_alloc_new w1 _)) (by intro u hu; simp at hu; rcases hu with rfl | rfl | rfl <;> rfl) (by omega) (by unfold maxLen; omega) (by omega) (by simp; omega) _ rfl
  exact ⟨g, cap, w4, hrun, hg.grow hr how4 hgr (by rcases hg4 with h | h; exact .inl h; exact .inr (by simpa using h)), fun q hq hne => (hgr.block q (by simp; omega) hne).trans (Below.heap_alloc _ _ _ hq),
    below_grown (hbA.mono hbase) hgr (fun r hr => (hg.lt hr).1) (by simp; omega)⟩

/-- the operation 'append', where its run is known by an equation -/
theorem wpList_append_run7 {P : Program} (w : World) {ops : Array Oper} {rest : List Oper} {o : Oper} {a : Act} {Q : Exit → Act → World → Prop} (hgd : o.guard = none) (d s : Operand) (t t' : TypeId)
    (ho : o.op = .call { callee := .builtin .append, args := #[d, s], argTypes := #[t, t'] }) (v u : Value) (hd : a.eval d = v) (hs : a.eval s = u) {v' : Value} {w' : World}
    (hr : (Builtin.append_ #[t, t'] o.type #[v, u]).run P w = .ok v' w') (h : wpList P ops Q rest (a.put o.dst v') w') : wpList P ops Q (o :: rest) a w :=
  wpList_plain hgd fun K hK => by
    unfold Oper.wp execOp
    simp only [ho, resolve, invoke, builtin, Sem.run_bind, Sem.run_pure, Result.andThen_ok, List.map_toArray, List.map_cons, List.map_nil, hd, hs, hr]
    exact hK _ _ h
theorem thF_take {bs : List BT} {j : Nat} {x : BT} (h : bs[j]? = some x) : (thF bs).take (j + 1) = (thF bs).take j ++ [(ownB x).2] := by
  rw [List.take_add_one, thF, List.getElem?_map, h]; rfl
set_option maxRecDepth 100000 in
set_option maxHeartbeats 4000000 in
theorem toldC (ok : Nat → Prop) (bs : List BT) (A : Option Addr) (n c : Nat) (w : World) (hx : BL ok w bs A n c) (hN : n ≤ 200) :
    Calls Tryz.prog 18 #[.slice A n c] w fun e w' => (∃ A' c', e = .returned (.slice A' n c') ∧ n ≤ c' ∧ c' ≤ maxLen ∧ ∀ i t, (thF bs)[i]? = some t → RdAt w' A' i t) ∧ Below w.heap.size w w' := by
  have hm := hx.cap
  have hc := hx.le
  unfold maxLen at hm
  have HX := Lib.hid hx.heap; clear hx
  go_enter Tryz.func18, Tryz.ntmps18
  go_wp2_with fail
  go_loopw [3, 4] (fun v i wr => ∃ (j : Nat) (cs : List Value), j ≤ n ∧ i = .int .i64 j ∧ Hid (RowT (fun _ => False) wr w.heap.size v j cs ((thF bs).take j)) ∧ Hid (Below w.heap.size w wr)) (fun _ i _ => n - (Go.RowKit.intOf i).toNat)
  case atStart => exact ⟨0, [], Nat.zero_le _, rfl, Lib.hid (by rw [List.take_zero]; exact RowT.nil _ _ _), Lib.hid (Below.refl _ _)⟩
  case round =>
    rename_i v i
    obtain ⟨j, cs, hj, rfl, HR, HB⟩ := hrel
    by_cases hlt : j < n
    · obtain ⟨x, hx⟩ := at_of HX.out.len hlt
      obtain ⟨b1, o1, k1, h1, A1, n1, c1, rfl, c0, c1', c2, c3, hr1⟩ := HX.out.at_ j x hx
      have c0 := (HB.out.cell (cell_lt c0)).trans c0
      have c1' := (HB.out.cell (cell_lt c1')).trans c1'
      have c2 := (HB.out.cell (cell_lt c2)).trans c2
      have c3 := (HB.out.cell (cell_lt c3)).trans c3
      have HT := Lib.hid (thF_take hx); clear hx
      have hi0 : (0 : Int) ≤ j := by omega
      have hi1 : (j : Int) < n := by omega
      have hws := HB.out.size
      obtain ⟨x1, x2⟩ := x
      dsimp only at c0 hr1
      cases x1
      · obtain ⟨g, cap, w4, hrun, hrow, _, hbb⟩ := HR.out.push (t := .node 0 0 []) (k := 0) (h := 0) (A := none) (m := 0) (c := 0) rd_nought hws (by omega)
        have HROW := Lib.hid hrow; clear hrow
        have HBB := Lib.hid hbb; clear hbb
        have HRUN := Lib.hid hrun; clear hrun
        go_wp2_with (at_builtin; refine wpList_append_run7 _ rfl _ _ _ _ rfl _ _ rfl rfl HRUN.out ?_)
        go_roundw
        case rel => exact ⟨j + 1, _, by omega, by go_num, Lib.hid (by rw [HT.out]; exact HROW.out), Lib.hid (HB.out.trans HBB.out)⟩
        case measure => simp [Go.RowKit.intOf]; omega
      · obtain ⟨g, cap, w4, hrun, hrow, _, hbb⟩ := HR.out.push (t := x2) (k := k1) (h := h1) (A := A1) (m := n1) (c := c1) (RdF.moveX (fun b hb' hl => ⟨⟨id, fun e => by have := (HR.out.lt e.symm).1; omega⟩, HB.out.block b hl⟩) _ _ hr1) hws (by omega)
        have HROW := Lib.hid hrow; clear hrow
        have HBB := Lib.hid hbb; clear hbb
        have HRUN := Lib.hid hrun; clear hrun
        clear hr1
        go_wp2_with (at_builtin; refine wpList_append_run7 _ rfl _ _ _ _ rfl _ _ rfl rfl HRUN.out ?_)
        go_roundw
        case rel => exact ⟨j + 1, _, by omega, by go_num, Lib.hid (by rw [HT.out]; exact HROW.out), Lib.hid (HB.out.trans HBB.out)⟩
        case measure => simp [Go.RowKit.intOf]; omega
    · obtain rfl : j = n := by omega
      obtain ⟨A', c', rfl, h1, h2⟩ := HR.out.full
      have hrow := HR.out
      rw [List.take_of_length_le (by rw [thF_len]; have := HX.out.len; omega)] at hrow
      have hrxl := hrow.rxl fun b hb => hb.elim
      have HRX := Lib.hid hrxl; clear hrxl hrow
      go_wp2_with fail
      go_ret
      exact ⟨⟨_, _, rfl, h1, h2, fun i t ht => rdFAt_rd (HRX.out.at_ i t ht)⟩, HB.out⟩
end Go.Proofs.YtkakfckjmmmjgaaGreat

/-
  The walk of the law MatchFills.
-/
namespace Go.Proofs.YtkakfckjmmmjgaaGreat
open Go.ChangeShapes Go.WideShapes Go.ChangeAt Go.RowKit
set_option linter.unusedVariables false

set_option maxRecDepth 100000 in
set_option maxHeartbeats 8000000 in
theorem matchFillsC (p t : T) (n M : Int) (vp vt : Value) (w : World) (hvp : Rd w p vp) (hvt : Rd w t vt) :
    Calls Tryz.prog 4 #[vp, vt, .int .i64 n, .int .i64 M] w fun e w' => e = .returned (.bool true) ∧ Below w.heap.size w w' := by
  obtain ⟨kp, hp, Ap, np, cp, rfl⟩ := hvp.full
  have HVp := Lib.hid hvp; clear hvp
  obtain ⟨kt, ht, At, nt, ct, rfl⟩ := hvt.full
  have HVt := Lib.hid hvt; clear hvt
  obtain ⟨W0, hW0⟩ : ∃ W0, ((w.alloc (.cells #[.int .i64 kp, .int .i64 hp, .slice Ap np cp] 24)).alloc (.cells #[.int .i64 kt, .int .i64 ht, .slice At nt ct] 24)) = W0 := ⟨_, rfl⟩
  have hb : Below w.heap.size w W0 := by rw [← hW0]; exact (((Below.refl _ _).alloc (Nat.le_refl _) _).alloc (by simp) _)
  have bxp : Box W0 (w.heap.size) 24 #[.int .i64 kp, .int .i64 hp, .slice Ap np cp] := by rw [← hW0]; exact ((Box.new w _ _).alloc _)
  have bxt : Box W0 (w.heap.size + 1) 24 #[.int .i64 kt, .int .i64 ht, .slice At nt ct] := by rw [← hW0]; exact ((Box.new (w.alloc _) _ _).at (by simp))
  replace HVp := Lib.hid (Rd.keep hb _ _ HVp.out)
  replace HVt := Lib.hid (Rd.keep hb _ _ HVt.out)
  have HW0 := Lib.hid hW0; clear hW0
  go_enter Tryz.func4, Tryz.ntmps4
  go_wp2_with fail
  rw [HW0.out]
  clear HW0
  refine (awakeH _).mono ?_
  rintro e w1 ⟨rfl, hb1⟩
  replace bxp := bxp.keep hb1 bxp.lt
  replace bxt := bxt.keep hb1 bxt.lt
  replace HVp := Lib.hid (Rd.keep hb1 _ _ HVp.out)
  replace HVt := Lib.hid (Rd.keep hb1 _ _ HVt.out)
  replace hb := hb.trans (hb1.mono hb.size)
  clear hb1
  obtain ⟨bxp0, bxp1, bxp2⟩ := bxp.three
  have bxpl := bxp.lt
  obtain ⟨bxt0, bxt1, bxt2⟩ := bxt.three
  have bxtl := bxt.lt
  go_wp2_with fail
  refine (refLight p 1000 60 _ _ HVp.out).mono ?_
  have HLp : Hid (ltB p 1000 60 = true → ltB p 1000 60 = true) := Lib.hid fun e => e
  generalize hqp : ltB p 1000 60 = Rp at *
  rintro e w2p ⟨rfl, hb1⟩
  have HQp := Lib.hid hqp; clear hqp HLp
  clear bxp0 bxp1 bxp2 bxpl bxt0 bxt1 bxt2 bxtl
  replace bxp := bxp.keep hb1 bxp.lt
  replace bxt := bxt.keep hb1 bxt.lt
  replace HVp := Lib.hid (Rd.keep hb1 _ _ HVp.out)
  replace HVt := Lib.hid (Rd.keep hb1 _ _ HVt.out)
  replace hb := hb.trans (hb1.mono hb.size)
  clear hb1
  obtain ⟨bxp0, bxp1, bxp2⟩ := bxp.three
  have bxpl := bxp.lt
  obtain ⟨bxt0, bxt1, bxt2⟩ := bxt.three
  have bxtl := bxt.lt
  go_wp2_with fail
  refine (refLight t 1000 60 _ _ HVt.out).mono ?_
  have HLt : Hid (ltB t 1000 60 = true → ltB t 1000 60 = true) := Lib.hid fun e => e
  generalize hqt : ltB t 1000 60 = Rt at *
  rintro e w2t ⟨rfl, hb1⟩
  have HQt := Lib.hid hqt; clear hqt HLt
  clear bxp0 bxp1 bxp2 bxpl bxt0 bxt1 bxt2 bxtl
  replace bxp := bxp.keep hb1 bxp.lt
  replace bxt := bxt.keep hb1 bxt.lt
  replace HVp := Lib.hid (Rd.keep hb1 _ _ HVp.out)
  replace HVt := Lib.hid (Rd.keep hb1 _ _ HVt.out)
  replace hb := hb.trans (hb1.mono hb.size)
  clear hb1
  obtain ⟨bxp0, bxp1, bxp2⟩ := bxp.three
  have bxpl := bxp.lt
  obtain ⟨bxt0, bxt1, bxt2⟩ := bxt.three
  have bxtl := bxt.lt
  cases Rp
  · go_wp2_with fail
    go_ret
    exact ⟨rfl, hb⟩
  cases Rt
  · go_wp2_with fail
    go_ret
    exact ⟨rfl, hb⟩
  by_cases x3 : M < 0
  · have dx3 : decide (M < 0) = true := by simpa using x3
    go_wp2_with fail
    go_ret
    exact ⟨rfl, hb⟩
  have dx3 : decide (M < 0) = false := by simpa using x3
  by_cases x4 : 60 < M
  · have dx4 : decide (60 < M) = true := by simpa using x4
    go_wp2_with fail
    go_ret
    exact ⟨rfl, hb⟩
  have dx4 : decide (60 < M) = false := by simpa using x4
  by_cases x1 : n < 0
  · have dx1 : decide (n < 0) = true := by simpa using x1
    go_wp2_with fail
    go_ret
    exact ⟨rfl, hb⟩
  have dx1 : decide (n < 0) = false := by simpa using x1
  by_cases x2 : 100 < n
  · have dx2 : decide (100 < n) = true := by simpa using x2
    go_wp2_with fail
    go_ret
    exact ⟨rfl, hb⟩
  have dx2 : decide (100 < n) = false := by simpa using x2
  go_wp2_with fail
  refine (myC p _ _ HVp.out).mono ?_
  generalize hqp : myB p = Mp at *
  rintro e w3p ⟨rfl, hb1⟩
  have HMp := Lib.hid hqp; clear hqp
  clear bxp0 bxp1 bxp2 bxpl bxt0 bxt1 bxt2 bxtl
  replace bxp := bxp.keep hb1 bxp.lt
  replace bxt := bxt.keep hb1 bxt.lt
  replace HVp := Lib.hid (Rd.keep hb1 _ _ HVp.out)
  replace HVt := Lib.hid (Rd.keep hb1 _ _ HVt.out)
  replace hb := hb.trans (hb1.mono hb.size)
  clear hb1
  obtain ⟨bxp0, bxp1, bxp2⟩ := bxp.three
  have bxpl := bxp.lt
  obtain ⟨bxt0, bxt1, bxt2⟩ := bxt.three
  have bxtl := bxt.lt
  cases Mp
  · go_wp2_with fail
    go_ret
    exact ⟨rfl, hb⟩
  have KNp : Hid (Kn 1000 60 p) := Lib.hid (kn_of HQp.out HMp.out); clear HQp HMp
  go_wp2_with fail
  refine (myC t _ _ HVt.out).mono ?_
  generalize hqt : myB t = Mt at *
  rintro e w3t ⟨rfl, hb1⟩
  have HMt := Lib.hid hqt; clear hqt
  clear bxp0 bxp1 bxp2 bxpl bxt0 bxt1 bxt2 bxtl
  replace bxp := bxp.keep hb1 bxp.lt
  replace bxt := bxt.keep hb1 bxt.lt
  replace HVp := Lib.hid (Rd.keep hb1 _ _ HVp.out)
  replace HVt := Lib.hid (Rd.keep hb1 _ _ HVt.out)
  replace hb := hb.trans (hb1.mono hb.size)
  clear hb1
  obtain ⟨bxp0, bxp1, bxp2⟩ := bxp.three
  have bxpl := bxp.lt
  obtain ⟨bxt0, bxt1, bxt2⟩ := bxt.three
  have bxtl := bxt.lt
  cases Mt
  · go_wp2_with fail
    go_ret
    exact ⟨rfl, hb⟩
  have KNt : Hid (Kn 1000 60 t) := Lib.hid (kn_of HQt.out HMt.out); clear HQt HMt
  go_wp2_with fail
  have hndt : nd t ≤ 1048576 := by have := KNt.out.n4; omega
  refine (oMetasC t _ _ HVt.out hndt).mono ?_
  rintro e w4 ⟨ut, rfl, hns, hb1⟩
  rw [mtO_eq] at hns
  obtain ⟨Am, cm, rfl, _⟩ := hns
  obtain ⟨Lm, hLm⟩ : ∃ L, (mtO t).length = L := ⟨_, rfl⟩
  rw [hLm]
  clear bxp0 bxp1 bxp2 bxpl bxt0 bxt1 bxt2 bxtl
  replace bxp := bxp.keep hb1 bxp.lt
  replace bxt := bxt.keep hb1 bxt.lt
  replace HVp := Lib.hid (Rd.keep hb1 _ _ HVp.out)
  replace HVt := Lib.hid (Rd.keep hb1 _ _ HVt.out)
  replace hb := hb.trans (hb1.mono hb.size)
  clear hb1
  obtain ⟨bxp0, bxp1, bxp2⟩ := bxp.three
  have bxpl := bxp.lt
  obtain ⟨bxt0, bxt1, bxt2⟩ := bxt.three
  have bxtl := bxt.lt
  have HLM := Lib.hid hLm; clear hLm hndt
  by_cases hL0 : 0 < Lm
  · have dL : decide ((0 : Int) < (Lm : Int)) = true := by simp; omega
    have dL2 : decide (0 < Lm) = true := by simpa using hL0
    go_wp2_with fail
    go_ret
    exact ⟨rfl, hb⟩
  have dL : decide ((0 : Int) < (Lm : Int)) = false := by simp; omega
  have dL2 : decide (0 < Lm) = false := by simpa using hL0
  have HMT : Hid (mts t = []) := Lib.hid (mtO_nil.1 (List.length_eq_zero_iff.1 (by rw [HLM.out]; omega)))
  clear hL0
  go_wp2_with fail
  refine (oPatternsC p n _ _ HVp.out (by have := wd_nd p; have := KNp.out.n4; omega)).mono ?_
  generalize hqa : (nds p 0).all (pa1 n) = Ra at *
  rintro e w5 ⟨rfl, hb1⟩
  have HPA := Lib.hid hqa; clear hqa
  clear bxp0 bxp1 bxp2 bxpl bxt0 bxt1 bxt2 bxtl
  replace bxp := bxp.keep hb1 bxp.lt
  replace bxt := bxt.keep hb1 bxt.lt
  replace HVp := Lib.hid (Rd.keep hb1 _ _ HVp.out)
  replace HVt := Lib.hid (Rd.keep hb1 _ _ HVt.out)
  replace hb := hb.trans (hb1.mono hb.size)
  clear hb1
  obtain ⟨bxp0, bxp1, bxp2⟩ := bxp.three
  have bxpl := bxp.lt
  obtain ⟨bxt0, bxt1, bxt2⟩ := bxt.three
  have bxtl := bxt.lt
  cases Ra
  · go_wp2_with fail
    go_ret
    exact ⟨rfl, hb⟩
  obtain ⟨N, rfl⟩ : ∃ N : Nat, M = N := ⟨M.toNat, by omega⟩
  have hN60 : N ≤ 60 := by omega
  have hn0 : 0 ≤ n := by omega
  have hn1 : n ≤ 100 := by omega
  have HTP : Hid (HoT p) := Lib.hid ⟨KNp.out.my, okT_mono (by omega) _ KNp.out.ok⟩
  have HTT : Hid (HoT t) := Lib.hid ⟨KNt.out.my, okT_mono (by omega) _ KNt.out.ok⟩
  have HFF := Lib.hid fun b (h : mtR p t n (List.replicate N noB) (List.replicate N false) [] = .ok b) => fills_facts HTP.out HTT.out ⟨hn0, hn1⟩ hN60 HPA.out h
  have hmkb := fun W => make_binds (N := N) (by omega) W
  have hmkv := fun W => make_bools (N := N) (by omega) W
  have H1 : Hid (∀ W' q1 q2, Hid (Below w5.heap.size w5 W') → Box W' q1 43 (madeCells #[.bool false, .int .i64 0, .int .i64 0, .slice none 0 0] (N * 4)) → Box W' q2 4 (madeCells #[.bool false] N) → Calls Tryz.prog 8 #[.agg #[.int .i64 kp, .int .i64 hp, .slice Ap np cp], .agg #[.int .i64 kt, .int .i64 ht, .slice At nt ct], .int .i64 n, .slice (some ⟨q1, 0, none⟩) N N, .slice (some ⟨q2, 0, none⟩) N N, .slice none 0 0] W' (fun e w' => (∃ A n' c ec, e = .returned (.tuple #[.slice A n' c, .int .i64 ec]) ∧ Hid (match mtR p t n (List.replicate N noB) (List.replicate N false) [] with
      | .error e' => ec = e' ∧ ec ≠ 0 ∧ n' = 0
      | .ok b => ec = 0 ∧ n' = b.length ∧ BL (fun _ => True) w' b A n' c)) ∧ Hid (Below w5.heap.size w5 w'))) := Lib.hid fun W' q1 q2 hb' h1 h2 => by
    have := MatchC p t n (List.replicate N noB) (List.replicate N false) [] _ _ _ N N _ N N none 0 0 W' (Rd.keep hb'.out _ _ HVp.out) (Rd.keep hb'.out _ _ HVt.out) (bl_made (by omega) h1) (lb_made (by omega) h2) (lb_nil _) (fun _ => KNp.out.ok) (fun _ => HTT.out.ok) fun x hx h1 => by rw [List.eq_of_mem_replicate hx] at h1; cases h1
    refine this.mono fun e w' h => ?_
    generalize mtR p t n (List.replicate N noB) (List.replicate N false) [] = R at *
    cases R with
    | error ec =>
      obtain ⟨he, hne, hbe⟩ := h
      exact ⟨⟨_, _, _, _, he, Lib.hid ⟨rfl, hne, rfl⟩⟩, cur_trans hb' hbe⟩
    | ok b =>
      obtain ⟨q, he, hbl, hbe⟩ := h
      exact ⟨⟨_, _, _, _, he, Lib.hid ⟨rfl, rfl, ⟨hbl.len, hbl.le, hbl.cap, fun i x hx => (hbl.at_ i x hx).any⟩⟩⟩, cur_trans hb' hbe⟩
  have HR1 : Hid (mtR p t n (List.replicate N noB) (List.replicate N false) [] = mtR p t n (List.replicate N noB) (List.replicate N false) []) := Lib.hid rfl
  generalize mtR p t n (List.replicate N noB) (List.replicate N false) [] = R at H1 HFF
  clear HR1 HMT HLM
  clear bxp0 bxp1 bxp2 bxpl bxt0 bxt1 bxt2 bxtl
  obtain ⟨bxp0, bxp1, bxp2⟩ := bxp.three
  have bxpl := bxp.lt
  obtain ⟨bxt0, bxt1, bxt2⟩ := bxt.three
  have bxtl := bxt.lt
  go_wp2_with fail
  have HK : Hid (∀ w', Hid (Below w5.heap.size w5 w') → (w'.cell? ⟨w.heap.size, 0, none⟩ = some (.int .i64 kp) ∧ w'.cell? ⟨w.heap.size, 1, none⟩ = some (.int .i64 hp) ∧ w'.cell? ⟨w.heap.size, 2, none⟩ = some (.slice Ap np cp) ∧ w'.cell? ⟨w.heap.size + 1, 0, none⟩ = some (.int .i64 kt) ∧ w'.cell? ⟨w.heap.size + 1, 1, none⟩ = some (.int .i64 ht) ∧ w'.cell? ⟨w.heap.size + 1, 2, none⟩ = some (.slice At nt ct) ∧ Hid (Below w5.heap.size w5 w'))) := Lib.hid fun w' h => by
    have s0 := bxp.keep h.out bxp.lt
    have s1 := bxt.keep h.out bxt.lt
    exact ⟨s0.three.1, s0.three.2.1, s0.three.2.2, s1.three.1, s1.three.2.1, s1.three.2.2, h⟩
  have hcu0 : Hid (Below w5.heap.size w5 w5.drew) := cur_drew
  go_region_held3 (fun w' => w'.cell? ⟨w.heap.size, 0, none⟩ = some (.int .i64 kp) ∧ w'.cell? ⟨w.heap.size, 1, none⟩ = some (.int .i64 hp) ∧ w'.cell? ⟨w.heap.size, 2, none⟩ = some (.slice Ap np cp) ∧ w'.cell? ⟨w.heap.size + 1, 0, none⟩ = some (.int .i64 kt) ∧ w'.cell? ⟨w.heap.size + 1, 1, none⟩ = some (.int .i64 ht) ∧ w'.cell? ⟨w.heap.size + 1, 2, none⟩ = some (.slice At nt ct) ∧ Hid (Below w5.heap.size w5 w'))
    (first | exact HK.out _ (by assumption) | exact HK.out _ (cur_alloc (by assumption) _) | exact HK.out _ (cur_alloc (cur_alloc (by assumption) _) _))
    (first
      | (go_at_call 8
         with_reducible refine Calls.mono (H1.out _ _ _ ?hh ?hx ?hy) ?_
         case hh => first | assumption | exact cur_alloc (by assumption) _ | exact cur_alloc (cur_alloc (by assumption) _) _ | exact Lib.hid (((Below.refl _ _).alloc (Nat.le_refl _) _).drew) | exact Lib.hid ((((Below.refl _ _).alloc (Nat.le_refl _) _).alloc (by simp) _).drew)
         case hx => first | exact (Box.new _ _ _).alloc _ | exact Box.at1 (Box.new _ _ _) | exact Box.drewI ((Box.new _ _ _).alloc _) | exact Box.drewI (Box.at1 (Box.new _ _ _)) | exact Box.at1 (Box.drewI (Box.new _ _ _)) | exact (Box.drewI (Box.new _ _ _)).alloc _
         case hy => first | exact (Box.new _ _ _).alloc _ | exact Box.at1 (Box.new _ _ _) | exact Box.drewI ((Box.new _ _ _).alloc _) | exact Box.drewI (Box.at1 (Box.new _ _ _)) | exact Box.at1 (Box.drewI (Box.new _ _ _)) | exact (Box.drewI (Box.new _ _ _)).alloc _
         rintro e w7 ⟨⟨A1, n1, c1, ec, rfl, hfr⟩, hcu⟩))
  all_goals (
    have hb1 := hcu.out
    clear H1 HK hcu0 hmkb
    clear bxp0 bxp1 bxp2 bxpl bxt0 bxt1 bxt2 bxtl
    replace bxp := bxp.keep hb1 bxp.lt
    replace bxt := bxt.keep hb1 bxt.lt
    replace HVp := Lib.hid (Rd.keep hb1 _ _ HVp.out)
    replace HVt := Lib.hid (Rd.keep hb1 _ _ HVt.out)
    replace hb := hb.trans (hb1.mono hb.size)
    clear hb1
    obtain ⟨bxp0, bxp1, bxp2⟩ := bxp.three
    have bxpl := bxp.lt
    obtain ⟨bxt0, bxt1, bxt2⟩ := bxt.three
    have bxtl := bxt.lt
    cases R with
    | error e' =>
      obtain ⟨rfl, hne, rfl⟩ := hfr.out
      have hne' : (ec != 0) = true := by simpa using hne
      clear hne hfr HFF
      go_wp2_with fail
      go_ret
      exact ⟨rfl, hb⟩
    | ok b =>
      obtain ⟨rfl, hbn, hbl⟩ := hfr.out
      obtain ⟨hbN, hokb, hfacts, hfill, hagain⟩ := HFF.out b rfl
      have hnN : n1 = N := hbn.trans hbN
      subst hnN
      have HL := Lib.hid hbl; clear hbl hfr HFF hbn
      have HOK := Lib.hid hokb; clear hokb
      have HFA := Lib.hid hfacts; clear hfacts
      have HFI := Lib.hid hfill; clear hfill
      have HAG := Lib.hid hagain; clear hagain
      have HBN := Lib.hid hbN; clear hbN
      have HMO := Lib.hid (oMetasC p _ w7 HVp.out (by have := KNp.out.n4; omega))
      rw [mtO_eq] at HMO
      go_wp2_with fail
      refine HMO.out.mono ?_
      clear HMO
      rintro e w8 ⟨u, rfl, hns, hb1⟩
      obtain ⟨Am2, cm2, rfl, hcm1, hcm2, hma⟩ := hns
      obtain ⟨Lp, hLp⟩ : ∃ L, (mtO p).length = L := ⟨_, rfl⟩
      rw [hLp] at hcm1 ⊢
      have HLP := Lib.hid hLp; clear hLp
      have HL := Lib.hid (HL.out.keep hb1)
      have HMA := Lib.hid hma; clear hma
      have hcm3 := hcm2
      unfold maxLen at hcm3
      clear bxp0 bxp1 bxp2 bxpl bxt0 bxt1 bxt2 bxtl
      replace bxp := bxp.keep hb1 bxp.lt
      replace bxt := bxt.keep hb1 bxt.lt
      replace HVp := Lib.hid (Rd.keep hb1 _ _ HVp.out)
      replace HVt := Lib.hid (Rd.keep hb1 _ _ HVt.out)
      replace hb := hb.trans (hb1.mono hb.size)
      clear hb1
      go_wp2_with fail
      go_loopw [15] (fun i wr => ∃ (q : Nat), q ≤ Lp ∧ i = .int .i64 q ∧ Hid (Below w8.heap.size w8 wr)) (fun i _ => Lp - (Go.RowKit.intOf i).toNat)
      case atStart => exact ⟨0, Nat.zero_le _, rfl, Lib.hid (Below.refl _ _)⟩
      case round =>
        obtain ⟨q, hq, rfl, HBR⟩ := hrel
        by_cases hlt : q < Lp
        · obtain ⟨m, hm⟩ := at_of HLP.out hlt
          obtain ⟨bm, om, rfl, cm0⟩ := HMA.out q m hm
          have cm1 := (HBR.out.cell (cell_lt cm0)).trans cm0
          obtain ⟨hm0, x, hx, hx1⟩ := HFA.out m (mem_rs.1 (List.mem_of_getElem? hm))
          obtain ⟨b2, o2, k2, h2, A2, n2, c2, rfl, d0, d1, d2, d3, hr2⟩ := (HL.out.at_ _ x hx).keep HBR.out
          have hmj : m < (n1 : Int) := by have := (List.getElem?_eq_some_iff.1 hx).1; have := HBN.out; omega
          rw [hx1] at d0
          have hge : decide ((n1 : Int) ≤ m) = false := by simp; omega
          have hi0 : (0 : Int) ≤ q := by omega
          have hi1 : (q : Int) < Lp := by omega
          clear hm hx hr2 cm0 d1 d2 d3
          go_wp2_with fail
          go_roundw
          case rel => exact ⟨q + 1, by omega, by go_num, HBR⟩
          case measure => simp [Go.RowKit.intOf]; omega
        · obtain rfl : q = Lp := by omega
          have hb1 := HBR.out
          have HL := Lib.hid (HL.out.keep hb1)
          replace bxp := bxp.keep hb1 bxp.lt
          replace bxt := bxt.keep hb1 bxt.lt
          replace HVp := Lib.hid (Rd.keep hb1 _ _ HVp.out)
          replace HVt := Lib.hid (Rd.keep hb1 _ _ HVt.out)
          replace hb := hb.trans (hb1.mono hb.size)
          clear hb1
          clear HMA HFA HLP HBR
          obtain ⟨bxp0, bxp1, bxp2⟩ := bxp.three
          have bxpl := bxp.lt
          obtain ⟨bxt0, bxt1, bxt2⟩ := bxt.three
          have bxtl := bxt.lt
          have HTO : Hid (∀ W', Hid (Below wr.heap.size wr W') → Calls Tryz.prog 18 #[.slice A1 n1 c1] W' (fun e w' => (∃ A' c', e = .returned (.slice A' n1 c') ∧ Hid (n1 ≤ c' ∧ c' ≤ maxLen ∧ ∀ i t, (thF b)[i]? = some t → RdAt w' A' i t) ∧ Below W'.heap.size W' w') ∧ Hid (Below wr.heap.size wr w'))) := Lib.hid fun W' h => (toldC _ b A1 n1 c1 W' (HL.out.keep h.out) (by omega)).mono fun e w' hE => by
            obtain ⟨⟨A', c', he, h1, h2, h3⟩, h4⟩ := hE
            exact ⟨⟨A', c', he, Lib.hid ⟨h1, h2, h3⟩, h4⟩, cur_trans h h4⟩
          go_wp2_with fail
          have HK : Hid (∀ w', Hid (Below wr.heap.size wr w') → (w'.cell? ⟨w.heap.size, 0, none⟩ = some (.int .i64 kp) ∧ w'.cell? ⟨w.heap.size, 1, none⟩ = some (.int .i64 hp) ∧ w'.cell? ⟨w.heap.size, 2, none⟩ = some (.slice Ap np cp) ∧ Hid (Below wr.heap.size wr w'))) := Lib.hid fun w' h => by
            have s0 := bxp.keep h.out bxp.lt
            exact ⟨s0.three.1, s0.three.2.1, s0.three.2.2, h⟩
          have hcu0 : Hid (Below wr.heap.size wr wr.drew) := cur_drew
          go_region_held3 (fun w' => w'.cell? ⟨w.heap.size, 0, none⟩ = some (.int .i64 kp) ∧ w'.cell? ⟨w.heap.size, 1, none⟩ = some (.int .i64 hp) ∧ w'.cell? ⟨w.heap.size, 2, none⟩ = some (.slice Ap np cp) ∧ Hid (Below wr.heap.size wr w'))
            (first | exact HK.out _ (by assumption) | exact HK.out _ (cur_alloc (by assumption) _) | exact HK.out _ (cur_alloc (cur_alloc (by assumption) _) _) | exact HK.out _ (Lib.hid (((Below.refl _ _).alloc (Nat.le_refl _) _).drew)) | exact HK.out _ (Lib.hid ((((Below.refl _ _).alloc (Nat.le_refl _) _).alloc (by simp) _).drew)) | exact HK.out _ (cur_set3 (by assumption) (by omega) _ _ _))
            (first
              | (go_at_call 17
                 with_reducible refine Calls.mono (HAP.out _ ?hh) ?_
                 case hh => first | exact Below.refl _ w9t | exact (Below.refl _ w9t).alloc (Nat.le_refl _) _ | exact ((Below.refl _ w9t).alloc (Nat.le_refl _) _).alloc (by simp) _
                 rintro e w9 ⟨⟨kq, hq, Aq, nq, cq, rfl, hrd, hb9⟩, hcu9⟩
                 first | (have zP := Box.keepC (cs := #[.int .i64 0, .int .i64 0, .slice none 0 0]) (ty := 24) (by first | exact zP | exact zP.alloc _ | exact (zP.alloc _).alloc _ | exact Box.new _ _ _ | exact (Box.new _ _ _).alloc _ | exact Box.drewI (Box.new _ _ _) | exact Box.drewI ((Box.new _ _ _).alloc _)) hb9; (try (with_reducible replace zP := zP.at1)); have lzhb9 := zP.lt) | skip
                 have hs9 := hcu9.out.size
                 have HRq := Lib.hid hrd
                 first | (obtain ⟨z0, z1, z2⟩ := zP.three; have fz0 := zP.frozen 0; have fz1 := zP.frozen 1; have fz2 := zP.frozen 2) | skip
                 clear hrd hb9)
              | (go_at_call 18
                 with_reducible refine Calls.mono (HTO.out _ ?hh) ?_
                 case hh => first | assumption | exact cur_alloc (by assumption) _ | exact cur_alloc (cur_alloc (by assumption) _) _ | exact Lib.hid (((Below.refl _ _).alloc (Nat.le_refl _) _).drew) | exact Lib.hid ((((Below.refl _ _).alloc (Nat.le_refl _) _).alloc (by simp) _).drew)
                 rintro e w9t ⟨⟨A8, c8, rfl, hrd8, hb8⟩, hcu8⟩
                 have hs8 := hcu8.out.size
                 first | (have zP := Box.keepC (cs := #[.int .i64 0, .int .i64 0, .slice none 0 0]) (ty := 24) (by first | exact zP | exact zP.alloc _ | exact (zP.alloc _).alloc _ | exact Box.new _ _ _ | exact (Box.new _ _ _).alloc _ | exact Box.drewI (Box.new _ _ _) | exact Box.drewI ((Box.new _ _ _).alloc _)) hb8; (try (with_reducible replace zP := zP.at1)); have lzhb8 := zP.lt) | skip
                 have HAP : Hid (∀ W', Below w9t.heap.size w9t W' → Calls Tryz.prog 17 #[.agg #[.int .i64 kp, .int .i64 hp, .slice Ap np cp], .slice A8 n1 c8, .int .i64 n] W' (fun e w' => TEnd t 0 W' e w' ∧ Hid (Below wr.heap.size wr w'))) := Lib.hid fun W' h => by
                    have := FillC (th := thF b) (t := p) (n := n) W' ⟨fun y hy hmy => thF_ok HOK.out y hy, (thF_len b).trans HBN.out, hrd8.out.1, hrd8.out.2.1, fun i x hx => RdAt.keep h (hrd8.out.2.2 i x hx)⟩ (Rd.keep (cur_trans hcu8 h).out _ _ HVp.out) (fun _ => okT_mono (by omega) _ KNp.out.ok)
                    rw [HFI.out] at this
                    exact this.mono fun e w' h' => ⟨h', cur_trans (cur_trans hcu8 h) h'.below⟩
                 clear hrd8 hb8))
          all_goals first
            | (obtain ⟨W6, hWf⟩ : ∃ Wf, w9.alloc (.cells #[.int .i64 kq, .int .i64 hq, .slice Aq nq cq] 24) = Wf := ⟨_, rfl⟩
               obtain ⟨pq, hpe⟩ : ∃ p, p = w9.heap.size := ⟨_, rfl⟩
               have xq : Box W6 pq 24 #[.int .i64 kq, .int .i64 hq, .slice Aq nq cq] := by rw [hpe, ← hWf]; exact Box.new _ _ _
               have hbF : Below wr.heap.size wr W6 := by rw [← hWf]; exact (cur_alloc (by assumption) _).out
               have HVq : Hid (Rd W6 (t) (.agg #[.int .i64 kq, .int .i64 hq, .slice Aq nq cq])) := Lib.hid (by rw [← hWf]; exact rd_alloc HRq.out _)
               rw [hWf, ← hpe]
               clear hWf hpe)
            | (obtain ⟨W6, hWf⟩ : ∃ Wf, ((w9.setCell ⟨w9t.heap.size, 0, none⟩ (.int .i64 kq)).setCell ⟨w9t.heap.size, 1, none⟩ (.int .i64 hq)).setCell ⟨w9t.heap.size, 2, none⟩ (.slice Aq nq cq) = Wf := ⟨_, rfl⟩
               obtain ⟨pq, hpe⟩ : ∃ p, p = w9t.heap.size := ⟨_, rfl⟩
               have xq : Box W6 pq 24 #[.int .i64 kq, .int .i64 hq, .slice Aq nq cq] := by rw [hpe, ← hWf]; exact zP.put3 _ _ _
               have hbF : Below wr.heap.size wr W6 := by rw [← hWf]; exact (cur_set3 (by assumption) (by omega) _ _ _).out
               have HVq : Hid (Rd W6 (t) (.agg #[.int .i64 kq, .int .i64 hq, .slice Aq nq cq])) := Lib.hid (by rw [← hWf]; exact rd_set3 HRq.out (by first | omega | (simp; omega) | simp))
               rw [hWf, ← hpe]
               clear hWf hpe)
            | (obtain ⟨W6, hWf⟩ : ∃ Wf, ((w9.setCell ⟨w9t.heap.size + 1, 0, none⟩ (.int .i64 kq)).setCell ⟨w9t.heap.size + 1, 1, none⟩ (.int .i64 hq)).setCell ⟨w9t.heap.size + 1, 2, none⟩ (.slice Aq nq cq) = Wf := ⟨_, rfl⟩
               obtain ⟨pq, hpe⟩ : ∃ p, p = w9t.heap.size + 1 := ⟨_, rfl⟩
               have xq : Box W6 pq 24 #[.int .i64 kq, .int .i64 hq, .slice Aq nq cq] := by rw [hpe, ← hWf]; exact zP.put3 _ _ _
               have hbF : Below wr.heap.size wr W6 := by rw [← hWf]; exact (cur_set3 (by assumption) (by omega) _ _ _).out
               have HVq : Hid (Rd W6 (t) (.agg #[.int .i64 kq, .int .i64 hq, .slice Aq nq cq])) := Lib.hid (by rw [← hWf]; exact rd_set3 HRq.out (by first | omega | (simp; omega) | simp))
               rw [hWf, ← hpe]
               clear hWf hpe)
            | (obtain ⟨W6, hWf⟩ : ∃ Wf, ((w9.setCell ⟨wr.heap.size, 0, none⟩ (.int .i64 kq)).setCell ⟨wr.heap.size, 1, none⟩ (.int .i64 hq)).setCell ⟨wr.heap.size, 2, none⟩ (.slice Aq nq cq) = Wf := ⟨_, rfl⟩
               obtain ⟨pq, hpe⟩ : ∃ p, p = wr.heap.size := ⟨_, rfl⟩
               have xq : Box W6 pq 24 #[.int .i64 kq, .int .i64 hq, .slice Aq nq cq] := by rw [hpe, ← hWf]; exact zP.put3 _ _ _
               have hbF : Below wr.heap.size wr W6 := by rw [← hWf]; exact (cur_set3 (by assumption) (by omega) _ _ _).out
               have HVq : Hid (Rd W6 (t) (.agg #[.int .i64 kq, .int .i64 hq, .slice Aq nq cq])) := Lib.hid (by rw [← hWf]; exact rd_set3 HRq.out (by first | omega | (simp; omega) | simp))
               rw [hWf, ← hpe]
               clear hWf hpe)
            | (obtain ⟨W6, hWf⟩ : ∃ Wf, ((w9.setCell ⟨wr.heap.size + 1, 0, none⟩ (.int .i64 kq)).setCell ⟨wr.heap.size + 1, 1, none⟩ (.int .i64 hq)).setCell ⟨wr.heap.size + 1, 2, none⟩ (.slice Aq nq cq) = Wf := ⟨_, rfl⟩
               obtain ⟨pq, hpe⟩ : ∃ p, p = wr.heap.size + 1 := ⟨_, rfl⟩
               have xq : Box W6 pq 24 #[.int .i64 kq, .int .i64 hq, .slice Aq nq cq] := by rw [hpe, ← hWf]; exact zP.put3 _ _ _
               have hbF : Below wr.heap.size wr W6 := by rw [← hWf]; exact (cur_set3 (by assumption) (by omega) _ _ _).out
               have HVq : Hid (Rd W6 (t) (.agg #[.int .i64 kq, .int .i64 hq, .slice Aq nq cq])) := Lib.hid (by rw [← hWf]; exact rd_set3 HRq.out (by first | omega | (simp; omega) | simp))
               rw [hWf, ← hpe]
               clear hWf hpe)
          all_goals have HL := Lib.hid (HL.out.keep hbF)
          all_goals
            replace bxp := bxp.keep hbF bxp.lt
            replace bxt := bxt.keep hbF bxt.lt
            replace HVp := Lib.hid (Rd.keep hbF _ _ HVp.out)
            replace HVt := Lib.hid (Rd.keep hbF _ _ HVt.out)
            replace hb := hb.trans (hbF.mono hb.size)
            clear hbF
            try clear zP
          all_goals (
            have H2 : Hid (∀ W' q2, Hid (Below W6.heap.size W6 W') → Box W' q2 4 (madeCells #[.bool false] n1) → Calls Tryz.prog 8 #[.agg #[.int .i64 kp, .int .i64 hp, .slice Ap np cp], .agg #[.int .i64 kt, .int .i64 ht, .slice At nt ct], .int .i64 n, .slice A1 n1 c1, .slice (some ⟨q2, 0, none⟩) n1 n1, .slice none 0 0] W' (fun e w' => (∃ A c, e = .returned (.tuple #[.slice A n1 c, .int .i64 0]) ∧ Hid (BL (fun _ => True) w' b A n1 c)) ∧ Hid (Below W6.heap.size W6 w'))) := Lib.hid fun W' q2 hb' h2 => by
              have := MatchC p t n b (List.replicate n1 false) [] _ _ A1 n1 c1 _ n1 n1 none 0 0 W' (Rd.keep hb'.out _ _ HVp.out) (Rd.keep hb'.out _ _ HVt.out) (HL.out.keep hb'.out) (lb_made (by omega) h2) (lb_nil _) (fun _ => KNp.out.ok) (fun _ => HTT.out.ok) fun x hx h1 _ => (HOK.out x hx h1).1
              rw [HAG.out] at this
              refine this.mono fun e w' h => ?_
              obtain ⟨q, he, hbl, hbe⟩ := h
              rw [HBN.out] at he hbl
              exact ⟨⟨_, _, he, Lib.hid ⟨hbl.len, hbl.le, hbl.cap, fun i x hx => (hbl.at_ i x hx).any⟩⟩, cur_trans hb' hbe⟩
            obtain ⟨bxp0, bxp1, bxp2⟩ := bxp.three
            obtain ⟨bxt0, bxt1, bxt2⟩ := bxt.three
            have bxpl := bxp.lt
            have bxtl := bxt.lt
            have xql := xq.lt
            try clear HAP
            try clear HRq
            clear HTO HK hcu0
            go_wp2_with fail
            have HK : Hid (∀ w', Hid (Below W6.heap.size W6 w') → (w'.cell? ⟨w.heap.size, 0, none⟩ = some (.int .i64 kp) ∧ w'.cell? ⟨w.heap.size, 1, none⟩ = some (.int .i64 hp) ∧ w'.cell? ⟨w.heap.size, 2, none⟩ = some (.slice Ap np cp) ∧ w'.cell? ⟨w.heap.size + 1, 0, none⟩ = some (.int .i64 kt) ∧ w'.cell? ⟨w.heap.size + 1, 1, none⟩ = some (.int .i64 ht) ∧ w'.cell? ⟨w.heap.size + 1, 2, none⟩ = some (.slice At nt ct) ∧ Hid (Below W6.heap.size W6 w'))) := Lib.hid fun w' h => by
              have s0 := bxp.keep h.out bxp.lt
              have s1 := bxt.keep h.out bxt.lt
              exact ⟨s0.three.1, s0.three.2.1, s0.three.2.2, s1.three.1, s1.three.2.1, s1.three.2.2, h⟩
            have hcu0 : Hid (Below W6.heap.size W6 W6.drew) := cur_drew
            go_region_held3 (fun w' => w'.cell? ⟨w.heap.size, 0, none⟩ = some (.int .i64 kp) ∧ w'.cell? ⟨w.heap.size, 1, none⟩ = some (.int .i64 hp) ∧ w'.cell? ⟨w.heap.size, 2, none⟩ = some (.slice Ap np cp) ∧ w'.cell? ⟨w.heap.size + 1, 0, none⟩ = some (.int .i64 kt) ∧ w'.cell? ⟨w.heap.size + 1, 1, none⟩ = some (.int .i64 ht) ∧ w'.cell? ⟨w.heap.size + 1, 2, none⟩ = some (.slice At nt ct) ∧ Hid (Below W6.heap.size W6 w'))
              (first | exact HK.out _ (by assumption) | exact HK.out _ (cur_alloc (by assumption) _) | exact HK.out _ (cur_alloc (cur_alloc (by assumption) _) _))
              (first
                | (go_at_call 8
                   with_reducible refine Calls.mono (H2.out _ _ ?hh ?hx) ?_
                   case hh => first | assumption | exact cur_alloc (by assumption) _ | exact cur_alloc (cur_alloc (by assumption) _) _ | exact Lib.hid (((Below.refl _ _).alloc (Nat.le_refl _) _).drew) | exact Lib.hid ((((Below.refl _ _).alloc (Nat.le_refl _) _).alloc (by simp) _).drew)
                   case hx => first | exact Box.drewI (Box.new _ _ _) | exact Box.new _ _ _ | exact Box.drewI (Box.at1 (Box.new _ _ _)) | exact Box.at1 (Box.new _ _ _)
                   rintro e w10 ⟨⟨A3, c3, rfl, hbl3⟩, hcu3⟩))
            all_goals (
              have hb3 := hcu3.out
              replace bxp := bxp.keep hb3 bxpl
              replace bxt := bxt.keep hb3 bxtl
              replace xq := xq.keep hb3 xql
              replace HVt := Lib.hid (Rd.keep hb3 _ _ HVt.out)
              replace HVq := Lib.hid (Rd.keep hb3 _ _ HVq.out)
              have HL := Lib.hid (HL.out.keep hb3)
              replace hb := hb.trans (hb3.mono hb.size)
              have hC := refSbC _ _ b b A3 n1 c3 A1 n1 c1 w10 hbl3.out HL.out
              rw [same_refl] at hC
              have HC := Lib.hid hC
              clear hC hb3 H2 HK hcu0 bxp0 bxp1 bxp2 bxt0 bxt1 bxt2
              go_wp2_with fail
              refine HC.out.mono ?_
              clear HC
              rintro e w11 ⟨rfl, hb1⟩
              replace bxt := bxt.keep hb1 bxt.lt
              replace xq := xq.keep hb1 xq.lt
              have HSM := Lib.hid (termSame t t _ _ w11 (Rd.keep hb1 _ _ HVq.out) (Rd.keep hb1 _ _ HVt.out))
              rw [sam_refl] at HSM
              replace hb := hb.trans (hb1.mono hb.size)
              clear hb1
              obtain ⟨bxt0, bxt1, bxt2⟩ := bxt.three
              obtain ⟨q0, q1, q2⟩ := xq.three
              go_wp2_with fail
              refine HSM.out.mono ?_
              rintro e w12 ⟨rfl, hb1⟩
              replace hb := hb.trans (hb1.mono hb.size)
              clear hb1
              go_wp2_with fail
              go_ret
              exact ⟨rfl, hb⟩)))
end Go.Proofs.YtkakfckjmmmjgaaGreat
