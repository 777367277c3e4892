/-
  Contracts of package term's functions that go through a term by the function to range over: Size, Depth, May, Scoped.
-/
import Derived.Test.YtdbdeppchlkacaaVi
namespace Go.Proofs.Ytdbdeppchlkacaa
open Go.ChangeShapes Go.WideShapes Go.ChangeAt Go.RowKit Go.Shelf
set_option linter.unusedVariables false

attribute [local go_sem] Oper.semAt_some

theorem KB.putObj {n₀ n₁ : Nat} (W : World) (l : Nat) (o o' : Obj) (h : W.heap[l]? = some o) (hc : o.isCells = false) : KB n₀ n₁ W (W.putObj l o') := by
  refine ⟨by simp [World.putObj], fun k o2 _ hk hk2 => ?_⟩
  have hne : l ≠ k := by
    rintro rfl
    rw [h] at hk
    cases hk
    rw [hc] at hk2
    cases hk2
  simp only [World.putObj]
  rw [Array.getElem?_setIfInBounds_ne hne]
  exact hk

theorem Box.kept {W W' : World} {row : Option Nat} {B b : Nat} {ty : TypeId} {cs : Array Value} (h : Box W b ty cs) (hg : W.grownBy W' row) (hr : ∀ r, row = some r → B ≤ r ∧ ∃ o : Obj, W.heap[r]? = some o ∧ o.isCells = false) : Box W' b ty cs :=
  (hg.block b h.lt fun e => by
    obtain ⟨_, o, ho, hc⟩ := hr b e.symm
    rw [h] at ho
    cases ho
    cases hc).trans h
theorem grown_of_below {W W' : World} (h : Below W.heap.size W W') : W.grownBy W' none :=
  ⟨h.os, h.tape, h.output, h.size, fun k hk _ => h.block k hk⟩
theorem keepsFrom_of_below {B : Nat} {W W' : World} (h : Below W.heap.size W W') : KeepsFrom B W W' :=
  ⟨h.size, fun k _ _ hk _ => (h.block k (Array.getElem?_eq_some_iff.1 hk).1).trans hk⟩

set_option maxHeartbeats 400000 in
theorem nodesC (k h : Int) (s : Value) (hs : ∃ A n c, s = .slice A n c) (w : World) :
    Calls Try.prog 21 #[.agg #[.int .i64 k, .int .i64 h, s]] w fun e w' => e = .returned (.func (.func 32) #[] #[.pointer (some ⟨w.heap.size, 0, none⟩)]) ∧ w' = w.alloc (.cells #[.int .i64 k, .int .i64 h, s] 31) := by
  obtain ⟨A, n, c, rfl⟩ := hs
  go_enter Try.func21, Try.ntmps21
  go_wp2_with fail
  go_ret
  exact ⟨rfl, rfl⟩

set_option maxHeartbeats 1000000 in
/-- what nodes hands back gives all nodes of the term, in order -/
theorem nodesStops (m : Nat) (w0 w : World) (t : T) (k h : Int) (s : Value) (n₁ Bt : Nat) (hv : Rd w0 t (.agg #[.int .i64 k, .int .i64 h, s])) (hb : Below w0.heap.size w0 w) (h01 : w0.heap.size ≤ n₁) (hn : n₁ ≤ w.heap.size)
    (hB : Box w Bt 31 #[.int .i64 k, .int .i64 h, s]) :
    SeqStopsK Fence.wide m Try.prog 32 #[.pointer (some ⟨Bt, 0, none⟩)] encN (KB w0.heap.size n₁) (fun ys => ys.map Nd.key = flat t 1 0) (fun q => q.map Nd.key <+: flat t 1 0) (flat t 1 0).length w := by
  intro l J Jx W hW hJ hJx hY h0
  refine callsIn_wide.2 ?_
  obtain ⟨b0, b1, b2⟩ := (hB.keep hW hB.lt).three
  have hV := visitC w0 n₁ l (flat t 1 0).length h01 J Jx (fun s W W' hs hb => hJ s W W' none hs (grown_of_below hb) (fun r e => by cases e)) (fun m' pre x W1 hj hl => yieldAny m' (hY pre x W1 hj hl)) t 1 0 _ [] W hv
    (CK.of_below (hb.trans (hW.mono hb.size))) (Nat.le_trans hn hW.size) (by unfold wrap64; omega) h0 (by simp)
  have HV := Lib.hid hV; clear hV
  clear hY h0 hJ hJx hv
  go_enter Try.func32, Try.ntmps32
  go_wp2_with fail
  refine HV.out.mono ?_
  rintro e w1 (⟨ys, rfl, h1, h2, h3⟩ | ⟨rfl, q, h1, h2⟩)
  · go_wp2_with fail
    go_end0
    exact ⟨⟨_, rfl⟩, .inl ⟨ys, h1, by simpa using h2⟩⟩
  · go_wp2_with fail
    go_end0
    exact ⟨⟨_, rfl⟩, .inr ⟨q, h1, by simpa using h2⟩⟩

theorem below_kept {n B : Nat} {w A A' : World} {row : Option Nat} (h : Below n w A) (hg : A.grownBy A' row) (hr : ∀ r, row = some r → B ≤ r ∧ ∃ o : Obj, A.heap[r]? = some o ∧ o.isCells = false) (hn : n ≤ B) (hA : n ≤ A.heap.size) : Below n w A' :=
  h.grown hg hA fun k e => Nat.le_trans hn (hr k e).1
theorem below_putObj {n D : Nat} {w A : World} (h : Below n w A) (hn : n ≤ D) (o : Obj) : Below n w (A.putObj D o) :=
  h.trans ⟨rfl, rfl, rfl, by simp [World.putObj], fun k hk => by simp only [World.putObj]; rw [Array.getElem?_setIfInBounds_ne (by omega)]⟩
theorem len_of_keys {ys : List Nd} {ks : List Key} (h : ys.map Nd.key = ks) : ys.length = ks.length := by rw [← h, List.length_map]
theorem KB.setCell {n₀ n₁ : Nat} (W : World) (a : Addr) (v : Value) (h : n₀ ≤ a.block ∧ a.block < n₁) : KB n₀ n₁ W (W.setCell a v) :=
  ⟨by simp [World.setCell], fun k o hk ho _ => (Below.heap_setCell W a v k (by omega)).trans ho⟩
theorem Box.set {w : World} {b : Nat} {ty : TypeId} {v : Value} (u : Value) (h : Box w b ty #[v]) : Box (w.setCell ⟨b, 0, none⟩ u) b ty #[u] := by
  unfold Box at h ⊢
  simp [World.setCell, Array.getElem?_modify, h]

/-- how many have come -/
def cntW : Nat → Int
  | 0 => 0
  | n + 1 => wrap64 (cntW n + 1)

set_option maxRecDepth 100000 in
set_option maxHeartbeats 2000000 in
theorem termSize (t : T) (v : Value) (w : World) (hv : Rd w t v) :
    Calls Try.prog 17 #[v] w fun e w' => e = .returned (.int .i64 (cntW (flat t 1 0).length)) ∧ Below w.heap.size w w' := by
  obtain ⟨k, h, A, n, c, rfl⟩ := hv.full
  have HV := Lib.hid hv; clear hv
  refine (callsIn_wide (n := 8)).1 (callsIn_of_wp_marks Try.func17 rfl trivial ?_ rfl)
  simp only [Try.ntmps17, List.size_toArray, List.length_cons, List.length_nil, Nat.reduceAdd, Nat.reduceSub, Array.replicate_succ, Array.replicate_zero, List.push_toArray, List.append_toArray, List.nil_append, List.cons_append]
  gi_wp2_with (refine ⟨trivial, ?_⟩; gi_at_call 21; refine (callsIn_wide.2 (nodesC k h _ ⟨A, n, c, rfl⟩ _)).mono ?_; rintro e w' ⟨rfl, rfl⟩)
  have hbW : Below w.heap.size w (((w.alloc (.cells #[.int .i64 k, .int .i64 h, .slice A n c] 31)).alloc (.cells #[.int .i64 0] 3)).alloc (.cells #[.int .i64 k, .int .i64 h, .slice A n c] 31)) :=
    ((((Below.refl _ w).alloc (Nat.le_refl _) _).alloc (by simp) _).alloc (by simp; omega) _)
  have bx1 : Box (((w.alloc (.cells #[.int .i64 k, .int .i64 h, .slice A n c] 31)).alloc (.cells #[.int .i64 0] 3)).alloc (.cells #[.int .i64 k, .int .i64 h, .slice A n c] 31)) (w.heap.size + 1) 3 #[.int .i64 0] :=
    ((Box.new (w.alloc _) _ _).at (b' := w.heap.size + 1) (by simp)).alloc _
  have bx2 : Box (((w.alloc (.cells #[.int .i64 k, .int .i64 h, .slice A n c] 31)).alloc (.cells #[.int .i64 0] 3)).alloc (.cells #[.int .i64 k, .int .i64 h, .slice A n c] 31)) (w.heap.size + 1 + 1) 31 #[.int .i64 k, .int .i64 h, .slice A n c] :=
    (Box.new ((w.alloc _).alloc _) _ _).at (b' := w.heap.size + 1 + 1) (by simp)
  generalize (((w.alloc (.cells #[.int .i64 k, .int .i64 h, .slice A n c] 31)).alloc (.cells #[.int .i64 0] 3)).alloc (.cells #[.int .i64 k, .int .i64 h, .slice A n c] 31)) = W0 at *
  have hl := bx2.lt
  refine wpIn_rangeFunc_ownH rfl (by omega) (gf := 32) (lb := #[.pointer (some ⟨w.heap.size + 1 + 1, 0, none⟩)]) rfl trivial (enters_of Try.func32 (by kernel_rfl) rfl)
    (nodesStops 7 w W0 t k h _ (w.heap.size + 2) (w.heap.size + 1 + 1) HV.out hbW (by omega) (by omega) bx2) KB.trans (fun W l o o' _ h1 h2 _ => KB.putObj W l o o' h1 h2) (Below.refl _ _) (fun _ => rfl)
    (fun pre W => Box W (w.heap.size + 1) 3 #[.int .i64 (cntW pre.length)] ∧ Below w.heap.size w W) (fun _ _ _ => False)
    (fun s A B row hs hg hr => ⟨hs.1.kept hg hr, below_kept hs.2 hg hr (by omega) hs.2.size⟩) (fun _ _ _ _ _ hs _ _ => hs) ⟨bx1, hbW⟩
    (fun x a' _ => a' = { tmps := #[.agg #[.int .i64 k, .int .i64 h, .slice A n c], .pointer (some ⟨w.heap.size, 0, none⟩), .int .i64 0, .pointer (some ⟨w.heap.size + 1, 0, none⟩), .agg #[.int .i64 k, .int .i64 h, .slice A n c],
        .func (.func 32) #[] #[.pointer (some ⟨w.heap.size + 1 + 1, 0, none⟩)], .agg #[.int .i64 x.d, .int .i64 x.b], .agg #[.int .i64 x.k, .int .i64 x.h, .slice x.A x.n x.c], undef, undef, undef], defers := [] })
    (fun _ _ _ _ _ _ hs _ _ => hs) ?assign ?body ?done ?stop
  case assign =>
    rintro l pre x W K hi hK
    gi_wp2
    exact hK _ _ (KeepsFrom.refl _ _) (KB.refl _ _ _) hi (by simp [encN])
  case body =>
    rintro l pre x a' W hl ⟨r, hr⟩ ⟨hbx, hB⟩ rfl _
    have c0 := hbx.cell 0
    have f0 := hbx.frozen 0
    simp only [List.getElem?_toArray, List.getElem?_cons_zero] at c0
    gi_wp2
    exact ⟨(KeepsOthers.setCell _ _ _).from _, KB.setCell _ _ _ ⟨by dsimp only; omega, by dsimp only; omega⟩, by rw [List.length_append]; exact hbx.set _, hB.setCell (by dsimp only; omega) _⟩
  case done =>
    rintro D ys W hD hS ⟨hbx, hB⟩ hK
    have c0 := hbx.cell 0
    simp only [List.getElem?_toArray, List.getElem?_cons_zero] at c0
    gi_wp2
    refine ⟨by simp, .inl ⟨_, _, rfl, run_takeDeferred hK, ?_⟩⟩
    exact ⟨_, results_tmp rfl _ _ _, by rw [← len_of_keys hS]; rfl, below_putObj hB (by omega) _⟩
  case stop =>
    rintro D c pre W _ _ h _
    exact h.elim
end Go.Proofs.Ytdbdeppchlkacaa
