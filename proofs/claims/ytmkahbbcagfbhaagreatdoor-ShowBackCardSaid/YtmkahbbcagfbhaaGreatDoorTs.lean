/-
  Contracts of package term's functions that go through a term by the function to range over: Size, Depth, May, Scoped.
-/
import Derived.Test.YtmkahbbcagfbhaaGreatDoorVi
namespace Go.Proofs.YtmkahbbcagfbhaaGreatDoor
open Go.ChangeShapes Go.WideShapes Go.ChangeAt Go.RowKit Go.Shelf
set_option linter.unusedVariables false

attribute [local go_sem] Oper.semAt_some

theorem KB.putObj {n₀ n₁ : Nat} (W : World) (l : Nat) (o o' : Obj) (h : W.heap[l]? = some o) (hc : o.isCells = false) : KB n₀ n₁ W (W.putObj l o') := by
  refine ⟨by simp [World.putObj], fun k o2 _ hk hk2 => ?_⟩
  have hne : l ≠ k := by
    rintro rfl
    rw [h] at hk
    cases hk
    rw [hc] at hk2
    cases hk2
  simp only [World.putObj]
  rw [Array.getElem?_setIfInBounds_ne hne]
  exact hk

theorem Box.kept {W W' : World} {row : Option Nat} {B b : Nat} {ty : TypeId} {cs : Array Value} (h : Box W b ty cs) (hg : W.grownBy W' row) (hr : ∀ r, row = some r → B ≤ r ∧ ∃ o : Obj, W.heap[r]? = some o ∧ o.isCells = false) : Box W' b ty cs :=
  (hg.block b h.lt fun e => by
    obtain ⟨_, o, ho, hc⟩ := hr b e.symm
    rw [h] at ho
    cases ho
    cases hc).trans h
theorem grown_of_below {W W' : World} (h : Below W.heap.size W W') : W.grownBy W' none :=
  ⟨h.os, h.tape, h.output, h.size, fun k hk _ => h.block k hk⟩
theorem keepsFrom_of_below {B : Nat} {W W' : World} (h : Below W.heap.size W W') : KeepsFrom B W W' :=
  ⟨h.size, fun k _ _ hk _ => (h.block k (Array.getElem?_eq_some_iff.1 hk).1).trans hk⟩

set_option maxHeartbeats 400000 in
theorem nodesC (k h : Int) (s : Value) (hs : ∃ A n c, s = .slice A n c) (w : World) :
    Calls Tryz.prog 52 #[.agg #[.int .i64 k, .int .i64 h, s]] w fun e w' => e = .returned (.func (.func 75) #[] #[.pointer (some ⟨w.heap.size, 0, none⟩)]) ∧ w' = w.alloc (.cells #[.int .i64 k, .int .i64 h, s] 36) := by
  obtain ⟨A, n, c, rfl⟩ := hs
  go_enter Tryz.func52, Tryz.ntmps52
  go_wp2_with fail
  go_ret
  exact ⟨rfl, rfl⟩

set_option maxHeartbeats 1000000 in
/-- what nodes hands back gives all nodes of the term, in order -/
theorem nodesStops (m : Nat) (w0 w : World) (t : T) (k h : Int) (s : Value) (n₁ Bt : Nat) (hv : Rd w0 t (.agg #[.int .i64 k, .int .i64 h, s])) (hb : Below w0.heap.size w0 w) (h01 : w0.heap.size ≤ n₁) (hn : n₁ ≤ w.heap.size)
    (hB : Box w Bt 36 #[.int .i64 k, .int .i64 h, s]) :
    SeqStopsK Fence.wide m Tryz.prog 75 #[.pointer (some ⟨Bt, 0, none⟩)] encN (KB w0.heap.size n₁) (fun ys => ys.map Nd.key = flat t 1 0) (fun q => q.map Nd.key <+: flat t 1 0) (flat t 1 0).length w := by
  intro l J Jx W hW hJ hJx hY h0
  refine callsIn_wide.2 ?_
  obtain ⟨b0, b1, b2⟩ := (hB.keep hW hB.lt).three
  have hV := visitC w0 n₁ l (flat t 1 0).length h01 J Jx (fun s W W' hs hb => hJ s W W' none hs (grown_of_below hb) (fun r e => by cases e)) (fun m' pre x W1 hj hl => yieldAny m' (hY pre x W1 hj hl)) t 1 0 _ [] W hv
    (CK.of_below (hb.trans (hW.mono hb.size))) (Nat.le_trans hn hW.size) (by unfold wrap64; omega) h0 (by simp)
  have HV := Lib.hid hV; clear hV
  clear hY h0 hJ hJx hv
  go_enter Tryz.func75, Tryz.ntmps75
  go_wp2_with fail
  refine HV.out.mono ?_
  rintro e w1 (⟨ys, rfl, h1, h2, h3⟩ | ⟨rfl, q, h1, h2⟩)
  · go_wp2_with fail
    go_end0
    exact ⟨⟨_, rfl⟩, .inl ⟨ys, h1, by simpa using h2⟩⟩
  · go_wp2_with fail
    go_end0
    exact ⟨⟨_, rfl⟩, .inr ⟨q, h1, by simpa using h2⟩⟩

theorem below_kept {n B : Nat} {w A A' : World} {row : Option Nat} (h : Below n w A) (hg : A.grownBy A' row) (hr : ∀ r, row = some r → B ≤ r ∧ ∃ o : Obj, A.heap[r]? = some o ∧ o.isCells = false) (hn : n ≤ B) (hA : n ≤ A.heap.size) : Below n w A' :=
  h.grown hg hA fun k e => Nat.le_trans hn (hr k e).1
theorem below_putObj {n D : Nat} {w A : World} (h : Below n w A) (hn : n ≤ D) (o : Obj) : Below n w (A.putObj D o) :=
  h.trans ⟨rfl, rfl, rfl, by simp [World.putObj], fun k hk => by simp only [World.putObj]; rw [Array.getElem?_setIfInBounds_ne (by omega)]⟩
theorem len_of_keys {ys : List Nd} {ks : List Key} (h : ys.map Nd.key = ks) : ys.length = ks.length := by rw [← h, List.length_map]
theorem KB.setCell {n₀ n₁ : Nat} (W : World) (a : Addr) (v : Value) (h : n₀ ≤ a.block ∧ a.block < n₁) : KB n₀ n₁ W (W.setCell a v) :=
  ⟨by simp [World.setCell], fun k o hk ho _ => (Below.heap_setCell W a v k (by omega)).trans ho⟩
theorem Box.set {w : World} {b : Nat} {ty : TypeId} {v : Value} (u : Value) (h : Box w b ty #[v]) : Box (w.setCell ⟨b, 0, none⟩ u) b ty #[u] := by
  unfold Box at h ⊢
  simp [World.setCell, Array.getElem?_modify, h]

/-- how many have come -/
def cntW : Nat → Int
  | 0 => 0
  | n + 1 => wrap64 (cntW n + 1)

end Go.Proofs.YtmkahbbcagfbhaaGreatDoor
