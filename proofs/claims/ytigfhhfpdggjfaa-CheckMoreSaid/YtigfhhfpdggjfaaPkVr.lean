/-
  Contracts of the laws' own Nat and awake. No statement is proved here.
-/
import Derived.Test.YtigfhhfpdggjfaaPkV
namespace Go.Proofs.Ytigfhhfpdggjfaa
open Go.ChangeShapes Go.WideShapes Go.ChangeAt Go.RowKit
set_option linter.unusedVariables false

def natT : T := .node 2 0 []
def natS : List T := [.node 0 0 [], natT, .node 1 0 [natT, natT]]
def natW : WV := ⟨natS, []⟩
theorem wf_ofV {x : Int} (h0 : 0 ≤ x) (h1 : x ≤ 1099511627776) : (Lit.int .i64 x).wf = true := by
  have := wf_wrap64 x
  rwa [wrap_small (by omega) (by omega)] at this
theorem wfV {x : Int} (h : 0 ≤ x) (h' : x ≤ 1000) : (Lit.int .i64 x).wf = true := wf_ofV h (by omega)
theorem nat_low : LoV natW [] := ⟨fun t ht _ => by
    simp only [natW, natS, natT, List.mem_cons, List.not_mem_nil, or_false] at ht
    rcases ht with rfl | rfl | rfl <;> simp [okT, okL], fun m hm => by simp [natW] at hm, fun t ht => by simp at ht⟩
theorem nat_ck {w : World} {q : Nat} (hd : DL w natS (some ⟨q, 0, none⟩) 3 3) : CkV w natW [] (some ⟨q, 0, none⟩) 3 3 none 0 0 none 0 0 :=
  ⟨hd, ⟨rfl, Nat.le_refl _, Nat.zero_le _, fun i x hx => by simp [natW] at hx⟩, ⟨rfl, Nat.le_refl _, Nat.zero_le _, fun i x hx => by simp at hx⟩⟩
set_option maxRecDepth 100000 in
set_option maxHeartbeats 4000000 in
theorem vNatC (w : World) : Calls Try.prog 27 #[] w fun e w' => ∃ q, e = .returned (.slice (some ⟨q, 0, none⟩) 3 3) ∧ DL w' natS (some ⟨q, 0, none⟩) 3 3 ∧ Below w.heap.size w w' := by
  obtain ⟨W1, hW1⟩ : ∃ W1, w.alloc (.cells #[.int .i64 2, .int .i64 0, .slice none 0 0] 26) = W1 := ⟨_, rfl⟩
  have hb1 : Below w.heap.size w W1 := by rw [← hW1]; exact (Below.refl _ _).alloc (Nat.le_refl _) _
  have x1 : Box W1 w.heap.size 26 #[.int .i64 2, .int .i64 0, .slice none 0 0] := by rw [← hW1]; exact Box.new _ _ _
  have l1 : W1.heap.size = w.heap.size + 1 := by rw [← hW1]; simp
  obtain ⟨W2, hW2⟩ : ∃ W2, W1.alloc (.cells #[.int .i64 2, .int .i64 0, .slice none 0 0, .int .i64 2, .int .i64 0, .slice none 0 0] 26) = W2 := ⟨_, rfl⟩
  have hb2 : Below W1.heap.size W1 W2 := by rw [← hW2]; exact (Below.refl _ _).alloc (Nat.le_refl _) _
  have x2 : Box W2 (w.heap.size + 1) 26 #[.int .i64 2, .int .i64 0, .slice none 0 0, .int .i64 2, .int .i64 0, .slice none 0 0] := by rw [← hW2]; exact (Box.new _ _ _).at l1
  have l2 : W2.heap.size = w.heap.size + 1 + 1 := by rw [← hW2]; simp [l1]
  obtain ⟨W3, hW3⟩ : ∃ W3, W2.alloc (.cells #[.string { data := #[110, 97, 116] }, .int .i64 0, .int .i64 0, .slice none 0 0, .string { data := #[122] }, .int .i64 2, .int .i64 0, .slice none 0 0, .string { data := #[115] }, .int .i64 1, .int .i64 0, .slice (some ⟨w.heap.size + 1, 0, none⟩) 2 2] 51) = W3 := ⟨_, rfl⟩
  have hb3 : Below W2.heap.size W2 W3 := by rw [← hW3]; exact (Below.refl _ _).alloc (Nat.le_refl _) _
  have x3 : Box W3 (w.heap.size + 1 + 1) 51 #[.string { data := #[110, 97, 116] }, .int .i64 0, .int .i64 0, .slice none 0 0, .string { data := #[122] }, .int .i64 2, .int .i64 0, .slice none 0 0, .string { data := #[115] }, .int .i64 1, .int .i64 0, .slice (some ⟨w.heap.size + 1, 0, none⟩) 2 2] := by rw [← hW3]; exact (Box.new _ _ _).at l2
  have y2 := x2.keep hb3 x2.lt
  have hbw := hb1.trans ((hb2.trans (hb3.mono hb2.size)).mono hb1.size)
  have leaf : ∀ W' : World, Rd W' natT (.agg #[.int .i64 2, .int .i64 0, .slice none 0 0]) := fun W' => rd_leaf (wfV (by omega) (by omega)) (wfV (by omega) (by omega))
  have hdl : DL W3 natS (some ⟨w.heap.size + 1 + 1, 0, none⟩) 3 3 := ⟨rfl, Nat.le_refl _, by unfold maxLen; omega, fun i x hx => by
    match i, hx with
    | 0, hx =>
      cases hx
      exact ⟨w.heap.size + 1 + 1, 0, _, _, _, _, _, _, rfl, x3.cell 0, x3.cell 1, x3.cell 2, x3.cell 3, rd_leaf (wfV (by omega) (by omega)) (wfV (by omega) (by omega))⟩
    | 1, hx =>
      cases hx
      exact ⟨w.heap.size + 1 + 1, 0, _, _, _, _, _, _, rfl, x3.cell 4, x3.cell 5, x3.cell 6, x3.cell 7, leaf _⟩
    | 2, hx =>
      cases hx
      exact ⟨w.heap.size + 1 + 1, 0, _, _, _, _, _, _, rfl, x3.cell 8, x3.cell 9, x3.cell 10, x3.cell 11, Rd_node.2 ⟨_, _, _, rfl, wfV (by omega) (by omega), wfV (by omega) (by omega), rfl, Nat.le_refl _, by unfold maxLen; omega, rd_two y2 (leaf _) (leaf _)⟩⟩
    | i + 3, hx => simp [natS] at hx⟩
  have HD := Lib.hid hdl
  have HB := Lib.hid hbw
  obtain ⟨c0, c1, c2⟩ := x1.three
  have g1 := x1.frozen 1
  have g2 := x1.frozen 2
  clear hdl hbw leaf x1 x2 x3 y2 hb1 hb2 hb3 l1
  subst hW1
  go_enter Try.func27, Try.ntmps27
  go_wp2_with fail
  clear hW2 hW3
  go_ret
  exact ⟨_, rfl, HD.out, HB.out⟩

/-- the terms of awake -/
def awS : T := .node 5 2 [.node 4 0 []]
def awL : T := .node 3 0 [awS]
theorem aw_a : ckT natW [] (.node 5 2 [.node 5 1 []]) natT = 0 := by kernel_rfl
theorem aw_b : ckT natW [] (.node 5 2 []) natT = 3 := by kernel_rfl
theorem aw_c : ckT natW [] awL (.node 1 0 [natT, natT]) = 0 := by kernel_rfl
theorem aw_d : ckT natW [] awS natT = 2 := by kernel_rfl
theorem aw_e : ckTy natW [] natT = 0 := by kernel_rfl
theorem natTermC {W' : World} {q : Nat} (hd : DL W' natS (some ⟨q, 0, none⟩) 3 3) {m a : T} {vm va : Value} (hm : Rd W' m vm) (ha : Rd W' a va) (hlm : okT loV m) (hla : okT loV a) (R : Int) (hR : ckT natW [] m a = R) :
    Calls Try.prog 15 #[.slice (some ⟨q, 0, none⟩) 3 3, .slice none 0 0, .slice none 0 0, vm, va] W' (ByQ R W') := by
  rw [← hR]
  exact vCheckTermC natW [] m a _ 3 3 none 0 0 none 0 0 vm va W' (nat_ck hd) hm ha nat_low (fun _ => hlm) (fun _ => hla)

set_option maxRecDepth 100000 in
set_option maxHeartbeats 16000000 in
theorem vAwakeC (w : World) : Calls Try.prog 12 #[] w fun e w' => e = .returned (.bool true) ∧ Below w.heap.size w w' := by
  obtain ⟨W1, hW1⟩ : ∃ W1, w.alloc (.cells #[.int .i64 2, .int .i64 0, .slice none 0 0] 26) = W1 := ⟨_, rfl⟩
  have hb1 : Below w.heap.size w W1 := by rw [← hW1]; exact (Below.refl _ _).alloc (Nat.le_refl _) _
  have x1 : Box W1 w.heap.size 26 #[.int .i64 2, .int .i64 0, .slice none 0 0] := by rw [← hW1]; exact Box.new _ _ _
  obtain ⟨W2, hW2⟩ : ∃ W2, W1.alloc (.cells #[.int .i64 4, .int .i64 0, .slice none 0 0] 26) = W2 := ⟨_, rfl⟩
  have hb2 : Below W1.heap.size W1 W2 := by rw [← hW2]; exact (Below.refl _ _).alloc (Nat.le_refl _) _
  have l1 : W1.heap.size = w.heap.size + 1 := by rw [← hW1]; simp
  have x2 : Box W2 (w.heap.size + 1) 26 #[.int .i64 4, .int .i64 0, .slice none 0 0] := by rw [← hW2]; exact (Box.new _ _ _).at l1
  have l2 : W2.heap.size = w.heap.size + 1 + 1 := by rw [← hW2]; simp [l1]
  obtain ⟨W3, hW3⟩ : ∃ W3, W2.alloc (.cells #[.int .i64 5, .int .i64 2, .slice (some ⟨w.heap.size + 1, 0, none⟩) 1 1] 26) = W3 := ⟨_, rfl⟩
  have hb3 : Below W2.heap.size W2 W3 := by rw [← hW3]; exact (Below.refl _ _).alloc (Nat.le_refl _) _
  have x3 : Box W3 (w.heap.size + 1 + 1) 26 #[.int .i64 5, .int .i64 2, .slice (some ⟨w.heap.size + 1, 0, none⟩) 1 1] := by rw [← hW3]; exact (Box.new _ _ _).at l2
  have l3 : W3.heap.size = w.heap.size + 1 + 1 + 1 := by rw [← hW3]; simp [l2]
  obtain ⟨W4, hW4⟩ : ∃ W4, W3.alloc (.cells #[.int .i64 5, .int .i64 2, .slice (some ⟨w.heap.size + 1, 0, none⟩) 1 1] 26) = W4 := ⟨_, rfl⟩
  have hb4 : Below W3.heap.size W3 W4 := by rw [← hW4]; exact (Below.refl _ _).alloc (Nat.le_refl _) _
  have x4 : Box W4 (w.heap.size + 1 + 1 + 1) 26 #[.int .i64 5, .int .i64 2, .slice (some ⟨w.heap.size + 1, 0, none⟩) 1 1] := by rw [← hW4]; exact (Box.new _ _ _).at l3
  have l4 : W4.heap.size = w.heap.size + 1 + 1 + 1 + 1 := by rw [← hW4]; simp [l3]
  obtain ⟨W5, hW5⟩ : ∃ W5, W4.alloc (.cells #[.int .i64 3, .int .i64 0, .slice (some ⟨w.heap.size + 1 + 1 + 1, 0, none⟩) 1 1] 26) = W5 := ⟨_, rfl⟩
  have hb5 : Below W4.heap.size W4 W5 := by rw [← hW5]; exact (Below.refl _ _).alloc (Nat.le_refl _) _
  have x5 : Box W5 (w.heap.size + 1 + 1 + 1 + 1) 26 #[.int .i64 3, .int .i64 0, .slice (some ⟨w.heap.size + 1 + 1 + 1, 0, none⟩) 1 1] := by rw [← hW5]; exact (Box.new _ _ _).at l4
  obtain ⟨s0, s1, s2⟩ := x3.three
  obtain ⟨t0, t1, t2⟩ := x1.three
  have g1 := x1.frozen 1
  have g2 := x1.frozen 2
  replace x4 := x4.keep hb5 x4.lt
  have hb35 := hb4.trans (hb5.mono hb4.size)
  replace x3 := x3.keep hb35 x3.lt
  have hb25 := hb3.trans (hb35.mono hb3.size)
  replace x2 := x2.keep hb25 x2.lt
  have hb15 := hb2.trans (hb25.mono hb2.size)
  replace x1 := x1.keep hb15 x1.lt
  have HB := Lib.hid (hb1.trans (hb15.mono hb1.size))
  have leaf : ∀ (W' : World) (k h : Int), 0 ≤ k → k ≤ 1000 → 0 ≤ h → h ≤ 1000 → Rd W' (.node k h []) (.agg #[.int .i64 k, .int .i64 h, .slice none 0 0]) := fun W' k h h1 h2 h3 h4 => rd_leaf (wfV h1 h2) (wfV h3 h4)
  have hrS : Rd W5 awS (.agg #[.int .i64 5, .int .i64 2, .slice (some ⟨w.heap.size + 1, 0, none⟩) 1 1]) := rd_node1 x2 (leaf _ 4 0 (by omega) (by omega) (by omega) (by omega)) (wfV (by omega) (by omega)) (wfV (by omega) (by omega))
  have hrL : Rd W5 awL (.agg #[.int .i64 3, .int .i64 0, .slice (some ⟨w.heap.size + 1 + 1 + 1, 0, none⟩) 1 1]) := rd_node1 x4 hrS (wfV (by omega) (by omega)) (wfV (by omega) (by omega))
  have lowN : okT loV natT := by simp [natT, okT, okL]
  have lowS : okT loV awS := by simp [awS, okT, okL]
  have lowL : okT loV awL := by simp [awL, awS, okT, okL]
  have lowP : okT loV (.node 1 0 [natT, natT]) := by simp [natT, okT, okL]
  have HTA : Hid (∀ (W' : World) (q p : Nat), DL W' natS (some ⟨q, 0, none⟩) 3 3 → Box W' p 26 #[.int .i64 5, .int .i64 1, .slice none 0 0] → Calls Try.prog 15 #[.slice (some ⟨q, 0, none⟩) 3 3, .slice none 0 0, .slice none 0 0, .agg #[.int .i64 5, .int .i64 2, .slice (some ⟨p, 0, none⟩) 1 1], .agg #[.int .i64 2, .int .i64 0, .slice none 0 0]] W' (ByQ 0 W')) := Lib.hid fun W' q p hd hb =>
    natTermC hd (rd_node1 hb (leaf _ 5 1 (by omega) (by omega) (by omega) (by omega)) (wfV (by omega) (by omega)) (wfV (by omega) (by omega))) (leaf _ 2 0 (by omega) (by omega) (by omega) (by omega)) (by simp [okT, okL]) lowN 0 aw_a
  have HTB : Hid (∀ (W' : World) (q : Nat), DL W' natS (some ⟨q, 0, none⟩) 3 3 → Calls Try.prog 15 #[.slice (some ⟨q, 0, none⟩) 3 3, .slice none 0 0, .slice none 0 0, .agg #[.int .i64 5, .int .i64 2, .slice none 0 0], .agg #[.int .i64 2, .int .i64 0, .slice none 0 0]] W' (ByQ 3 W')) := Lib.hid fun W' q hd =>
    natTermC hd (leaf _ 5 2 (by omega) (by omega) (by omega) (by omega)) (leaf _ 2 0 (by omega) (by omega) (by omega) (by omega)) (by simp [okT, okL]) lowN 3 aw_b
  have HTC : Hid (∀ (W' : World) (q : Nat) (k h : Int) (A : Option Addr) (n c : Nat), Below W5.heap.size W5 W' → DL W' natS (some ⟨q, 0, none⟩) 3 3 → Rd W' (.node 1 0 [natT, natT]) (.agg #[.int .i64 k, .int .i64 h, .slice A n c]) → Calls Try.prog 15 #[.slice (some ⟨q, 0, none⟩) 3 3, .slice none 0 0, .slice none 0 0, .agg #[.int .i64 3, .int .i64 0, .slice (some ⟨w.heap.size + 1 + 1 + 1, 0, none⟩) 1 1], .agg #[.int .i64 k, .int .i64 h, .slice A n c]] W' (ByQ 0 W')) := Lib.hid fun W' q k h A n c hb hd hr =>
    natTermC hd (Rd.keep hb _ _ hrL) hr lowL lowP 0 aw_c
  have HTD : Hid (∀ (W' : World) (q : Nat), Below W5.heap.size W5 W' → DL W' natS (some ⟨q, 0, none⟩) 3 3 → Calls Try.prog 15 #[.slice (some ⟨q, 0, none⟩) 3 3, .slice none 0 0, .slice none 0 0, .agg #[.int .i64 5, .int .i64 2, .slice (some ⟨w.heap.size + 1, 0, none⟩) 1 1], .agg #[.int .i64 2, .int .i64 0, .slice none 0 0]] W' (ByQ 2 W')) := Lib.hid fun W' q hb hd =>
    natTermC hd (Rd.keep hb _ _ hrS) (leaf _ 2 0 (by omega) (by omega) (by omega) (by omega)) lowS lowN 2 aw_d
  have HTE : Hid (∀ (W' : World) (q : Nat), DL W' natS (some ⟨q, 0, none⟩) 3 3 → Calls Try.prog 17 #[.slice (some ⟨q, 0, none⟩) 3 3, .slice none 0 0, .slice none 0 0, .agg #[.int .i64 2, .int .i64 0, .slice none 0 0]] W' (ByQ 0 W')) := Lib.hid fun W' q hd => by
    have h := vCheckTypeC natW [] natT _ 3 3 none 0 0 none 0 0 _ W' (nat_ck hd) (leaf _ 2 0 (by omega) (by omega) (by omega) (by omega)) nat_low (fun _ => lowN)
    rw [aw_e] at h
    exact h
  obtain ⟨c0, c1, c2⟩ := x1.three
  obtain ⟨d0, d1, d2⟩ := x3.three
  obtain ⟨e0, e1, e2⟩ := x5.three
  clear x1 x2 x3 x4 x5 hb1 hb2 hb3 hb4 hb5 hb35 hb25 hb15 l1 leaf hrS hrL lowN lowS lowL lowP
  subst hW1
  go_enter Try.func12, Try.ntmps12
  go_wp2_with fail
  clear hW2 hW3 hW4 hW5 s0 s1 s2 t0 t1 t2 g1 g2 l2 l3 l4
  generalize w.heap.size + 1 + 1 + 1 + 1 = P4 at *
  generalize w.heap.size + 1 + 1 + 1 = P3 at *
  generalize w.heap.size + 1 + 1 = P2 at *
  generalize w.heap.size + 1 = P1 at *
  have HKS : Hid (∀ w' : World, Below W5.heap.size W5 w' → (fun w' => w'.cell? ⟨w.heap.size, 0, none⟩ = some (.int .i64 2) ∧ w'.cell? ⟨w.heap.size, 1, none⟩ = some (.int .i64 0) ∧ w'.cell? ⟨w.heap.size, 2, none⟩ = some (.slice none 0 0) ∧ w'.cell? ⟨P2, 0, none⟩ = some (.int .i64 5) ∧ w'.cell? ⟨P2, 1, none⟩ = some (.int .i64 2) ∧ w'.cell? ⟨P2, 2, none⟩ = some (.slice (some ⟨P1, 0, none⟩) 1 1) ∧ w'.cell? ⟨P4, 0, none⟩ = some (.int .i64 3) ∧ w'.cell? ⟨P4, 1, none⟩ = some (.int .i64 0) ∧ w'.cell? ⟨P4, 2, none⟩ = some (.slice (some ⟨P3, 0, none⟩) 1 1)) w') := Lib.hid fun w' h => ⟨(h.cell (cell_lt c0)).trans c0, (h.cell (cell_lt c1)).trans c1, (h.cell (cell_lt c2)).trans c2, (h.cell (cell_lt d0)).trans d0, (h.cell (cell_lt d1)).trans d1, (h.cell (cell_lt d2)).trans d2, (h.cell (cell_lt e0)).trans e0, (h.cell (cell_lt e1)).trans e1, (h.cell (cell_lt e2)).trans e2⟩
  have hbd : Below W5.heap.size W5 W5.drew := (Below.refl _ W5).drew
  refine wp_region_held_drew (S := fun w' => w'.cell? ⟨w.heap.size, 0, none⟩ = some (.int .i64 2) ∧ w'.cell? ⟨w.heap.size, 1, none⟩ = some (.int .i64 0) ∧ w'.cell? ⟨w.heap.size, 2, none⟩ = some (.slice none 0 0) ∧ w'.cell? ⟨P2, 0, none⟩ = some (.int .i64 5) ∧ w'.cell? ⟨P2, 1, none⟩ = some (.int .i64 2) ∧ w'.cell? ⟨P2, 2, none⟩ = some (.slice (some ⟨P1, 0, none⟩) 1 1) ∧ w'.cell? ⟨P4, 0, none⟩ = some (.int .i64 3) ∧ w'.cell? ⟨P4, 1, none⟩ = some (.int .i64 0) ∧ w'.cell? ⟨P4, 2, none⟩ = some (.slice (some ⟨P3, 0, none⟩) 1 1)) (by kernel_rfl) (HKS.out _ hbd) (fun hS => ?_)
  simp only [List.size_toArray, List.length_cons, List.length_nil, Nat.reduceAdd]
  refine wpAnyH_take (i := 1) (v := .agg #[.int .i64 5, .int .i64 1, .slice none 0 0]) rfl (by kernel_rfl) (by kernel_rfl) (by kernel_rfl) (fun _ _ _ h => h) (Or.inl ⟨by kernel_rfl, ?_⟩) hS ?_
  · intro w' hSw
    obtain ⟨s0, s1, s2, s3, s4, s5, s6, s7, s8⟩ := hSw
    go_simp
  try simp only [Act.put, List.setIfInBounds_toArray]
  refine wpAnyH_take (i := 4) (v := .agg #[.int .i64 2, .int .i64 0, .slice none 0 0]) rfl (by kernel_rfl) (by kernel_rfl) (by kernel_rfl) (fun _ _ _ h => h) (Or.inl ⟨by kernel_rfl, ?_⟩) hS ?_
  · intro w' hSw
    obtain ⟨s0, s1, s2, s3, s4, s5, s6, s7, s8⟩ := hSw
    go_simp
  try simp only [Act.put]
  refine wpAnyH_ready (rs := [0, 2]) (by kernel_rfl) (by simp) ?_
  refine AllReadyH.cons rfl (fun KN hK => ?_) (AllReadyH.cons rfl (fun KN hK => ?_) AllReadyH.nil)
  · go_simp
    refine (vNatC _).mono ?_
    rintro e w40 ⟨q4, rfl, hdw40, hnw40⟩
    have hbw40 := hbd.trans (hnw40.mono hbd.size)
    refine hK.out _ _ (HKS.out _ hbw40) (fun hS => ?_)
    clear hK KN
    try simp only [Act.put, List.setIfInBounds_toArray, List.set_cons_zero, List.set_cons_succ]
    refine wpAnyH_ready (rs := [2]) (by kernel_rfl) (by simp) ?_
    refine AllReadyH.cons rfl (fun KN hK => ?_) AllReadyH.nil
    go_simp
    have hb41 : Below W5.heap.size W5 (w40.alloc (.cells #[.int .i64 5, .int .i64 1, .slice none 0 0] 26)) := hbw40.alloc hbw40.size _
    have hd41 := hdw40.keep (show Below w40.heap.size w40 (w40.alloc (.cells #[.int .i64 5, .int .i64 1, .slice none 0 0] 26)) from (Below.refl _ _).alloc (Nat.le_refl _) _)
    have x41 : Box (w40.alloc (.cells #[.int .i64 5, .int .i64 1, .slice none 0 0] 26)) w40.heap.size 26 #[.int .i64 5, .int .i64 1, .slice none 0 0] := Box.new _ _ _
    refine hK.out _ _ (HKS.out _ hb41) (fun hS => ?_)
    clear hK KN
    try simp only [Act.put, List.setIfInBounds_toArray, List.set_cons_zero, List.set_cons_succ]
    clear hdw40 hnw40 hbw40
    generalize w40.alloc (.cells #[.int .i64 5, .int .i64 1, .slice none 0 0] 26) = w41 at *
    generalize w40.heap.size = P9 at *
    refine wpAnyH_take (i := 3) (v := .agg #[.int .i64 5, .int .i64 2, .slice (some ⟨P9, 0, none⟩) 1 1]) rfl (by kernel_rfl) (by kernel_rfl) (by kernel_rfl) (fun _ _ _ h => h) (Or.inl ⟨by kernel_rfl, ?_⟩) hS ?_
    · intro w' hSw
      obtain ⟨s0, s1, s2, s3, s4, s5, s6, s7, s8⟩ := hSw
      go_simp
    try simp only [Act.put, List.setIfInBounds_toArray]
    refine wpAnyH_ready (rs := [5]) (by kernel_rfl) (by simp) ?_
    refine AllReadyH.cons rfl (fun KN hK => ?_) AllReadyH.nil
    go_simp
    refine (HTA.out _ q4 P9 hd41 x41).mono ?_
    rintro e w42 ⟨rfl, hnw42⟩
    have hbw42 := hb41.trans (hnw42.mono hb41.size)
    refine hK.out _ _ (HKS.out _ hbw42) (fun hS => ?_)
    clear hK KN
    try simp only [Act.put, List.setIfInBounds_toArray, List.set_cons_zero, List.set_cons_succ]
    refine wpAnyH_take (i := 6) (v := .int .i64 0) rfl (by kernel_rfl) (by kernel_rfl) (by kernel_rfl) (fun _ _ _ h => h) (Or.inl ⟨by kernel_rfl, ?_⟩) hS ?_
    · intro w' hSw
      obtain ⟨s0, s1, s2, s3, s4, s5, s6, s7, s8⟩ := hSw
      go_simp
    try simp only [Act.put, List.setIfInBounds_toArray]
    refine wpAnyH_done (by kernel_rfl) ?_ _
    try simp only [List.setIfInBounds_toArray]
    try simp only [List.getElem_toArray, List.getElem_cons_succ, List.getElem_cons_zero, List.set_cons_zero, List.set_cons_succ]
    replace c0 := (hbw42.cell (cell_lt c0)).trans c0
    replace c1 := (hbw42.cell (cell_lt c1)).trans c1
    replace c2 := (hbw42.cell (cell_lt c2)).trans c2
    replace d0 := (hbw42.cell (cell_lt d0)).trans d0
    replace d1 := (hbw42.cell (cell_lt d1)).trans d1
    replace d2 := (hbw42.cell (cell_lt d2)).trans d2
    replace e0 := (hbw42.cell (cell_lt e0)).trans e0
    replace e1 := (hbw42.cell (cell_lt e1)).trans e1
    replace e2 := (hbw42.cell (cell_lt e2)).trans e2
    have HBw42 := Lib.hid (HB.out.trans (hbw42.mono HB.out.size))
    have HXw42 : Hid (Below W5.heap.size W5 w42) := Lib.hid (hbw42)
    clear hS HKS hbd hb41 hd41 x41 hnw42 hbw42
    go_wp2_with fail
    have HKS : Hid (∀ w' : World, Below w42.heap.size w42 w' → (fun w' => w'.cell? ⟨w.heap.size, 0, none⟩ = some (.int .i64 2) ∧ w'.cell? ⟨w.heap.size, 1, none⟩ = some (.int .i64 0) ∧ w'.cell? ⟨w.heap.size, 2, none⟩ = some (.slice none 0 0) ∧ w'.cell? ⟨P2, 0, none⟩ = some (.int .i64 5) ∧ w'.cell? ⟨P2, 1, none⟩ = some (.int .i64 2) ∧ w'.cell? ⟨P2, 2, none⟩ = some (.slice (some ⟨P1, 0, none⟩) 1 1) ∧ w'.cell? ⟨P4, 0, none⟩ = some (.int .i64 3) ∧ w'.cell? ⟨P4, 1, none⟩ = some (.int .i64 0) ∧ w'.cell? ⟨P4, 2, none⟩ = some (.slice (some ⟨P3, 0, none⟩) 1 1)) w') := Lib.hid fun w' h => ⟨(h.cell (cell_lt c0)).trans c0, (h.cell (cell_lt c1)).trans c1, (h.cell (cell_lt c2)).trans c2, (h.cell (cell_lt d0)).trans d0, (h.cell (cell_lt d1)).trans d1, (h.cell (cell_lt d2)).trans d2, (h.cell (cell_lt e0)).trans e0, (h.cell (cell_lt e1)).trans e1, (h.cell (cell_lt e2)).trans e2⟩
    have hbd : Below w42.heap.size w42 w42.drew := (Below.refl _ w42).drew
    refine wp_region_held_drew (S := fun w' => w'.cell? ⟨w.heap.size, 0, none⟩ = some (.int .i64 2) ∧ w'.cell? ⟨w.heap.size, 1, none⟩ = some (.int .i64 0) ∧ w'.cell? ⟨w.heap.size, 2, none⟩ = some (.slice none 0 0) ∧ w'.cell? ⟨P2, 0, none⟩ = some (.int .i64 5) ∧ w'.cell? ⟨P2, 1, none⟩ = some (.int .i64 2) ∧ w'.cell? ⟨P2, 2, none⟩ = some (.slice (some ⟨P1, 0, none⟩) 1 1) ∧ w'.cell? ⟨P4, 0, none⟩ = some (.int .i64 3) ∧ w'.cell? ⟨P4, 1, none⟩ = some (.int .i64 0) ∧ w'.cell? ⟨P4, 2, none⟩ = some (.slice (some ⟨P3, 0, none⟩) 1 1)) (by kernel_rfl) (HKS.out _ hbd) (fun hS => ?_)
    simp only [List.size_toArray, List.length_cons, List.length_nil, Nat.reduceAdd]
    refine wpAnyH_take (i := 1) (v := .agg #[.int .i64 5, .int .i64 2, .slice none 0 0]) rfl (by kernel_rfl) (by kernel_rfl) (by kernel_rfl) (fun _ _ _ h => h) (Or.inl ⟨by kernel_rfl, ?_⟩) hS ?_
    · intro w' hSw
      obtain ⟨s0, s1, s2, s3, s4, s5, s6, s7, s8⟩ := hSw
      go_simp
    try simp only [Act.put, List.setIfInBounds_toArray]
    refine wpAnyH_take (i := 2) (v := .agg #[.int .i64 2, .int .i64 0, .slice none 0 0]) rfl (by kernel_rfl) (by kernel_rfl) (by kernel_rfl) (fun _ _ _ h => h) (Or.inl ⟨by kernel_rfl, ?_⟩) hS ?_
    · intro w' hSw
      obtain ⟨s0, s1, s2, s3, s4, s5, s6, s7, s8⟩ := hSw
      go_simp
    try simp only [Act.put]
    refine wpAnyH_ready (rs := [0]) (by kernel_rfl) (by simp) ?_
    refine AllReadyH.cons rfl (fun KN hK => ?_) AllReadyH.nil
    go_simp
    refine (vNatC _).mono ?_
    rintro e w50 ⟨q5, rfl, hdw50, hnw50⟩
    have hbw50 := hbd.trans (hnw50.mono hbd.size)
    refine hK.out _ _ (HKS.out _ hbw50) (fun hS => ?_)
    clear hK KN
    try simp only [Act.put, List.setIfInBounds_toArray, List.set_cons_zero, List.set_cons_succ]
    refine wpAnyH_ready (rs := [3]) (by kernel_rfl) (by simp) ?_
    refine AllReadyH.cons rfl (fun KN hK => ?_) AllReadyH.nil
    go_simp
    refine (HTB.out _ q5 hdw50).mono ?_
    rintro e w51 ⟨rfl, hnw51⟩
    have hbw51 := hbw50.trans (hnw51.mono hbw50.size)
    refine hK.out _ _ (HKS.out _ hbw51) (fun hS => ?_)
    clear hK KN
    try simp only [Act.put, List.setIfInBounds_toArray, List.set_cons_zero, List.set_cons_succ]
    refine wpAnyH_take (i := 4) (v := .int .i64 3) rfl (by kernel_rfl) (by kernel_rfl) (by kernel_rfl) (fun _ _ _ h => h) (Or.inl ⟨by kernel_rfl, ?_⟩) hS ?_
    · intro w' hSw
      obtain ⟨s0, s1, s2, s3, s4, s5, s6, s7, s8⟩ := hSw
      go_simp
    try simp only [Act.put, List.setIfInBounds_toArray]
    refine wpAnyH_done (by kernel_rfl) ?_ _
    try simp only [List.setIfInBounds_toArray]
    try simp only [List.getElem_toArray, List.getElem_cons_succ, List.getElem_cons_zero, List.set_cons_zero, List.set_cons_succ]
    replace c0 := (hbw51.cell (cell_lt c0)).trans c0
    replace c1 := (hbw51.cell (cell_lt c1)).trans c1
    replace c2 := (hbw51.cell (cell_lt c2)).trans c2
    replace d0 := (hbw51.cell (cell_lt d0)).trans d0
    replace d1 := (hbw51.cell (cell_lt d1)).trans d1
    replace d2 := (hbw51.cell (cell_lt d2)).trans d2
    replace e0 := (hbw51.cell (cell_lt e0)).trans e0
    replace e1 := (hbw51.cell (cell_lt e1)).trans e1
    replace e2 := (hbw51.cell (cell_lt e2)).trans e2
    have HBw51 := Lib.hid (HBw42.out.trans (hbw51.mono HBw42.out.size))
    have HXw51 : Hid (Below W5.heap.size W5 w51) := Lib.hid (HXw42.out.trans (hbw51.mono HXw42.out.size))
    clear hS HKS hbd hdw50 hnw50 hbw50 hnw51 hbw51
    go_wp2_with fail
    have HKS : Hid (∀ w' : World, Below w51.heap.size w51 w' → (fun w' => w'.cell? ⟨w.heap.size, 0, none⟩ = some (.int .i64 2) ∧ w'.cell? ⟨w.heap.size, 1, none⟩ = some (.int .i64 0) ∧ w'.cell? ⟨w.heap.size, 2, none⟩ = some (.slice none 0 0) ∧ w'.cell? ⟨P2, 0, none⟩ = some (.int .i64 5) ∧ w'.cell? ⟨P2, 1, none⟩ = some (.int .i64 2) ∧ w'.cell? ⟨P2, 2, none⟩ = some (.slice (some ⟨P1, 0, none⟩) 1 1) ∧ w'.cell? ⟨P4, 0, none⟩ = some (.int .i64 3) ∧ w'.cell? ⟨P4, 1, none⟩ = some (.int .i64 0) ∧ w'.cell? ⟨P4, 2, none⟩ = some (.slice (some ⟨P3, 0, none⟩) 1 1)) w') := Lib.hid fun w' h => ⟨(h.cell (cell_lt c0)).trans c0, (h.cell (cell_lt c1)).trans c1, (h.cell (cell_lt c2)).trans c2, (h.cell (cell_lt d0)).trans d0, (h.cell (cell_lt d1)).trans d1, (h.cell (cell_lt d2)).trans d2, (h.cell (cell_lt e0)).trans e0, (h.cell (cell_lt e1)).trans e1, (h.cell (cell_lt e2)).trans e2⟩
    have hbd : Below w51.heap.size w51 w51.drew := (Below.refl _ w51).drew
    refine wp_region_held_drew (S := fun w' => w'.cell? ⟨w.heap.size, 0, none⟩ = some (.int .i64 2) ∧ w'.cell? ⟨w.heap.size, 1, none⟩ = some (.int .i64 0) ∧ w'.cell? ⟨w.heap.size, 2, none⟩ = some (.slice none 0 0) ∧ w'.cell? ⟨P2, 0, none⟩ = some (.int .i64 5) ∧ w'.cell? ⟨P2, 1, none⟩ = some (.int .i64 2) ∧ w'.cell? ⟨P2, 2, none⟩ = some (.slice (some ⟨P1, 0, none⟩) 1 1) ∧ w'.cell? ⟨P4, 0, none⟩ = some (.int .i64 3) ∧ w'.cell? ⟨P4, 1, none⟩ = some (.int .i64 0) ∧ w'.cell? ⟨P4, 2, none⟩ = some (.slice (some ⟨P3, 0, none⟩) 1 1)) (by kernel_rfl) (HKS.out _ hbd) (fun hS => ?_)
    simp only [List.size_toArray, List.length_cons, List.length_nil, Nat.reduceAdd]
    refine wpAnyH_take (i := 1) (v := .agg #[.int .i64 3, .int .i64 0, .slice (some ⟨P3, 0, none⟩) 1 1]) rfl (by kernel_rfl) (by kernel_rfl) (by kernel_rfl) (fun _ _ _ h => h) (Or.inl ⟨by kernel_rfl, ?_⟩) hS ?_
    · intro w' hSw
      obtain ⟨s0, s1, s2, s3, s4, s5, s6, s7, s8⟩ := hSw
      go_simp
    try simp only [Act.put, List.setIfInBounds_toArray]
    refine wpAnyH_ready (rs := [0]) (by kernel_rfl) (by simp) ?_
    refine AllReadyH.cons rfl (fun KN hK => ?_) AllReadyH.nil
    go_simp
    refine (vNatC _).mono ?_
    rintro e w60 ⟨q6, rfl, hdw60, hnw60⟩
    have hbw60 := hbd.trans (hnw60.mono hbd.size)
    refine hK.out _ _ (HKS.out _ hbw60) (fun hS => ?_)
    clear hK KN
    try simp only [Act.put, List.setIfInBounds_toArray, List.set_cons_zero, List.set_cons_succ]
    refine wpAnyH_ready (rs := [2]) (by kernel_rfl) (by simp) ?_
    refine AllReadyH.cons rfl (fun KN hK => ?_) AllReadyH.nil
    go_simp
    refine (vNatC _).mono ?_
    rintro e w61 ⟨q7, rfl, hdw61, hnw61⟩
    have hbw61 := hbw60.trans (hnw61.mono hbw60.size)
    refine hK.out _ _ (HKS.out _ hbw61) (fun hS => ?_)
    clear hK KN
    try simp only [Act.put, List.setIfInBounds_toArray, List.set_cons_zero, List.set_cons_succ]
    obtain ⟨bN, oN, sN, kN, hN, AN, nN, cN, eN, g9, g0, g1, g2, hrN⟩ := hdw61.at_ 2 _ rfl
    cases eN
    simp only [Nat.zero_add, Nat.reduceMul, Nat.reduceAdd] at g0 g1 g2
    have HRN := Lib.hid hrN
    clear hrN g9
    refine wpAnyH_take (i := 3) (v := .pointer (some ⟨q7, 8, none⟩)) rfl (by kernel_rfl) (by kernel_rfl) (by kernel_rfl) (fun _ _ _ h => h) (Or.inl ⟨by kernel_rfl, ?_⟩) hS ?_
    · intro w' hSw
      obtain ⟨s0, s1, s2, s3, s4, s5, s6, s7, s8⟩ := hSw
      go_simp
    try simp only [Act.put, List.setIfInBounds_toArray]
    refine wpAnyH_take (i := 4) (v := .pointer (some ⟨q7, 9, none⟩)) rfl (by kernel_rfl) (by kernel_rfl) (by kernel_rfl) (fun _ _ _ h => h) (Or.inl ⟨by kernel_rfl, ?_⟩) hS ?_
    · intro w' hSw
      obtain ⟨s0, s1, s2, s3, s4, s5, s6, s7, s8⟩ := hSw
      go_simp
    try simp only [Act.put]
    refine wpAnyH_ready (rs := [5]) (by kernel_rfl) (by simp) ?_
    refine AllReadyH.cons rfl (fun KN hK => ?_) AllReadyH.nil
    go_simp
    refine hK.out _ _ (HKS.out _ hbw61) (fun hS => ?_)
    clear hK KN
    try simp only [Act.put, List.setIfInBounds_toArray, List.set_cons_zero, List.set_cons_succ]
    refine wpAnyH_ready (rs := [6]) (by kernel_rfl) (by simp) ?_
    refine AllReadyH.cons rfl (fun KN hK => ?_) AllReadyH.nil
    go_simp
    refine (HTC.out _ q6 _ _ _ _ _ (HXw51.out.trans (hbw61.mono HXw51.out.size)) (hdw60.keep hnw61) HRN.out).mono ?_
    rintro e w62 ⟨rfl, hnw62⟩
    have hbw62 := hbw61.trans (hnw62.mono hbw61.size)
    refine hK.out _ _ (HKS.out _ hbw62) (fun hS => ?_)
    clear hK KN
    try simp only [Act.put, List.setIfInBounds_toArray, List.set_cons_zero, List.set_cons_succ]
    refine wpAnyH_take (i := 7) (v := .int .i64 0) rfl (by kernel_rfl) (by kernel_rfl) (by kernel_rfl) (fun _ _ _ h => h) (Or.inl ⟨by kernel_rfl, ?_⟩) hS ?_
    · intro w' hSw
      obtain ⟨s0, s1, s2, s3, s4, s5, s6, s7, s8⟩ := hSw
      go_simp
    try simp only [Act.put, List.setIfInBounds_toArray]
    refine wpAnyH_done (by kernel_rfl) ?_ _
    try simp only [List.setIfInBounds_toArray]
    try simp only [List.getElem_toArray, List.getElem_cons_succ, List.getElem_cons_zero, List.set_cons_zero, List.set_cons_succ]
    replace c0 := (hbw62.cell (cell_lt c0)).trans c0
    replace c1 := (hbw62.cell (cell_lt c1)).trans c1
    replace c2 := (hbw62.cell (cell_lt c2)).trans c2
    replace d0 := (hbw62.cell (cell_lt d0)).trans d0
    replace d1 := (hbw62.cell (cell_lt d1)).trans d1
    replace d2 := (hbw62.cell (cell_lt d2)).trans d2
    replace e0 := (hbw62.cell (cell_lt e0)).trans e0
    replace e1 := (hbw62.cell (cell_lt e1)).trans e1
    replace e2 := (hbw62.cell (cell_lt e2)).trans e2
    have HBw62 := Lib.hid (HBw51.out.trans (hbw62.mono HBw51.out.size))
    have HXw62 : Hid (Below W5.heap.size W5 w62) := Lib.hid (HXw51.out.trans (hbw62.mono HXw51.out.size))
    clear hS HKS hbd hdw60 hnw60 hbw60 hdw61 hnw61 hbw61 hnw62 hbw62 g0 g1 g2
    go_wp2_with fail
    have HKS : Hid (∀ w' : World, Below w62.heap.size w62 w' → (fun w' => w'.cell? ⟨w.heap.size, 0, none⟩ = some (.int .i64 2) ∧ w'.cell? ⟨w.heap.size, 1, none⟩ = some (.int .i64 0) ∧ w'.cell? ⟨w.heap.size, 2, none⟩ = some (.slice none 0 0) ∧ w'.cell? ⟨P2, 0, none⟩ = some (.int .i64 5) ∧ w'.cell? ⟨P2, 1, none⟩ = some (.int .i64 2) ∧ w'.cell? ⟨P2, 2, none⟩ = some (.slice (some ⟨P1, 0, none⟩) 1 1) ∧ w'.cell? ⟨P4, 0, none⟩ = some (.int .i64 3) ∧ w'.cell? ⟨P4, 1, none⟩ = some (.int .i64 0) ∧ w'.cell? ⟨P4, 2, none⟩ = some (.slice (some ⟨P3, 0, none⟩) 1 1)) w') := Lib.hid fun w' h => ⟨(h.cell (cell_lt c0)).trans c0, (h.cell (cell_lt c1)).trans c1, (h.cell (cell_lt c2)).trans c2, (h.cell (cell_lt d0)).trans d0, (h.cell (cell_lt d1)).trans d1, (h.cell (cell_lt d2)).trans d2, (h.cell (cell_lt e0)).trans e0, (h.cell (cell_lt e1)).trans e1, (h.cell (cell_lt e2)).trans e2⟩
    have hbd : Below w62.heap.size w62 w62.drew := (Below.refl _ w62).drew
    refine wp_region_held_drew (S := fun w' => w'.cell? ⟨w.heap.size, 0, none⟩ = some (.int .i64 2) ∧ w'.cell? ⟨w.heap.size, 1, none⟩ = some (.int .i64 0) ∧ w'.cell? ⟨w.heap.size, 2, none⟩ = some (.slice none 0 0) ∧ w'.cell? ⟨P2, 0, none⟩ = some (.int .i64 5) ∧ w'.cell? ⟨P2, 1, none⟩ = some (.int .i64 2) ∧ w'.cell? ⟨P2, 2, none⟩ = some (.slice (some ⟨P1, 0, none⟩) 1 1) ∧ w'.cell? ⟨P4, 0, none⟩ = some (.int .i64 3) ∧ w'.cell? ⟨P4, 1, none⟩ = some (.int .i64 0) ∧ w'.cell? ⟨P4, 2, none⟩ = some (.slice (some ⟨P3, 0, none⟩) 1 1)) (by kernel_rfl) (HKS.out _ hbd) (fun hS => ?_)
    simp only [List.size_toArray, List.length_cons, List.length_nil, Nat.reduceAdd]
    refine wpAnyH_take (i := 1) (v := .agg #[.int .i64 5, .int .i64 2, .slice (some ⟨P1, 0, none⟩) 1 1]) rfl (by kernel_rfl) (by kernel_rfl) (by kernel_rfl) (fun _ _ _ h => h) (Or.inl ⟨by kernel_rfl, ?_⟩) hS ?_
    · intro w' hSw
      obtain ⟨s0, s1, s2, s3, s4, s5, s6, s7, s8⟩ := hSw
      go_simp
    try simp only [Act.put, List.setIfInBounds_toArray]
    refine wpAnyH_take (i := 2) (v := .agg #[.int .i64 2, .int .i64 0, .slice none 0 0]) rfl (by kernel_rfl) (by kernel_rfl) (by kernel_rfl) (fun _ _ _ h => h) (Or.inl ⟨by kernel_rfl, ?_⟩) hS ?_
    · intro w' hSw
      obtain ⟨s0, s1, s2, s3, s4, s5, s6, s7, s8⟩ := hSw
      go_simp
    try simp only [Act.put]
    refine wpAnyH_ready (rs := [0]) (by kernel_rfl) (by simp) ?_
    refine AllReadyH.cons rfl (fun KN hK => ?_) AllReadyH.nil
    go_simp
    refine (vNatC _).mono ?_
    rintro e w70 ⟨q8, rfl, hdw70, hnw70⟩
    have hbw70 := hbd.trans (hnw70.mono hbd.size)
    refine hK.out _ _ (HKS.out _ hbw70) (fun hS => ?_)
    clear hK KN
    try simp only [Act.put, List.setIfInBounds_toArray, List.set_cons_zero, List.set_cons_succ]
    refine wpAnyH_ready (rs := [3]) (by kernel_rfl) (by simp) ?_
    refine AllReadyH.cons rfl (fun KN hK => ?_) AllReadyH.nil
    go_simp
    refine (HTD.out _ q8 (HXw62.out.trans (hbw70.mono HXw62.out.size)) hdw70).mono ?_
    rintro e w71 ⟨rfl, hnw71⟩
    have hbw71 := hbw70.trans (hnw71.mono hbw70.size)
    refine hK.out _ _ (HKS.out _ hbw71) (fun hS => ?_)
    clear hK KN
    try simp only [Act.put, List.setIfInBounds_toArray, List.set_cons_zero, List.set_cons_succ]
    refine wpAnyH_take (i := 4) (v := .int .i64 2) rfl (by kernel_rfl) (by kernel_rfl) (by kernel_rfl) (fun _ _ _ h => h) (Or.inl ⟨by kernel_rfl, ?_⟩) hS ?_
    · intro w' hSw
      obtain ⟨s0, s1, s2, s3, s4, s5, s6, s7, s8⟩ := hSw
      go_simp
    try simp only [Act.put, List.setIfInBounds_toArray]
    refine wpAnyH_done (by kernel_rfl) ?_ _
    try simp only [List.setIfInBounds_toArray]
    try simp only [List.getElem_toArray, List.getElem_cons_succ, List.getElem_cons_zero, List.set_cons_zero, List.set_cons_succ]
    replace c0 := (hbw71.cell (cell_lt c0)).trans c0
    replace c1 := (hbw71.cell (cell_lt c1)).trans c1
    replace c2 := (hbw71.cell (cell_lt c2)).trans c2
    replace d0 := (hbw71.cell (cell_lt d0)).trans d0
    replace d1 := (hbw71.cell (cell_lt d1)).trans d1
    replace d2 := (hbw71.cell (cell_lt d2)).trans d2
    replace e0 := (hbw71.cell (cell_lt e0)).trans e0
    replace e1 := (hbw71.cell (cell_lt e1)).trans e1
    replace e2 := (hbw71.cell (cell_lt e2)).trans e2
    have HBw71 := Lib.hid (HBw62.out.trans (hbw71.mono HBw62.out.size))
    have HXw71 : Hid (Below W5.heap.size W5 w71) := Lib.hid (HXw62.out.trans (hbw71.mono HXw62.out.size))
    clear hS HKS hbd hdw70 hnw70 hbw70 hnw71 hbw71
    go_wp2_with fail
    have HKS : Hid (∀ w' : World, Below w71.heap.size w71 w' → (fun w' => w'.cell? ⟨w.heap.size, 0, none⟩ = some (.int .i64 2) ∧ w'.cell? ⟨w.heap.size, 1, none⟩ = some (.int .i64 0) ∧ w'.cell? ⟨w.heap.size, 2, none⟩ = some (.slice none 0 0) ∧ w'.cell? ⟨P2, 0, none⟩ = some (.int .i64 5) ∧ w'.cell? ⟨P2, 1, none⟩ = some (.int .i64 2) ∧ w'.cell? ⟨P2, 2, none⟩ = some (.slice (some ⟨P1, 0, none⟩) 1 1) ∧ w'.cell? ⟨P4, 0, none⟩ = some (.int .i64 3) ∧ w'.cell? ⟨P4, 1, none⟩ = some (.int .i64 0) ∧ w'.cell? ⟨P4, 2, none⟩ = some (.slice (some ⟨P3, 0, none⟩) 1 1)) w') := Lib.hid fun w' h => ⟨(h.cell (cell_lt c0)).trans c0, (h.cell (cell_lt c1)).trans c1, (h.cell (cell_lt c2)).trans c2, (h.cell (cell_lt d0)).trans d0, (h.cell (cell_lt d1)).trans d1, (h.cell (cell_lt d2)).trans d2, (h.cell (cell_lt e0)).trans e0, (h.cell (cell_lt e1)).trans e1, (h.cell (cell_lt e2)).trans e2⟩
    have hbd : Below w71.heap.size w71 w71.drew := (Below.refl _ w71).drew
    refine wp_region_held_drew (S := fun w' => w'.cell? ⟨w.heap.size, 0, none⟩ = some (.int .i64 2) ∧ w'.cell? ⟨w.heap.size, 1, none⟩ = some (.int .i64 0) ∧ w'.cell? ⟨w.heap.size, 2, none⟩ = some (.slice none 0 0) ∧ w'.cell? ⟨P2, 0, none⟩ = some (.int .i64 5) ∧ w'.cell? ⟨P2, 1, none⟩ = some (.int .i64 2) ∧ w'.cell? ⟨P2, 2, none⟩ = some (.slice (some ⟨P1, 0, none⟩) 1 1) ∧ w'.cell? ⟨P4, 0, none⟩ = some (.int .i64 3) ∧ w'.cell? ⟨P4, 1, none⟩ = some (.int .i64 0) ∧ w'.cell? ⟨P4, 2, none⟩ = some (.slice (some ⟨P3, 0, none⟩) 1 1)) (by kernel_rfl) (HKS.out _ hbd) (fun hS => ?_)
    simp only [List.size_toArray, List.length_cons, List.length_nil, Nat.reduceAdd]
    refine wpAnyH_take (i := 0) (v := .int .i64 0) rfl (by kernel_rfl) (by kernel_rfl) (by kernel_rfl) (fun _ _ _ h => h) (Or.inl ⟨by kernel_rfl, ?_⟩) hS ?_
    · intro w' hSw
      obtain ⟨s0, s1, s2, s3, s4, s5, s6, s7, s8⟩ := hSw
      go_simp
    try simp only [Act.put, List.setIfInBounds_toArray]
    refine wpAnyH_take (i := 1) (v := .bool true) rfl (by kernel_rfl) (by kernel_rfl) (by kernel_rfl) (fun _ _ _ h => h) (Or.inl ⟨by kernel_rfl, ?_⟩) hS ?_
    · intro w' hSw
      obtain ⟨s0, s1, s2, s3, s4, s5, s6, s7, s8⟩ := hSw
      go_simp
    try simp only [Act.put]
    refine wpAnyH_take (i := 2) (v := .bool true) rfl (by kernel_rfl) (by kernel_rfl) (by kernel_rfl) (fun _ _ _ h => h) (Or.inl ⟨by kernel_rfl, ?_⟩) hS ?_
    · intro w' hSw
      obtain ⟨s0, s1, s2, s3, s4, s5, s6, s7, s8⟩ := hSw
      go_simp
    try simp only [Act.put]
    refine wpAnyH_take (i := 3) (v := .int .i64 3) rfl (by kernel_rfl) (by kernel_rfl) (by kernel_rfl) (fun _ _ _ h => h) (Or.inl ⟨by kernel_rfl, ?_⟩) hS ?_
    · intro w' hSw
      obtain ⟨s0, s1, s2, s3, s4, s5, s6, s7, s8⟩ := hSw
      go_simp
    try simp only [Act.put]
    refine wpAnyH_take (i := 4) (v := .bool true) rfl (by kernel_rfl) (by kernel_rfl) (by kernel_rfl) (fun _ _ _ h => h) (Or.inl ⟨by kernel_rfl, ?_⟩) hS ?_
    · intro w' hSw
      obtain ⟨s0, s1, s2, s3, s4, s5, s6, s7, s8⟩ := hSw
      go_simp
    try simp only [Act.put]
    refine wpAnyH_take (i := 5) (v := .bool true) rfl (by kernel_rfl) (by kernel_rfl) (by kernel_rfl) (fun _ _ _ h => h) (Or.inl ⟨by kernel_rfl, ?_⟩) hS ?_
    · intro w' hSw
      obtain ⟨s0, s1, s2, s3, s4, s5, s6, s7, s8⟩ := hSw
      go_simp
    try simp only [Act.put]
    refine wpAnyH_take (i := 6) (v := .bool true) rfl (by kernel_rfl) (by kernel_rfl) (by kernel_rfl) (fun _ _ _ h => h) (Or.inl ⟨by kernel_rfl, ?_⟩) hS ?_
    · intro w' hSw
      obtain ⟨s0, s1, s2, s3, s4, s5, s6, s7, s8⟩ := hSw
      go_simp
    try simp only [Act.put]
    refine wpAnyH_take (i := 7) (v := .int .i64 0) rfl (by kernel_rfl) (by kernel_rfl) (by kernel_rfl) (fun _ _ _ h => h) (Or.inl ⟨by kernel_rfl, ?_⟩) hS ?_
    · intro w' hSw
      obtain ⟨s0, s1, s2, s3, s4, s5, s6, s7, s8⟩ := hSw
      go_simp
    try simp only [Act.put]
    refine wpAnyH_take (i := 8) (v := .bool true) rfl (by kernel_rfl) (by kernel_rfl) (by kernel_rfl) (fun _ _ _ h => h) (Or.inl ⟨by kernel_rfl, ?_⟩) hS ?_
    · intro w' hSw
      obtain ⟨s0, s1, s2, s3, s4, s5, s6, s7, s8⟩ := hSw
      go_simp
    try simp only [Act.put]
    refine wpAnyH_take (i := 9) (v := .bool true) rfl (by kernel_rfl) (by kernel_rfl) (by kernel_rfl) (fun _ _ _ h => h) (Or.inl ⟨by kernel_rfl, ?_⟩) hS ?_
    · intro w' hSw
      obtain ⟨s0, s1, s2, s3, s4, s5, s6, s7, s8⟩ := hSw
      go_simp
    try simp only [Act.put]
    refine wpAnyH_take (i := 10) (v := .bool true) rfl (by kernel_rfl) (by kernel_rfl) (by kernel_rfl) (fun _ _ _ h => h) (Or.inl ⟨by kernel_rfl, ?_⟩) hS ?_
    · intro w' hSw
      obtain ⟨s0, s1, s2, s3, s4, s5, s6, s7, s8⟩ := hSw
      go_simp
    try simp only [Act.put]
    refine wpAnyH_take (i := 11) (v := .int .i64 2) rfl (by kernel_rfl) (by kernel_rfl) (by kernel_rfl) (fun _ _ _ h => h) (Or.inl ⟨by kernel_rfl, ?_⟩) hS ?_
    · intro w' hSw
      obtain ⟨s0, s1, s2, s3, s4, s5, s6, s7, s8⟩ := hSw
      go_simp
    try simp only [Act.put]
    refine wpAnyH_take (i := 12) (v := .bool true) rfl (by kernel_rfl) (by kernel_rfl) (by kernel_rfl) (fun _ _ _ h => h) (Or.inl ⟨by kernel_rfl, ?_⟩) hS ?_
    · intro w' hSw
      obtain ⟨s0, s1, s2, s3, s4, s5, s6, s7, s8⟩ := hSw
      go_simp
    try simp only [Act.put]
    refine wpAnyH_take (i := 13) (v := .bool true) rfl (by kernel_rfl) (by kernel_rfl) (by kernel_rfl) (fun _ _ _ h => h) (Or.inl ⟨by kernel_rfl, ?_⟩) hS ?_
    · intro w' hSw
      obtain ⟨s0, s1, s2, s3, s4, s5, s6, s7, s8⟩ := hSw
      go_simp
    try simp only [Act.put]
    refine wpAnyH_take (i := 14) (v := .bool true) rfl (by kernel_rfl) (by kernel_rfl) (by kernel_rfl) (fun _ _ _ h => h) (Or.inl ⟨by kernel_rfl, ?_⟩) hS ?_
    · intro w' hSw
      obtain ⟨s0, s1, s2, s3, s4, s5, s6, s7, s8⟩ := hSw
      go_simp
    try simp only [Act.put]
    refine wpAnyH_take (i := 16) (v := .agg #[.int .i64 2, .int .i64 0, .slice none 0 0]) rfl (by kernel_rfl) (by kernel_rfl) (by kernel_rfl) (fun _ _ _ h => h) (Or.inl ⟨by kernel_rfl, ?_⟩) hS ?_
    · intro w' hSw
      obtain ⟨s0, s1, s2, s3, s4, s5, s6, s7, s8⟩ := hSw
      go_simp
    try simp only [Act.put]
    refine wpAnyH_ready (rs := [15]) (by kernel_rfl) (by simp) ?_
    refine AllReadyH.cons rfl (fun KN hK => ?_) AllReadyH.nil
    go_simp
    refine (vNatC _).mono ?_
    rintro e w80 ⟨q9, rfl, hdw80, hnw80⟩
    have hbw80 := hbd.trans (hnw80.mono hbd.size)
    refine hK.out _ _ (HKS.out _ hbw80) (fun hS => ?_)
    clear hK KN
    try simp only [Act.put, List.setIfInBounds_toArray, List.set_cons_zero, List.set_cons_succ]
    refine wpAnyH_ready (rs := [17]) (by kernel_rfl) (by simp) ?_
    refine AllReadyH.cons rfl (fun KN hK => ?_) AllReadyH.nil
    go_simp
    refine (HTE.out _ q9 hdw80).mono ?_
    rintro e w81 ⟨rfl, hnw81⟩
    have hbw81 := hbw80.trans (hnw81.mono hbw80.size)
    refine hK.out _ _ (HKS.out _ hbw81) (fun hS => ?_)
    clear hK KN
    try simp only [Act.put, List.setIfInBounds_toArray, List.set_cons_zero, List.set_cons_succ]
    refine wpAnyH_take (i := 18) (v := .bool true) rfl (by kernel_rfl) (by kernel_rfl) (by kernel_rfl) (fun _ _ _ h => h) (Or.inl ⟨by kernel_rfl, ?_⟩) hS ?_
    · intro w' hSw
      obtain ⟨s0, s1, s2, s3, s4, s5, s6, s7, s8⟩ := hSw
      go_simp
    try simp only [Act.put, List.setIfInBounds_toArray]
    refine wpAnyH_take (i := 19) (v := .bool true) rfl (by kernel_rfl) (by kernel_rfl) (by kernel_rfl) (fun _ _ _ h => h) (Or.inl ⟨by kernel_rfl, ?_⟩) hS ?_
    · intro w' hSw
      obtain ⟨s0, s1, s2, s3, s4, s5, s6, s7, s8⟩ := hSw
      go_simp
    try simp only [Act.put]
    refine wpAnyH_take (i := 20) (v := .bool true) rfl (by kernel_rfl) (by kernel_rfl) (by kernel_rfl) (fun _ _ _ h => h) (Or.inl ⟨by kernel_rfl, ?_⟩) hS ?_
    · intro w' hSw
      obtain ⟨s0, s1, s2, s3, s4, s5, s6, s7, s8⟩ := hSw
      go_simp
    try simp only [Act.put]
    refine wpAnyH_done (by kernel_rfl) ?_ _
    try simp only [List.setIfInBounds_toArray]
    try simp only [List.getElem_toArray, List.getElem_cons_succ, List.getElem_cons_zero, List.setIfInBounds_toArray, List.set_cons_zero, List.set_cons_succ]
    have HBF := Lib.hid (HBw71.out.trans (hbw81.mono HBw71.out.size))
    clear hS HKS hbd hdw80 hnw80 hbw80 hnw81 hbw81
    go_wp2_with fail
    refine bodyPost_ret (v := .bool true) (by simp [results, Try.results12, go_sem]) rfl ?_
    exact ⟨rfl, HBF.out⟩
  · go_simp
    have hb41 : Below W5.heap.size W5 (W5.alloc (.cells #[.int .i64 5, .int .i64 1, .slice none 0 0] 26)).drew := ((Below.refl _ W5).alloc (Nat.le_refl _) _).drew
    refine hK.out _ _ (HKS.out _ hb41) (fun hS => ?_)
    clear hK KN
    try simp only [Act.put, List.setIfInBounds_toArray, List.set_cons_zero, List.set_cons_succ]
    have x41 : Box (W5.alloc (.cells #[.int .i64 5, .int .i64 1, .slice none 0 0] 26)).drew W5.heap.size 26 #[.int .i64 5, .int .i64 1, .slice none 0 0] := Box.drewI (Box.new _ _ _)
    obtain ⟨P9, hP9⟩ : ∃ p, W5.heap.size = p := ⟨_, rfl⟩
    rw [hP9] at x41
    try rw [hP9]
    clear hP9
    generalize (W5.alloc (.cells #[.int .i64 5, .int .i64 1, .slice none 0 0] 26)).drew = w41 at *
    refine wpAnyH_take (i := 3) (v := .agg #[.int .i64 5, .int .i64 2, .slice (some ⟨P9, 0, none⟩) 1 1]) rfl (by kernel_rfl) (by kernel_rfl) (by kernel_rfl) (fun _ _ _ h => h) (Or.inl ⟨by kernel_rfl, ?_⟩) hS ?_
    · intro w' hSw
      obtain ⟨s0, s1, s2, s3, s4, s5, s6, s7, s8⟩ := hSw
      go_simp
    try simp only [Act.put, List.setIfInBounds_toArray]
    refine wpAnyH_ready (rs := [0]) (by kernel_rfl) (by simp) ?_
    refine AllReadyH.cons rfl (fun KN hK => ?_) AllReadyH.nil
    go_simp
    refine (vNatC _).mono ?_
    rintro e w40 ⟨q4, rfl, hdw40, hnw40⟩
    have hbw40 := hb41.trans (hnw40.mono hb41.size)
    refine hK.out _ _ (HKS.out _ hbw40) (fun hS => ?_)
    clear hK KN
    try simp only [Act.put, List.setIfInBounds_toArray, List.set_cons_zero, List.set_cons_succ]
    replace x41 := x41.keep hnw40 x41.lt
    refine wpAnyH_ready (rs := [5]) (by kernel_rfl) (by simp) ?_
    refine AllReadyH.cons rfl (fun KN hK => ?_) AllReadyH.nil
    go_simp
    refine (HTA.out _ q4 P9 hdw40 x41).mono ?_
    rintro e w42 ⟨rfl, hnw42⟩
    have hbw42 := hbw40.trans (hnw42.mono hbw40.size)
    refine hK.out _ _ (HKS.out _ hbw42) (fun hS => ?_)
    clear hK KN
    try simp only [Act.put, List.setIfInBounds_toArray, List.set_cons_zero, List.set_cons_succ]
    refine wpAnyH_take (i := 6) (v := .int .i64 0) rfl (by kernel_rfl) (by kernel_rfl) (by kernel_rfl) (fun _ _ _ h => h) (Or.inl ⟨by kernel_rfl, ?_⟩) hS ?_
    · intro w' hSw
      obtain ⟨s0, s1, s2, s3, s4, s5, s6, s7, s8⟩ := hSw
      go_simp
    try simp only [Act.put, List.setIfInBounds_toArray]
    refine wpAnyH_done (by kernel_rfl) ?_ _
    try simp only [List.setIfInBounds_toArray]
    try simp only [List.getElem_toArray, List.getElem_cons_succ, List.getElem_cons_zero, List.set_cons_zero, List.set_cons_succ]
    replace c0 := (hbw42.cell (cell_lt c0)).trans c0
    replace c1 := (hbw42.cell (cell_lt c1)).trans c1
    replace c2 := (hbw42.cell (cell_lt c2)).trans c2
    replace d0 := (hbw42.cell (cell_lt d0)).trans d0
    replace d1 := (hbw42.cell (cell_lt d1)).trans d1
    replace d2 := (hbw42.cell (cell_lt d2)).trans d2
    replace e0 := (hbw42.cell (cell_lt e0)).trans e0
    replace e1 := (hbw42.cell (cell_lt e1)).trans e1
    replace e2 := (hbw42.cell (cell_lt e2)).trans e2
    have HBw42 := Lib.hid (HB.out.trans (hbw42.mono HB.out.size))
    have HXw42 : Hid (Below W5.heap.size W5 w42) := Lib.hid (hbw42)
    clear hS HKS hbd hb41 hdw40 hnw40 hbw40 x41 hnw42 hbw42
    go_wp2_with fail
    have HKS : Hid (∀ w' : World, Below w42.heap.size w42 w' → (fun w' => w'.cell? ⟨w.heap.size, 0, none⟩ = some (.int .i64 2) ∧ w'.cell? ⟨w.heap.size, 1, none⟩ = some (.int .i64 0) ∧ w'.cell? ⟨w.heap.size, 2, none⟩ = some (.slice none 0 0) ∧ w'.cell? ⟨P2, 0, none⟩ = some (.int .i64 5) ∧ w'.cell? ⟨P2, 1, none⟩ = some (.int .i64 2) ∧ w'.cell? ⟨P2, 2, none⟩ = some (.slice (some ⟨P1, 0, none⟩) 1 1) ∧ w'.cell? ⟨P4, 0, none⟩ = some (.int .i64 3) ∧ w'.cell? ⟨P4, 1, none⟩ = some (.int .i64 0) ∧ w'.cell? ⟨P4, 2, none⟩ = some (.slice (some ⟨P3, 0, none⟩) 1 1)) w') := Lib.hid fun w' h => ⟨(h.cell (cell_lt c0)).trans c0, (h.cell (cell_lt c1)).trans c1, (h.cell (cell_lt c2)).trans c2, (h.cell (cell_lt d0)).trans d0, (h.cell (cell_lt d1)).trans d1, (h.cell (cell_lt d2)).trans d2, (h.cell (cell_lt e0)).trans e0, (h.cell (cell_lt e1)).trans e1, (h.cell (cell_lt e2)).trans e2⟩
    have hbd : Below w42.heap.size w42 w42.drew := (Below.refl _ w42).drew
    refine wp_region_held_drew (S := fun w' => w'.cell? ⟨w.heap.size, 0, none⟩ = some (.int .i64 2) ∧ w'.cell? ⟨w.heap.size, 1, none⟩ = some (.int .i64 0) ∧ w'.cell? ⟨w.heap.size, 2, none⟩ = some (.slice none 0 0) ∧ w'.cell? ⟨P2, 0, none⟩ = some (.int .i64 5) ∧ w'.cell? ⟨P2, 1, none⟩ = some (.int .i64 2) ∧ w'.cell? ⟨P2, 2, none⟩ = some (.slice (some ⟨P1, 0, none⟩) 1 1) ∧ w'.cell? ⟨P4, 0, none⟩ = some (.int .i64 3) ∧ w'.cell? ⟨P4, 1, none⟩ = some (.int .i64 0) ∧ w'.cell? ⟨P4, 2, none⟩ = some (.slice (some ⟨P3, 0, none⟩) 1 1)) (by kernel_rfl) (HKS.out _ hbd) (fun hS => ?_)
    simp only [List.size_toArray, List.length_cons, List.length_nil, Nat.reduceAdd]
    refine wpAnyH_take (i := 1) (v := .agg #[.int .i64 5, .int .i64 2, .slice none 0 0]) rfl (by kernel_rfl) (by kernel_rfl) (by kernel_rfl) (fun _ _ _ h => h) (Or.inl ⟨by kernel_rfl, ?_⟩) hS ?_
    · intro w' hSw
      obtain ⟨s0, s1, s2, s3, s4, s5, s6, s7, s8⟩ := hSw
      go_simp
    try simp only [Act.put, List.setIfInBounds_toArray]
    refine wpAnyH_take (i := 2) (v := .agg #[.int .i64 2, .int .i64 0, .slice none 0 0]) rfl (by kernel_rfl) (by kernel_rfl) (by kernel_rfl) (fun _ _ _ h => h) (Or.inl ⟨by kernel_rfl, ?_⟩) hS ?_
    · intro w' hSw
      obtain ⟨s0, s1, s2, s3, s4, s5, s6, s7, s8⟩ := hSw
      go_simp
    try simp only [Act.put]
    refine wpAnyH_ready (rs := [0]) (by kernel_rfl) (by simp) ?_
    refine AllReadyH.cons rfl (fun KN hK => ?_) AllReadyH.nil
    go_simp
    refine (vNatC _).mono ?_
    rintro e w50 ⟨q5, rfl, hdw50, hnw50⟩
    have hbw50 := hbd.trans (hnw50.mono hbd.size)
    refine hK.out _ _ (HKS.out _ hbw50) (fun hS => ?_)
    clear hK KN
    try simp only [Act.put, List.setIfInBounds_toArray, List.set_cons_zero, List.set_cons_succ]
    refine wpAnyH_ready (rs := [3]) (by kernel_rfl) (by simp) ?_
    refine AllReadyH.cons rfl (fun KN hK => ?_) AllReadyH.nil
    go_simp
    refine (HTB.out _ q5 hdw50).mono ?_
    rintro e w51 ⟨rfl, hnw51⟩
    have hbw51 := hbw50.trans (hnw51.mono hbw50.size)
    refine hK.out _ _ (HKS.out _ hbw51) (fun hS => ?_)
    clear hK KN
    try simp only [Act.put, List.setIfInBounds_toArray, List.set_cons_zero, List.set_cons_succ]
    refine wpAnyH_take (i := 4) (v := .int .i64 3) rfl (by kernel_rfl) (by kernel_rfl) (by kernel_rfl) (fun _ _ _ h => h) (Or.inl ⟨by kernel_rfl, ?_⟩) hS ?_
    · intro w' hSw
      obtain ⟨s0, s1, s2, s3, s4, s5, s6, s7, s8⟩ := hSw
      go_simp
    try simp only [Act.put, List.setIfInBounds_toArray]
    refine wpAnyH_done (by kernel_rfl) ?_ _
    try simp only [List.setIfInBounds_toArray]
    try simp only [List.getElem_toArray, List.getElem_cons_succ, List.getElem_cons_zero, List.set_cons_zero, List.set_cons_succ]
    replace c0 := (hbw51.cell (cell_lt c0)).trans c0
    replace c1 := (hbw51.cell (cell_lt c1)).trans c1
    replace c2 := (hbw51.cell (cell_lt c2)).trans c2
    replace d0 := (hbw51.cell (cell_lt d0)).trans d0
    replace d1 := (hbw51.cell (cell_lt d1)).trans d1
    replace d2 := (hbw51.cell (cell_lt d2)).trans d2
    replace e0 := (hbw51.cell (cell_lt e0)).trans e0
    replace e1 := (hbw51.cell (cell_lt e1)).trans e1
    replace e2 := (hbw51.cell (cell_lt e2)).trans e2
    have HBw51 := Lib.hid (HBw42.out.trans (hbw51.mono HBw42.out.size))
    have HXw51 : Hid (Below W5.heap.size W5 w51) := Lib.hid (HXw42.out.trans (hbw51.mono HXw42.out.size))
    clear hS HKS hbd hdw50 hnw50 hbw50 hnw51 hbw51
    go_wp2_with fail
    have HKS : Hid (∀ w' : World, Below w51.heap.size w51 w' → (fun w' => w'.cell? ⟨w.heap.size, 0, none⟩ = some (.int .i64 2) ∧ w'.cell? ⟨w.heap.size, 1, none⟩ = some (.int .i64 0) ∧ w'.cell? ⟨w.heap.size, 2, none⟩ = some (.slice none 0 0) ∧ w'.cell? ⟨P2, 0, none⟩ = some (.int .i64 5) ∧ w'.cell? ⟨P2, 1, none⟩ = some (.int .i64 2) ∧ w'.cell? ⟨P2, 2, none⟩ = some (.slice (some ⟨P1, 0, none⟩) 1 1) ∧ w'.cell? ⟨P4, 0, none⟩ = some (.int .i64 3) ∧ w'.cell? ⟨P4, 1, none⟩ = some (.int .i64 0) ∧ w'.cell? ⟨P4, 2, none⟩ = some (.slice (some ⟨P3, 0, none⟩) 1 1)) w') := Lib.hid fun w' h => ⟨(h.cell (cell_lt c0)).trans c0, (h.cell (cell_lt c1)).trans c1, (h.cell (cell_lt c2)).trans c2, (h.cell (cell_lt d0)).trans d0, (h.cell (cell_lt d1)).trans d1, (h.cell (cell_lt d2)).trans d2, (h.cell (cell_lt e0)).trans e0, (h.cell (cell_lt e1)).trans e1, (h.cell (cell_lt e2)).trans e2⟩
    have hbd : Below w51.heap.size w51 w51.drew := (Below.refl _ w51).drew
    refine wp_region_held_drew (S := fun w' => w'.cell? ⟨w.heap.size, 0, none⟩ = some (.int .i64 2) ∧ w'.cell? ⟨w.heap.size, 1, none⟩ = some (.int .i64 0) ∧ w'.cell? ⟨w.heap.size, 2, none⟩ = some (.slice none 0 0) ∧ w'.cell? ⟨P2, 0, none⟩ = some (.int .i64 5) ∧ w'.cell? ⟨P2, 1, none⟩ = some (.int .i64 2) ∧ w'.cell? ⟨P2, 2, none⟩ = some (.slice (some ⟨P1, 0, none⟩) 1 1) ∧ w'.cell? ⟨P4, 0, none⟩ = some (.int .i64 3) ∧ w'.cell? ⟨P4, 1, none⟩ = some (.int .i64 0) ∧ w'.cell? ⟨P4, 2, none⟩ = some (.slice (some ⟨P3, 0, none⟩) 1 1)) (by kernel_rfl) (HKS.out _ hbd) (fun hS => ?_)
    simp only [List.size_toArray, List.length_cons, List.length_nil, Nat.reduceAdd]
    refine wpAnyH_take (i := 1) (v := .agg #[.int .i64 3, .int .i64 0, .slice (some ⟨P3, 0, none⟩) 1 1]) rfl (by kernel_rfl) (by kernel_rfl) (by kernel_rfl) (fun _ _ _ h => h) (Or.inl ⟨by kernel_rfl, ?_⟩) hS ?_
    · intro w' hSw
      obtain ⟨s0, s1, s2, s3, s4, s5, s6, s7, s8⟩ := hSw
      go_simp
    try simp only [Act.put, List.setIfInBounds_toArray]
    refine wpAnyH_ready (rs := [0]) (by kernel_rfl) (by simp) ?_
    refine AllReadyH.cons rfl (fun KN hK => ?_) AllReadyH.nil
    go_simp
    refine (vNatC _).mono ?_
    rintro e w60 ⟨q6, rfl, hdw60, hnw60⟩
    have hbw60 := hbd.trans (hnw60.mono hbd.size)
    refine hK.out _ _ (HKS.out _ hbw60) (fun hS => ?_)
    clear hK KN
    try simp only [Act.put, List.setIfInBounds_toArray, List.set_cons_zero, List.set_cons_succ]
    refine wpAnyH_ready (rs := [2]) (by kernel_rfl) (by simp) ?_
    refine AllReadyH.cons rfl (fun KN hK => ?_) AllReadyH.nil
    go_simp
    refine (vNatC _).mono ?_
    rintro e w61 ⟨q7, rfl, hdw61, hnw61⟩
    have hbw61 := hbw60.trans (hnw61.mono hbw60.size)
    refine hK.out _ _ (HKS.out _ hbw61) (fun hS => ?_)
    clear hK KN
    try simp only [Act.put, List.setIfInBounds_toArray, List.set_cons_zero, List.set_cons_succ]
    obtain ⟨bN, oN, sN, kN, hN, AN, nN, cN, eN, g9, g0, g1, g2, hrN⟩ := hdw61.at_ 2 _ rfl
    cases eN
    simp only [Nat.zero_add, Nat.reduceMul, Nat.reduceAdd] at g0 g1 g2
    have HRN := Lib.hid hrN
    clear hrN g9
    refine wpAnyH_take (i := 3) (v := .pointer (some ⟨q7, 8, none⟩)) rfl (by kernel_rfl) (by kernel_rfl) (by kernel_rfl) (fun _ _ _ h => h) (Or.inl ⟨by kernel_rfl, ?_⟩) hS ?_
    · intro w' hSw
      obtain ⟨s0, s1, s2, s3, s4, s5, s6, s7, s8⟩ := hSw
      go_simp
    try simp only [Act.put, List.setIfInBounds_toArray]
    refine wpAnyH_take (i := 4) (v := .pointer (some ⟨q7, 9, none⟩)) rfl (by kernel_rfl) (by kernel_rfl) (by kernel_rfl) (fun _ _ _ h => h) (Or.inl ⟨by kernel_rfl, ?_⟩) hS ?_
    · intro w' hSw
      obtain ⟨s0, s1, s2, s3, s4, s5, s6, s7, s8⟩ := hSw
      go_simp
    try simp only [Act.put]
    refine wpAnyH_ready (rs := [5]) (by kernel_rfl) (by simp) ?_
    refine AllReadyH.cons rfl (fun KN hK => ?_) AllReadyH.nil
    go_simp
    refine hK.out _ _ (HKS.out _ hbw61) (fun hS => ?_)
    clear hK KN
    try simp only [Act.put, List.setIfInBounds_toArray, List.set_cons_zero, List.set_cons_succ]
    refine wpAnyH_ready (rs := [6]) (by kernel_rfl) (by simp) ?_
    refine AllReadyH.cons rfl (fun KN hK => ?_) AllReadyH.nil
    go_simp
    refine (HTC.out _ q6 _ _ _ _ _ (HXw51.out.trans (hbw61.mono HXw51.out.size)) (hdw60.keep hnw61) HRN.out).mono ?_
    rintro e w62 ⟨rfl, hnw62⟩
    have hbw62 := hbw61.trans (hnw62.mono hbw61.size)
    refine hK.out _ _ (HKS.out _ hbw62) (fun hS => ?_)
    clear hK KN
    try simp only [Act.put, List.setIfInBounds_toArray, List.set_cons_zero, List.set_cons_succ]
    refine wpAnyH_take (i := 7) (v := .int .i64 0) rfl (by kernel_rfl) (by kernel_rfl) (by kernel_rfl) (fun _ _ _ h => h) (Or.inl ⟨by kernel_rfl, ?_⟩) hS ?_
    · intro w' hSw
      obtain ⟨s0, s1, s2, s3, s4, s5, s6, s7, s8⟩ := hSw
      go_simp
    try simp only [Act.put, List.setIfInBounds_toArray]
    refine wpAnyH_done (by kernel_rfl) ?_ _
    try simp only [List.setIfInBounds_toArray]
    try simp only [List.getElem_toArray, List.getElem_cons_succ, List.getElem_cons_zero, List.set_cons_zero, List.set_cons_succ]
    replace c0 := (hbw62.cell (cell_lt c0)).trans c0
    replace c1 := (hbw62.cell (cell_lt c1)).trans c1
    replace c2 := (hbw62.cell (cell_lt c2)).trans c2
    replace d0 := (hbw62.cell (cell_lt d0)).trans d0
    replace d1 := (hbw62.cell (cell_lt d1)).trans d1
    replace d2 := (hbw62.cell (cell_lt d2)).trans d2
    replace e0 := (hbw62.cell (cell_lt e0)).trans e0
    replace e1 := (hbw62.cell (cell_lt e1)).trans e1
    replace e2 := (hbw62.cell (cell_lt e2)).trans e2
    have HBw62 := Lib.hid (HBw51.out.trans (hbw62.mono HBw51.out.size))
    have HXw62 : Hid (Below W5.heap.size W5 w62) := Lib.hid (HXw51.out.trans (hbw62.mono HXw51.out.size))
    clear hS HKS hbd hdw60 hnw60 hbw60 hdw61 hnw61 hbw61 hnw62 hbw62 g0 g1 g2
    go_wp2_with fail
    have HKS : Hid (∀ w' : World, Below w62.heap.size w62 w' → (fun w' => w'.cell? ⟨w.heap.size, 0, none⟩ = some (.int .i64 2) ∧ w'.cell? ⟨w.heap.size, 1, none⟩ = some (.int .i64 0) ∧ w'.cell? ⟨w.heap.size, 2, none⟩ = some (.slice none 0 0) ∧ w'.cell? ⟨P2, 0, none⟩ = some (.int .i64 5) ∧ w'.cell? ⟨P2, 1, none⟩ = some (.int .i64 2) ∧ w'.cell? ⟨P2, 2, none⟩ = some (.slice (some ⟨P1, 0, none⟩) 1 1) ∧ w'.cell? ⟨P4, 0, none⟩ = some (.int .i64 3) ∧ w'.cell? ⟨P4, 1, none⟩ = some (.int .i64 0) ∧ w'.cell? ⟨P4, 2, none⟩ = some (.slice (some ⟨P3, 0, none⟩) 1 1)) w') := Lib.hid fun w' h => ⟨(h.cell (cell_lt c0)).trans c0, (h.cell (cell_lt c1)).trans c1, (h.cell (cell_lt c2)).trans c2, (h.cell (cell_lt d0)).trans d0, (h.cell (cell_lt d1)).trans d1, (h.cell (cell_lt d2)).trans d2, (h.cell (cell_lt e0)).trans e0, (h.cell (cell_lt e1)).trans e1, (h.cell (cell_lt e2)).trans e2⟩
    have hbd : Below w62.heap.size w62 w62.drew := (Below.refl _ w62).drew
    refine wp_region_held_drew (S := fun w' => w'.cell? ⟨w.heap.size, 0, none⟩ = some (.int .i64 2) ∧ w'.cell? ⟨w.heap.size, 1, none⟩ = some (.int .i64 0) ∧ w'.cell? ⟨w.heap.size, 2, none⟩ = some (.slice none 0 0) ∧ w'.cell? ⟨P2, 0, none⟩ = some (.int .i64 5) ∧ w'.cell? ⟨P2, 1, none⟩ = some (.int .i64 2) ∧ w'.cell? ⟨P2, 2, none⟩ = some (.slice (some ⟨P1, 0, none⟩) 1 1) ∧ w'.cell? ⟨P4, 0, none⟩ = some (.int .i64 3) ∧ w'.cell? ⟨P4, 1, none⟩ = some (.int .i64 0) ∧ w'.cell? ⟨P4, 2, none⟩ = some (.slice (some ⟨P3, 0, none⟩) 1 1)) (by kernel_rfl) (HKS.out _ hbd) (fun hS => ?_)
    simp only [List.size_toArray, List.length_cons, List.length_nil, Nat.reduceAdd]
    refine wpAnyH_take (i := 1) (v := .agg #[.int .i64 5, .int .i64 2, .slice (some ⟨P1, 0, none⟩) 1 1]) rfl (by kernel_rfl) (by kernel_rfl) (by kernel_rfl) (fun _ _ _ h => h) (Or.inl ⟨by kernel_rfl, ?_⟩) hS ?_
    · intro w' hSw
      obtain ⟨s0, s1, s2, s3, s4, s5, s6, s7, s8⟩ := hSw
      go_simp
    try simp only [Act.put, List.setIfInBounds_toArray]
    refine wpAnyH_take (i := 2) (v := .agg #[.int .i64 2, .int .i64 0, .slice none 0 0]) rfl (by kernel_rfl) (by kernel_rfl) (by kernel_rfl) (fun _ _ _ h => h) (Or.inl ⟨by kernel_rfl, ?_⟩) hS ?_
    · intro w' hSw
      obtain ⟨s0, s1, s2, s3, s4, s5, s6, s7, s8⟩ := hSw
      go_simp
    try simp only [Act.put]
    refine wpAnyH_ready (rs := [0]) (by kernel_rfl) (by simp) ?_
    refine AllReadyH.cons rfl (fun KN hK => ?_) AllReadyH.nil
    go_simp
    refine (vNatC _).mono ?_
    rintro e w70 ⟨q8, rfl, hdw70, hnw70⟩
    have hbw70 := hbd.trans (hnw70.mono hbd.size)
    refine hK.out _ _ (HKS.out _ hbw70) (fun hS => ?_)
    clear hK KN
    try simp only [Act.put, List.setIfInBounds_toArray, List.set_cons_zero, List.set_cons_succ]
    refine wpAnyH_ready (rs := [3]) (by kernel_rfl) (by simp) ?_
    refine AllReadyH.cons rfl (fun KN hK => ?_) AllReadyH.nil
    go_simp
    refine (HTD.out _ q8 (HXw62.out.trans (hbw70.mono HXw62.out.size)) hdw70).mono ?_
    rintro e w71 ⟨rfl, hnw71⟩
    have hbw71 := hbw70.trans (hnw71.mono hbw70.size)
    refine hK.out _ _ (HKS.out _ hbw71) (fun hS => ?_)
    clear hK KN
    try simp only [Act.put, List.setIfInBounds_toArray, List.set_cons_zero, List.set_cons_succ]
    refine wpAnyH_take (i := 4) (v := .int .i64 2) rfl (by kernel_rfl) (by kernel_rfl) (by kernel_rfl) (fun _ _ _ h => h) (Or.inl ⟨by kernel_rfl, ?_⟩) hS ?_
    · intro w' hSw
      obtain ⟨s0, s1, s2, s3, s4, s5, s6, s7, s8⟩ := hSw
      go_simp
    try simp only [Act.put, List.setIfInBounds_toArray]
    refine wpAnyH_done (by kernel_rfl) ?_ _
    try simp only [List.setIfInBounds_toArray]
    try simp only [List.getElem_toArray, List.getElem_cons_succ, List.getElem_cons_zero, List.set_cons_zero, List.set_cons_succ]
    replace c0 := (hbw71.cell (cell_lt c0)).trans c0
    replace c1 := (hbw71.cell (cell_lt c1)).trans c1
    replace c2 := (hbw71.cell (cell_lt c2)).trans c2
    replace d0 := (hbw71.cell (cell_lt d0)).trans d0
    replace d1 := (hbw71.cell (cell_lt d1)).trans d1
    replace d2 := (hbw71.cell (cell_lt d2)).trans d2
    replace e0 := (hbw71.cell (cell_lt e0)).trans e0
    replace e1 := (hbw71.cell (cell_lt e1)).trans e1
    replace e2 := (hbw71.cell (cell_lt e2)).trans e2
    have HBw71 := Lib.hid (HBw62.out.trans (hbw71.mono HBw62.out.size))
    have HXw71 : Hid (Below W5.heap.size W5 w71) := Lib.hid (HXw62.out.trans (hbw71.mono HXw62.out.size))
    clear hS HKS hbd hdw70 hnw70 hbw70 hnw71 hbw71
    go_wp2_with fail
    have HKS : Hid (∀ w' : World, Below w71.heap.size w71 w' → (fun w' => w'.cell? ⟨w.heap.size, 0, none⟩ = some (.int .i64 2) ∧ w'.cell? ⟨w.heap.size, 1, none⟩ = some (.int .i64 0) ∧ w'.cell? ⟨w.heap.size, 2, none⟩ = some (.slice none 0 0) ∧ w'.cell? ⟨P2, 0, none⟩ = some (.int .i64 5) ∧ w'.cell? ⟨P2, 1, none⟩ = some (.int .i64 2) ∧ w'.cell? ⟨P2, 2, none⟩ = some (.slice (some ⟨P1, 0, none⟩) 1 1) ∧ w'.cell? ⟨P4, 0, none⟩ = some (.int .i64 3) ∧ w'.cell? ⟨P4, 1, none⟩ = some (.int .i64 0) ∧ w'.cell? ⟨P4, 2, none⟩ = some (.slice (some ⟨P3, 0, none⟩) 1 1)) w') := Lib.hid fun w' h => ⟨(h.cell (cell_lt c0)).trans c0, (h.cell (cell_lt c1)).trans c1, (h.cell (cell_lt c2)).trans c2, (h.cell (cell_lt d0)).trans d0, (h.cell (cell_lt d1)).trans d1, (h.cell (cell_lt d2)).trans d2, (h.cell (cell_lt e0)).trans e0, (h.cell (cell_lt e1)).trans e1, (h.cell (cell_lt e2)).trans e2⟩
    have hbd : Below w71.heap.size w71 w71.drew := (Below.refl _ w71).drew
    refine wp_region_held_drew (S := fun w' => w'.cell? ⟨w.heap.size, 0, none⟩ = some (.int .i64 2) ∧ w'.cell? ⟨w.heap.size, 1, none⟩ = some (.int .i64 0) ∧ w'.cell? ⟨w.heap.size, 2, none⟩ = some (.slice none 0 0) ∧ w'.cell? ⟨P2, 0, none⟩ = some (.int .i64 5) ∧ w'.cell? ⟨P2, 1, none⟩ = some (.int .i64 2) ∧ w'.cell? ⟨P2, 2, none⟩ = some (.slice (some ⟨P1, 0, none⟩) 1 1) ∧ w'.cell? ⟨P4, 0, none⟩ = some (.int .i64 3) ∧ w'.cell? ⟨P4, 1, none⟩ = some (.int .i64 0) ∧ w'.cell? ⟨P4, 2, none⟩ = some (.slice (some ⟨P3, 0, none⟩) 1 1)) (by kernel_rfl) (HKS.out _ hbd) (fun hS => ?_)
    simp only [List.size_toArray, List.length_cons, List.length_nil, Nat.reduceAdd]
    refine wpAnyH_take (i := 0) (v := .int .i64 0) rfl (by kernel_rfl) (by kernel_rfl) (by kernel_rfl) (fun _ _ _ h => h) (Or.inl ⟨by kernel_rfl, ?_⟩) hS ?_
    · intro w' hSw
      obtain ⟨s0, s1, s2, s3, s4, s5, s6, s7, s8⟩ := hSw
      go_simp
    try simp only [Act.put, List.setIfInBounds_toArray]
    refine wpAnyH_take (i := 1) (v := .bool true) rfl (by kernel_rfl) (by kernel_rfl) (by kernel_rfl) (fun _ _ _ h => h) (Or.inl ⟨by kernel_rfl, ?_⟩) hS ?_
    · intro w' hSw
      obtain ⟨s0, s1, s2, s3, s4, s5, s6, s7, s8⟩ := hSw
      go_simp
    try simp only [Act.put]
    refine wpAnyH_take (i := 2) (v := .bool true) rfl (by kernel_rfl) (by kernel_rfl) (by kernel_rfl) (fun _ _ _ h => h) (Or.inl ⟨by kernel_rfl, ?_⟩) hS ?_
    · intro w' hSw
      obtain ⟨s0, s1, s2, s3, s4, s5, s6, s7, s8⟩ := hSw
      go_simp
    try simp only [Act.put]
    refine wpAnyH_take (i := 3) (v := .int .i64 3) rfl (by kernel_rfl) (by kernel_rfl) (by kernel_rfl) (fun _ _ _ h => h) (Or.inl ⟨by kernel_rfl, ?_⟩) hS ?_
    · intro w' hSw
      obtain ⟨s0, s1, s2, s3, s4, s5, s6, s7, s8⟩ := hSw
      go_simp
    try simp only [Act.put]
    refine wpAnyH_take (i := 4) (v := .bool true) rfl (by kernel_rfl) (by kernel_rfl) (by kernel_rfl) (fun _ _ _ h => h) (Or.inl ⟨by kernel_rfl, ?_⟩) hS ?_
    · intro w' hSw
      obtain ⟨s0, s1, s2, s3, s4, s5, s6, s7, s8⟩ := hSw
      go_simp
    try simp only [Act.put]
    refine wpAnyH_take (i := 5) (v := .bool true) rfl (by kernel_rfl) (by kernel_rfl) (by kernel_rfl) (fun _ _ _ h => h) (Or.inl ⟨by kernel_rfl, ?_⟩) hS ?_
    · intro w' hSw
      obtain ⟨s0, s1, s2, s3, s4, s5, s6, s7, s8⟩ := hSw
      go_simp
    try simp only [Act.put]
    refine wpAnyH_take (i := 6) (v := .bool true) rfl (by kernel_rfl) (by kernel_rfl) (by kernel_rfl) (fun _ _ _ h => h) (Or.inl ⟨by kernel_rfl, ?_⟩) hS ?_
    · intro w' hSw
      obtain ⟨s0, s1, s2, s3, s4, s5, s6, s7, s8⟩ := hSw
      go_simp
    try simp only [Act.put]
    refine wpAnyH_take (i := 7) (v := .int .i64 0) rfl (by kernel_rfl) (by kernel_rfl) (by kernel_rfl) (fun _ _ _ h => h) (Or.inl ⟨by kernel_rfl, ?_⟩) hS ?_
    · intro w' hSw
      obtain ⟨s0, s1, s2, s3, s4, s5, s6, s7, s8⟩ := hSw
      go_simp
    try simp only [Act.put]
    refine wpAnyH_take (i := 8) (v := .bool true) rfl (by kernel_rfl) (by kernel_rfl) (by kernel_rfl) (fun _ _ _ h => h) (Or.inl ⟨by kernel_rfl, ?_⟩) hS ?_
    · intro w' hSw
      obtain ⟨s0, s1, s2, s3, s4, s5, s6, s7, s8⟩ := hSw
      go_simp
    try simp only [Act.put]
    refine wpAnyH_take (i := 9) (v := .bool true) rfl (by kernel_rfl) (by kernel_rfl) (by kernel_rfl) (fun _ _ _ h => h) (Or.inl ⟨by kernel_rfl, ?_⟩) hS ?_
    · intro w' hSw
      obtain ⟨s0, s1, s2, s3, s4, s5, s6, s7, s8⟩ := hSw
      go_simp
    try simp only [Act.put]
    refine wpAnyH_take (i := 10) (v := .bool true) rfl (by kernel_rfl) (by kernel_rfl) (by kernel_rfl) (fun _ _ _ h => h) (Or.inl ⟨by kernel_rfl, ?_⟩) hS ?_
    · intro w' hSw
      obtain ⟨s0, s1, s2, s3, s4, s5, s6, s7, s8⟩ := hSw
      go_simp
    try simp only [Act.put]
    refine wpAnyH_take (i := 11) (v := .int .i64 2) rfl (by kernel_rfl) (by kernel_rfl) (by kernel_rfl) (fun _ _ _ h => h) (Or.inl ⟨by kernel_rfl, ?_⟩) hS ?_
    · intro w' hSw
      obtain ⟨s0, s1, s2, s3, s4, s5, s6, s7, s8⟩ := hSw
      go_simp
    try simp only [Act.put]
    refine wpAnyH_take (i := 12) (v := .bool true) rfl (by kernel_rfl) (by kernel_rfl) (by kernel_rfl) (fun _ _ _ h => h) (Or.inl ⟨by kernel_rfl, ?_⟩) hS ?_
    · intro w' hSw
      obtain ⟨s0, s1, s2, s3, s4, s5, s6, s7, s8⟩ := hSw
      go_simp
    try simp only [Act.put]
    refine wpAnyH_take (i := 13) (v := .bool true) rfl (by kernel_rfl) (by kernel_rfl) (by kernel_rfl) (fun _ _ _ h => h) (Or.inl ⟨by kernel_rfl, ?_⟩) hS ?_
    · intro w' hSw
      obtain ⟨s0, s1, s2, s3, s4, s5, s6, s7, s8⟩ := hSw
      go_simp
    try simp only [Act.put]
    refine wpAnyH_take (i := 14) (v := .bool true) rfl (by kernel_rfl) (by kernel_rfl) (by kernel_rfl) (fun _ _ _ h => h) (Or.inl ⟨by kernel_rfl, ?_⟩) hS ?_
    · intro w' hSw
      obtain ⟨s0, s1, s2, s3, s4, s5, s6, s7, s8⟩ := hSw
      go_simp
    try simp only [Act.put]
    refine wpAnyH_take (i := 16) (v := .agg #[.int .i64 2, .int .i64 0, .slice none 0 0]) rfl (by kernel_rfl) (by kernel_rfl) (by kernel_rfl) (fun _ _ _ h => h) (Or.inl ⟨by kernel_rfl, ?_⟩) hS ?_
    · intro w' hSw
      obtain ⟨s0, s1, s2, s3, s4, s5, s6, s7, s8⟩ := hSw
      go_simp
    try simp only [Act.put]
    refine wpAnyH_ready (rs := [15]) (by kernel_rfl) (by simp) ?_
    refine AllReadyH.cons rfl (fun KN hK => ?_) AllReadyH.nil
    go_simp
    refine (vNatC _).mono ?_
    rintro e w80 ⟨q9, rfl, hdw80, hnw80⟩
    have hbw80 := hbd.trans (hnw80.mono hbd.size)
    refine hK.out _ _ (HKS.out _ hbw80) (fun hS => ?_)
    clear hK KN
    try simp only [Act.put, List.setIfInBounds_toArray, List.set_cons_zero, List.set_cons_succ]
    refine wpAnyH_ready (rs := [17]) (by kernel_rfl) (by simp) ?_
    refine AllReadyH.cons rfl (fun KN hK => ?_) AllReadyH.nil
    go_simp
    refine (HTE.out _ q9 hdw80).mono ?_
    rintro e w81 ⟨rfl, hnw81⟩
    have hbw81 := hbw80.trans (hnw81.mono hbw80.size)
    refine hK.out _ _ (HKS.out _ hbw81) (fun hS => ?_)
    clear hK KN
    try simp only [Act.put, List.setIfInBounds_toArray, List.set_cons_zero, List.set_cons_succ]
    refine wpAnyH_take (i := 18) (v := .bool true) rfl (by kernel_rfl) (by kernel_rfl) (by kernel_rfl) (fun _ _ _ h => h) (Or.inl ⟨by kernel_rfl, ?_⟩) hS ?_
    · intro w' hSw
      obtain ⟨s0, s1, s2, s3, s4, s5, s6, s7, s8⟩ := hSw
      go_simp
    try simp only [Act.put, List.setIfInBounds_toArray]
    refine wpAnyH_take (i := 19) (v := .bool true) rfl (by kernel_rfl) (by kernel_rfl) (by kernel_rfl) (fun _ _ _ h => h) (Or.inl ⟨by kernel_rfl, ?_⟩) hS ?_
    · intro w' hSw
      obtain ⟨s0, s1, s2, s3, s4, s5, s6, s7, s8⟩ := hSw
      go_simp
    try simp only [Act.put]
    refine wpAnyH_take (i := 20) (v := .bool true) rfl (by kernel_rfl) (by kernel_rfl) (by kernel_rfl) (fun _ _ _ h => h) (Or.inl ⟨by kernel_rfl, ?_⟩) hS ?_
    · intro w' hSw
      obtain ⟨s0, s1, s2, s3, s4, s5, s6, s7, s8⟩ := hSw
      go_simp
    try simp only [Act.put]
    refine wpAnyH_done (by kernel_rfl) ?_ _
    try simp only [List.setIfInBounds_toArray]
    try simp only [List.getElem_toArray, List.getElem_cons_succ, List.getElem_cons_zero, List.setIfInBounds_toArray, List.set_cons_zero, List.set_cons_succ]
    have HBF := Lib.hid (HBw71.out.trans (hbw81.mono HBw71.out.size))
    clear hS HKS hbd hdw80 hnw80 hbw80 hnw81 hbw81
    go_wp2_with fail
    refine bodyPost_ret (v := .bool true) (by simp [results, Try.results12, go_sem]) rfl ?_
    exact ⟨rfl, HBF.out⟩

end Go.Proofs.Ytigfhhfpdggjfaa
