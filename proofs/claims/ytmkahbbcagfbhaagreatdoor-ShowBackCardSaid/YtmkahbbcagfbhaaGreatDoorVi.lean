/-
  The walk through a term, node by node, as package term has it: a function to range over.
-/
import Derived.Test.YtmkahbbcagfbhaaGreatDoorRu
import Derived.Test.YtmkahbbcagfbhaaGreatDoorTail
import Derived.RangeFuncNested
import Derived.RangeFuncBound
import Derived.RangeFuncCalls
import Derived.RangeFuncLeaves
import Derived.Shelf.Abstract
import Derived.Shelf.RegionOpen
import Derived.OwnWalkIn
import Derived.TacticsInMore
import Derived.LoopNIn
import Derived.LoopIn
import Derived.Deep.CutRange
import Derived.Deep.RegionWith
namespace Go.Proofs.YtmkahbbcagfbhaaGreatDoor
open Go.ChangeShapes Go.WideShapes Go.ChangeAt Go.RowKit Go.Shelf
set_option linter.unusedVariables false

attribute [local go_sem] Oper.semAt_some

/-- what is told of one node: its place, its kind and head, how many Args -/
structure Key where
  d : Int
  b : Int
  k : Int
  h : Int
  n : Nat

/-- a node as it is handed over -/
structure Nd where
  d : Int
  b : Int
  k : Int
  h : Int
  A : Option Addr
  n : Nat
  c : Nat
  hc : n ≤ c
  hm : c ≤ maxLen

def Nd.key (x : Nd) : Key := ⟨x.d, x.b, x.k, x.h, x.n⟩
def encN (x : Nd) : Array Value := #[.agg #[.int .i64 x.d, .int .i64 x.b], .agg #[.int .i64 x.k, .int .i64 x.h, .slice x.A x.n x.c]]

mutual
def flat : T → Int → Int → List Key
  | .node k h xs, d, b => ⟨d, b, k, h, xs.length⟩ :: flatL k xs.length xs 0 d b
def flatL (k : Int) (n : Nat) : List T → Nat → Int → Int → List Key
  | [], _, _, _ => []
  | t :: ts, i, d, b => flat t (wrap64 (d + 1)) (wrap64 (b + bd k n i)) ++ flatL k n ts (i + 1) d b
end

/-- cells below n₀ are as they were -/
structure CK (n₀ : Nat) (W W' : World) : Prop where
  cells : ∀ (k : Nat) (o : Obj), k < n₀ → W.heap[k]? = some o → o.isCells = true → W'.heap[k]? = some o

/-- cells below n₀, and from n₁ on, are as they were -/
structure KB (n₀ n₁ : Nat) (W W' : World) : Prop where
  size : W.heap.size ≤ W'.heap.size
  cells : ∀ (k : Nat) (o : Obj), (k < n₀ ∨ n₁ ≤ k) → W.heap[k]? = some o → o.isCells = true → W'.heap[k]? = some o

theorem KB.refl (n₀ n₁ : Nat) (W : World) : KB n₀ n₁ W W := ⟨Nat.le_refl _, fun _ _ _ h _ => h⟩
theorem KB.trans {n₀ n₁ : Nat} {A B C : World} (h : KB n₀ n₁ A B) (h' : KB n₀ n₁ B C) : KB n₀ n₁ A C :=
  ⟨Nat.le_trans h.size h'.size, fun k o hk ho hc => h'.cells k o hk (h.cells k o hk ho hc) hc⟩
theorem KB.of_below {n₀ n₁ : Nat} {A B : World} (h : Below A.heap.size A B) : KB n₀ n₁ A B :=
  ⟨h.size, fun k o _ ho _ => (h.block k (Array.getElem?_eq_some_iff.1 ho).1).trans ho⟩
theorem KB.box {n₀ n₁ : Nat} {A B : World} (h : KB n₀ n₁ A B) {b : Nat} {ty : TypeId} {cs : Array Value} (hb : Box A b ty cs) (hn : n₁ ≤ b) : Box B b ty cs :=
  h.cells b _ (.inr hn) hb rfl
theorem CK.kb {n₀ n₁ : Nat} {w0 A B : World} (h : CK n₀ w0 A) (h' : KB n₀ n₁ A B) : CK n₀ w0 B :=
  ⟨fun k o hk ho hc => h'.cells k o (.inl hk) (h.cells k o hk ho hc) hc⟩
theorem CK.of_below {w0 A : World} (h : Below w0.heap.size w0 A) : CK w0.heap.size w0 A :=
  ⟨fun k _ hk ho _ => (h.block k hk).trans ho⟩
theorem CK.cell {n₀ : Nat} {W W' : World} (h : CK n₀ W W') {a : Addr} {v : Value} (hn : a.block < n₀) (hc : W.cell? a = some v) : W'.cell? a = some v := by
  have hc0 := hc
  unfold World.cell? at hc
  split at hc
  · rename_i cs ty fz hh
    have := h.cells a.block _ hn hh rfl
    unfold World.cell? at hc0 ⊢
    rw [this]
    rw [hh] at hc0
    exact hc0
  · cases hc
theorem Rd.ck {w w' : World} (hk : CK w.heap.size w w') : ∀ (t : T) (v : Value), Rd w t v → Rd w' t v := by
  refine T.ind fun k h xs ih v hv => ?_
  obtain ⟨A, n, c, rfl, h1, h2, h3, h4, h5, h6⟩ := Rd_node.1 hv
  refine Rd_node.2 ⟨A, n, c, rfl, h1, h2, h3, h4, h5, fun i t ht => ?_⟩
  obtain ⟨b, o, v0, v1, v2, rfl, c0, c1, c2, hr⟩ := h6 i t ht
  refine ⟨b, o, v0, v1, v2, rfl, hk.cell (cell_lt c0) c0, hk.cell (cell_lt c1) c1, hk.cell (cell_lt c2) c2, ih t (List.mem_of_getElem? ht) _ hr⟩

theorem Box.two {w : World} {b : Nat} {ty : TypeId} {x y : Value} (h : Box w b ty #[x, y]) : w.cell? ⟨b, 0, none⟩ = some x ∧ w.cell? ⟨b, 1, none⟩ = some y :=
  ⟨h.cell 0, h.cell 1⟩

theorem room_wideF (k : Nat) : Fence.wide.room k := room_wide k
theorem yieldAny {m : Nat} (m' : Nat) {P : Program} {l : Nat} {args : Array Value} {W : World} {R : Ending → World → Prop} (h : YieldAt Fence.wide m P l args W R) : YieldAt Fence.wide m' P l args W R := by
  obtain ⟨fn, tmps, assign, body, hy, hR⟩ := h
  exact ⟨fn, tmps, assign, body, hy, hR.1, fun c cs _ => hR.2 c cs (room_wide _)⟩

/-! ### below, Binds -/
set_option maxHeartbeats 400000 in
theorem boundC (k h : Int) (A : Option Addr) (n c : Nat) (hc : n ≤ c) (hm : c ≤ maxLen) (i : Nat) (hi : i ≤ maxLen) (w : World) :
    Calls Tryz.prog 107 #[.agg #[.int .i64 k, .int .i64 h, .slice A n c], .int .i64 i] w fun e w' => e = .returned (.int .i64 (bd k n i)) ∧ Below w.heap.size w w' := by
  unfold maxLen at hm hi
  have hb : Below w.heap.size w (w.alloc (.cells #[.int .i64 k, .int .i64 h, .slice A n c] 36)) := (Below.refl _ _).alloc (Nat.le_refl _) _
  by_cases h1 : k = 1
  · subst h1
    by_cases h2 : i + 1 = n
    · have e : ((i : Int) == (n : Int) - 1) = true := by rw [beq_iff_eq]; omega
      have E : bd 1 n i = 1 := by simp [bd, h2]
      have H2 := Lib.hid h2; clear h2
      go_enter Tryz.func107, Tryz.ntmps107
      go_wp2_with fail
      all_goals first | (go_ret; exact ⟨ret_int (by first | rw [E] | simp), hb⟩) | (exfalso; omega)
    · have e : ((i : Int) == (n : Int) - 1) = false := by rw [beq_eq_false_iff_ne]; omega
      have E : bd 1 n i = 0 := by simp [bd, h2]
      go_enter Tryz.func107, Tryz.ntmps107
      go_wp2_with fail
      all_goals first | (go_ret; exact ⟨ret_int (by first | rw [E] | simp), hb⟩) | (exfalso; omega)
  · by_cases h3 : k = 3
    · subst h3
      by_cases h2 : i + 1 = n
      · have e : ((i : Int) == (n : Int) - 1) = true := by rw [beq_iff_eq]; omega
        have E : bd 3 n i = 1 := by simp [bd, h2]
        have H2 := Lib.hid h2; clear h2
        go_enter Tryz.func107, Tryz.ntmps107
        go_wp2_with fail
        all_goals first | (go_ret; exact ⟨ret_int (by first | rw [E] | simp), hb⟩) | (exfalso; omega)
      · have e : ((i : Int) == (n : Int) - 1) = false := by rw [beq_eq_false_iff_ne]; omega
        have E : bd 3 n i = 0 := by simp [bd, h2]
        go_enter Tryz.func107, Tryz.ntmps107
        go_wp2_with fail
        all_goals first | (go_ret; exact ⟨ret_int (by first | rw [E] | simp), hb⟩) | (exfalso; omega)
    · have e1 : (k == 1) = false := by simpa using h1
      have e3 : (k == 3) = false := by simpa using h3
      have E : bd k n i = 0 := by simp [bd, h1, h3]
      go_enter Tryz.func107, Tryz.ntmps107
      go_wp2_with fail
      go_ret
      exact ⟨ret_int (by rw [E]), hb⟩

/-- the box that a world's last block but so many is -/
theorem Box.at {w : World} {b b' : Nat} {ty : TypeId} {cs : Array Value} (h : Box w b ty cs) (e : b = b') : Box w b' ty cs := e ▸ h

theorem Box.other {w : World} {b : Nat} {ty : TypeId} {cs : Array Value} (h : Box w b ty cs) {a : Addr} (hne : b ≠ a.block) (u : Value) : Box (w.setCell a u) b ty cs :=
  (Below.heap_setCell w a u b hne).trans h
theorem Box.setAt {w : World} {b : Nat} {ty : TypeId} {cs : Array Value} (h : Box w b ty cs) (i : Nat) (u : Value) : Box (w.setCell ⟨b, i, none⟩ u) b ty (cs.setIfInBounds i u) := by
  unfold Box at h ⊢
  simp [World.setCell, Array.getElem?_modify, h]
set_option maxHeartbeats 1000000 in
theorem belowC (k h : Int) (A : Option Addr) (n c : Nat) (hc : n ≤ c) (hm : c ≤ maxLen) (d b : Int) (hwb : wrap64 b = b) (i : Nat) (hi : i ≤ maxLen) (w : World) :
    Calls Tryz.prog 93 #[.agg #[.int .i64 k, .int .i64 h, .slice A n c], .agg #[.int .i64 d, .int .i64 b], .int .i64 i] w fun e w' =>
      e = .returned (.agg #[.int .i64 (wrap64 (d + 1)), .int .i64 (wrap64 (b + bd k n i))]) ∧ Below w.heap.size w w' := by
  have HBD := Lib.hid fun W => boundC k h A n c hc hm i hi W
  clear hc hm hi
  obtain ⟨W, hW⟩ : ∃ W, ((w.alloc (.cells #[.int .i64 k, .int .i64 h, .slice A n c] 36)).alloc (.cells #[.int .i64 (wrap64 (d + 1)), .int .i64 b] 93)).alloc (.cells #[.int .i64 0, .int .i64 0] 93) = W := ⟨_, rfl⟩
  have hb : Below w.heap.size w W := by rw [← hW]; exact (((Below.refl _ _).alloc (Nat.le_refl _) _).alloc (by simp) _).alloc (by simp; omega) _
  have x0 : Box W w.heap.size 36 #[.int .i64 k, .int .i64 h, .slice A n c] := by rw [← hW]; exact ((Box.new _ _ _).alloc _).alloc _
  have x1 : Box W (w.heap.size + 1) 93 #[.int .i64 (wrap64 (d + 1)), .int .i64 b] := by rw [← hW]; exact ((Box.new (w.alloc _) _ _).at (by simp)).alloc _
  have x2 : Box W (w.heap.size + 1 + 1) 93 #[.int .i64 0, .int .i64 0] := by rw [← hW]; exact (Box.new ((w.alloc _).alloc _) _ _).at (by simp)
  have HW := Lib.hid hW; clear hW
  have hwr1 : IntKind.i64.wrap (d + 1) = wrap64 (d + 1) := wrapEq _
  have hwr2 : IntKind.i64.wrap (b + bd k n i) = wrap64 (b + bd k n i) := wrapEq _
  generalize wrap64 (d + 1) = D at *
  generalize wrap64 (b + bd k n i) = B at *
  generalize bd k n i = β at *
  clear hwb
  go_enter Tryz.func93, Tryz.ntmps93
  go_wp2_with fail
  rw [HW.out]
  clear HW
  obtain ⟨a0, a1, a2⟩ := x0.three
  obtain ⟨c0, c1⟩ := x1.two
  have hcur : Below W.heap.size W W := Below.refl _ _
  go_region_with
    (go_at_call 107
     with_reducible refine (HBD.out _).mono ?_
     rintro e w8 ⟨rfl, hb1⟩
     replace hcur : Below W.heap.size W w8 := ((Below.refl W.heap.size W).drew).trans (hb1.mono (Nat.le_refl _))
     have x0' := x0.keep hcur x0.lt
     have x1' := x1.keep hcur x1.lt
     obtain ⟨c0', c1'⟩ := x1'.two
     have F4 := x1'.frozen 1
     clear hb1)
  all_goals
    have y1 := x1'.setAt 1 (.int .i64 B)
    have y2 := (x2.keep hcur x2.lt).other (a := ⟨w.heap.size + 1, 1, none⟩) (by dsimp only; omega) (.int .i64 B)
    have HB : Hid (Below w.heap.size w (w8.setCell ⟨w.heap.size + 1, 1, none⟩ (.int .i64 B))) := Lib.hid ((hb.trans (hcur.mono hb.size)).setCell (by dsimp only; omega) _)
    clear hcur x0' x1' c0 c1 c0' c1' a0 a1 a2 F4 x0 x1 x2
    generalize w8.setCell ⟨w.heap.size + 1, 1, none⟩ (.int .i64 B) = W9 at *
    obtain ⟨q0, q1⟩ := y1.two
    obtain ⟨r0, r1⟩ := y2.two
    have f0 := y2.frozen 0
    have f1 := y2.frozen 1
    go_wp2_with fail
    refine bodyPost_ret (v := .agg #[.int .i64 D, .int .i64 B]) ?_ rfl ⟨rfl, ?_⟩
    · simp [results, Tryz.results93, go_sem, r0, r1]
    · exact (HB.out.setCell (by dsimp only; omega) _).setCell (by dsimp only; omega) _
/-! ### visit -/
/-- how a visit may end -/
def VEnd (n₀ n₁ : Nat) (J Jx : List Nd → World → Prop) (pre : List Nd) (ks : List Key) (W : World) (e : Ending) (W' : World) : Prop :=
  (∃ ys, e = .returned (.bool true) ∧ ys.map Nd.key = ks ∧ J (pre ++ ys) W' ∧ KB n₀ n₁ W W') ∨
  (e = .returned (.bool false) ∧ ∃ q, q.map Nd.key <+: ks ∧ Jx (pre ++ q) W')

theorem VEnd.bool {n₀ n₁ : Nat} {J Jx : List Nd → World → Prop} {pre : List Nd} {ks : List Key} {W W' : World} {e : Ending} (h : VEnd n₀ n₁ J Jx pre ks W e W') :
    ∃ R : Bool, e = .returned (.bool R) ∧ VEnd n₀ n₁ J Jx pre ks W (.returned (.bool R)) W' := by
  rcases h with ⟨ys, rfl, h⟩ | ⟨rfl, h⟩
  · exact ⟨true, rfl, .inl ⟨ys, rfl, h⟩⟩
  · exact ⟨false, rfl, .inr ⟨rfl, h⟩⟩
theorem VEnd.from {n₀ n₁ : Nat} {J Jx : List Nd → World → Prop} {pre : List Nd} {ks : List Key} {W0 W W' : World} {e : Ending} (hk : KB n₀ n₁ W0 W) (h : VEnd n₀ n₁ J Jx pre ks W e W') :
    VEnd n₀ n₁ J Jx pre ks W0 e W' := by
  rcases h with ⟨ys, rfl, h1, h2, h3⟩ | h
  · exact .inl ⟨ys, rfl, h1, h2, hk.trans h3⟩
  · exact .inr h
theorem wrapTwice (x : Int) : wrap64 (wrap64 x) = wrap64 x := by unfold wrap64; omega

set_option maxRecDepth 100000 in
set_option maxHeartbeats 4000000 in
theorem visitC (w0 : World) (n₁ l N : Nat) (h01 : w0.heap.size ≤ n₁) (J Jx : List Nd → World → Prop) (hJ : ∀ s W W', J s W → Below W.heap.size W W' → J s W')
    (hY : ∀ m pre x W, J pre W → pre.length < N → YieldAt Fence.wide m Tryz.prog l (encN x) W fun e W' =>
      (e = .returned (.bool true) ∧ J (pre ++ [x]) W' ∧ KB w0.heap.size n₁ W W') ∨ (e = .returned (.bool false) ∧ Jx (pre ++ [x]) W')) (t : T) :
    ∀ (d b : Int) (v : Value) (pre : List Nd) (W : World), Rd w0 t v → CK w0.heap.size w0 W → n₁ ≤ W.heap.size → wrap64 b = b → J pre W → pre.length + (flat t d b).length ≤ N →
      Calls Tryz.prog 76 #[v, .agg #[.int .i64 d, .int .i64 b], .func (.yield l) #[] #[]] W (VEnd w0.heap.size n₁ J Jx pre (flat t d b) W) := by
  induction t using T.ind with
  | step k h xs ih =>
    intro d b v pre W hv hck hn1 hwb hj hN
    obtain ⟨A, n, c, rfl, hk, hh, hn, hc, hm, hx⟩ := Rd_node.1 hv
    clear hv
    have hm' := hm
    unfold maxLen at hm
    have hN' := hN
    rw [flat, List.length_cons] at hN
    -- the world behind both boxes
    have hbW : Below W.heap.size W ((W.alloc (.cells #[.int .i64 k, .int .i64 h, .slice A n c] 36)).alloc (.cells #[.int .i64 d, .int .i64 b] 93)) :=
      ((Below.refl _ _).alloc (Nat.le_refl _) _).alloc (by simp) _
    obtain ⟨x, hxk, hxe⟩ : ∃ x : Nd, x.key = ⟨d, b, k, h, n⟩ ∧ encN x = #[.agg #[.int .i64 d, .int .i64 b], .agg #[.int .i64 k, .int .i64 h, .slice A n c]] := ⟨⟨d, b, k, h, A, n, c, hc, hm'⟩, rfl, rfl⟩
    obtain ⟨fn, tmps, assign, body, hy, hR⟩ := hY 0 pre x _ (hJ _ _ _ hj hbW) (by omega)
    rw [hxe] at hy
    have HXK := Lib.hid hxk; clear hxk hxe
    have HN := Lib.hid hn; clear hn
    have HX := Lib.hid hx; clear hx
    have IH := Lib.hid ih; clear ih
    have HJ := Lib.hid hJ; clear hJ
    have HY := Lib.hid hY; clear hY
    have HC := Lib.hid hck; clear hck
    have HW := Lib.hid hwb; clear hwb
    have HM := Lib.hid hm'; clear hm'
    have HJ0 := Lib.hid hj; clear hj
    refine (callsIn_wide (n := 1)).1 (callsIn_of_wp Tryz.func76 rfl trivial ?_ rfl)
    simp only [Tryz.ntmps76, List.size_toArray, List.length_cons, List.length_nil, Nat.reduceAdd, Nat.reduceSub, Array.replicate_succ, Array.replicate_zero, List.push_toArray, List.append_toArray, List.nil_append, List.cons_append]
    gi_wp2_with fail
    refine hR.mono ?_
    clear hR hy
    rintro e W3 (⟨rfl, hJ3, hk3⟩ | ⟨rfl, hJx3⟩)
    · have bx3 := hk3.box ((Box.new W _ _).alloc _) hn1
      have bx4 := hk3.box ((Box.new (W.alloc _) _ _).at (b' := W.heap.size + 1) (by simp)) (by omega)
      have hk3 := (KB.of_below hbW).trans hk3
      clear hbW
      obtain ⟨q0, q1, q2⟩ := bx3.three
      have HJ3 := Lib.hid hJ3; clear hJ3
      gi_wp2_with fail
      gi_loopw [17] (fun i wr => ∃ (j : Nat) (ys : List Nd), j ≤ n ∧ i = .int .i64 j ∧ Hid (ys.map Nd.key ++ flatL k n (xs.drop j) j d b = flat (.node k h xs) d b) ∧ J (pre ++ ys) wr ∧ KB w0.heap.size n₁ W wr ∧
        Box wr W.heap.size 36 #[.int .i64 k, .int .i64 h, .slice A n c] ∧ Box wr (W.heap.size + 1) 93 #[.int .i64 d, .int .i64 b]) (fun i _ => n - (intOf i).toNat)
      case atStart => exact ⟨0, [x], Nat.zero_le _, rfl, Lib.hid (by rw [flat]; simp [HXK.out, HN.out]), HJ3.out, hk3, bx3, bx4⟩
      case round =>
        obtain ⟨j, ys, hj, rfl, HS, hJr, hkr, by3, by4⟩ := hrel
        clear q0 q1 q2
        obtain ⟨q0, q1, q2⟩ := by3.three
        obtain ⟨r0, r1⟩ := by4.two
        by_cases hlt : j < n
        · obtain ⟨t, ht⟩ := at_of HN.out hlt
          obtain ⟨b', o, k2, h2, A2, n2, c2', rfl, c0, c1, c2, hr⟩ := (HX.out j t ht).full
          have HC' := Lib.hid (HC.out.kb hkr)
          have c0 := HC'.out.cell (cell_lt c0) c0
          have c1 := HC'.out.cell (cell_lt c1) c1
          have c2 := HC'.out.cell (cell_lt c2) c2
          have HT := Lib.hid ht; clear ht
          refine wpIn_wide.2 ?_
          go_wp2_with fail
          have hlt3 := by4.lt
          have HS' := HS.out
          rw [drop_at HT.out, flatL] at HS'
          have HS := Lib.hid HS'; clear HS'
          have hlen : (pre ++ ys).length + (flat t (wrap64 (d + 1)) (wrap64 (b + bd k n j))).length ≤ N := by
            have := congrArg List.length HS.out
            simp only [List.length_append, List.length_map] at this
            simp only [List.length_append]
            omega
          have hz1 : n₁ ≤ wr.heap.size := Nat.le_trans hn1 hkr.size
          have HV : Hid (∀ w1, Below wr.heap.size wr w1 → Calls Tryz.prog 76 #[.agg #[.int .i64 k2, .int .i64 h2, .slice A2 n2 c2'], .agg #[.int .i64 (wrap64 (d + 1)), .int .i64 (wrap64 (b + bd k n j))], .func (.yield l) #[] #[]] w1
              fun e w2 => ∃ R : Bool, e = .returned (.bool R) ∧ VEnd w0.heap.size n₁ J Jx (pre ++ ys) (flat t (wrap64 (d + 1)) (wrap64 (b + bd k n j))) wr (.returned (.bool R)) w2) :=
            Lib.hid fun w1 hbw => (IH.out t (List.mem_of_getElem? HT.out) _ _ _ (pre ++ ys) w1 hr (HC'.out.kb (KB.of_below (n₁ := n₁) hbw)) (Nat.le_trans hz1 hbw.size) (wrapTwice _) (HJ.out _ _ _ hJr hbw) hlen).mono
              fun e w2 hv => (hv.from (KB.of_below hbw)).bool
          clear hlen
          have e3 := by3.alloc (.cells #[.int .i64 k2, .int .i64 h2, .slice A2 n2 c2'] 36)
          have e4 := by4.alloc (.cells #[.int .i64 k2, .int .i64 h2, .slice A2 n2 c2'] 36)
          have e8 := Box.new wr 36 #[.int .i64 k2, .int .i64 h2, .slice A2 n2 c2']
          have hbA : Below wr.heap.size wr (wr.alloc (.cells #[.int .i64 k2, .int .i64 h2, .slice A2 n2 c2'] 36)) := (Below.refl _ wr).alloc (Nat.le_refl _) _
          generalize wr.alloc (.cells #[.int .i64 k2, .int .i64 h2, .slice A2 n2 c2'] 36) = Wa at *
          clear q0 q1 q2 r0 r1 c0 c1 c2
          obtain ⟨q0, q1, q2⟩ := e3.three
          obtain ⟨r0, r1⟩ := e4.two
          obtain ⟨c0, c1, c2⟩ := e8.three
          have l3 := e3.lt
          have l4 := e4.lt
          have l8 := e8.lt
          have p0 := Past.cell c0
          have p1 := Past.cell c1
          have p2 := Past.cell c2
          have p3 := Past.cell q0
          have p4 := Past.cell q1
          have p5 := Past.cell q2
          have p6 := Past.cell r0
          have p7 := Past.cell r1
          refine wp_region_class_tail (C := fun w' => ∃ z : Past Wa, w' = z.wd) 6 (by kernel_rfl) (by kernel_rfl) ⟨⟨Wa.drew, (Below.refl _ _).drew⟩, rfl⟩ ?_
          simp only [List.take_succ_cons, List.take_zero, List.drop_succ_cons, List.drop_zero]
          repeat (go_big_quiet_step ((go_at_call 93; exact calls_past (belowC k h _ n c hc HM.out d b HW.out j (by unfold maxLen; omega) _))))
          refine wpQuiet_nil ?_
          rintro _ ⟨z, rfl⟩
          clear p0 p1 p2 p3 p4 p5 p6 p7
          obtain ⟨w1, hb1⟩ := z
          have hbw : Below wr.heap.size wr w1 := hbA.trans (hb1.mono hbA.size)
          have f3 := e3.keep hb1 l3
          have f4 := e4.keep hb1 l4
          dsimp only
          clear hb1
          go_wp2_with fail
          refine (HV.out _ hbw).mono ?_
          rintro e w2 ⟨R, rfl, hv⟩
          rcases hv with ⟨zs, hR, hks, hj2, hk2⟩ | ⟨hR, q, hq, hx2⟩
          · obtain rfl : R = true := by simpa using hR
            go_wp2_with fail
            go_roundw
            case rel =>
              refine ⟨j + 1, ys ++ zs, by omega, by go_num, Lib.hid ?_, by rw [← List.append_assoc]; exact hj2, hkr.trans hk2, hk2.box by3 (by omega), hk2.box by4 (by omega)⟩
              rw [← HS.out, List.map_append, hks, List.append_assoc]
            case measure => simp [intOf]; omega
          · obtain rfl : R = false := by simpa using hR
            go_wp2_with fail
            go_ret
            refine .inr ⟨rfl, ys ++ q, ?_, by rw [← List.append_assoc]; exact hx2⟩
            rw [← HS.out, List.map_append]
            obtain ⟨r, hr'⟩ := hq
            exact ⟨r ++ flatL k n (xs.drop (j + 1)) (j + 1) d b, by rw [← hr']; simp⟩
        · gi_wp2_with fail
          go_ret
          have HS' := HS.out
          rw [drop_all HN.out (by omega), flatL, List.append_nil] at HS'
          exact .inl ⟨ys, rfl, HS', hJr, hkr⟩
    · gi_wp2_with fail
      go_ret
      exact .inr ⟨rfl, [x], ⟨flatL k n xs 0 d b, by rw [flat]; simp [HXK.out, HN.out]⟩, hJx3⟩
end Go.Proofs.YtmkahbbcagfbhaaGreatDoor
