/- Texts of one proof, put together. No statement is proved here. -/
import Derived.Test.YtbbjjdnnlnabaaaGreatPkA
import Derived.RangeFuncNested
import Derived.RangeFuncBound
import Derived.RangeFuncCalls
import Derived.RangeFuncLeaves
import Derived.Shelf.Abstract
import Derived.Shelf.RegionOpen
import Derived.OwnWalkIn
import Derived.TacticsInMore
import Derived.LoopNIn
import Derived.LoopIn
import Derived.Deep.CutRange
import Derived.Deep.RegionWith
namespace Go.Proofs.YtbbjjdnnlnabaaaGreat
open Go.ChangeShapes Go.WideShapes Go.ChangeAt Go.RowKit Go.Shelf
set_option linter.unusedVariables false
set_option linter.unusedSimpArgs false
set_option maxHeartbeats 4000000
set_option maxRecDepth 100000
attribute [local go_sem] Oper.semAt_some
structure Key where
  d : Int
  b : Int
  k : Int
  h : Int
  n : Nat
structure Nd where
  d : Int
  b : Int
  k : Int
  h : Int
  A : Option Addr
  n : Nat
  c : Nat
  hc : n ≤ c
  hm : c ≤ maxLen
def Nd.key (x : Nd) : Key := ⟨x.d, x.b, x.k, x.h, x.n⟩
def encN (x : Nd) : Array Value := #[.agg #[.int .i64 x.d, .int .i64 x.b], .agg #[.int .i64 x.k, .int .i64 x.h, .slice x.A x.n x.c]]
mutual
def flat : T → Int → Int → List Key
  | .node k h xs, d, b => ⟨d, b, k, h, xs.length⟩ :: flatL k xs.length xs 0 d b
def flatL (k : Int) (n : Nat) : List T → Nat → Int → Int → List Key
  | [], _, _, _ => []
  | t :: ts, i, d, b => flat t (wrap64 (d + 1)) (wrap64 (b + bd k n i)) ++ flatL k n ts (i + 1) d b
end
structure CK (n₀ : Nat) (W W' : World) : Prop where
  cells : ∀ (k : Nat) (o : Obj), k < n₀ → W.heap[k]? = some o → o.isCells = true → W'.heap[k]? = some o
structure KB (n₀ n₁ : Nat) (W W' : World) : Prop where
  size : W.heap.size ≤ W'.heap.size
  cells : ∀ (k : Nat) (o : Obj), (k < n₀ ∨ n₁ ≤ k) → W.heap[k]? = some o → o.isCells = true → W'.heap[k]? = some o
theorem KB.refl (n₀ n₁ : Nat) (W : World) : KB n₀ n₁ W W := ⟨Nat.le_refl _, fun _ _ _ h _ => h⟩
theorem KB.trans {n₀ n₁ : Nat} {A B C : World} (h : KB n₀ n₁ A B) (h' : KB n₀ n₁ B C) : KB n₀ n₁ A C :=
  ⟨Nat.le_trans h.size h'.size, fun k o hk ho hc => h'.cells k o hk (h.cells k o hk ho hc) hc⟩
theorem KB.of_below {n₀ n₁ : Nat} {A B : World} (h : Below A.heap.size A B) : KB n₀ n₁ A B :=
  ⟨h.size, fun k o _ ho _ => (h.block k (Array.getElem?_eq_some_iff.1 ho).1).trans ho⟩
theorem KB.box {n₀ n₁ : Nat} {A B : World} (h : KB n₀ n₁ A B) {b : Nat} {ty : TypeId} {cs : Array Value} (hb : Box A b ty cs) (hn : n₁ ≤ b) : Box B b ty cs :=
  h.cells b _ (.inr hn) hb rfl
theorem CK.kb {n₀ n₁ : Nat} {w0 A B : World} (h : CK n₀ w0 A) (h' : KB n₀ n₁ A B) : CK n₀ w0 B :=
  ⟨fun k o hk ho hc => h'.cells k o (.inl hk) (h.cells k o hk ho hc) hc⟩
theorem CK.of_below {w0 A : World} (h : Below w0.heap.size w0 A) : CK w0.heap.size w0 A :=
  ⟨fun k _ hk ho _ => (h.block k hk).trans ho⟩
theorem CK.cell {n₀ : Nat} {W W' : World} (h : CK n₀ W W') {a : Addr} {v : Value} (hn : a.block < n₀) (hc : W.cell? a = some v) : W'.cell? a = some v := by
  have hc0 := hc
  unfold World.cell? at hc
  split at hc
  · rename_i cs ty fz hh
    have := h.cells a.block _ hn hh rfl
    unfold World.cell? at hc0 ⊢
    rw [this]
    rw [hh] at hc0
    exact hc0
  · cases hc
theorem Box.two {w : World} {b : Nat} {ty : TypeId} {x y : Value} (h : Box w b ty #[x, y]) : w.cell? ⟨b, 0, none⟩ = some x ∧ w.cell? ⟨b, 1, none⟩ = some y :=
  ⟨h.cell 0, h.cell 1⟩
theorem yieldAny {m : Nat} (m' : Nat) {P : Program} {l : Nat} {args : Array Value} {W : World} {R : Ending → World → Prop} (h : YieldAt Fence.wide m P l args W R) : YieldAt Fence.wide m' P l args W R := by
  obtain ⟨fn, tmps, assign, body, hy, hR⟩ := h
  exact ⟨fn, tmps, assign, body, hy, hR.1, fun c cs _ => hR.2 c cs (room_wide _)⟩
/-! ### below, Binds -/
theorem boundC (k h : Int) (A : Option Addr) (n c : Nat) (hc : n ≤ c) (hm : c ≤ maxLen) (i : Nat) (hi : i ≤ maxLen) (w : World) :
    Calls Tryz.prog 89 #[.agg #[.int .i64 k, .int .i64 h, .slice A n c], .int .i64 i] w fun e w' => e = .returned (.int .i64 (bd k n i)) ∧ Below w.heap.size w w' := by
  unfold maxLen at hm hi
  have hb : Below w.heap.size w (w.alloc (.cells #[.int .i64 k, .int .i64 h, .slice A n c] 39)) := (Below.refl _ _).alloc (Nat.le_refl _) _
  by_cases h1 : k = 1
  · subst h1
    by_cases h2 : i + 1 = n
    · have e : ((i : Int) == (n : Int) - 1) = true := by rw [beq_iff_eq]; omega
      have E : bd 1 n i = 1 := by simp [bd, h2]
      have H2 := Lib.hid h2; clear h2
      go_enter Tryz.func89, Tryz.ntmps89
      go_wp2_with fail
      all_goals first | (go_ret; exact ⟨ret_int (by first | rw [E] | simp), hb⟩) | (exfalso; omega)
    · have e : ((i : Int) == (n : Int) - 1) = false := by rw [beq_eq_false_iff_ne]; omega
      have E : bd 1 n i = 0 := by simp [bd, h2]
      go_enter Tryz.func89, Tryz.ntmps89
      go_wp2_with fail
      all_goals first | (go_ret; exact ⟨ret_int (by first | rw [E] | simp), hb⟩) | (exfalso; omega)
  · by_cases h3 : k = 3
    · subst h3
      by_cases h2 : i + 1 = n
      · have e : ((i : Int) == (n : Int) - 1) = true := by rw [beq_iff_eq]; omega
        have E : bd 3 n i = 1 := by simp [bd, h2]
        have H2 := Lib.hid h2; clear h2
        go_enter Tryz.func89, Tryz.ntmps89
        go_wp2_with fail
        all_goals first | (go_ret; exact ⟨ret_int (by first | rw [E] | simp), hb⟩) | (exfalso; omega)
      · have e : ((i : Int) == (n : Int) - 1) = false := by rw [beq_eq_false_iff_ne]; omega
        have E : bd 3 n i = 0 := by simp [bd, h2]
        go_enter Tryz.func89, Tryz.ntmps89
        go_wp2_with fail
        all_goals first | (go_ret; exact ⟨ret_int (by first | rw [E] | simp), hb⟩) | (exfalso; omega)
    · have e1 : (k == 1) = false := by simpa using h1
      have e3 : (k == 3) = false := by simpa using h3
      have E : bd k n i = 0 := by simp [bd, h1, h3]
      go_enter Tryz.func89, Tryz.ntmps89
      go_wp2_with fail
      go_ret
      exact ⟨ret_int (by rw [E]), hb⟩
theorem Box.at {w : World} {b b' : Nat} {ty : TypeId} {cs : Array Value} (h : Box w b ty cs) (e : b = b') : Box w b' ty cs := e ▸ h
theorem Box.other {w : World} {b : Nat} {ty : TypeId} {cs : Array Value} (h : Box w b ty cs) {a : Addr} (hne : b ≠ a.block) (u : Value) : Box (w.setCell a u) b ty cs :=
  (Below.heap_setCell w a u b hne).trans h
theorem Box.setAt {w : World} {b : Nat} {ty : TypeId} {cs : Array Value} (h : Box w b ty cs) (i : Nat) (u : Value) : Box (w.setCell ⟨b, i, none⟩ u) b ty (cs.setIfInBounds i u) := by
  unfold Box at h ⊢
  simp [World.setCell, Array.getElem?_modify, h]
theorem belowC (k h : Int) (A : Option Addr) (n c : Nat) (hc : n ≤ c) (hm : c ≤ maxLen) (d b : Int) (hwb : wrap64 b = b) (i : Nat) (hi : i ≤ maxLen) (w : World) :
    Calls Tryz.prog 113 #[.agg #[.int .i64 k, .int .i64 h, .slice A n c], .agg #[.int .i64 d, .int .i64 b], .int .i64 i] w fun e w' =>
      e = .returned (.agg #[.int .i64 (wrap64 (d + 1)), .int .i64 (wrap64 (b + bd k n i))]) ∧ Below w.heap.size w w' := by
  have HBD := Lib.hid fun W => boundC k h A n c hc hm i hi W
  clear hc hm hi
  obtain ⟨W, hW⟩ : ∃ W, ((w.alloc (.cells #[.int .i64 k, .int .i64 h, .slice A n c] 39)).alloc (.cells #[.int .i64 (wrap64 (d + 1)), .int .i64 b] 111)).alloc (.cells #[.int .i64 0, .int .i64 0] 111) = W := ⟨_, rfl⟩
  have hb : Below w.heap.size w W := by rw [← hW]; exact (((Below.refl _ _).alloc (Nat.le_refl _) _).alloc (by simp) _).alloc (by simp; omega) _
  have x0 : Box W w.heap.size 39 #[.int .i64 k, .int .i64 h, .slice A n c] := by rw [← hW]; exact ((Box.new _ _ _).alloc _).alloc _
  have x1 : Box W (w.heap.size + 1) 111 #[.int .i64 (wrap64 (d + 1)), .int .i64 b] := by rw [← hW]; exact ((Box.new (w.alloc _) _ _).at (by simp)).alloc _
  have x2 : Box W (w.heap.size + 1 + 1) 111 #[.int .i64 0, .int .i64 0] := by rw [← hW]; exact (Box.new ((w.alloc _).alloc _) _ _).at (by simp)
  have HW := Lib.hid hW; clear hW
  have hwr1 : IntKind.i64.wrap (d + 1) = wrap64 (d + 1) := wrapEq _
  have hwr2 : IntKind.i64.wrap (b + bd k n i) = wrap64 (b + bd k n i) := wrapEq _
  generalize wrap64 (d + 1) = D at *
  generalize wrap64 (b + bd k n i) = B at *
  generalize bd k n i = β at *
  clear hwb
  go_enter Tryz.func113, Tryz.ntmps113
  go_wp2_with fail
  rw [HW.out]
  clear HW
  obtain ⟨a0, a1, a2⟩ := x0.three
  obtain ⟨c0, c1⟩ := x1.two
  have hcur : Below W.heap.size W W := Below.refl _ _
  go_region_with
    (go_at_call 89
     with_reducible refine (HBD.out _).mono ?_
     rintro e w8 ⟨rfl, hb1⟩
     replace hcur : Below W.heap.size W w8 := ((Below.refl W.heap.size W).drew).trans (hb1.mono (Nat.le_refl _))
     have x0' := x0.keep hcur x0.lt
     have x1' := x1.keep hcur x1.lt
     obtain ⟨c0', c1'⟩ := x1'.two
     have F4 := x1'.frozen 1
     clear hb1)
  all_goals
    have y1 := x1'.setAt 1 (.int .i64 B)
    have y2 := (x2.keep hcur x2.lt).other (a := ⟨w.heap.size + 1, 1, none⟩) (by dsimp only; omega) (.int .i64 B)
    have HB : Hid (Below w.heap.size w (w8.setCell ⟨w.heap.size + 1, 1, none⟩ (.int .i64 B))) := Lib.hid ((hb.trans (hcur.mono hb.size)).setCell (by dsimp only; omega) _)
    clear hcur x0' x1' c0 c1 c0' c1' a0 a1 a2 F4 x0 x1 x2
    generalize w8.setCell ⟨w.heap.size + 1, 1, none⟩ (.int .i64 B) = W9 at *
    obtain ⟨q0, q1⟩ := y1.two
    obtain ⟨r0, r1⟩ := y2.two
    have f0 := y2.frozen 0
    have f1 := y2.frozen 1
    go_wp2_with fail
    refine bodyPost_ret (v := .agg #[.int .i64 D, .int .i64 B]) ?_ rfl ⟨rfl, ?_⟩
    · simp [results, Tryz.results113, go_sem, r0, r1]
    · exact (HB.out.setCell (by dsimp only; omega) _).setCell (by dsimp only; omega) _
/-! ### visit -/
def VEnd (n₀ n₁ : Nat) (J Jx : List Nd → World → Prop) (pre : List Nd) (ks : List Key) (W : World) (e : Ending) (W' : World) : Prop :=
  (∃ ys, e = .returned (.bool true) ∧ ys.map Nd.key = ks ∧ J (pre ++ ys) W' ∧ KB n₀ n₁ W W') ∨
  (e = .returned (.bool false) ∧ ∃ q, q.map Nd.key <+: ks ∧ Jx (pre ++ q) W')
theorem VEnd.bool {n₀ n₁ : Nat} {J Jx : List Nd → World → Prop} {pre : List Nd} {ks : List Key} {W W' : World} {e : Ending} (h : VEnd n₀ n₁ J Jx pre ks W e W') :
    ∃ R : Bool, e = .returned (.bool R) ∧ VEnd n₀ n₁ J Jx pre ks W (.returned (.bool R)) W' := by
  rcases h with ⟨ys, rfl, h⟩ | ⟨rfl, h⟩
  · exact ⟨true, rfl, .inl ⟨ys, rfl, h⟩⟩
  · exact ⟨false, rfl, .inr ⟨rfl, h⟩⟩
theorem VEnd.from {n₀ n₁ : Nat} {J Jx : List Nd → World → Prop} {pre : List Nd} {ks : List Key} {W0 W W' : World} {e : Ending} (hk : KB n₀ n₁ W0 W) (h : VEnd n₀ n₁ J Jx pre ks W e W') :
    VEnd n₀ n₁ J Jx pre ks W0 e W' := by
  rcases h with ⟨ys, rfl, h1, h2, h3⟩ | h
  · exact .inl ⟨ys, rfl, h1, h2, hk.trans h3⟩
  · exact .inr h
theorem wrapTwice (x : Int) : wrap64 (wrap64 x) = wrap64 x := by unfold wrap64; omega
theorem visitC (w0 : World) (n₁ l N : Nat) (h01 : w0.heap.size ≤ n₁) (J Jx : List Nd → World → Prop) (hJ : ∀ s W W', J s W → Below W.heap.size W W' → J s W')
    (hY : ∀ m pre x W, J pre W → pre.length < N → YieldAt Fence.wide m Tryz.prog l (encN x) W fun e W' =>
      (e = .returned (.bool true) ∧ J (pre ++ [x]) W' ∧ KB w0.heap.size n₁ W W') ∨ (e = .returned (.bool false) ∧ Jx (pre ++ [x]) W')) (t : T) :
    ∀ (d b : Int) (v : Value) (pre : List Nd) (W : World), Rd w0 t v → CK w0.heap.size w0 W → n₁ ≤ W.heap.size → wrap64 b = b → J pre W → pre.length + (flat t d b).length ≤ N →
      Calls Tryz.prog 101 #[v, .agg #[.int .i64 d, .int .i64 b], .func (.yield l) #[] #[]] W (VEnd w0.heap.size n₁ J Jx pre (flat t d b) W) := by
  induction t using T.ind with
  | step k h xs ih =>
    intro d b v pre W hv hck hn1 hwb hj hN
    obtain ⟨A, n, c, rfl, hk, hh, hn, hc, hm, hx⟩ := Rd_node.1 hv
    clear hv
    have hm' := hm
    unfold maxLen at hm
    have hN' := hN
    rw [flat, List.length_cons] at hN
    -- the world behind both boxes
    have hbW : Below W.heap.size W ((W.alloc (.cells #[.int .i64 k, .int .i64 h, .slice A n c] 39)).alloc (.cells #[.int .i64 d, .int .i64 b] 111)) :=
      ((Below.refl _ _).alloc (Nat.le_refl _) _).alloc (by simp) _
    obtain ⟨x, hxk, hxe⟩ : ∃ x : Nd, x.key = ⟨d, b, k, h, n⟩ ∧ encN x = #[.agg #[.int .i64 d, .int .i64 b], .agg #[.int .i64 k, .int .i64 h, .slice A n c]] := ⟨⟨d, b, k, h, A, n, c, hc, hm'⟩, rfl, rfl⟩
    obtain ⟨fn, tmps, assign, body, hy, hR⟩ := hY 0 pre x _ (hJ _ _ _ hj hbW) (by omega)
    rw [hxe] at hy
    have HXK := Lib.hid hxk; clear hxk hxe
    have HN := Lib.hid hn; clear hn
    have HX := Lib.hid hx; clear hx
    have IH := Lib.hid ih; clear ih
    have HJ := Lib.hid hJ; clear hJ
    have HY := Lib.hid hY; clear hY
    have HC := Lib.hid hck; clear hck
    have HW := Lib.hid hwb; clear hwb
    have HM := Lib.hid hm'; clear hm'
    have HJ0 := Lib.hid hj; clear hj
    refine (callsIn_wide (n := 1)).1 (callsIn_of_wp Tryz.func101 rfl trivial ?_ rfl)
    simp only [Tryz.ntmps101, List.size_toArray, List.length_cons, List.length_nil, Nat.reduceAdd, Nat.reduceSub, Array.replicate_succ, Array.replicate_zero, List.push_toArray, List.append_toArray, List.nil_append, List.cons_append]
    gi_wp2_with fail
    refine hR.mono ?_
    clear hR hy
    rintro e W3 (⟨rfl, hJ3, hk3⟩ | ⟨rfl, hJx3⟩)
    · have bx3 := hk3.box ((Box.new W _ _).alloc _) hn1
      have bx4 := hk3.box ((Box.new (W.alloc _) _ _).at (b' := W.heap.size + 1) (by simp)) (by omega)
      have hk3 := (KB.of_below hbW).trans hk3
      clear hbW
      obtain ⟨q0, q1, q2⟩ := bx3.three
      have HJ3 := Lib.hid hJ3; clear hJ3
      gi_wp2_with fail
      gi_loopw [17] (fun i wr => ∃ (j : Nat) (ys : List Nd), j ≤ n ∧ i = .int .i64 j ∧ Hid (ys.map Nd.key ++ flatL k n (xs.drop j) j d b = flat (.node k h xs) d b) ∧ J (pre ++ ys) wr ∧ KB w0.heap.size n₁ W wr ∧
        Box wr W.heap.size 39 #[.int .i64 k, .int .i64 h, .slice A n c] ∧ Box wr (W.heap.size + 1) 111 #[.int .i64 d, .int .i64 b]) (fun i _ => n - (intOf i).toNat)
      case atStart => exact ⟨0, [x], Nat.zero_le _, rfl, Lib.hid (by rw [flat]; simp [HXK.out, HN.out]), HJ3.out, hk3, bx3, bx4⟩
      case round =>
        obtain ⟨j, ys, hj, rfl, HS, hJr, hkr, by3, by4⟩ := hrel
        clear q0 q1 q2
        obtain ⟨q0, q1, q2⟩ := by3.three
        obtain ⟨r0, r1⟩ := by4.two
        by_cases hlt : j < n
        · obtain ⟨t, ht⟩ := at_of HN.out hlt
          obtain ⟨b', o, k2, h2, A2, n2, c2', rfl, c0, c1, c2, hr⟩ := (HX.out j t ht).full
          have HC' := Lib.hid (HC.out.kb hkr)
          have c0 := HC'.out.cell (cell_lt c0) c0
          have c1 := HC'.out.cell (cell_lt c1) c1
          have c2 := HC'.out.cell (cell_lt c2) c2
          have HT := Lib.hid ht; clear ht
          refine wpIn_wide.2 ?_
          go_wp2_with fail
          have hlt3 := by4.lt
          have HS' := HS.out
          rw [drop_at HT.out, flatL] at HS'
          have HS := Lib.hid HS'; clear HS'
          have hlen : (pre ++ ys).length + (flat t (wrap64 (d + 1)) (wrap64 (b + bd k n j))).length ≤ N := by
            have := congrArg List.length HS.out
            simp only [List.length_append, List.length_map] at this
            simp only [List.length_append]
            omega
          have hz1 : n₁ ≤ wr.heap.size := Nat.le_trans hn1 hkr.size
          have HV : Hid (∀ w1, Below wr.heap.size wr w1 → Calls Tryz.prog 101 #[.agg #[.int .i64 k2, .int .i64 h2, .slice A2 n2 c2'], .agg #[.int .i64 (wrap64 (d + 1)), .int .i64 (wrap64 (b + bd k n j))], .func (.yield l) #[] #[]] w1
              fun e w2 => ∃ R : Bool, e = .returned (.bool R) ∧ VEnd w0.heap.size n₁ J Jx (pre ++ ys) (flat t (wrap64 (d + 1)) (wrap64 (b + bd k n j))) wr (.returned (.bool R)) w2) :=
            Lib.hid fun w1 hbw => (IH.out t (List.mem_of_getElem? HT.out) _ _ _ (pre ++ ys) w1 hr (HC'.out.kb (KB.of_below (n₁ := n₁) hbw)) (Nat.le_trans hz1 hbw.size) (wrapTwice _) (HJ.out _ _ _ hJr hbw) hlen).mono
              fun e w2 hv => (hv.from (KB.of_below hbw)).bool
          clear hlen
          have e3 := by3.alloc (.cells #[.int .i64 k2, .int .i64 h2, .slice A2 n2 c2'] 39)
          have e4 := by4.alloc (.cells #[.int .i64 k2, .int .i64 h2, .slice A2 n2 c2'] 39)
          have e8 := Box.new wr 39 #[.int .i64 k2, .int .i64 h2, .slice A2 n2 c2']
          have hbA : Below wr.heap.size wr (wr.alloc (.cells #[.int .i64 k2, .int .i64 h2, .slice A2 n2 c2'] 39)) := (Below.refl _ wr).alloc (Nat.le_refl _) _
          generalize wr.alloc (.cells #[.int .i64 k2, .int .i64 h2, .slice A2 n2 c2'] 39) = Wa at *
          clear q0 q1 q2 r0 r1 c0 c1 c2
          obtain ⟨q0, q1, q2⟩ := e3.three
          obtain ⟨r0, r1⟩ := e4.two
          obtain ⟨c0, c1, c2⟩ := e8.three
          have l3 := e3.lt
          have l4 := e4.lt
          have l8 := e8.lt
          have p0 := Past.cell c0
          have p1 := Past.cell c1
          have p2 := Past.cell c2
          have p3 := Past.cell q0
          have p4 := Past.cell q1
          have p5 := Past.cell q2
          have p6 := Past.cell r0
          have p7 := Past.cell r1
          refine wp_region_class_tail (C := fun w' => ∃ z : Past Wa, w' = z.wd) 6 (by kernel_rfl) (by kernel_rfl) ⟨⟨Wa.drew, (Below.refl _ _).drew⟩, rfl⟩ ?_
          simp only [List.take_succ_cons, List.take_zero, List.drop_succ_cons, List.drop_zero]
          repeat (go_big_quiet_step ((go_at_call 113; exact calls_past (belowC k h _ n c hc HM.out d b HW.out j (by unfold maxLen; omega) _))))
          refine wpQuiet_nil ?_
          rintro _ ⟨z, rfl⟩
          clear p0 p1 p2 p3 p4 p5 p6 p7
          obtain ⟨w1, hb1⟩ := z
          have hbw : Below wr.heap.size wr w1 := hbA.trans (hb1.mono hbA.size)
          have f3 := e3.keep hb1 l3
          have f4 := e4.keep hb1 l4
          dsimp only
          clear hb1
          go_wp2_with fail
          refine (HV.out _ hbw).mono ?_
          rintro e w2 ⟨R, rfl, hv⟩
          rcases hv with ⟨zs, hR, hks, hj2, hk2⟩ | ⟨hR, q, hq, hx2⟩
          · obtain rfl : R = true := by simpa using hR
            go_wp2_with fail
            go_roundw
            case rel =>
              refine ⟨j + 1, ys ++ zs, by omega, by go_num, Lib.hid ?_, by rw [← List.append_assoc]; exact hj2, hkr.trans hk2, hk2.box by3 (by omega), hk2.box by4 (by omega)⟩
              rw [← HS.out, List.map_append, hks, List.append_assoc]
            case measure => simp [intOf]; omega
          · obtain rfl : R = false := by simpa using hR
            go_wp2_with fail
            go_ret
            refine .inr ⟨rfl, ys ++ q, ?_, by rw [← List.append_assoc]; exact hx2⟩
            rw [← HS.out, List.map_append]
            obtain ⟨r, hr'⟩ := hq
            exact ⟨r ++ flatL k n (xs.drop (j + 1)) (j + 1) d b, by rw [← hr']; simp⟩
        · gi_wp2_with fail
          go_ret
          have HS' := HS.out
          rw [drop_all HN.out (by omega), flatL, List.append_nil] at HS'
          exact .inl ⟨ys, rfl, HS', hJr, hkr⟩
    · gi_wp2_with fail
      go_ret
      exact .inr ⟨rfl, [x], ⟨flatL k n xs 0 d b, by rw [flat]; simp [HXK.out, HN.out]⟩, hJx3⟩
end Go.Proofs.YtbbjjdnnlnabaaaGreat
namespace Go.Proofs.YtbbjjdnnlnabaaaGreat
open Go.ChangeShapes Go.WideShapes Go.ChangeAt Go.RowKit Go.Shelf
set_option linter.unusedVariables false
set_option linter.unusedSimpArgs false
set_option maxHeartbeats 2000000
set_option maxRecDepth 100000
attribute [local go_sem] Oper.semAt_some
theorem KB.putObj {n₀ n₁ : Nat} (W : World) (l : Nat) (o o' : Obj) (h : W.heap[l]? = some o) (hc : o.isCells = false) : KB n₀ n₁ W (W.putObj l o') := by
  refine ⟨by simp [World.putObj], fun k o2 _ hk hk2 => ?_⟩
  have hne : l ≠ k := by
    rintro rfl
    rw [h] at hk
    cases hk
    rw [hc] at hk2
    cases hk2
  simp only [World.putObj]
  rw [Array.getElem?_setIfInBounds_ne hne]
  exact hk
theorem Box.kept {W W' : World} {row : Option Nat} {B b : Nat} {ty : TypeId} {cs : Array Value} (h : Box W b ty cs) (hg : W.grownBy W' row) (hr : ∀ r, row = some r → B ≤ r ∧ ∃ o : Obj, W.heap[r]? = some o ∧ o.isCells = false) : Box W' b ty cs :=
  (hg.block b h.lt fun e => by
    obtain ⟨_, o, ho, hc⟩ := hr b e.symm
    rw [h] at ho
    cases ho
    cases hc).trans h
theorem grown_of_below {W W' : World} (h : Below W.heap.size W W') : W.grownBy W' none :=
  ⟨h.os, h.tape, h.output, h.size, fun k hk _ => h.block k hk⟩
theorem keepsFrom_of_below {B : Nat} {W W' : World} (h : Below W.heap.size W W') : KeepsFrom B W W' :=
  ⟨h.size, fun k _ _ hk _ => (h.block k (Array.getElem?_eq_some_iff.1 hk).1).trans hk⟩
theorem nodesC (k h : Int) (s : Value) (hs : ∃ A n c, s = .slice A n c) (w : World) :
    Calls Tryz.prog 80 #[.agg #[.int .i64 k, .int .i64 h, s]] w fun e w' => e = .returned (.func (.func 100) #[] #[.pointer (some ⟨w.heap.size, 0, none⟩)]) ∧ w' = w.alloc (.cells #[.int .i64 k, .int .i64 h, s] 39) := by
  obtain ⟨A, n, c, rfl⟩ := hs
  go_enter Tryz.func80, Tryz.ntmps80
  go_wp2_with fail
  go_ret
  exact ⟨rfl, rfl⟩
theorem nodesStops (m : Nat) (w0 w : World) (t : T) (k h : Int) (s : Value) (n₁ Bt : Nat) (hv : Rd w0 t (.agg #[.int .i64 k, .int .i64 h, s])) (hb : Below w0.heap.size w0 w) (h01 : w0.heap.size ≤ n₁) (hn : n₁ ≤ w.heap.size)
    (hB : Box w Bt 39 #[.int .i64 k, .int .i64 h, s]) :
    SeqStopsK Fence.wide m Tryz.prog 100 #[.pointer (some ⟨Bt, 0, none⟩)] encN (KB w0.heap.size n₁) (fun ys => ys.map Nd.key = flat t 1 0) (fun q => q.map Nd.key <+: flat t 1 0) (flat t 1 0).length w := by
  intro l J Jx W hW hJ hJx hY h0
  refine callsIn_wide.2 ?_
  obtain ⟨b0, b1, b2⟩ := (hB.keep hW hB.lt).three
  have hV := visitC w0 n₁ l (flat t 1 0).length h01 J Jx (fun s W W' hs hb => hJ s W W' none hs (grown_of_below hb) (fun r e => by cases e)) (fun m' pre x W1 hj hl => yieldAny m' (hY pre x W1 hj hl)) t 1 0 _ [] W hv
    (CK.of_below (hb.trans (hW.mono hb.size))) (Nat.le_trans hn hW.size) (by unfold wrap64; omega) h0 (by simp)
  have HV := Lib.hid hV; clear hV
  clear hY h0 hJ hJx hv
  go_enter Tryz.func100, Tryz.ntmps100
  go_wp2_with fail
  refine HV.out.mono ?_
  rintro e w1 (⟨ys, rfl, h1, h2, h3⟩ | ⟨rfl, q, h1, h2⟩)
  · go_wp2_with fail
    go_end0
    exact ⟨⟨_, rfl⟩, .inl ⟨ys, h1, by simpa using h2⟩⟩
  · go_wp2_with fail
    go_end0
    exact ⟨⟨_, rfl⟩, .inr ⟨q, h1, by simpa using h2⟩⟩
theorem below_kept {n B : Nat} {w A A' : World} {row : Option Nat} (h : Below n w A) (hg : A.grownBy A' row) (hr : ∀ r, row = some r → B ≤ r ∧ ∃ o : Obj, A.heap[r]? = some o ∧ o.isCells = false) (hn : n ≤ B) (hA : n ≤ A.heap.size) : Below n w A' :=
  h.grown hg hA fun k e => Nat.le_trans hn (hr k e).1
theorem below_putObj {n D : Nat} {w A : World} (h : Below n w A) (hn : n ≤ D) (o : Obj) : Below n w (A.putObj D o) :=
  h.trans ⟨rfl, rfl, rfl, by simp [World.putObj], fun k hk => by simp only [World.putObj]; rw [Array.getElem?_setIfInBounds_ne (by omega)]⟩
theorem len_of_keys {ys : List Nd} {ks : List Key} (h : ys.map Nd.key = ks) : ys.length = ks.length := by rw [← h, List.length_map]
theorem KB.setCell {n₀ n₁ : Nat} (W : World) (a : Addr) (v : Value) (h : n₀ ≤ a.block ∧ a.block < n₁) : KB n₀ n₁ W (W.setCell a v) :=
  ⟨by simp [World.setCell], fun k o hk ho _ => (Below.heap_setCell W a v k (by omega)).trans ho⟩
theorem Box.set {w : World} {b : Nat} {ty : TypeId} {v : Value} (u : Value) (h : Box w b ty #[v]) : Box (w.setCell ⟨b, 0, none⟩ u) b ty #[u] := by
  unfold Box at h ⊢
  simp [World.setCell, Array.getElem?_modify, h]
def cntW : Nat → Int
  | 0 => 0
  | n + 1 => wrap64 (cntW n + 1)
theorem termSize (t : T) (v : Value) (w : World) (hv : Rd w t v) :
    Calls Tryz.prog 105 #[v] w fun e w' => e = .returned (.int .i64 (cntW (flat t 1 0).length)) ∧ Below w.heap.size w w' := by
  obtain ⟨k, h, A, n, c, rfl⟩ := hv.full
  have HV := Lib.hid hv; clear hv
  refine (callsIn_wide (n := 8)).1 (callsIn_of_wp_marks Tryz.func105 rfl trivial ?_ rfl)
  simp only [Tryz.ntmps105, List.size_toArray, List.length_cons, List.length_nil, Nat.reduceAdd, Nat.reduceSub, Array.replicate_succ, Array.replicate_zero, List.push_toArray, List.append_toArray, List.nil_append, List.cons_append]
  gi_wp2_with (refine ⟨trivial, ?_⟩; gi_at_call 80; refine (callsIn_wide.2 (nodesC k h _ ⟨A, n, c, rfl⟩ _)).mono ?_; rintro e w' ⟨rfl, rfl⟩)
  have hbW : Below w.heap.size w (((w.alloc (.cells #[.int .i64 k, .int .i64 h, .slice A n c] 39)).alloc (.cells #[.int .i64 0] 3)).alloc (.cells #[.int .i64 k, .int .i64 h, .slice A n c] 39)) :=
    ((((Below.refl _ w).alloc (Nat.le_refl _) _).alloc (by simp) _).alloc (by simp; omega) _)
  have bx1 : Box (((w.alloc (.cells #[.int .i64 k, .int .i64 h, .slice A n c] 39)).alloc (.cells #[.int .i64 0] 3)).alloc (.cells #[.int .i64 k, .int .i64 h, .slice A n c] 39)) (w.heap.size + 1) 3 #[.int .i64 0] :=
    ((Box.new (w.alloc _) _ _).at (b' := w.heap.size + 1) (by simp)).alloc _
  have bx2 : Box (((w.alloc (.cells #[.int .i64 k, .int .i64 h, .slice A n c] 39)).alloc (.cells #[.int .i64 0] 3)).alloc (.cells #[.int .i64 k, .int .i64 h, .slice A n c] 39)) (w.heap.size + 1 + 1) 39 #[.int .i64 k, .int .i64 h, .slice A n c] :=
    (Box.new ((w.alloc _).alloc _) _ _).at (b' := w.heap.size + 1 + 1) (by simp)
  generalize (((w.alloc (.cells #[.int .i64 k, .int .i64 h, .slice A n c] 39)).alloc (.cells #[.int .i64 0] 3)).alloc (.cells #[.int .i64 k, .int .i64 h, .slice A n c] 39)) = W0 at *
  have hl := bx2.lt
  refine wpIn_rangeFunc_ownH rfl (by omega) (gf := 100) (lb := #[.pointer (some ⟨w.heap.size + 1 + 1, 0, none⟩)]) rfl trivial (enters_of Tryz.func100 (by kernel_rfl) rfl)
    (nodesStops 7 w W0 t k h _ (w.heap.size + 2) (w.heap.size + 1 + 1) HV.out hbW (by omega) (by omega) bx2) KB.trans (fun W l o o' _ h1 h2 _ => KB.putObj W l o o' h1 h2) (Below.refl _ _) (fun _ => rfl)
    (fun pre W => Box W (w.heap.size + 1) 3 #[.int .i64 (cntW pre.length)] ∧ Below w.heap.size w W) (fun _ _ _ => False)
    (fun s A B row hs hg hr => ⟨hs.1.kept hg hr, below_kept hs.2 hg hr (by omega) hs.2.size⟩) (fun _ _ _ _ _ hs _ _ => hs) ⟨bx1, hbW⟩
    (fun x a' _ => a' = { tmps := #[.agg #[.int .i64 k, .int .i64 h, .slice A n c], .pointer (some ⟨w.heap.size, 0, none⟩), .int .i64 0, .pointer (some ⟨w.heap.size + 1, 0, none⟩), .agg #[.int .i64 k, .int .i64 h, .slice A n c],
        .func (.func 100) #[] #[.pointer (some ⟨w.heap.size + 1 + 1, 0, none⟩)], .agg #[.int .i64 x.d, .int .i64 x.b], .agg #[.int .i64 x.k, .int .i64 x.h, .slice x.A x.n x.c], undef, undef, undef], defers := [] })
    (fun _ _ _ _ _ _ hs _ _ => hs) ?assign ?body ?done ?stop
  case assign =>
    rintro l pre x W K hi hK
    gi_wp2
    exact hK _ _ (KeepsFrom.refl _ _) (KB.refl _ _ _) hi (by simp [encN])
  case body =>
    rintro l pre x a' W hl ⟨r, hr⟩ ⟨hbx, hB⟩ rfl _
    have c0 := hbx.cell 0
    have f0 := hbx.frozen 0
    simp only [List.getElem?_toArray, List.getElem?_cons_zero] at c0
    gi_wp2
    exact ⟨(KeepsOthers.setCell _ _ _).from _, KB.setCell _ _ _ ⟨by dsimp only; omega, by dsimp only; omega⟩, by rw [List.length_append]; exact hbx.set _, hB.setCell (by dsimp only; omega) _⟩
  case done =>
    rintro D ys W hD hS ⟨hbx, hB⟩ hK
    have c0 := hbx.cell 0
    simp only [List.getElem?_toArray, List.getElem?_cons_zero] at c0
    gi_wp2
    refine ⟨by simp, .inl ⟨_, _, rfl, run_takeDeferred hK, ?_⟩⟩
    exact ⟨_, results_tmp rfl _ _ _, by rw [← len_of_keys hS]; rfl, below_putObj hB (by omega) _⟩
  case stop =>
    rintro D c pre W _ _ h _
    exact h.elim
end Go.Proofs.YtbbjjdnnlnabaaaGreat
namespace Go.Proofs.YtbbjjdnnlnabaaaGreat
open Go.ChangeShapes Go.WideShapes Go.ChangeAt Go.RowKit Go.Shelf
set_option linter.unusedVariables false
set_option linter.unusedSimpArgs false
set_option maxHeartbeats 1000000
attribute [local go_sem] Oper.semAt_some
def maxD (ks : List Key) : Int := ks.foldl (fun m x => if m < x.d then x.d else m) 0
/-! ### shaped, May -/
theorem shapedC (k h : Int) (A : Option Addr) (n c : Nat) (hc : n ≤ c) (hm : c ≤ maxLen) (w : World) :
    Calls Tryz.prog 81 #[.agg #[.int .i64 k, .int .i64 h, .slice A n c]] w fun e w' => e = .returned (.bool (okN k h n)) ∧ Below w.heap.size w w' := by
  unfold maxLen at hm
  have hb : Below w.heap.size w (w.alloc (.cells #[.int .i64 k, .int .i64 h, .slice A n c] 39)) := (Below.refl _ _).alloc (Nat.le_refl _) _
  have hcs : k = 0 ∨ k = 1 ∨ k = 3 ∨ (k ≠ 0 ∧ k ≠ 1 ∧ k ≠ 3) := by omega
  rcases hcs with rfl | rfl | rfl | ⟨k0, k1, k3⟩
  · by_cases h0 : h = 0
    · subst h0
      have E : okN 0 0 n = ((n : Int) == 0) := by simp only [okN]; rw [Bool.eq_iff_iff]; simp
      have HE := Lib.hid E; clear E
      go_enter Tryz.func81, Tryz.ntmps81
      go_wp2_with fail
      go_ret
      exact ⟨ret_bool HE.out.symm, hb⟩
    · have e0 : (h == 0) = false := by simpa using h0
      have E : okN 0 h n = false := by simp [okN, h0]
      have HE := Lib.hid E; clear E
      go_enter Tryz.func81, Tryz.ntmps81
      go_wp2_with fail
      go_ret
      exact ⟨ret_bool HE.out.symm, hb⟩
  · by_cases h0 : h = 0
    · subst h0
      have E : okN 1 0 n = ((n : Int) == 2) := by simp only [okN]; rw [Bool.eq_iff_iff]; simp; omega
      have HE := Lib.hid E; clear E
      go_enter Tryz.func81, Tryz.ntmps81
      go_wp2_with fail
      go_ret
      exact ⟨ret_bool HE.out.symm, hb⟩
    · have e0 : (h == 0) = false := by simpa using h0
      have E : okN 1 h n = false := by simp [okN, h0]
      have HE := Lib.hid E; clear E
      go_enter Tryz.func81, Tryz.ntmps81
      go_wp2_with fail
      go_ret
      exact ⟨ret_bool HE.out.symm, hb⟩
  · by_cases h0 : h = 0
    · subst h0
      have E : okN 3 0 n = ((n : Int) == 1) := by simp only [okN]; rw [Bool.eq_iff_iff]; simp; omega
      have HE := Lib.hid E; clear E
      go_enter Tryz.func81, Tryz.ntmps81
      go_wp2_with fail
      go_ret
      exact ⟨ret_bool HE.out.symm, hb⟩
    · have e0 : (h == 0) = false := by simpa using h0
      have E : okN 3 h n = false := by simp [okN, h0]
      have HE := Lib.hid E; clear E
      go_enter Tryz.func81, Tryz.ntmps81
      go_wp2_with fail
      go_ret
      exact ⟨ret_bool HE.out.symm, hb⟩
  · have e0 : (k == 0) = false := by simpa using k0
    have e1 : (k == 1) = false := by simpa using k1
    have e3 : (k == 3) = false := by simpa using k3
    have E : okN k h n = (decide (0 < k) && decide (k < 7) && decide (0 ≤ h)) := by
      simp only [okN]; rw [Bool.eq_iff_iff]; simp; omega
    have HE := Lib.hid E; clear E
    by_cases hp : 0 < k
    · have d1 : decide (0 < k) = true := by simpa using hp
      by_cases hq : k < 7
      · have d2 : decide (k < 7) = true := by simpa using hq
        clear k0 k1 k3
        go_enter Tryz.func81, Tryz.ntmps81
        go_wp2_with fail
        go_ret
        exact ⟨ret_bool (by rw [HE.out, d1, d2]; rfl), hb⟩
      · have d2 : decide (k < 7) = false := by simpa using hq
        clear k0 k1 k3
        go_enter Tryz.func81, Tryz.ntmps81
        go_wp2_with fail
        go_ret
        exact ⟨ret_bool (by rw [HE.out, d1, d2]; rfl), hb⟩
    · have d1 : decide (0 < k) = false := by simpa using hp
      clear k0 k1 k3
      go_enter Tryz.func81, Tryz.ntmps81
      go_wp2_with fail
      go_ret
      exact ⟨ret_bool (by rw [HE.out, d1]; rfl), hb⟩
def okK (x : Key) : Bool := decide (x.d ≤ 60) && okN x.k x.h x.n
def mayK (ks : List Key) : Bool := decide (ks.length ≤ 4000) && ks.all okK
theorem mayK_prefix {ks ls : List Key} (h : ks <+: ls) (hf : mayK ks = false) : mayK ls = false := by
  obtain ⟨r, rfl⟩ := h
  rw [Bool.eq_false_iff] at hf ⊢
  intro e
  apply hf
  simp only [mayK, List.length_append, List.all_append, Bool.and_eq_true, decide_eq_true_eq] at e ⊢
  exact ⟨by omega, e.2.1⟩
end Go.Proofs.YtbbjjdnnlnabaaaGreat
namespace Go.Proofs.YtbbjjdnnlnabaaaGreat
open Go.ChangeShapes Go.WideShapes Go.ChangeAt Go.RowKit Go.Shelf
set_option linter.unusedVariables false
set_option linter.unusedSimpArgs false
set_option maxRecDepth 100000
set_option maxHeartbeats 4000000
attribute [local go_sem] Oper.semAt_some
theorem Box.one {w : World} {b : Nat} {ty : TypeId} {x : Value} (h : Box w b ty #[x]) : w.cell? ⟨b, 0, none⟩ = some x ∧ w.frozen? ⟨b, 0, none⟩ = false := ⟨h.cell 0, h.frozen 0⟩
theorem mayK_snoc (ks : List Key) (x : Key) : mayK (ks ++ [x]) = (mayK ks && decide (ks.length < 4000) && okK x) := by
  simp only [mayK, List.length_append, List.all_append, List.length_cons, List.length_nil, List.all_cons, List.all_nil, Bool.and_true]
  rw [Bool.eq_iff_iff]
  simp only [Bool.and_eq_true, decide_eq_true_eq]
  constructor
  · rintro ⟨h1, h2, h3⟩; exact ⟨⟨⟨by omega, h2⟩, by omega⟩, h3⟩
  · rintro ⟨⟨⟨h1, h2⟩, h4⟩, h3⟩; exact ⟨by omega, h2, h3⟩
theorem termMay (t : T) (v : Value) (w : World) (hv : Rd w t v) :
    Calls Tryz.prog 59 #[v] w fun e w' => e = .returned (.bool (mayK (flat t 1 0))) ∧ Below w.heap.size w w' := by
  obtain ⟨k, h, A, n, c, rfl⟩ := hv.full
  have HV := Lib.hid hv; clear hv
  refine (callsIn_wide (n := 8)).1 (callsIn_of_wp_marks Tryz.func59 rfl trivial ?_ rfl)
  simp only [Tryz.ntmps59, List.size_toArray, List.length_cons, List.length_nil, Nat.reduceAdd, Nat.reduceSub, Array.replicate_succ, Array.replicate_zero, List.push_toArray, List.append_toArray, List.nil_append, List.cons_append]
  gi_wp2_with (refine ⟨trivial, ?_⟩; gi_at_call 80; refine (callsIn_wide.2 (nodesC k h _ ⟨A, n, c, rfl⟩ _)).mono ?_; rintro e w' ⟨rfl, rfl⟩)
  obtain ⟨W0, hW0⟩ : ∃ W0, ((((w.alloc (.cells #[.int .i64 k, .int .i64 h, .slice A n c] 39)).alloc (.cells #[.bool false] 4)).alloc (.cells #[.int .i64 0] 3)).alloc (.cells #[.int .i64 k, .int .i64 h, .slice A n c] 39)) = W0 := ⟨_, rfl⟩
  rw [hW0]
  have hbW : Below w.heap.size w W0 := by
    rw [← hW0]; exact ((((Below.refl _ w).alloc (Nat.le_refl _) _).alloc (by simp) _).alloc (by simp; omega) _).alloc (by simp; omega) _
  have bx1 : Box W0 (w.heap.size + 1) 4 #[.bool false] := by
    rw [← hW0]; exact (((Box.new (w.alloc _) _ _).at (b' := w.heap.size + 1) (by simp)).alloc _).alloc _
  have bx2 : Box W0 (w.heap.size + 1 + 1) 3 #[.int .i64 0] := by
    rw [← hW0]; exact ((Box.new ((w.alloc _).alloc _) _ _).at (b' := w.heap.size + 1 + 1) (by simp)).alloc _
  have bx3 : Box W0 (w.heap.size + 1 + 1 + 1) 39 #[.int .i64 k, .int .i64 h, .slice A n c] := by
    rw [← hW0]; exact (Box.new (((w.alloc _).alloc _).alloc _) _ _).at (b' := w.heap.size + 1 + 1 + 1) (by simp)
  clear hW0
  have hl := bx3.lt
  refine wpIn_rangeFunc_ownH rfl (by omega) (gf := 100) (lb := #[.pointer (some ⟨w.heap.size + 1 + 1 + 1, 0, none⟩)]) rfl trivial (enters_of Tryz.func100 (by kernel_rfl) rfl)
    (nodesStops 7 w W0 t k h _ (w.heap.size + 1 + 1 + 1) (w.heap.size + 1 + 1 + 1) HV.out hbW (by omega) (by omega) bx3) KB.trans (fun W l o o' _ h1 h2 _ => KB.putObj W l o o' h1 h2) (Below.refl _ _) (fun _ => rfl)
    (fun pre W => Box W (w.heap.size + 1) 4 #[.bool false] ∧ Box W (w.heap.size + 1 + 1) 3 #[.int .i64 (pre.length : Nat)] ∧ Hid (mayK (pre.map Nd.key) = true) ∧ Below w.heap.size w W)
    (fun cd pre W => cd = .ret ∧ Box W (w.heap.size + 1) 4 #[.bool false] ∧ Hid (mayK (pre.map Nd.key) = false) ∧ Below w.heap.size w W)
    (fun s A B row hs hg hr => ⟨hs.1.kept hg hr, hs.2.1.kept hg hr, hs.2.2.1, below_kept hs.2.2.2 hg hr (by omega) hs.2.2.2.size⟩)
    (fun _ s A B row hs hg hr => ⟨hs.1, hs.2.1.kept hg hr, hs.2.2.1, below_kept hs.2.2.2 hg hr (by omega) hs.2.2.2.size⟩) ⟨bx1, bx2, Lib.hid rfl, hbW⟩
    (fun x a' W => ∃ Bx By, w.heap.size + 1 + 1 + 1 ≤ Bx ∧ w.heap.size + 1 + 1 + 1 ≤ By ∧ Box W Bx 111 #[.int .i64 x.d, .int .i64 x.b] ∧ Box W By 39 #[.int .i64 x.k, .int .i64 x.h, .slice x.A x.n x.c] ∧
      a' = { tmps := #[.agg #[.int .i64 k, .int .i64 h, .slice A n c], .pointer (some ⟨w.heap.size, 0, none⟩), .pointer (some ⟨w.heap.size + 1, 0, none⟩), .pointer (some ⟨w.heap.size + 1 + 1, 0, none⟩), .pointer (some ⟨Bx, 0, none⟩), .pointer (some ⟨By, 0, none⟩), .agg #[.int .i64 k, .int .i64 h, .slice A n c],
        .func (.func 100) #[] #[.pointer (some ⟨w.heap.size + 1 + 1 + 1, 0, none⟩)], .agg #[.int .i64 x.d, .int .i64 x.b], .agg #[.int .i64 x.k, .int .i64 x.h, .slice x.A x.n x.c], undef, undef, undef, undef, undef, undef, undef, undef, undef, undef, undef, undef, undef, undef], defers := [] })
    (fun _ _ _ A B row hs hg hr => by obtain ⟨Bx, By, h1, h2, h3, h4, h5⟩ := hs; exact ⟨Bx, By, h1, h2, h3.kept hg hr, h4.kept hg hr, h5⟩) ?assign ?body ?done ?stop
  case assign =>
    rintro l pre x W K ⟨hb1, hb2, hM, hB⟩ hK
    have hz := hb2.lt
    have e := hB.size
    simp only [encN, List.zip_toArray, List.zip_cons_cons, List.zip_nil_right, List.foldl_toArray, List.foldl_cons, List.foldl_nil, List.setIfInBounds_toArray, List.set_cons_succ, List.set_cons_zero]
    gi_wp2
    have hbA : Below W.heap.size W ((W.alloc (.cells #[.int .i64 x.d, .int .i64 x.b] 111)).alloc (.cells #[.int .i64 x.k, .int .i64 x.h, .slice x.A x.n x.c] 39)) := ((Below.refl _ _).alloc (Nat.le_refl _) _).alloc (by simp) _
    exact hK _ _ (keepsFrom_of_below hbA) (KB.of_below hbA) ⟨(hb1.alloc _).alloc _, (hb2.alloc _).alloc _, hM, hB.trans (hbA.mono hB.size)⟩ ⟨W.heap.size, W.heap.size + 1, by omega, by omega, (Box.new _ _ _).alloc _, (Box.new (W.alloc _) _ _).at (by simp), rfl⟩
  case body =>
    rintro l pre x a' W hl ⟨r, hr⟩ ⟨hb1, hb2, hM, hB⟩ ⟨Bx, By, hBx, hBy, hbp, hbn, rfl⟩ _
    have hlen : pre.length ≤ 4000 := by have := hM.out; simp [mayK] at this; exact this.1
    have hsn := mayK_snoc (pre.map Nd.key) x.key
    rw [hM.out, List.length_map, Bool.true_and] at hsn
    have HSN : Hid (mayK ((pre ++ [x]).map Nd.key) = (decide (pre.length < 4000) && okK x.key)) := Lib.hid (by rw [List.map_append]; exact hsn)
    clear hsn
    obtain ⟨c1, f1⟩ := hb1.one
    obtain ⟨c2, f2⟩ := hb2.one
    have g1 := hb1.other (a := ⟨w.heap.size + 1 + 1, 0, none⟩) (by dsimp only; omega) (.int .i64 ((pre.length : Int) + 1))
    have g2 := hb2.set (.int .i64 ((pre.length : Int) + 1))
    have gp := hbp.other (a := ⟨w.heap.size + 1 + 1, 0, none⟩) (by dsimp only; omega) (.int .i64 ((pre.length : Int) + 1))
    have gn := hbn.other (a := ⟨w.heap.size + 1 + 1, 0, none⟩) (by dsimp only; omega) (.int .i64 ((pre.length : Int) + 1))
    have gB : Below w.heap.size w (W.setCell ⟨w.heap.size + 1 + 1, 0, none⟩ (.int .i64 ((pre.length : Int) + 1))) := hB.setCell (by dsimp only; omega) _
    have gK : KB w.heap.size (w.heap.size + 1 + 1 + 1) W (W.setCell ⟨w.heap.size + 1 + 1, 0, none⟩ (.int .i64 ((pre.length : Int) + 1))) := KB.setCell _ _ _ ⟨by dsimp only; omega, by dsimp only; omega⟩
    have gF : KeepsFrom W0.heap.size W (W.setCell ⟨w.heap.size + 1 + 1, 0, none⟩ (.int .i64 ((pre.length : Int) + 1))) := (KeepsOthers.setCell _ _ _).from _
    obtain ⟨p0, p1⟩ := hbp.two
    obtain ⟨q0, q1, q2⟩ := hbn.three
    have xc := x.hc
    have XM := Lib.hid x.hm
    by_cases h1 : pre.length < 4000
    · have d1 : decide ((4000 : Int) < (pre.length : Int) + 1) = false := by simp; omega
      have d1' : decide (pre.length < 4000) = true := by simpa using h1
      by_cases h2 : x.d ≤ 60
      · have d2 : decide (60 < x.d) = false := by simpa using h2
        have d2' : decide (x.d ≤ 60) = true := by simpa using h2
        have HR : Hid (mayK ((pre ++ [x]).map Nd.key) = okN x.k x.h x.n) := Lib.hid (by rw [HSN.out, d1']; show (true && (decide (x.d ≤ 60) && okN x.k x.h x.n)) = _; rw [d2']; simp)
        clear HSN d1' d2'
        gi_wp2_with (refine ⟨trivial, ?_⟩; gi_at_call 81; refine (CallsIn.inRound l (callsIn_wide.2 (shapedC x.k x.h x.A x.n x.c xc XM.out _))).mono ?_; generalize okN x.k x.h x.n = R at *; rintro e w1 ⟨rfl, hbs⟩; have s1 := g1.keep hbs g1.lt; have s2 := g2.keep hbs g2.lt; have sB := gB.trans (hbs.mono gB.size); have sK := gK.trans (KB.of_below hbs); have sF := gF.trans (keepsFrom_of_below (B := W0.heap.size) hbs); obtain ⟨t1, tf⟩ := s1.one; cases R)
        · exact ⟨sF.trans ((KeepsOthers.setCell _ _ _).from _), rfl, s1.set _, HR, sB.setCell (by dsimp only; omega) _⟩
        · exact ⟨sF, sK, s1, by rw [List.length_append]; exact s2, HR, sB⟩
      · have d2 : decide (60 < x.d) = true := by simpa using h2
        have HR : Hid (mayK ((pre ++ [x]).map Nd.key) = false) := Lib.hid (by rw [HSN.out, d1']; show (true && (decide (x.d ≤ 60) && okN x.k x.h x.n)) = _; rw [show decide (x.d ≤ 60) = false by simpa using h2]; simp)
        clear HSN d1'
        gi_wp2_with fail
        refine ⟨trivial, ?_⟩
        gi_wp2_with fail
        exact ⟨gF.trans ((KeepsOthers.setCell _ _ _).from _), rfl, g1.set _, HR, gB.setCell (by dsimp only; omega) _⟩
    · have d1 : decide ((4000 : Int) < (pre.length : Int) + 1) = true := by simp; omega
      have HR : Hid (mayK ((pre ++ [x]).map Nd.key) = false) := Lib.hid (by rw [HSN.out, show decide (pre.length < 4000) = false by simpa using h1]; rfl)
      clear HSN
      gi_wp2_with fail
      refine ⟨trivial, ?_⟩
      gi_wp2_with fail
      exact ⟨gF.trans ((KeepsOthers.setCell _ _ _).from _), rfl, g1.set _, HR, gB.setCell (by dsimp only; omega) _⟩
  case done =>
    rintro D ys W hD hS ⟨hb1, hb2, hM, hB⟩ hK
    obtain ⟨c1, f1⟩ := hb1.one
    gi_wp2
    have b1' := hb1.set (.bool true)
    have hK' := (KeepsOthers.setCell W ⟨w.heap.size + 1, 0, none⟩ (.bool true)).same D _ hK rfl
    have hB' := below_putObj (hB.setCell (p := ⟨w.heap.size + 1, 0, none⟩) (by dsimp only; omega) (.bool true)) (show w.heap.size ≤ D by omega) (.deferred none)
    have e := (b1'.kept (B := 0) (grownBy_putObj' _ D (.deferred none)) (fun r e => by cases e; exact ⟨Nat.zero_le _, _, hK', rfl⟩)).one
    refine ⟨by simp, .inl ⟨_, _, rfl, run_takeDeferred hK', ?_⟩⟩
    refine ⟨.bool true, by simp [results, Tryz.results59, go_sem, e.1], by rw [← hS, hM.out], hB'⟩
  case stop =>
    rintro D cd pre W hD hS ⟨rfl, hb1, hM, hB⟩ hK
    obtain ⟨c1, f1⟩ := hb1.one
    gi_wp2
    have hB' := below_putObj hB (show w.heap.size ≤ D by omega) (.deferred none)
    have e := (hb1.kept (B := 0) (grownBy_putObj' _ D (.deferred none)) (fun r e => by cases e; exact ⟨Nat.zero_le _, _, hK, rfl⟩)).one
    refine ⟨by simp, .inl ⟨_, _, rfl, run_takeDeferred hK, ?_⟩⟩
    exact ⟨.bool false, by simp [results, Tryz.results59, go_sem, e.1], by rw [mayK_prefix hS hM.out], hB'⟩
end Go.Proofs.YtbbjjdnnlnabaaaGreat
namespace Go.Proofs.YtbbjjdnnlnabaaaGreat
open Go.ChangeShapes Go.WideShapes Go.ChangeAt Go.RowKit Go.Shelf
set_option linter.unusedVariables false
set_option linter.unusedSimpArgs false
attribute [local go_sem] Oper.semAt_some
end Go.Proofs.YtbbjjdnnlnabaaaGreat
