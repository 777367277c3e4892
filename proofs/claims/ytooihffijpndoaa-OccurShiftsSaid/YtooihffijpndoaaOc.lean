/-
  The walk through a term, node by node, as package occur has it: a function to range over.
-/
import Derived.Test.YtooihffijpndoaaOb
namespace Go.Proofs.Ytooihffijpndoaa
open Go.ChangeShapes Go.WideShapes Go.ChangeAt Go.RowKit Go.Shelf
set_option linter.unusedVariables false

attribute [local go_sem] Oper.semAt_some

/-- a node as it is handed over: how many nodes bind around it, and what it is -/
structure No (w0 : World) where
  b : Int
  k : Int
  h : Int
  A : Option Addr
  n : Nat
  c : Nat
  t : T
  hr : Rd w0 t (.agg #[.int .i64 k, .int .i64 h, .slice A n c])
  hn : n ≤ 3518437208780

def No.key {w0 : World} (x : No w0) : Int × T := (x.b, x.t)
def encO {w0 : World} (x : No w0) : Array Value := #[.int .i64 x.b, .agg #[.int .i64 x.k, .int .i64 x.h, .slice x.A x.n x.c]]

/-- how a visit may end -/
def OVEnd (w0 : World) (n₁ : Nat) (J Jx : List (No w0) → World → Prop) (pre : List (No w0)) (ks : List (Int × T)) (W : World) (e : Ending) (W' : World) : Prop :=
  (∃ ys, e = .returned (.bool true) ∧ ys.map No.key = ks ∧ J (pre ++ ys) W' ∧ KB w0.heap.size n₁ W W') ∨
  (e = .returned (.bool false) ∧ ∃ q, q.map No.key <+: ks ∧ Jx (pre ++ q) W')

theorem OVEnd.bool {w0 : World} {n₁ : Nat} {J Jx : List (No w0) → World → Prop} {pre : List (No w0)} {ks : List (Int × T)} {W W' : World} {e : Ending} (h : OVEnd w0 n₁ J Jx pre ks W e W') :
    ∃ R : Bool, e = .returned (.bool R) ∧ OVEnd w0 n₁ J Jx pre ks W (.returned (.bool R)) W' := by
  rcases h with ⟨ys, rfl, h⟩ | ⟨rfl, h⟩
  · exact ⟨true, rfl, .inl ⟨ys, rfl, h⟩⟩
  · exact ⟨false, rfl, .inr ⟨rfl, h⟩⟩
theorem OVEnd.from {w0 : World} {n₁ : Nat} {J Jx : List (No w0) → World → Prop} {pre : List (No w0)} {ks : List (Int × T)} {W0 W W' : World} {e : Ending} (hk : KB w0.heap.size n₁ W0 W) (h : OVEnd w0 n₁ J Jx pre ks W e W') :
    OVEnd w0 n₁ J Jx pre ks W0 e W' := by
  rcases h with ⟨ys, rfl, h1, h2, h3⟩ | h
  · exact .inl ⟨ys, rfl, h1, h2, hk.trans h3⟩
  · exact .inr h

set_option maxRecDepth 100000 in
set_option maxHeartbeats 4000000 in
theorem ovisitC (w0 : World) (n₁ l N : Nat) (h01 : w0.heap.size ≤ n₁) (J Jx : List (No w0) → World → Prop) (hJ : ∀ s W W', J s W → Below W.heap.size W W' → J s W')
    (hY : ∀ m pre x W, J pre W → pre.length < N → YieldAt Fence.wide m Try.prog l (encO x) W fun e W' =>
      (e = .returned (.bool true) ∧ J (pre ++ [x]) W' ∧ KB w0.heap.size n₁ W W') ∨ (e = .returned (.bool false) ∧ Jx (pre ++ [x]) W')) (t : T) :
    ∀ (b : Int) (v : Value) (pre : List (No w0)) (W : World), wd t ≤ 3518437208780 → Rd w0 t v → CK w0.heap.size w0 W → n₁ ≤ W.heap.size → wrap64 b = b → J pre W → pre.length + (nds t b).length ≤ N →
      Calls Try.prog 50 #[v, .int .i64 b, .func (.yield l) #[] #[]] W (OVEnd w0 n₁ J Jx pre (nds t b) W) := by
  induction t using T.ind with
  | step k h xs ih =>
    intro b v pre W hsz hv hck hn1 hwb hj hN
    obtain ⟨A, n, c, rfl, hk, hh, hn, hc, hm, hx⟩ := Rd_node.1 hv
    have hnn : n ≤ 3518437208780 := by rw [wd] at hsz; omega
    have hsx : ∀ t ∈ xs, wd t ≤ 3518437208780 := fun t ht => by rw [wd] at hsz; have := wd_mem ht; omega
    have HSX := Lib.hid hsx; clear hsx hsz
    have hm' := hm
    unfold maxLen at hm
    have hN' := hN
    rw [nds, List.length_cons] at hN
    have hbW : Below W.heap.size W (W.alloc (.cells #[.int .i64 k, .int .i64 h, .slice A n c] 24)) := (Below.refl _ _).alloc (Nat.le_refl _) _
    obtain ⟨x, hxk, hxe⟩ : ∃ x : No w0, x.key = (b, .node k h xs) ∧ encO x = #[.int .i64 b, .agg #[.int .i64 k, .int .i64 h, .slice A n c]] := ⟨⟨b, k, h, A, n, c, _, hv, hnn⟩, rfl, rfl⟩
    clear hnn
    obtain ⟨fn, tmps, assign, body, hy, hR⟩ := hY 0 pre x _ (hJ _ _ _ hj hbW) (by omega)
    rw [hxe] at hy
    clear hv
    have HXK := Lib.hid hxk; clear hxk hxe
    have HN := Lib.hid hn; clear hn
    have HX := Lib.hid hx; clear hx
    have IH := Lib.hid ih; clear ih
    have HJ := Lib.hid hJ; clear hJ
    have HY := Lib.hid hY; clear hY
    have HC := Lib.hid hck; clear hck
    have HW := Lib.hid hwb; clear hwb
    have HM := Lib.hid hm'; clear hm'
    have HJ0 := Lib.hid hj; clear hj
    refine (callsIn_wide (n := 1)).1 (callsIn_of_wp Try.func50 rfl trivial ?_ rfl)
    simp only [Try.ntmps50, List.size_toArray, List.length_cons, List.length_nil, Nat.reduceAdd, Nat.reduceSub, Array.replicate_succ, Array.replicate_zero, List.push_toArray, List.append_toArray, List.nil_append, List.cons_append]
    gi_wp2_with fail
    refine hR.mono ?_
    clear hR hy
    rintro e W3 (⟨rfl, hJ3, hk3⟩ | ⟨rfl, hJx3⟩)
    · have bx3 := hk3.box (Box.new W _ _) hn1
      have hk3 := (KB.of_below hbW).trans hk3
      clear hbW
      obtain ⟨q0, q1, q2⟩ := bx3.three
      have HJ3 := Lib.hid hJ3; clear hJ3
      gi_wp2_with fail
      gi_loopw [17] (fun i wr => ∃ (j : Nat) (ys : List (No w0)), j ≤ n ∧ i = .int .i64 j ∧ Hid (ys.map No.key ++ ndsL k n (xs.drop j) j b = nds (.node k h xs) b) ∧ J (pre ++ ys) wr ∧ KB w0.heap.size n₁ W wr ∧
        Box wr W.heap.size 24 #[.int .i64 k, .int .i64 h, .slice A n c]) (fun i _ => n - (intOf i).toNat)
      case atStart => exact ⟨0, [x], Nat.zero_le _, rfl, Lib.hid (by rw [nds]; simp [HXK.out, HN.out]), HJ3.out, hk3, bx3⟩
      case round =>
        obtain ⟨j, ys, hj, rfl, HS, hJr, hkr, by3⟩ := hrel
        clear q0 q1 q2
        obtain ⟨q0, q1, q2⟩ := by3.three
        by_cases hlt : j < n
        · obtain ⟨t, ht⟩ := at_of HN.out hlt
          obtain ⟨b', o, k2, h2, A2, n2, c2', rfl, c0, c1, c2, hr⟩ := (HX.out j t ht).full
          have HC' := Lib.hid (HC.out.kb hkr)
          have c0 := HC'.out.cell (cell_lt c0) c0
          have c1 := HC'.out.cell (cell_lt c1) c1
          have c2 := HC'.out.cell (cell_lt c2) c2
          have HT := Lib.hid ht; clear ht
          refine wpIn_wide.2 ?_
          go_wp2_with fail
          have hlt3 := by3.lt
          have HS' := HS.out
          rw [drop_at HT.out, ndsL] at HS'
          have HS := Lib.hid HS'; clear HS'
          have hlen : (pre ++ ys).length + (nds t (wrap64 (b + bd k n j))).length ≤ N := by
            have := congrArg List.length HS.out
            simp only [List.length_append, List.length_map] at this
            simp only [List.length_append]
            omega
          have hz1 : n₁ ≤ wr.heap.size := Nat.le_trans hn1 hkr.size
          have HV : Hid (∀ w1, Below wr.heap.size wr w1 → Calls Try.prog 50 #[.agg #[.int .i64 k2, .int .i64 h2, .slice A2 n2 c2'], .int .i64 (wrap64 (b + bd k n j)), .func (.yield l) #[] #[]] w1
              fun e w2 => ∃ R : Bool, e = .returned (.bool R) ∧ OVEnd w0 n₁ J Jx (pre ++ ys) (nds t (wrap64 (b + bd k n j))) wr (.returned (.bool R)) w2) :=
            Lib.hid fun w1 hbw => (IH.out t (List.mem_of_getElem? HT.out) _ _ (pre ++ ys) w1 (HSX.out t (List.mem_of_getElem? HT.out)) hr (HC'.out.kb (KB.of_below (n₁ := n₁) hbw)) (Nat.le_trans hz1 hbw.size) (wrapTwice _) (HJ.out _ _ _ hJr hbw) hlen).mono
              fun e w2 hv => (hv.from (KB.of_below hbw)).bool
          clear hlen
          have HBD := Lib.hid fun W => boundC k h (some ⟨b', o, none⟩) n c hc HM.out j (by unfold maxLen; omega) W
          have e3 := by3.alloc (.cells #[.int .i64 k2, .int .i64 h2, .slice A2 n2 c2'] 24)
          have e8 := Box.new wr 24 #[.int .i64 k2, .int .i64 h2, .slice A2 n2 c2']
          have hbA : Below wr.heap.size wr (wr.alloc (.cells #[.int .i64 k2, .int .i64 h2, .slice A2 n2 c2'] 24)) := (Below.refl _ wr).alloc (Nat.le_refl _) _
          generalize wr.alloc (.cells #[.int .i64 k2, .int .i64 h2, .slice A2 n2 c2'] 24) = Wa at *
          clear q0 q1 q2 c0 c1 c2
          obtain ⟨q0, q1, q2⟩ := e3.three
          obtain ⟨c0, c1, c2⟩ := e8.three
          have l3 := e3.lt
          have l8 := e8.lt
          have p0 := Past.cell c0
          have p1 := Past.cell c1
          have p2 := Past.cell c2
          have p3 := Past.cell q0
          have p4 := Past.cell q1
          have p5 := Past.cell q2
          have hwr : IntKind.i64.wrap (b + bd k n j) = wrap64 (b + bd k n j) := wrapEq _
          refine wp_region_class_tail (C := fun w' => ∃ z : Past Wa, w' = z.wd) 7 (by kernel_rfl) (by kernel_rfl) ⟨⟨Wa.drew, (Below.refl _ _).drew⟩, rfl⟩ ?_
          simp only [List.take_succ_cons, List.take_zero, List.drop_succ_cons, List.drop_zero]
          repeat (go_big_quiet_step ((go_at_call 54; exact calls_past (HBD.out _))))
          refine wpQuiet_nil ?_
          rintro _ ⟨z, rfl⟩
          clear p0 p1 p2 p3 p4 p5
          obtain ⟨w1, hb1⟩ := z
          have hbw : Below wr.heap.size wr w1 := hbA.trans (hb1.mono hbA.size)
          have f3 := e3.keep hb1 l3
          dsimp only
          clear hb1
          go_wp2_with fail
          refine (HV.out _ hbw).mono ?_
          rintro e w2 ⟨R, rfl, hv⟩
          rcases hv with ⟨zs, hR, hks, hj2, hk2⟩ | ⟨hR, q, hq, hx2⟩
          · obtain rfl : R = true := by simpa using hR
            go_wp2_with fail
            go_roundw
            case rel =>
              refine ⟨j + 1, ys ++ zs, by omega, by go_num, Lib.hid ?_, by rw [← List.append_assoc]; exact hj2, hkr.trans hk2, hk2.box by3 (by omega)⟩
              rw [← HS.out, List.map_append, hks, List.append_assoc]
            case measure => simp [intOf]; omega
          · obtain rfl : R = false := by simpa using hR
            go_wp2_with fail
            go_ret
            refine .inr ⟨rfl, ys ++ q, ?_, by rw [← List.append_assoc]; exact hx2⟩
            rw [← HS.out, List.map_append]
            obtain ⟨r, hr'⟩ := hq
            exact ⟨r ++ ndsL k n (xs.drop (j + 1)) (j + 1) b, by rw [← hr']; simp⟩
        · gi_wp2_with fail
          go_ret
          have HS' := HS.out
          rw [drop_all HN.out (by omega), ndsL, List.append_nil] at HS'
          exact .inl ⟨ys, rfl, HS', hJr, hkr⟩
    · gi_wp2_with fail
      go_ret
      exact .inr ⟨rfl, [x], ⟨ndsL k n xs 0 b, by rw [nds]; simp [HXK.out, HN.out]⟩, hJx3⟩

set_option maxHeartbeats 1000000 in
/-- what nodes hands back gives all nodes of the term, in order -/
theorem onodesStops (m : Nat) (w0 w : World) (t : T) (k h : Int) (s : Value) (n₁ Bt : Nat) (hs : wd t ≤ 3518437208780) (hv : Rd w0 t (.agg #[.int .i64 k, .int .i64 h, s])) (hb : Below w0.heap.size w0 w) (h01 : w0.heap.size ≤ n₁) (hn : n₁ ≤ w.heap.size)
    (hB : Box w Bt 24 #[.int .i64 k, .int .i64 h, s]) :
    SeqStopsK Fence.wide m Try.prog 49 #[.pointer (some ⟨Bt, 0, none⟩)] (encO (w0 := w0)) (KB w0.heap.size n₁) (fun ys => ys.map No.key = nds t 0) (fun q => q.map No.key <+: nds t 0) (nds t 0).length w := by
  intro l J Jx W hW hJ hJx hY h0
  refine callsIn_wide.2 ?_
  obtain ⟨b0, b1, b2⟩ := (hB.keep hW hB.lt).three
  have hV := ovisitC w0 n₁ l (nds t 0).length h01 J Jx (fun s W W' hs hb => hJ s W W' none hs (grown_of_below hb) (fun r e => by cases e)) (fun m' pre x W1 hj hl => yieldAny m' (hY pre x W1 hj hl)) t 0 _ [] W hs hv
    (CK.of_below (hb.trans (hW.mono hb.size))) (Nat.le_trans hn hW.size) (by unfold wrap64; omega) h0 (by simp)
  have HV := Lib.hid hV; clear hV
  clear hY h0 hJ hJx hv hs
  go_enter Try.func49, Try.ntmps49
  go_wp2_with fail
  refine HV.out.mono ?_
  rintro e w1 (⟨ys, rfl, h1, h2, h3⟩ | ⟨rfl, q, h1, h2⟩)
  · go_wp2_with fail
    go_end0
    exact ⟨⟨_, rfl⟩, .inl ⟨ys, h1, by simpa using h2⟩⟩
  · go_wp2_with fail
    go_end0
    exact ⟨⟨_, rfl⟩, .inr ⟨q, h1, by simpa using h2⟩⟩
end Go.Proofs.Ytooihffijpndoaa
