/-
  Texts of one proof, put together. No statement is proved here.
-/
import Derived.Test.YtelicajhamgibaaPkB
import Derived.Test.YtelicajhamgibaaWk
import Derived.Test.YtelicajhamgibaaPf
import Derived.Test.YtelicajhamgibaaOp
import Derived.Test.YtelicajhamgibaaSa
import Derived.Test.YtelicajhamgibaaWm
import Derived.Test.YtelicajhamgibaaOw
import Derived.Test.YtelicajhamgibaaPkGb

/-
  Contract of the document's own Same of layer 3. No statement is proved here.
-/
namespace Go.Proofs.Ytelicajhamgibaa
open Go.ChangeShapes Go.WideShapes Go.ChangeAt Go.RowKit
set_option linter.unusedVariables false

/-! ### Same -/
theorem vs_take (m j : Nat) (h : j < m) : (vsL m).take j ++ [T.node 4 ((m : Int) - 1 - (j : Int)) []] = (vsL m).take (j + 1) := by
  have hl : j < (vsL m).length := by rw [vsL_len]; exact h
  rw [List.take_succ_eq_append_getElem hl]
  obtain ⟨_, e⟩ := vsL_at _ _ _ (List.getElem?_eq_getElem hl)
  rw [e]
/-- what holds at the head of Same's loop -/
structure RsI (m : Nat) (w : World) (j : Nat) (wr : World) (Av : Option Addr) (cv : Nat) (cs : List Value) : Prop where
  res : Box wr w.heap.size 47 #[.slice none 0 0, .int .i64 0]
  out : Box wr (w.heap.size + 1) 47 #[.slice Av j cv, .int .i64 m]
  row : GRow (fun b => b < w.heap.size + 2) wr (w.heap.size + 2) (.slice Av j cv) j cs ((vsL m).take j)
  below : Below w.heap.size w wr
set_option maxRecDepth 100000 in
set_option maxHeartbeats 4000000 in
theorem rsameC (n : Int) (w : World) : Calls Try.prog 23 #[.int .i64 n] w (SEnd (vsL (clN n)) (clN n) w) := by
  obtain ⟨m, hm⟩ : ∃ m, clN n = m := ⟨_, rfl⟩
  have hcl : n < 0 ∧ m = 0 ∨ ¬ n < 0 ∧ ¬ 200 < n ∧ n = m ∨ ¬ n < 0 ∧ 200 < n ∧ m = 200 := by
    unfold clN at hm
    by_cases h1 : n < 0
    · rw [if_pos h1] at hm; omega
    · rw [if_neg h1] at hm
      by_cases h2 : 200 < n
      · rw [if_pos h2] at hm; omega
      · rw [if_neg h2] at hm; omega
  have hm200 : m ≤ 200 := by omega
  rw [hm]
  clear hm
  obtain ⟨N, hN⟩ : ∃ N : Int, (m : Int) = N := ⟨_, rfl⟩
  obtain ⟨W, hW⟩ : ∃ W, (w.alloc (.cells #[.slice none 0 0, .int .i64 0] 47)).alloc (.cells #[.slice none 0 0, .int .i64 N] 47) = W := ⟨_, rfl⟩
  have HI : Hid (RsI m w 0 W none 0 []) := Lib.hid ⟨by rw [← hW]; exact (Box.new _ _ _).alloc _, by rw [← hW, hN]; exact (Box.new (w.alloc _) _ _).at (by simp), GRow.nil _ _ _, by rw [← hW]; exact ((Below.refl _ _).alloc (Nat.le_refl _) _).alloc (by simp) _⟩
  have HW := Lib.hid hW; clear hW
  rw [hN]
  have HNM := Lib.hid hN
  have hsel : n < 0 ∧ N = 0 ∨ ¬ n < 0 ∧ ¬ 200 < n ∧ n = N ∨ ¬ n < 0 ∧ 200 < n ∧ N = 200 := by omega
  clear hcl
  rcases hsel with ⟨h1, rfl⟩ | ⟨h1, h2, rfl⟩ | ⟨h1, h2, rfl⟩
  case' inl => have d1 : decide (n < 0) = true := by simpa using h1
  case' inr.inl =>
    have d1 : decide (n < 0) = false := by simpa using h1
    have d2 : decide (200 < n) = false := by simpa using h2
  case' inr.inr =>
    have d1 : decide (n < 0) = false := by simpa using h1
    have d2 : decide (200 < n) = true := by simpa using h2
  all_goals
    clear hN
    go_enter Try.func23, Try.ntmps23
    go_wp2_with fail
    rw [HW.out]
    clear HW
    go_loopw [4] (fun i wr => ∃ (j : Nat) (I : Int) (Av : Option Addr) (cv : Nat) (cs : List Value), j ≤ m ∧ i = .int .i64 I ∧ Hid (I = (m : Int) - 1 - j) ∧ Hid (RsI m w j wr Av cv cs)) (fun i _ => (intOf i + 1).toNat)
    case atStart => exact ⟨0, _, none, 0, [], Nat.zero_le _, rfl, Lib.hid (by have := HNM.out; omega), HI⟩
    case round =>
      clear HI
      obtain ⟨j, I, Av, cv, cs, hj, rfl, HII, HI⟩ := hrel
      obtain ⟨o0, o1⟩ := HI.out.out.two
      by_cases hlt : j < m
      · have hi0 : 0 ≤ I := by have := HII.out; omega
        have hi2 : I ≤ 200 := by have := HII.out; omega
        have hge : decide (0 ≤ I) = true := by simpa using hi0
        have hw1 : IntKind.i64.wrap (I - 1) = I - 1 := by rw [wrapEq]; exact wrap_small (by omega) (by omega)
        have lout := HI.out.out.lt
        have lsz := HI.out.below.size
        obtain ⟨g, cap, w4, hrun, hrow, hold, hb4⟩ := HI.out.row.push (t := .node 4 I []) (k := 4) (h := I) (A := none) (m := 0) (c := 0) (rx_leaf' (by decide) (wf_of hi0 (by omega))) (by omega) (by omega)
        have nb : ∀ q, q < w.heap.size + 2 → some q ≠ Value.ownBlock (.slice Av j cv) := fun q hq e => by have := (HI.out.row.lt e.symm).1; omega
        have z1 : Box w4 w.heap.size _ _ := (hold _ HI.out.res.lt (nb _ (by omega))).trans HI.out.res
        have z2 : Box w4 (w.heap.size + 1) _ _ := (hold _ HI.out.out.lt (nb _ (by omega))).trans HI.out.out
        have hrow2 : GRow (fun b => b < w.heap.size + 2) (w4.setCell ⟨w.heap.size + 1, 0, none⟩ (.slice (some ⟨g, 0, none⟩) (j + 1) cap)) (w.heap.size + 2) (.slice (some ⟨g, 0, none⟩) (j + 1) cap) (j + 1) (cs ++ [.int .i64 4, .int .i64 I, .slice none 0 0]) ((vsL m).take (j + 1)) := by
          rw [← vs_take m j hlt, ← HII.out]
          exact hrow.move (fun b _ hb => Below.heap_setCell _ _ _ _ (by dsimp only; omega)) (fun g' hg' => by have := (hrow.lt hg').1; omega)
        have HJ : Hid (RsI m w (j + 1) (w4.setCell ⟨w.heap.size + 1, 0, none⟩ (.slice (some ⟨g, 0, none⟩) (j + 1) cap)) (some ⟨g, 0, none⟩) cap (cs ++ [.int .i64 4, .int .i64 I, .slice none 0 0])) := Lib.hid
          ⟨z1.other (by dsimp only; omega) _, by simpa using z2.setAt 0 (.slice (some ⟨g, 0, none⟩) (j + 1) cap), hrow2, (HI.out.below.trans (hb4.mono (by omega))).setCell (by dsimp only; omega) _⟩
        have lout4 := z2.lt
        obtain ⟨p0, p1⟩ := z2.two
        have f0 := z2.frozen 0
        clear hrow hrow2 hold hb4 nb z1 z2
        go_wp2_with (at_builtin; refine Lib.wpList_append_run _ rfl _ _ _ _ rfl _ _ rfl rfl _ _ hrun ?_)
        go_roundw
        case rel => exact ⟨j + 1, I - 1, some ⟨g, 0, none⟩, cap, _, by omega, by go_num, Lib.hid (by have := HII.out; omega), HJ⟩
        case measure => simp [intOf]; omega
      · have hge : decide (0 ≤ I) = false := by have := HII.out; simp; omega
        obtain rfl : j = m := by omega
        obtain ⟨r0, r1⟩ := HI.out.res.two
        have f0 := HI.out.res.frozen 0
        have f1 := HI.out.res.frozen 1
        have lr := HI.out.res.lt
        go_wp2_with fail
        refine bodyPost_ret (v := .agg #[.slice Av j cv, .int .i64 j]) (by simp [results, Try.results23, go_sem, r0, r1]) rfl ?_
        refine ⟨_, _, _, by rw [← HNM.out], ?_, (HI.out.below.setCell (by dsimp only; omega) _).setCell (by dsimp only; omega) _⟩
        have hrow := HI.out.row
        rw [List.take_of_length_le (by rw [vsL_len]; exact Nat.le_refl _)] at hrow
        have hm2 : ∀ b, w.heap.size + 2 ≤ b → ((wr.setCell ⟨w.heap.size, 0, none⟩ (.slice Av j cv)).setCell ⟨w.heap.size, 1, none⟩ (.int .i64 j)).heap[b]? = wr.heap[b]? := fun b hb => (Below.heap_setCell _ _ _ _ (by dsimp only; omega)).trans (Below.heap_setCell _ _ _ _ (by dsimp only; omega))
        exact ((hrow.move (fun b _ hb => hm2 b (by omega)) (fun g' hg' => by have := (hrow.lt hg').1; omega)).rxl (fun b hb => hb)).mono fun b _ hb => by omega
end Go.Proofs.Ytelicajhamgibaa

/-
  The document's List of a list and itself; an argument's reading that is a list of binds, with its weights. No statement is proved here.
-/
namespace Go.Proofs.Ytelicajhamgibaa
open Go.ChangeShapes Go.WideShapes Go.ChangeAt Go.RowKit Go.Deep
set_option linter.unusedVariables false
set_option maxRecDepth 100000

section
variable {H : Type} {enc : TypeId × Value → H} {w : World} {base : Nat} {spare : Nat → Bool} {held : Bool}

theorem Try.cellsBindU : Try.prog.cellsOf 38 = 4 := by kernel_rfl
theorem Try.cellsBoolU : Try.prog.cellsOf 4 = 1 := by kernel_rfl
theorem trod_bindW {fuel : Nat} {cs : List Value} {x : DataW H × List MemPlace} (hx : DataW.trod enc Try.prog w base spare held fuel 38 cs = some x) :
    ∃ (y : BT) (v1 v2 v3 : Value), cs = [.bool y.1, v1, v2, v3] ∧ Rd w y.2 (.agg #[v1, v2, v3]) ∧ ((∀ n ∈ x.1.weights Try.prog 38, n ≤ reachBytes) → wd y.2 ≤ 3518437208780) := by
  obtain ⟨ys, n, rfl, hxe, hl, hyl, hf⟩ := DataW.trod_struct Try.underlying38 hx
  rw [Try.cellsBindU] at hl
  match cs, hl with
  | [v0, v1, v2, v3], _ =>
    match ys, hyl with
    | [y0, y1], _ =>
      have h0 : DataW.trod enc Try.prog w base spare held n 4 (([v0, v1, v2, v3].drop 0).take (Try.prog.cellsOf 4)) = some y0 := hf 0 _ rfl
      have h1 : DataW.trod enc Try.prog w base spare held n 31 (([v0, v1, v2, v3].drop 1).take (Try.prog.cellsOf 31)) = some y1 := hf 1 _ rfl
      simp only [Try.cellsBoolU, Try.cellsTerm, List.drop_zero, List.drop_succ_cons, List.take_succ_cons, List.take_zero] at h0 h1
      obtain ⟨b, e0, _⟩ := DataW.trod_bool Try.underlying4 h0
      simp only [List.cons.injEq, and_true] at e0
      subst e0
      obtain ⟨t, u0, u1, u2, e, hr, _, hwt⟩ := trod_term n _ _ h1
      simp only [List.cons.injEq, and_true] at e
      obtain ⟨rfl, rfl, rfl⟩ := e
      refine ⟨(b, t), _, _, _, rfl, hr, fun hwn => hwt fun n hn => hwn n ?_⟩
      subst hxe
      show n ∈ DataW.weights Try.prog 38 (.agg [y0.1, y1.1])
      rw [DataW.weights, Try.underlying38]
      simp [DataW.weightsEach, hn]
theorem spot_ofU {a : Addr} {i : Nat} {v v0 : Value} (c0 : w.cell? (a.add i) = some v) (c00 : w.cell? (a.add 0) = some v0) : a.spot = none := by
  have := cell_spot c0
  unfold Addr.add at this
  split at this
  · exact this
  · have := cell_spot c00
    simpa [Addr.add] using this
theorem open_bindsW {r : Reach} {b0 : Nat} {v : Value} {d : DataW H} {p : List MemPlace} (hv : Value.okWide Try.prog w r b0 22 v) (h : DataW.Trod enc Try.prog w base spare held 22 v d p) :
    ∃ (xs : List BT) (A : Option Addr) (n c : Nat), v = .slice A n c ∧ BL (fun _ => True) w xs A n c ∧ ((∀ n ∈ d.weights Try.prog 22, n ≤ reachBytes) → ∀ x ∈ xs, wd x.2 ≤ 3518437208780) := by
  obtain ⟨fuel, hf⟩ := h
  obtain ⟨a0, l0, c0, rfl⟩ := okWide_slice Try.underlying22 hv
  rcases DataW.trod_slice Try.underlying22 hf with ⟨e2, hy2⟩ | ⟨a, len, cap, elems, rest, m, rfl, e2, hy2, hb, hlc, hm, hel, hat, _, _⟩
  · simp only [Value.cells, List.cons.injEq, and_true] at e2
    exact ⟨[], none, 0, 0, e2, ⟨rfl, Nat.le_refl _, Nat.zero_le _, fun i t ht => by simp at ht⟩, fun _ x hx => by cases hx⟩
  · simp only [Value.cells, List.cons.injEq, and_true] at e2
    rw [e2]
    have hws : (∀ n ∈ d.weights Try.prog 22, n ≤ reachBytes) → ∀ n ∈ DataW.weightsAll Try.prog 38 (elems.map (·.1)), n ≤ reachBytes := fun h n hn => by
      have hd : d = DataW.slice (elems.map (·.1)) (rest.map (·.1)) := congrArg Prod.fst hy2
      rw [hd] at h
      simp only [DataW.weights, Try.underlying22, List.mem_cons, List.mem_append] at h
      exact h n (Or.inr (Or.inl hn))
    have first : ∀ i, i < len → ∃ y : BT, ∃ v1 v2 v3, w.cell? (a.add (i * 4 + 0)) = some (.bool y.1) ∧ w.cell? (a.add (i * 4 + 1)) = some v1 ∧ w.cell? (a.add (i * 4 + 2)) = some v2 ∧ w.cell? (a.add (i * 4 + 3)) = some v3 ∧ Rd w y.2 (.agg #[v1, v2, v3]) ∧ ((∀ n ∈ d.weights Try.prog 22, n ≤ reachBytes) → wd y.2 ≤ 3518437208780) := by
      intro i hi
      have hi' := hat i hi
      rw [List.getElem?_eq_getElem (by omega), Option.bind_eq_some_iff] at hi'
      obtain ⟨cs', hcs, htr⟩ := hi'
      obtain ⟨y, u1, u2, u3, rfl, hr, hwt⟩ := trod_bindW htr
      rw [Try.cellsBindU] at hcs
      obtain ⟨_, _, hcell⟩ := World.cells?_some hcs
      have c0 := hcell 0 (by omega)
      have c1 := hcell 1 (by omega)
      have c2 := hcell 2 (by omega)
      have c3 := hcell 3 (by omega)
      simp only [List.getElem?_cons_zero, List.getElem?_cons_succ, add_add] at c0 c1 c2 c3
      exact ⟨y, u1, u2, u3, c0, c1, c2, c3, hr, fun h => hwt fun n hn => hws h n (weights_at (by rw [List.getElem?_map, List.getElem?_eq_getElem (show i < elems.length by omega)]; rfl) n hn)⟩
    have each : ∀ i, i < len → ∃ y : BT, BAt (fun _ => True) w (some a) i y ∧ ((∀ n ∈ d.weights Try.prog 22, n ≤ reachBytes) → wd y.2 ≤ 3518437208780) := by
      intro i hi
      obtain ⟨y, v1, v2, v3, c0, c1, c2, c3, hr, hwt⟩ := first i hi
      obtain ⟨y', _, _, _, c00, _⟩ := first 0 (by omega)
      have hs := spot_ofU c0 (by simpa using c00)
      obtain ⟨b, o, s⟩ := a
      dsimp only at hs
      subst hs
      rw [addr_add] at c0 c1 c2 c3
      obtain ⟨k, h, A, n, c, e⟩ := hr.full
      simp only [Value.agg.injEq, Array.mk.injEq, List.cons.injEq, and_true] at e
      obtain ⟨rfl, rfl, rfl⟩ := e
      exact ⟨y, ⟨b, o, k, h, A, n, c, rfl, c0, by rw [Nat.add_assoc]; exact c1, by rw [Nat.add_assoc]; exact c2, by rw [Nat.add_assoc]; exact c3, rdF_any _ _ hr⟩, hwt⟩
    obtain ⟨xs, hxl, hxs⟩ : ∃ xs : List BT, xs.length = len ∧ ∀ i y, xs[i]? = some y → BAt (fun _ => True) w (some a) i y ∧ ((∀ n ∈ d.weights Try.prog 22, n ≤ reachBytes) → wd y.2 ≤ 3518437208780) := by
      have key : ∀ n, n ≤ len → ∃ xs : List BT, xs.length = n ∧ ∀ i y, xs[i]? = some y → BAt (fun _ => True) w (some a) i y ∧ ((∀ n ∈ d.weights Try.prog 22, n ≤ reachBytes) → wd y.2 ≤ 3518437208780) := by
        intro n
        induction n with
        | zero => intro _; exact ⟨[], rfl, fun i y h => by simp at h⟩
        | succ n ih =>
          intro hn
          obtain ⟨xs, h1, h2⟩ := ih (by omega)
          obtain ⟨y, hy⟩ := each n (by omega)
          refine ⟨xs ++ [y], by simp [h1], fun i z hz => ?_⟩
          by_cases hi : i < n
          · rw [List.getElem?_append_left (by omega)] at hz
            exact h2 i z hz
          · have hin : i < n + 1 := by have := (List.getElem?_eq_some_iff.1 hz).1; simp [h1] at this; omega
            obtain rfl : i = n := by omega
            rw [List.getElem?_append_right (by omega), h1, Nat.sub_self] at hz
            cases hz
            exact hy
      exact key len (Nat.le_refl _)
    exact ⟨xs, some a, len, cap, rfl, ⟨hxl, hlc, hm, fun i y hy => (hxs i y hy).1⟩, fun h x hx => by
      obtain ⟨i, hi⟩ := List.getElem?_of_mem hx
      exact (hxs i x hi).2 h⟩
end
/-! ### List -/
set_option maxRecDepth 100000 in
set_option maxHeartbeats 2000000 in
theorem rlistU (xs : List T) (A B : Option Addr) (n c d : Nat) (w : World) (hn : xs.length = n) (hc : n ≤ c) (hm : c ≤ maxLen) (hd : n ≤ d) (hx : ∀ i t, xs[i]? = some t → RdAt w A i t) (hy : ∀ i t, xs[i]? = some t → RdAt w B i t) :
    Calls Try.prog 9 #[.slice A n c, .slice B n d] w fun e w' => e = .returned (.bool true) ∧ Below w.heap.size w w' := by
  unfold maxLen at hm
  have HN := Lib.hid hn; clear hn
  have HX := Lib.hid hx; clear hx
  have HY := Lib.hid hy; clear hy
  go_enter Try.func9, Try.ntmps9
  go_wp2_with fail
  go_loopw [5] (fun i wr => ∃ (j : Nat), j ≤ n ∧ i = .int .i64 j ∧ Below w.heap.size w wr) (fun i _ => n - (Go.RowKit.intOf i).toNat)
  case atStart => exact ⟨0, Nat.zero_le _, rfl, Below.refl _ _⟩
  case round =>
    obtain ⟨j, hj, rfl, hb⟩ := hrel
    by_cases hlt : j < n
    · obtain ⟨t, ht⟩ := at_of HN.out hlt
      obtain ⟨b, o, k2, h2, A2, n2, c2', rfl, c0, c1, c2, hr⟩ := (RdAt.keep hb (HX.out j t ht)).full
      obtain ⟨b3, o3, k3, h3, A3, n3, c3', rfl, d0, d1, d2, hr3⟩ := (RdAt.keep hb (HY.out j t ht)).full
      have HR := Lib.hid (And.intro hr hr3); clear ht hr hr3
      have hi0 : (0 : Int) ≤ j := by omega
      have hi1 : (j : Int) < n := by omega
      have HCA : Hid (Calls Try.prog 20 #[.agg #[.int .i64 k2, .int .i64 h2, .slice A2 n2 c2'], .agg #[.int .i64 k3, .int .i64 h3, .slice A3 n3 c3']] wr.drew fun e w' => e = .returned (.bool true) ∧ Hid (Below wr.heap.size wr w')) := Lib.hid (by
        have := refSame t t _ _ wr.drew (Rd.keep (Below.refl _ wr).drew _ _ HR.out.1) (Rd.keep (Below.refl _ wr).drew _ _ HR.out.2)
        rw [sam_refl] at this
        exact this.mono fun e w' h => ⟨h.1, Lib.hid ((Below.refl _ wr).drew.trans h.2)⟩)
      have HK : Hid (∀ w', Below wr.heap.size wr w' → (w'.cell? ⟨b, o + j * 3, none⟩ = some (.int .i64 k2) ∧ w'.cell? ⟨b, o + j * 3 + 1, none⟩ = some (.int .i64 h2) ∧ w'.cell? ⟨b, o + j * 3 + 2, none⟩ = some (.slice A2 n2 c2') ∧ w'.cell? ⟨b3, o3 + j * 3, none⟩ = some (.int .i64 k3) ∧ w'.cell? ⟨b3, o3 + j * 3 + 1, none⟩ = some (.int .i64 h3) ∧ w'.cell? ⟨b3, o3 + j * 3 + 2, none⟩ = some (.slice A3 n3 c3'))) := Lib.hid fun w' h =>
        ⟨(h.cell (cell_lt c0)).trans c0, (h.cell (cell_lt c1)).trans c1, (h.cell (cell_lt c2)).trans c2, (h.cell (cell_lt d0)).trans d0, (h.cell (cell_lt d1)).trans d1, (h.cell (cell_lt d2)).trans d2⟩
      have hcur : Below wr.heap.size wr wr.drew := (Below.refl _ _).drew
      go_wp2_with fail
      go_region_held3 (fun w' => w'.cell? ⟨b, o + j * 3, none⟩ = some (.int .i64 k2) ∧ w'.cell? ⟨b, o + j * 3 + 1, none⟩ = some (.int .i64 h2) ∧ w'.cell? ⟨b, o + j * 3 + 2, none⟩ = some (.slice A2 n2 c2') ∧ w'.cell? ⟨b3, o3 + j * 3, none⟩ = some (.int .i64 k3) ∧ w'.cell? ⟨b3, o3 + j * 3 + 1, none⟩ = some (.int .i64 h3) ∧ w'.cell? ⟨b3, o3 + j * 3 + 2, none⟩ = some (.slice A3 n3 c3'))
        (first | exact HK.out _ hcur | exact HK.out _ (Hid.out hcur2))
        (first
          | (go_at_call 20
             with_reducible refine HCA.out.mono ?_
             rintro e w3 ⟨rfl, hcur2⟩))
      all_goals
        go_wp2_with fail
        go_roundw
        case rel => exact ⟨j + 1, by omega, by go_num, hb.trans (hcur2.out.mono hb.size)⟩
        case measure => simp [Go.RowKit.intOf]; omega
    · go_wp2_with fail
      go_ret
      exact ⟨rfl, hb⟩
end Go.Proofs.Ytelicajhamgibaa

/-
  Contracts of package unify's Full, and of the document's. No statement is proved here.
-/
namespace Go.Proofs.Ytelicajhamgibaa
open Go.ChangeShapes Go.WideShapes Go.ChangeAt Go.RowKit
set_option linter.unusedVariables false

/-- what a meta is, or itself -/
def fulT (x : BT) (i : Nat) (s : Int) : T := if x.1 = true then x.2 else .node 6 i (vsL (clN s))
def fulL (sz : List Int) : List BT → Nat → List T
  | [], _ => []
  | x :: xs, i => fulT x i (sz.getD i 0) :: fulL sz xs (i + 1)
theorem fulL_len (sz : List Int) : ∀ (bs : List BT) (i : Nat), (fulL sz bs i).length = bs.length
  | [], _ => rfl
  | x :: xs, i => by rw [fulL, List.length_cons, List.length_cons, fulL_len sz xs]
theorem clN_zero : vsL (clN 0) = [] := rfl
theorem clN_le (s : Int) : clN s ≤ 200 := by unfold clN; split; omega; split <;> omega
/-- what holds at the head of Full's loop -/
structure FuI (sz : List Int) (bs : List BT) (n : Nat) (w : World) (j : Nat) (wr : World) (cs : Array Value) (ys : List T) : Prop where
  row : Box wr w.heap.size 31 cs
  size : cs.size = n * 3
  len : ys.length = j
  kids : Kids wr (fun b => w.heap.size < b) cs ys
  below : Below w.heap.size w wr
  eq : fulL sz bs 0 = ys ++ fulL sz (bs.drop j) j
theorem Kids.rdat {w : World} {q : Nat} {ok : Nat → Prop} {cs : Array Value} {ys : List T} {ty : TypeId} (hk : Kids w ok cs ys) (hb : Box w q ty cs) : ∀ i t, ys[i]? = some t → RdAt w (some ⟨q, 0, none⟩) i t := fun i t ht => by
  obtain ⟨k, h, A, n', c, e0, e1, e2, hr⟩ := hk i t ht
  refine ⟨q, 0, _, _, _, rfl, ?_, ?_, ?_, RdF.rd _ _ hr⟩
  · rw [Nat.zero_add, hb.cell]; exact e0
  · rw [Nat.zero_add, hb.cell]; exact e1
  · rw [Nat.zero_add, hb.cell]; exact e2
theorem wf_place {j : Nat} (h : j ≤ 1000) : (Lit.int .i64 (j : Int)).wf = true := by
  simp [Lit.wf, IntKind.min, IntKind.max, IntKind.signed, IntKind.bits]; omega
/-- one more term has its place -/
theorem FuI.step {sz : List Int} {bs : List BT} {n : Nat} {w : World} {j : Nat} {wr : World} {cs : Array Value} {ys : List T} {x : BT} {w1 : World} {k h : Int} {A : Option Addr} {m c : Nat} (hi : FuI sz bs n w j wr cs ys) (hx : bs[j]? = some x) (hj : j < n)
    (hb : Below wr.heap.size wr w1) (hr : RdF (fun b => w.heap.size < b) w1 (fulT x j (sz.getD j 0)) (.agg #[.int .i64 k, .int .i64 h, .slice A m c])) :
    ∃ cs', FuI sz bs n w (j + 1) (((w1.setCell ⟨w.heap.size, j * 3, none⟩ (.int .i64 k)).setCell ⟨w.heap.size, j * 3 + 1, none⟩ (.int .i64 h)).setCell ⟨w.heap.size, j * 3 + 2, none⟩ (.slice A m c)) cs' (ys ++ [fulT x j (sz.getD j 0)]) := by
  have z := hi.row.keep hb hi.row.lt
  have hset : ∀ g, w.heap.size < g → g < w1.heap.size → (((w1.setCell ⟨w.heap.size, j * 3, none⟩ (.int .i64 k)).setCell ⟨w.heap.size, j * 3 + 1, none⟩ (.int .i64 h)).setCell ⟨w.heap.size, j * 3 + 2, none⟩ (.slice A m c)).heap[g]? = w1.heap[g]? := fun g hg _ => by
    rw [Below.heap_setCell _ _ _ _ (by dsimp only; omega), Below.heap_setCell _ _ _ _ (by dsimp only; omega), Below.heap_setCell _ _ _ _ (by dsimp only; omega)]
  have e := hi.eq
  rw [drop_at hx, fulL] at e
  refine ⟨_, ⟨((z.setAt _ _).setAt _ _).setAt _ _, by simp [hi.size], by simp [hi.len], Kids.snoc (hi.kids.move fun g _ hg => hb.block g hg) hi.len hset (RdF.move (fun _ h => h) hset _ _ hr) (by rw [hi.size]; omega), ?_, by rw [e]; simp⟩⟩
  exact (((hi.below.trans (hb.mono hi.below.size)).setCell (Nat.le_refl _) _).setCell (Nat.le_refl _) _).setCell (Nat.le_refl _) _

set_option maxRecDepth 100000 in
set_option maxHeartbeats 8000000 in
theorem FullC (bs : List BT) (sz : List Int) (A : Option Addr) (n c : Nat) (As : Option Addr) (L cs : Nat) (w : World) (hbl : BL (fun _ => True) w bs A n c) (hwd : ∀ x ∈ bs, wd x.2 ≤ 3518437208780) (hn : n ≤ 60) (hl : sz.length = L) (hlc : L ≤ cs) (hcm : cs ≤ maxLen) (hs : Nu w sz As) :
    Calls Try.prog 10 #[.slice A n c, .slice As L cs] w fun e w' => ∃ q, e = .returned (.slice (some ⟨q, 0, none⟩) n n) ∧ (∀ i t, (fulL sz bs 0)[i]? = some t → RdAt w' (some ⟨q, 0, none⟩) i t) ∧ Below w.heap.size w w' := by
  have hc1 := hbl.le
  have hc2 := hbl.cap
  unfold maxLen at hc2 hcm
  have HBL := Lib.hid hbl; clear hbl
  have HWD := Lib.hid hwd; clear hwd
  have HS := Lib.hid hs; clear hs
  have HLZ := Lib.hid hl; clear hl
  obtain ⟨i0, hi, hz0, hz1, hz2⟩ := info_parts infoTerm
  have hmk : ∀ W : World, (Instr.makeSlice 27 (.int .i64 (n : Int)) (.int .i64 (n : Int))).run Try.prog W = .ok (.slice (some ⟨W.heap.size, 0, none⟩) n n) (W.alloc (.cells (madeCells #[.int .i64 0, .int .i64 0, .slice none 0 0] (n * 3)) 31)) := by
    intro W
    have := run_make W 27 31 i0 _ Try.underlying27 hi hz0 .i64 .i64 (n : Int) (n : Int) (by omega) (Int.le_refl _) (by rw [hz2]; omega) (by omega)
    rw [hz1] at this
    simpa [Value.cells] using this
  clear hi hz0 hz1 hz2
  go_enter Try.func10, Try.ntmps10
  go_wp2_with fail
  have hcs := size_madeCells #[.int .i64 0, .int .i64 0, .slice none 0 0] (n * 3)
  generalize madeCells #[.int .i64 0, .int .i64 0, .slice none 0 0] (n * 3) = cs0 at *
  have hb0 : Below w.heap.size w (w.alloc (.cells cs0 31)) := (Below.refl _ w).alloc (Nat.le_refl _) _
  have HI : Hid (FuI sz bs n w 0 (w.alloc (.cells cs0 31)) cs0 []) := Lib.hid ⟨Box.new w _ cs0, hcs, rfl, fun i t ht => by simp at ht, hb0, by rw [List.drop_zero, List.nil_append]⟩
  clear hcs hmk hb0
  go_loopw [13] (fun i wr => ∃ (j : Nat) (cs : Array Value) (ys : List T), j ≤ n ∧ i = .int .i64 j ∧ Hid (FuI sz bs n w j wr cs ys)) (fun i _ => n - (Go.RowKit.intOf i).toNat)
  case atStart => exact ⟨0, cs0, [], Nat.zero_le _, rfl, HI⟩
  case round =>
    clear HI
    obtain ⟨j, csr, ys, hj, rfl, HI⟩ := hrel
    by_cases hlt : j < n
    · obtain ⟨x, hx⟩ := at_of (k := j) HBL.out.len hlt
      obtain ⟨b, o, kb, gb, Ab, nb, cb, rfl, d0, d1, d2, d3, hrb⟩ := (HBL.out.keep HI.out.below).at_ j x hx
      obtain ⟨bx, tx⟩ := x
      dsimp only at d0 hrb
      have hi0 : (0 : Int) ≤ j := by omega
      have hi1 : (j : Int) < n := by omega
      have HX := Lib.hid hx
      obtain ⟨Wa, hWa⟩ : ∃ Wa, wr.alloc (.cells #[.bool bx, .int .i64 kb, .int .i64 gb, .slice Ab nb cb] 38) = Wa := ⟨_, rfl⟩
      have hbA : Below wr.heap.size wr Wa := by rw [← hWa]; exact (Below.refl _ _).alloc (Nat.le_refl _) _
      have x7 : Box Wa wr.heap.size 38 #[.bool bx, .int .i64 kb, .int .i64 gb, .slice Ab nb cb] := by rw [← hWa]; exact Box.new _ _ _
      have HBA := Lib.hid hbA
      have HRD := Lib.hid (Rd.keep hbA _ _ (RdF.rd _ _ hrb))
      have HWX := Lib.hid (HWD.out (bx, tx) (List.mem_of_getElem? hx))
      have a0 := x7.cell 0
      have a1 := x7.cell 1
      have a2 := x7.cell 2
      have a3 := x7.cell 3
      have lrow := HI.out.row.lt
      have HWA := Lib.hid hWa
      have zA := HI.out.row.keep hbA lrow
      have HZA := Lib.hid zA
      clear hx hrb hbA x7 zA
      simp only [List.getElem?_toArray, List.getElem?_cons_zero, List.getElem?_cons_succ] at a0 a1 a2 a3
      cases bx
      · by_cases hjL : j < L
        · obtain ⟨z, hz⟩ : ∃ z, sz[j]? = some z := ⟨_, List.getElem?_eq_getElem (by rw [HLZ.out]; exact hjL)⟩
          obtain ⟨bS, oS, rfl, s0⟩ := (HS.out.keep (HI.out.below.trans (HBA.out.mono HI.out.below.size))) j z hz
          have hdL : decide ((j : Int) < (L : Int)) = true := decide_eq_true (by omega)
          have hjL2 : (j : Int) < L := by omega
          have HZ := Lib.hid (show sz.getD j 0 = z by rw [List.getD_eq_getElem?_getD, hz]; rfl)
          have HSM := Lib.hid (SameC z Wa)
          have hfd : ∀ (A : Option Addr) (n c : Nat) (x : Int) (W : World), (Instr.field 47 (.agg #[.slice A n c, .int .i64 x]) 0).run Try.prog W = .ok (.slice A n c) W := fun A n c x W => by kernel_rfl
          clear hz
          go_wp2_with fail
          clear hWa
          refine HSM.out.mono ?_
          rintro e w1 ⟨A3, n3, c3, rfl, hrl, hb1⟩
          have hbw := HBA.out.trans (hb1.mono HBA.out.size)
          have z3 := HZA.out.keep hb1 HZA.out.lt
          have sA := HBA.out.size
          have hr3 : RdF (fun b => w.heap.size < b) w1 (fulT (false, tx) j (sz.getD j 0)) (.agg #[.int .i64 6, .int .i64 j, .slice A3 n3 c3]) := by
            rw [HZ.out]
            exact RdF_node.2 ⟨A3, n3, c3, rfl, by decide, wf_place (by omega), hrl.len, hrl.le, hrl.cap, fun i t ht => RdFAt.moveX (fun b hb _ => ⟨by have hb : ¬ b < Wa.heap.size := hb; show w.heap.size < b; omega, rfl⟩) (hrl.at_ i t ht)⟩
          obtain ⟨cs', hJ⟩ := HI.out.step HX.out hlt hbw hr3
          have HJ := Lib.hid hJ
          obtain ⟨u0, hu0⟩ := z3.there (i := j * 3) (by rw [HI.out.size]; omega)
          obtain ⟨u1, hu1⟩ := z3.there (i := j * 3 + 1) (by rw [HI.out.size]; omega)
          obtain ⟨u2, hu2⟩ := z3.there (i := j * 3 + 2) (by rw [HI.out.size]; omega)
          have f0 := z3.frozen (j * 3)
          have f1 := z3.frozen (j * 3 + 1)
          have f2 := z3.frozen (j * 3 + 2)
          clear hrl hb1 hbw z3 hr3 hJ a0 a1 a2 a3 d0 d1 d2 d3 s0
          go_wp2_with fail
          go_roundw
          case rel => exact ⟨j + 1, _, _, by omega, by go_num, HJ⟩
          case measure => simp [Go.RowKit.intOf]; omega
        · have hdL : decide ((j : Int) < (L : Int)) = false := decide_eq_false (by omega)
          have hz0 : sz.getD j 0 = 0 := by rw [List.getD_eq_getElem?_getD, List.getElem?_eq_none (by rw [HLZ.out]; omega)]; rfl
          have hr3 : RdF (fun b => w.heap.size < b) Wa (fulT (false, tx) j (sz.getD j 0)) (.agg #[.int .i64 6, .int .i64 j, .slice none 0 0]) := by
            rw [hz0]
            exact RdF_node.2 ⟨none, 0, 0, rfl, by decide, wf_place (by omega), rfl, Nat.le_refl _, Nat.zero_le _, fun i t ht => by rw [clN_zero] at ht; simp at ht⟩
          obtain ⟨cs', hJ⟩ := HI.out.step HX.out hlt HBA.out hr3
          have HJ := Lib.hid hJ
          have z3 := HZA.out
          obtain ⟨u0, hu0⟩ := z3.there (i := j * 3) (by rw [HI.out.size]; omega)
          obtain ⟨u1, hu1⟩ := z3.there (i := j * 3 + 1) (by rw [HI.out.size]; omega)
          obtain ⟨u2, hu2⟩ := z3.there (i := j * 3 + 2) (by rw [HI.out.size]; omega)
          have f0 := z3.frozen (j * 3)
          have f1 := z3.frozen (j * 3 + 1)
          have f2 := z3.frozen (j * 3 + 2)
          clear z3 hr3 hJ hz0
          go_wp2_with fail
          clear hWa
          go_roundw
          case rel => exact ⟨j + 1, _, _, by omega, by go_num, HJ⟩
          case measure => simp [Go.RowKit.intOf]; omega
      · have HOW := Lib.hid (termOwn tx _ Wa HRD.out HWX.out)
        go_wp2_with fail
        clear hWa
        refine HOW.out.mono ?_
        rintro e w1 ⟨v1, rfl, how, hb1⟩
        obtain ⟨k3, h3, A3, n3, c3, rfl⟩ := how.full
        have hbw := HBA.out.trans (hb1.mono HBA.out.size)
        have z3 := HZA.out.keep hb1 HZA.out.lt
        have sA := HBA.out.size
        have hr3 : RdF (fun b => w.heap.size < b) w1 (fulT (true, tx) j (sz.getD j 0)) (.agg #[.int .i64 k3, .int .i64 h3, .slice A3 n3 c3]) :=
          RdF.moveX (fun b hb _ => ⟨by have hb : Wa.heap.size ≤ b := hb; show w.heap.size < b; omega, rfl⟩) _ _ how.rdF
        obtain ⟨cs', hJ⟩ := HI.out.step HX.out hlt hbw hr3
        have HJ := Lib.hid hJ
        obtain ⟨u0, hu0⟩ := z3.there (i := j * 3) (by rw [HI.out.size]; omega)
        obtain ⟨u1, hu1⟩ := z3.there (i := j * 3 + 1) (by rw [HI.out.size]; omega)
        obtain ⟨u2, hu2⟩ := z3.there (i := j * 3 + 2) (by rw [HI.out.size]; omega)
        have f0 := z3.frozen (j * 3)
        have f1 := z3.frozen (j * 3 + 1)
        have f2 := z3.frozen (j * 3 + 2)
        clear how hb1 hbw z3 hr3 hJ a0 a1 a2 a3 d0 d1 d2 d3
        go_wp2_with fail
        go_roundw
        case rel => exact ⟨j + 1, _, _, by omega, by go_num, HJ⟩
        case measure => simp [Go.RowKit.intOf]; omega
    · have e := HI.out.eq
      rw [drop_all HBL.out.len (by omega), fulL, List.append_nil] at e
      have HE := Lib.hid e; clear e
      go_wp2_with fail
      go_ret
      rw [HE.out]
      exact ⟨_, rfl, HI.out.kids.rdat HI.out.row, HI.out.below⟩
end Go.Proofs.Ytelicajhamgibaa

/-
  Contract of the document's Full. No statement is proved here.
-/
namespace Go.Proofs.Ytelicajhamgibaa
open Go.ChangeShapes Go.WideShapes Go.ChangeAt Go.RowKit
set_option linter.unusedVariables false

/-- what holds at the head of the loop -/
structure RfI (sz : List Int) (bs : List BT) (w : World) (j : Nat) (wr : World) (Av : Option Addr) (cv : Nat) (cs : List Value) (ys : List T) : Prop where
  row : GRow (fun _ => False) wr w.heap.size (.slice Av j cv) j cs ys
  below : Below w.heap.size w wr
  eq : fulL sz bs 0 = ys ++ fulL sz (bs.drop j) j

set_option maxRecDepth 100000 in
set_option maxHeartbeats 8000000 in
theorem rFullC (bs : List BT) (sz : List Int) (A : Option Addr) (n c : Nat) (As : Option Addr) (L cs : Nat) (w : World) (hbl : BL (fun _ => True) w bs A n c) (hn : n ≤ 60) (hl : sz.length = L) (hlc : L ≤ cs) (hcm : cs ≤ maxLen) (hs : Nu w sz As) :
    Calls Try.prog 11 #[.slice A n c, .slice As L cs] w fun e w' => ∃ A' c', e = .returned (.slice A' n c') ∧ n ≤ c' ∧ (∀ i t, (fulL sz bs 0)[i]? = some t → RdAt w' A' i t) ∧ Below w.heap.size w w' := by
  have hc1 := hbl.le
  have hc2 := hbl.cap
  unfold maxLen at hc2 hcm
  have HBL := Lib.hid hbl; clear hbl
  have HS := Lib.hid hs; clear hs
  have HLZ := Lib.hid hl; clear hl
  have hfd : ∀ (A : Option Addr) (n c : Nat) (x : Int) (W : World), (Instr.field 47 (.agg #[.slice A n c, .int .i64 x]) 0).run Try.prog W = .ok (.slice A n c) W := fun A n c x W => by kernel_rfl
  have HI : Hid (RfI sz bs w 0 w none 0 [] []) := Lib.hid ⟨GRow.nil _ _ _, Below.refl _ _, by rw [List.drop_zero, List.nil_append]⟩
  go_enter Try.func11, Try.ntmps11
  go_wp2_with fail
  go_loopw [5, 6] (fun v i wr => ∃ (j : Nat) (Av : Option Addr) (cv : Nat) (cs : List Value) (ys : List T), j ≤ n ∧ i = .int .i64 j ∧ v = .slice Av j cv ∧ Hid (RfI sz bs w j wr Av cv cs ys)) (fun _ i _ => n - (Go.RowKit.intOf i).toNat)
  case atStart => exact ⟨0, none, 0, [], [], Nat.zero_le _, rfl, rfl, HI⟩
  case round =>
    clear HI
    obtain ⟨j, Av, cv, csr, ys, hj, rfl, rfl, HI⟩ := hrel
    by_cases hlt : j < n
    · obtain ⟨x, hx⟩ := at_of (k := j) HBL.out.len hlt
      obtain ⟨b, o, kb, gb, Ab, nb, cb, rfl, d0, d1, d2, d3, hrb⟩ := (HBL.out.keep HI.out.below).at_ j x hx
      obtain ⟨b', o', kb', gb', Ab', nb', cb', eA, d0', d1', d2', d3', hrb'⟩ := HBL.out.at_ j x hx
      cases eA
      have ek : kb' = kb ∧ gb' = gb ∧ Ab' = Ab ∧ nb' = nb ∧ cb' = cb := by
        have e1 := ((HI.out.below.cell (cell_lt d1')).trans d1').symm.trans d1
        have e2 := ((HI.out.below.cell (cell_lt d2')).trans d2').symm.trans d2
        have e3 := ((HI.out.below.cell (cell_lt d3')).trans d3').symm.trans d3
        cases e1; cases e2; cases e3
        exact ⟨rfl, rfl, rfl, rfl, rfl⟩
      obtain ⟨rfl, rfl, rfl, rfl, rfl⟩ := ek
      obtain ⟨bx, tx⟩ := x
      dsimp only at d0 hrb hrb'
      have hi0 : (0 : Int) ≤ j := by omega
      have hi1 : (j : Int) < n := by omega
      have heq := HI.out.eq
      rw [drop_at hx, fulL] at heq
      have HEQ := Lib.hid heq
      have sW := HI.out.below.size
      have hrow := HI.out.row
      clear hx heq hrb d0' d1' d2' d3'
      cases bx
      · by_cases hjL : j < L
        case' pos =>
          obtain ⟨z, hz⟩ : ∃ z, sz[j]? = some z := ⟨_, List.getElem?_eq_getElem (by rw [HLZ.out]; exact hjL)⟩
          obtain ⟨bS, oS, rfl, s0⟩ := (HS.out.keep HI.out.below) j z hz
          have hdL : decide ((j : Int) < (L : Int)) = true := decide_eq_true (by omega)
          have hjL2 : (j : Int) < L := by omega
          have HZ := Lib.hid (show sz.getD j 0 = z by rw [List.getD_eq_getElem?_getD, hz]; rfl)
          clear hz
        case' neg =>
          have hdL : decide ((j : Int) < (L : Int)) = false := decide_eq_false (by omega)
          obtain ⟨z, hz0⟩ : ∃ z : Int, z = 0 := ⟨_, rfl⟩
          have HZ : Hid (sz.getD j 0 = z) := Lib.hid (by rw [hz0, List.getD_eq_getElem?_getD, List.getElem?_eq_none (by rw [HLZ.out]; omega)]; rfl)
          subst hz0
        all_goals
          clear hrb' hrow
          go_wp2_with fail
          refine (rsameC _ wr).mono ?_
          rintro e w1 ⟨A3, n3, c3, rfl, hrl, hb1⟩
          have hr3 : RdF (fun b => ¬ False ∧ some b ≠ Value.ownBlock (.slice Av j cv)) w1 (fulT (false, tx) j (sz.getD j 0)) (.agg #[.int .i64 6, .int .i64 j, .slice A3 n3 c3]) := by
            rw [HZ.out]
            exact RdF_node.2 ⟨A3, n3, c3, rfl, by decide, wf_place (by omega), hrl.len, hrl.le, hrl.cap, fun i t ht => RdFAt.moveX (fun b hb _ => ⟨⟨fun e => e, fun e => by have hb : ¬ b < wr.heap.size := hb; have := (HI.out.row.lt e.symm).2; omega⟩, rfl⟩) (hrl.at_ i t ht)⟩
          have hrow1 := HI.out.row.move (w' := w1) (fun b hl _ => hb1.block b hl) (fun g _ e => e)
          obtain ⟨g, cap, w4, hrun, hrow4, hold, hb4⟩ := hrow1.push hr3 (by have := hb1.size; omega) (by omega)
          have HJ : Hid (RfI sz bs w (j + 1) w4 (some ⟨g, 0, none⟩) cap _ (ys ++ [fulT (false, tx) j (sz.getD j 0)])) := Lib.hid ⟨hrow4, (HI.out.below.trans (hb1.mono sW)).trans hb4, by rw [HEQ.out]; simp⟩
          clear hrl hr3 hrow1 hrow4 hold hb4
          have HB1 := Lib.hid hb1; clear hb1
          go_wp2_with (at_builtin; refine Lib.wpList_append_run _ rfl _ _ _ _ rfl _ _ rfl rfl _ _ hrun ?_)
          go_roundw
          case rel => exact ⟨j + 1, some ⟨g, 0, none⟩, cap, _, _, by omega, by go_num, rfl, HJ⟩
          case measure => simp [Go.RowKit.intOf]; omega
      · have hr3 : RdF (fun b => ¬ False ∧ some b ≠ Value.ownBlock (.slice Av j cv)) wr (fulT (true, tx) j (sz.getD j 0)) (.agg #[.int .i64 kb', .int .i64 gb', .slice Ab' nb' cb']) :=
          RdF.moveX (fun b hb hl => ⟨⟨fun e => e, fun e => by have hb : True ∧ b < w.heap.size := hb; have := (hrow.lt e.symm).1; omega⟩, HI.out.below.block b hb.2⟩) _ _ (rdF_heap _ _ hrb')
        obtain ⟨g, cap, w4, hrun, hrow4, hold, hb4⟩ := hrow.push hr3 sW (by omega)
        have HJ : Hid (RfI sz bs w (j + 1) w4 (some ⟨g, 0, none⟩) cap _ (ys ++ [fulT (true, tx) j (sz.getD j 0)])) := Lib.hid ⟨hrow4, HI.out.below.trans hb4, by rw [HEQ.out]; simp⟩
        clear hr3 hrow hrow4 hold hb4 hrb'
        go_wp2_with (at_builtin; refine Lib.wpList_append_run _ rfl _ _ _ _ rfl _ _ rfl rfl _ _ hrun ?_)
        go_roundw
        case rel => exact ⟨j + 1, some ⟨g, 0, none⟩, cap, _, _, by omega, by go_num, rfl, HJ⟩
        case measure => simp [Go.RowKit.intOf]; omega
    · have e := HI.out.eq
      rw [drop_all HBL.out.len (by omega), fulL, List.append_nil] at e
      have HE := Lib.hid e; clear e
      obtain rfl : n = j := by omega
      have hrl := HI.out.row.rxl fun b hb => hb.elim
      have HRL := Lib.hid hrl; clear hrl
      go_wp2_with fail
      go_ret
      rw [HE.out]
      exact ⟨_, _, rfl, HRL.out.le, fun i t ht => rdFAt_rd (HRL.out.at_ i t ht), HI.out.below⟩
end Go.Proofs.Ytelicajhamgibaa

/-
  The walk of the law UnifyFull.
-/
namespace Go.Proofs.Ytelicajhamgibaa
open Go.ChangeShapes Go.WideShapes Go.ChangeAt Go.RowKit
set_option linter.unusedVariables false

set_option maxRecDepth 100000 in
set_option maxHeartbeats 8000000 in
theorem unifyFullC (bs : List BT) (sz : List Int) (A : Option Addr) (n c : Nat) (As : Option Addr) (L cs : Nat) (w : World) (hbl : BL (fun _ => True) w bs A n c) (hwd : ∀ x ∈ bs, wd x.2 ≤ 3518437208780) (hl : sz.length = L) (hlc : L ≤ cs) (hcm : cs ≤ maxLen) (hs : Nu w sz As) :
    Calls Try.prog 3 #[.slice A n c, .slice As L cs] w fun e w' => e = .returned (.bool true) ∧ Below w.heap.size w w' := by
  have hcm2 := hcm
  unfold maxLen at hcm2
  have HBL := Lib.hid hbl
  have hlen := hbl.len
  clear hbl
  have HWD := Lib.hid hwd; clear hwd
  have HS := Lib.hid hs; clear hs
  have HLZ := Lib.hid hl; clear hl
  go_enter Try.func3, Try.ntmps3
  go_wp2_with fail
  refine (awakeN _).mono ?_
  rintro e w1 ⟨rfl, hb⟩
  have HFE := Lib.hid (hFewC _ bs A n c w1 (HBL.out.keep hb))
  obtain ⟨F, hF⟩ : ∃ F, fwB bs n = F := ⟨_, rfl⟩
  rw [hF] at HFE
  go_wp2_with fail
  refine HFE.out.mono ?_
  rintro e w2 ⟨rfl, hb2⟩
  have hbw := hb.trans (hb2.mono hb.size)
  clear hb hb2 HFE
  cases F
  · go_wp2_with fail
    go_ret
    exact ⟨rfl, hbw⟩
  have hn60 : n ≤ 60 := by
    rw [fwB, Bool.and_eq_true, decide_eq_true_eq] at hF
    exact hF.1
  clear hF
  by_cases hLm : 60 < L
  · have dL : decide ((60 : Int) < (L : Int)) = true := decide_eq_true (by omega)
    go_wp2_with fail
    go_ret
    exact ⟨rfl, hbw⟩
  have dL : decide ((60 : Int) < (L : Int)) = false := decide_eq_false (by omega)
  have HFU := Lib.hid (FullC bs sz A n c As L cs w2 (HBL.out.keep hbw) HWD.out hn60 HLZ.out hlc hcm (HS.out.keep hbw))
  go_wp2_with fail
  refine HFU.out.mono ?_
  rintro e w3 ⟨q, rfl, hx, hb3⟩
  have hbw3 := hbw.trans (hb3.mono hbw.size)
  have HX := Lib.hid hx
  clear hx hb3 hbw HFU
  have HRF := Lib.hid (rFullC bs sz A n c As L cs w3 (HBL.out.keep hbw3) hn60 HLZ.out hlc hcm (HS.out.keep hbw3))
  go_wp2_with fail
  refine HRF.out.mono ?_
  rintro e w4 ⟨A4, c4, rfl, hc4, hy, hb4⟩
  have hbw4 := hbw3.trans (hb4.mono hbw3.size)
  have HLI := Lib.hid (rlistU (fulL sz bs 0) (some ⟨q, 0, none⟩) A4 n n c4 w4 (by rw [fulL_len, hlen]) (Nat.le_refl _) (by unfold maxLen; omega) hc4 (fun i t ht => RdAt.keep hb4 (HX.out i t ht)) hy)
  clear hy hb4 hbw3 HRF HX
  go_wp2_with fail
  refine HLI.out.mono ?_
  rintro e w5 ⟨rfl, hb5⟩
  have hbw5 := hbw4.trans (hb5.mono hbw4.size)
  clear hb5 hbw4
  go_wp2_with fail
  go_ret
  exact ⟨rfl, hbw5⟩
end Go.Proofs.Ytelicajhamgibaa
