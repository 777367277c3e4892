/-
  Contracts of package occur's set of numbers: add, has, rising; and of nodes. No statement is proved here.
-/
import Derived.Test.YtooihffijpndoaaOa
import Derived.Test.YtooihffijpndoaaOs
namespace Go.Proofs.Ytooihffijpndoaa
open Go.ChangeShapes Go.WideShapes Go.ChangeAt Go.RowKit Go.Maps Go.Sort
set_option linter.unusedVariables false

theorem wf_key {x : Int} (h : (Lit.int .i64 x).wf = true) : keyOf Try.prog 3 (.int .i64 x) = some (.int .i64 x) := keyOf_int_mk Try.underlying3 h

set_option maxHeartbeats 800000 in
theorem addC (b : Nat) (l : List Int) (x : Int) (w : World) (hs : Sn w b l) (hx : (Lit.int .i64 x).wf = true) (hl : l.length < maxLen) :
    Calls Try.prog 40 #[.map (some b), .int .i64 x] w fun e w' => e = .returned (.tuple #[]) ∧ Sn w' b (l ++ [x]) ∧ w.grownBy w' (some b) := by
  obtain ⟨n, D, hown, hn, hD⟩ := hs
  have hkey := wf_key hx
  have hL : n < maxLen := by omega
  have HD := Lib.hid hD; clear hD
  have HL := Lib.hid hL; clear hL
  have HN := Lib.hid hn; clear hn
  clear hl hx
  go_enter Try.func40, Try.ntmps40
  go_wp2_with (first
    | (at_mapUpdate; refine wpList_mapUpdate_own _ rfl _ _ _ 53 rfl 3 67 lawI Try.underlying53 (unitElem (H := Unit)) b n D rfl hown HL.out _ _ _ rfl rfl hkey _ [] unitElem_mk ?_; intro w1 hown1 hgrow1)
    | go_in)
  go_end0
  refine ⟨rfl, ⟨n + 1, _, hown1, by have := HN.out; simp; omega, fun y => ?_⟩, hgrow1⟩
  rw [has_lit hown.isMap, HD.out y]
  simp [or_comm]

set_option maxHeartbeats 800000 in
theorem hasC (b : Nat) (l : List Int) (x : Int) (w : World) (hs : Sn w b l) (hx : (Lit.int .i64 x).wf = true) :
    Calls Try.prog 42 #[.map (some b), .int .i64 x] w fun e w' => e = .returned (.bool (l.contains x)) ∧ Below w.heap.size w w' := by
  obtain ⟨n, D, hown, hn, hD⟩ := hs
  have hkey := wf_key hx
  have hE : Maps.has D (.int .i64 x) = l.contains x := by
    rw [Bool.eq_iff_iff, hD x]; simp
  have hb : Below w.heap.size w (w.alloc (.cells #[] 67)) := (Below.refl _ _).alloc (Nat.le_refl _) _
  have HE := Lib.hid hE; clear hE
  clear hx hn hD
  go_enter Try.func42, Try.ntmps42
  go_wp2_with (first
    | (at_lookup; refine wpList_lookup_own_unit _ rfl _ _ 53 rfl 3 67 lawI Try.underlying53 (zeroU _) b n D rfl hown _ _ rfl hkey ?_)
    | go_in)
  go_ret
  exact ⟨ret_bool HE.out, hb⟩

theorem grown_back {B : Nat} {w w' : World} (h : w.grownBy w' none) (hB : B ≤ w.heap.size) : Below B w w' := (Below.refl _ w).grown h hB (fun j hj => by cases hj)

set_option maxRecDepth 100000 in
set_option maxHeartbeats 2000000 in
theorem risingC (b : Nat) (l : List Int) (w : World) (hs : Sn w b l) (hl : l.length ≤ 1048576) :
    Calls Try.prog 41 #[.map (some b)] w fun e w' => ∃ v, e = .returned v ∧ Ns w' v (rs l) ∧ Below w.heap.size w w' := by
  obtain ⟨n, D0, hown, hn, hD⟩ := hs
  have hsz : Maps.size D0 ≤ 1048576 := Nat.le_trans hown.size_le (by omega)
  obtain ⟨i0, hi, hz0, hz1, hz2⟩ := info_parts infoI
  have hbl := hown.lt
  have HD := Lib.hid hD; clear hD
  clear hl hn
  go_enter Try.func41, Try.ntmps41
  go_wp2_with (first
    | (at_len; refine wpList_len_own _ rfl _ 53 rfl 3 67 Try.underlying53 _ b n _ rfl hown ?_)
    | (at_make; refine wpList_make_own _ rfl _ _ 35 rfl w.heap.size 3 i0 (.int .i64 0) 1 Try.underlying35 hi hz0 hz1 _ _ _ (Maps.size D0) rfl rfl rfl (by rw [hz2]; omega) (by unfold maxLen; omega) (Nat.le_refl _) ?_; intro w1 hrow1 hg1)
    | (at_range; refine wpList_range_own _ rfl _ 53 rfl 3 67 lawI Try.underlying53 _ b n _ rfl (hown.kept hg1 (by simp)) ?_; intro w0 hrg0 hg0 hs0)
    | go_in)
  go_frame
  go_loopw [3] (fun v wr => ∃ (left : Lit → Bool) (cnt : Nat) (ss : List Int), wr.ranges Try.prog 3 (unitElem (H := Unit)) b w1.heap.size n D0 left cnt ∧ ss.length + cnt ≤ Maps.size D0 ∧
      wr.ownsRow w.heap.size 3 1 v ss.length (ss.map (Value.int .i64)) ∧ v ≠ .slice none 0 0 ∧ CollectedI D0 left ss ∧ Below w.heap.size w wr)
    (fun _ wr => wr.rangeLeft b w1.heap.size)
  case atStart =>
    exact ⟨_, _, [], hrg0, by simp, hrow1.kept hg0 (Or.inr (by simp [Value.ownBlock])), by simp, CollectedI.start D0,
      ((Below.refl _ _).grown hg1 (Nat.le_refl _) (fun j hj => by cases hj)).grown hg0 hg1.size (fun j hj => by cases hj)⟩
  case round =>
    obtain ⟨left, cnt, ss, hrg, hcs, hrow, hnn, hC, hnx⟩ := hrel
    go_wp2_with (first
      | (at_next; refine wpList_next_ranges _ rfl _ rfl 3 lawI (unitElem (H := Unit)) encZ (fun (_ : Unit) => Value.agg #[]) (fun key kl hk => by obtain ⟨x, hx, _⟩ := Maps.keyOf_i64 Try.underlying3 hk; exact ⟨x, hx⟩) (fun v y hv => ⟨(), (unitElem_inv hv).1⟩) b w1.heap.size n _ _ _ rfl hrg ?_ ?_)
      | go_in)
    · -- nothing is left: sorted, and handed back
      intro hc0 hl0
      rcases hrow.2 with ⟨hnil, _⟩ | ⟨g, cap, cur, rfl, hbase, hb, h1, h2, h3, h4⟩
      · exact absurd hnil hnn
      have hH : Holds encZ wr g 0 ss.toArray := holds_of_block_i hb (by simpa using h4)
      have hgl : g < wr.heap.size := (Array.getElem?_eq_some_iff.1 hb).1
      have hc := sortC g 0 cap ss wr hH hgl (by omega)
      go_wp2_with (go_at_call 51; refine hc.mono ?_; rintro e w' ⟨rfl, nn, os, rfl⟩)
      go_ret
      refine ⟨_, rfl, ?_, hnx.grown (grownBy_sorted_i _) hnx.size (fun j hj => by cases hj; exact hbase)⟩
      have e1 : ss.mergeSort leI = rs l := rs_sorted hC.1 fun x => by rw [hC.2 x, hl0, ← HD.out x]; simp
      have := ownsRow_sorted_i (n := nn) (os := os) (ts := ss.mergeSort leI) (by simp) hbase hb h1 h2 h3
      rw [← e1]
      exact Ns.of_row (base := w.heap.size) (e := 3) (by simpa using this)
    · -- an entry has come
      intro x kl yd yp w2 cnt2 hkey hlk hv hat hrg2 hlt hg2 hs2 hen
      obtain ⟨x', ex, rfl, _⟩ := Maps.keyOf_i64 Try.underlying3 hkey
      obtain rfl : x = x' := encZ_inj ex
      have hrow2 := hrow.kept hg2 (Or.inr (row_ne_iter hrow hrg).symm)
      clear hs2
      go_wp2_with (first
        | (at_builtin; refine wpList_append_own _ rfl _ _ 35 rfl w.heap.size 3 i0 (.int .i64 0) 1 8 Try.underlying35 hi hz0 hz1 hz2 rfl (by decide) _ _ _ rfl (hrow2.alloc _) ⟨w2.heap.size, 0, none⟩ 1 1 [encZ x] rfl rfl (cell_one_new _ _ _) (by simp [Value.oneCell', encZ]) (by unfold maxLen at *; omega) (by omega) (by have := hnx.size; have := hg2.size; simp; omega) ?_; intro v' w3 hown' hg3 hnil3; go_frame)
        | go_in)
      have hrg3 := (hrg2.alloc _).kept hg3 (row_ne_low hrow2 hbl) (row_ne_iter hrow2 hrg2)
      go_roundw
      case rel =>
        refine ⟨_, cnt2, ss ++ [x], hrg3, by simp; omega, by simpa using hown', fun hv' => by have := (hnil3.1 hv').2; omega, hC.step hlk hat, ?_⟩
        exact ((hnx.grown hg2 hnx.size (fun j hj => by cases hj; exact hg1.size)).alloc (by have := hnx.size; have := hg2.size; omega) _).grown hg3 (by have := hnx.size; have := hg2.size; simp; omega) (fun j hj => (hrow2.lt j hj).1)
      case measure => rw [hrg3.left_eq, hrg.left_eq]; exact hlt

set_option maxHeartbeats 400000 in
theorem onodesC (k h : Int) (s : Value) (hs : ∃ A n c, s = .slice A n c) (w : World) :
    Calls Try.prog 39 #[.agg #[.int .i64 k, .int .i64 h, s]] w fun e w' => e = .returned (.func (.func 49) #[] #[.pointer (some ⟨w.heap.size, 0, none⟩)]) ∧ w' = w.alloc (.cells #[.int .i64 k, .int .i64 h, s] 24) := by
  obtain ⟨A, n, c, rfl⟩ := hs
  go_enter Try.func39, Try.ntmps39
  go_wp2_with fail
  go_ret
  exact ⟨rfl, rfl⟩
end Go.Proofs.Ytooihffijpndoaa
