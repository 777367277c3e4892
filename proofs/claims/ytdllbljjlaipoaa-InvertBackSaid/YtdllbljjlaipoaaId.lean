/-
  Contract of the library's Repeat at a list of one number. No statement is proved here.
-/
import Derived.Test.YtdllbljjlaipoaaIm
import Derived.Test.YtdllbljjlaipoaaOw
import Derived.Test.YtdllbljjlaipoaaCs
import Derived.Laws.CopyRow
import Derived.Lib.SlBuf
namespace Go.Proofs.Ytdllbljjlaipoaa
open Go.ChangeShapes Go.WideShapes Go.ChangeAt Go.RowKit
set_option linter.unusedVariables false

theorem mulOne (N : Nat) (hN : N ≤ 1000) (w : World) : Calls Try.prog 66 #[.int .u64 1, .int .u64 N] w fun e w' => e = .returned (.tuple #[.int .u64 0, .int .u64 N]) ∧ w' = w := by
  have h := mulC 1 N (by omega) (by omega) w
  rw [show 1 * N / 18446744073709551616 = 0 by omega, show 1 * N % 18446744073709551616 = N by omega] at h
  exact h
theorem infoInt : (Try.prog.info? 3).map (fun i => (i.zero, i.size, i.bytes)) = some (some (.int .i64 0), 1, 8) := by kernel_rfl
theorem sizeInt : (Try.prog.info? 3).map (·.size) = some 1 := by kernel_rfl
/-- one number copied m times into a block -/
theorem copy_box {w : World} {b : Nat} {cs : Array Value} (h : Box w b 3 cs) (o dLen dCap : Nat) (a : Addr) (sLen sCap m : Nat) (x : Int) (ty : TypeId) (hn : m = Nat.min sLen dLen) (hsrc : ∀ j, j < m → w.cell? (a.add j) = some (.int .i64 x)) (hfit : o + m ≤ cs.size) :
    ∃ w' cs', (Builtin.copy_ #[25, 25] ty #[.slice (some ⟨b, o, none⟩) dLen dCap, .slice (some a) sLen sCap]).run Try.prog w = .ok (.int .i64 (m : Int)) w' ∧ Box w' b 3 cs' ∧ cs'.size = cs.size ∧
      (∀ i, i < o → cs'[i]? = cs[i]?) ∧ (∀ i, i < m → cs'[o + i]? = some (.int .i64 x)) ∧ (∀ B, B ≤ b → Below B w w') := by
  have hr := run_copy_row Try.prog w 25 25 ty 3 b o dLen dCap a sLen sCap cs 3 (List.replicate m (.int .i64 x)) Try.underlying25 sizeInt h (by simpa using hn)
    (fun j v hv => by
      obtain ⟨hj, e⟩ := List.getElem?_eq_some_iff.1 hv
      rw [List.getElem_replicate] at e
      rw [← e]
      exact hsrc j (by simpa using hj)) (by simpa using hfit) (fun v hv => by rw [(List.mem_replicate.1 hv).2]; rfl)
  refine ⟨w.setRow b (cs.toList.take o ++ List.replicate m (Value.int .i64 x) ++ cs.toList.drop (o + (List.replicate m (Value.int .i64 x)).length)).toArray, (cs.toList.take o ++ List.replicate m (Value.int .i64 x) ++ cs.toList.drop (o + (List.replicate m (Value.int .i64 x)).length)).toArray, ?_, setRow_heap w b cs _ _ _ h, ?_, ?_, ?_, ?_⟩
  · rw [hr, List.length_replicate]; rfl
  · simp; omega
  · intro i hi
    simp only [List.getElem?_toArray]
    rw [List.append_assoc, List.getElem?_append_left (by simp; omega), List.getElem?_take_of_lt hi, Array.getElem?_toList]
  · intro i hi
    simp only [List.getElem?_toArray]
    have hl : (cs.toList.take o).length = o := by simp; omega
    rw [List.append_assoc, List.getElem?_append_right (by omega), hl, List.getElem?_append_left (by simp; omega), List.getElem?_replicate, if_pos (by omega)]
  · intro B hB
    exact ⟨rfl, rfl, rfl, by simp [World.setRow], fun k hk => setRow_other w b k _ (by omega)⟩
/-- the number, so far -/
structure RpI (N : Nat) (x : Int) (w : World) (k : Nat) (wr : World) : Prop where
  box : ∃ cs, Box wr w.heap.size 3 cs ∧ cs.size = N ∧ ∀ i, i < k → cs[i]? = some (.int .i64 x)
  below : Below w.heap.size w wr
theorem RpI.step {N : Nat} {x : Int} {w wr : World} {k : Nat} (h : RpI N x w k wr) (k' dCap sCap : Nat) (ty : TypeId) (hk : k ≤ N) (hm : k' = Nat.min k (N - k)) :
    ∃ w', (Builtin.copy_ #[25, 25] ty #[.slice (some ⟨w.heap.size, k, none⟩) (N - k) dCap, .slice (some ⟨w.heap.size, 0, none⟩) k sCap]).run Try.prog wr = .ok (.int .i64 (k' : Int)) w' ∧ RpI N x w (k + k') w' := by
  obtain ⟨cs, hb, hs, hc⟩ := h.box
  have h1 : k' ≤ k := by rw [hm]; exact Nat.min_le_left ..
  have h2 : k' ≤ N - k := by rw [hm]; exact Nat.min_le_right ..
  obtain ⟨w', cs', e, b', s', l', c', bl'⟩ := copy_box hb k (N - k) dCap ⟨w.heap.size, 0, none⟩ k sCap k' x ty hm (fun j hj => by
    have : (⟨w.heap.size, 0, none⟩ : Addr).add j = ⟨w.heap.size, 0 + j, none⟩ := by unfold Addr.add; split <;> simp_all
    rw [this, hb.cell, Nat.zero_add]; exact hc j (by omega)) (by omega)
  refine ⟨w', e, ⟨cs', b', by omega, fun i hi => ?_⟩, h.below.trans (bl' _ (Nat.le_refl _))⟩
  by_cases hik : i < k
  · rw [l' i hik]; exact hc i hik
  · have := c' (i - k) (by omega)
    rwa [show k + (i - k) = i by omega] at this

set_option maxRecDepth 100000 in
set_option maxHeartbeats 4000000 in
theorem repeatC (b o N : Nat) (x : Int) (w : World) (hN : N ≤ 1000) (hx : w.cell? ⟨b, o, none⟩ = some (.int .i64 x)) :
    Calls Try.prog 46 #[.slice (some ⟨b, o, none⟩) 1 1, .int .i64 N] w fun e w' => e = .returned (.slice (some ⟨w.heap.size, 0, none⟩) N N) ∧ RpI N x w N w' := by
  have hmk : ∀ W : World, (Instr.makeSlice 25 (.int .i64 (N : Int)) (.int .i64 (N : Int))).run Try.prog W = .ok (.slice (some ⟨W.heap.size, 0, none⟩) N N) (W.alloc (.cells (madeCells #[.int .i64 0] (N * 1)) 3)) := by
    intro W
    obtain ⟨i0, hi, hz0, hz1, hz2⟩ := info_parts infoInt
    have := run_make W 25 3 i0 _ Try.underlying25 hi hz0 .i64 .i64 (N : Int) (N : Int) (by omega) (Int.le_refl _) (by rw [hz2]; omega) (by omega)
    rw [hz1] at this
    simpa [Value.cells] using this
  have HM := Lib.hid (mulOne N hN)
  have hw1 : IntKind.u64.wrap (N : Int) = N := by rw [IntKind.wrap_u64]; omega
  have hw2 : IntKind.i64.wrap (N : Int) = N := by rw [wrapEq]; exact wrap_small (by omega) (by omega)
  have d1 : decide ((9223372036854775807 : Int) < N) = false := by simp; omega
  have d2 : decide ((N : Int) < 0) = false := by simp
  go_enter Try.func46, Try.ntmps46
  have hb : Below w.heap.size w (w.alloc (.cells (madeCells #[.int .i64 0] N) 3)) := (Below.refl _ w).alloc (Nat.le_refl _) _
  have x3 := Box.new w 3 (madeCells #[.int .i64 0] N)
  have hcs := size_madeCells #[.int .i64 0] N
  have hN0 : 0 < N ∨ N = 0 := by omega
  obtain ⟨w1, cs1, hr1, y1, s1, _, c1, bl1⟩ := copy_box x3 0 N N ⟨b, o, none⟩ 1 1 (Nat.min 1 N) x 3 rfl (fun j hj => by
    have h0 : j = 0 := by have := Nat.min_le_left 1 N; have : Nat.min 1 N ≤ 1 := this; omega
    subst h0
    have : (⟨b, o, none⟩ : Addr).add 0 = ⟨b, o, none⟩ := by unfold Addr.add; simp
    rw [this, ((Below.refl _ w).alloc (Nat.le_refl _) _).cell (cell_lt hx)]
    exact hx) (by have : Nat.min 1 N ≤ N := Nat.min_le_right 1 N; omega)
  obtain ⟨k, hk⟩ : ∃ k, k = Nat.min 1 N := ⟨_, rfl⟩
  have HI : Hid (RpI N x w k w1) := Lib.hid ⟨⟨cs1, y1, by omega, fun i hi => by have := c1 i (by omega); rwa [Nat.zero_add] at this⟩, hb.trans (bl1 _ (Nat.le_refl _))⟩
  have HK : Hid (k ≤ N ∧ (0 < N → 0 < k)) := Lib.hid (by
    rw [hk]
    rcases hN0 with h | h
    · have : Nat.min 1 N = 1 := Nat.min_eq_left h
      omega
    · subst h; exact ⟨Nat.min_le_right .., fun h => by omega⟩)
  rw [← hk] at hr1
  clear x3 hcs y1 s1 c1 bl1 hb hk
  go_wp2_with (first
    | (go_at_call 66; refine (HM.out _).mono ?_; rintro e w' ⟨rfl, hw⟩; rw [hw]; clear hw w')
    | (at_builtin; refine Lib.wpList_copy_run _ rfl _ _ _ _ rfl _ _ rfl rfl hr1 ?_))
  clear hr1 hN0
  go_loopw [8] (fun i wr => ∃ (k : Nat), i = .int .i64 k ∧ Hid (k ≤ N ∧ (0 < N → 0 < k)) ∧ Hid (RpI N x w k wr)) (fun i _ => N - (intOf i).toNat)
  case atStart => exact ⟨k, rfl, HK, HI⟩
  case round =>
    clear HI HK
    obtain ⟨k, rfl, HK, HI⟩ := hrel
    by_cases hlt : k < N
    · have hk1 : 0 < k := HK.out.2 (by omega)
      have hk2 : (0 : Int) ≤ k := by omega
      have hk3 : (k : Int) ≤ N := by omega
      obtain ⟨k', hk'⟩ : ∃ k', k' = Nat.min k (N - k) := ⟨_, rfl⟩
      have hmin : k' ≤ N - k ∧ 0 < k' := by
        rw [hk']
        exact ⟨Nat.min_le_right .., Nat.lt_min.2 ⟨hk1, by omega⟩⟩
      obtain ⟨w2, hr2, hi2⟩ := (show RpI N x w k wr.drew from ⟨HI.out.box, HI.out.below.drew⟩).step k' (N - k) N 3 (by omega) hk'
      have HI2 := Lib.hid hi2
      clear hi2 hk'
      have hw3 : IntKind.i64.wrap ((k : Int) + k') = ((k + k' : Nat) : Int) := by rw [wrapEq, wrap_small (by omega) (by omega)]; omega
      go_wp2_with fail
      clear HI HK
      have hgt : True := trivial
      go_region_held3 (fun _ => True)
        (first | exact trivial)
        (first
          | (refine Lib.wp_copy_run _ _ _ _ _ rfl _ _ rfl rfl hr2 ?_))
      go_wp2_with fail
      exact ⟨⟨k + k', by go_num, Lib.hid (by omega), HI2⟩, by simp [intOf]; omega⟩
    · obtain rfl : k = N := by have := HK.out.1; omega
      go_wp2_with fail
      go_ret
      exact ⟨rfl, HI.out⟩
end Go.Proofs.Ytdllbljjlaipoaa
