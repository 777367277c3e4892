/-
  The walk through LexLong. No statement is proved here.
-/
import Derived.Test.YtfohekdmlhgapaaXn
namespace Go.Proofs.Ytfohekdmlhgapaa
open Go.ChangeShapes Go.WideShapes Go.ChangeAt Go.RowKit
set_option linter.unusedVariables false
/-- what make lays: noughts -/
theorem run_makeY (w : World) (N : Nat) (hN : N ≤ 1000000) : (Instr.makeSlice 22 (.int .i64 N) (.int .i64 N)).run Try.prog w = .ok (.slice (some ⟨w.heap.size, 0, none⟩) N N) (w.alloc (.cells (Array.replicate N (.int .u8 0)) 5)) := by
  obtain ⟨i0, hi, hz0, hz1, hz2⟩ := info_u8
  have := run_make w 22 5 i0 _ Try.underlying22 hi hz0 .i64 .i64 (N : Int) (N : Int) (by omega) (Int.le_refl _) (by rw [hz2]; omega) (by omega)
  have e : Array.map (fun x => [Value.int IntKind.u8 0][x % 1]?.getD default) (Array.range N) = Array.replicate N (Value.int IntKind.u8 0) := by
    apply Array.ext
    · simp
    · intro i h1 h2
      simp [Nat.mod_one]
  rw [this]
  simp [madeCells, hz1, Value.cells, e]
theorem lexE_rep (u : UInt8) : lexE (List.replicate 20000 u) = lexE [u] := by
  have h1 : ¬ 20000 < (List.replicate 20000 u).length := by rw [List.length_replicate]; omega
  have h2 : ¬ 20000 < [u].length := by simp
  unfold lexE
  rw [if_neg h1, if_neg h2, toks_rep u 20000 (by omega)]
/-- the row so far: j of the byte -/
structure LgI (u : UInt8) (w : World) (N j G : Nat) (wx : World) : Prop where
  below : Below w.heap.size w wx
  row : ∃ cs : Array Value, wx.heap[G]? = some (.cells cs 5 (0, 0)) ∧ cs.size = N ∧ ∀ i, i < j → cs[i]? = some (bV u)
theorem LgI.cells {u : UInt8} {w : World} {N j G : Nat} {wx : World} (h : LgI u w N j G wx) (hj : j < N) : (∃ v, wx.cell? ⟨G, j, none⟩ = some v) ∧ wx.frozen? ⟨G, j, none⟩ = false := by
  obtain ⟨cs, hh, hs, _⟩ := h.row
  refine ⟨⟨cs[j]'(by omega), ?_⟩, ?_⟩
  · rw [cell_of_row wx G j cs _ _ hh, Array.getElem?_eq_getElem (by omega)]
  · simp [World.frozen?, hh]
theorem LgI.put {u : UInt8} {w : World} {N j G : Nat} {wx : World} (h : LgI u w N j G wx) (hj : j < N) (hG : w.heap.size ≤ G) : LgI u w N (j + 1) G (wx.setCell ⟨G, j, none⟩ (bV u)) := by
  obtain ⟨cs, hh, hs, hc⟩ := h.row
  refine ⟨h.below.setCell hG _, cs.setIfInBounds j (bV u), BoxX.put (ty := 5) hh j (bV u), by simpa using hs, fun i hi => ?_⟩
  rw [Array.getElem?_setIfInBounds]
  by_cases hij : j = i
  · rw [if_pos hij, if_pos (by omega)]
  · rw [if_neg hij]; exact hc i (by omega)
theorem LgI.yl {u : UInt8} {w : World} {N G : Nat} {wx : World} (h : LgI u w N N G wx) (hN : N ≤ 1000000) : YL wx (List.replicate N u) (some ⟨G, 0, none⟩) N N := by
  obtain ⟨cs, hh, hs, hc⟩ := h.row
  refine ⟨by simp, Nat.le_refl _, by unfold maxLen; omega, fun i v hv => ⟨_, _, rfl, ?_⟩⟩
  obtain ⟨hi, rfl⟩ := List.getElem?_eq_some_iff.1 hv
  rw [List.length_replicate] at hi
  rw [Nat.zero_add, cell_of_row wx G i cs _ _ hh, hc i hi, List.getElem_replicate]
set_option maxRecDepth 100000 in
set_option maxHeartbeats 4000000 in
theorem lexLongC (u : UInt8) (a : Int) (w : World) :
    Calls Try.prog 8 #[.int .u8 (u.toNat : Int), .int .i64 a] w fun e w' => e = .returned (.bool true) ∧ Below w.heap.size w w' := by
  have HA := Lib.hid (xAwakeC w)
  by_cases g1 : a < 0
  · go_enter Try.func8, Try.ntmps8
    go_wp2_with fail
    refine HA.out.mono ?_
    rintro e w1 ⟨rfl, hb1⟩
    go_wp2_with fail
    go_ret
    exact ⟨rfl, hb1⟩
  · have d1 : 0 ≤ a := by omega
    by_cases g2 : 100 < a
    · go_enter Try.func8, Try.ntmps8
      go_wp2_with fail
      refine HA.out.mono ?_
      rintro e w1 ⟨rfl, hb1⟩
      go_wp2_with fail
      go_ret
      exact ⟨rfl, hb1⟩
    · have d2 : a ≤ 100 := by omega
      obtain ⟨N, hN⟩ : ∃ N : Nat, 20001 + a = (N : Int) := ⟨(20001 + a).toNat, by omega⟩
      have hNl : 20001 ≤ N := by omega
      have hNu : N ≤ 20101 := by omega
      have hwr : IntKind.i64.wrap (20001 + a) = (N : Int) := by rw [hN]; exact wrap_small _ (by omega) (by omega)
      have HM : ∀ W : World, (Instr.makeSlice 22 (.int .i64 N) (.int .i64 N)).run Try.prog W = .ok (.slice (some ⟨W.heap.size, 0, none⟩) N N) (W.alloc (.cells (Array.replicate N (.int .u8 0)) 5)) := fun W => run_makeY W N (by omega)
      go_enter Try.func8, Try.ntmps8
      go_wp2_with fail
      refine HA.out.mono ?_
      rintro e w1 ⟨rfl, hb1⟩
      have HB1 := Lib.hid hb1
      clear hb1 HA
      go_wp2_with fail
      have hG : w.heap.size ≤ w1.heap.size := HB1.out.size
      have HI0 : Hid (LgI u w N 0 w1.heap.size (w1.alloc (.cells (Array.replicate N (.int .u8 0)) 5))) := Lib.hid ⟨HB1.out.alloc hG _, _, heap_alloc_new w1 _, by simp, fun i hi => by omega⟩
      generalize w1.heap.size = G at *
      clear HM
      go_loopw [7] (fun i wr => ∃ j : Nat, j ≤ N ∧ i = .int .i64 j ∧ LgI u w N j G wr) (fun i _ => N - (Go.RowKit.intOf i).toNat)
      case atStart => exact ⟨0, Nat.zero_le _, rfl, HI0.out⟩
      case round =>
        clear HI0
        obtain ⟨j, hj, rfl, hI⟩ := hrel
        by_cases hlt : j < N
        · have hi0 : (0 : Int) ≤ j := by omega
          have hi1 : (j : Int) < N := by omega
          obtain ⟨⟨v, c0⟩, f0⟩ := hI.cells hlt
          have HIn := Lib.hid (hI.put hlt hG)
          rw [show bV u = .int .u8 (u.toNat : Int) from rfl] at HIn
          clear hI
          go_wp2_with fail
          go_roundw
          case rel => exact ⟨j + 1, hlt, by go_num, HIn.out⟩
          case measure => simp [Go.RowKit.intOf]; omega
        · obtain rfl : j = N := by omega
          have hy := hI.yl (by omega)
          have hE : lexE (List.replicate j u) = 4 := if_pos (by rw [List.length_replicate]; omega)
          have HY := Lib.hid hy
          have HB := Lib.hid hI.below
          have HE := Lib.hid hE
          clear hI hy hE
          go_wp2_with fail
          refine (xTokensC _ _ _ _ _ HY.out).mono ?_
          rintro e w2 ⟨A2, n2, c2, rfl, hr2, hb2⟩
          rw [HE.out]
          have HB2 := Lib.hid (HB.out.trans (hb2.mono HB.out.size))
          have hs2 := HY.out.keep hb2
          have HS2 : Hid (YL w2 (List.replicate 20000 u) (some ⟨G, 0, none⟩) 20000 j) := Lib.hid (by
            have := hs2.sub 0 20000 (by omega) (by omega)
            rw [List.drop_zero, Nat.sub_zero, Nat.sub_zero, List.take_replicate, show min 20000 j = 20000 by omega] at this
            exact this)
          clear hr2 hb2 hs2
          have hj1 : (20000 : Int) ≤ (j : Int) := by omega
          go_wp2_with fail
          refine (xTokensC _ _ _ _ _ HS2.out).mono ?_
          rintro e w3 ⟨A3, n3, c3, rfl, hr3, hb3⟩
          rw [lexE_rep]
          have HB3 := Lib.hid (HB2.out.trans (hb3.mono HB2.out.size))
          have hb4 : Below w3.heap.size w3 (w3.alloc (.cells #[.int .u8 (u.toNat : Int)] 5)) := (Below.refl _ _).alloc (Nat.le_refl _) _
          have HS4 : Hid (YL (w3.alloc (.cells #[.int .u8 (u.toNat : Int)] 5)) [u] (some ⟨w3.heap.size, 0, none⟩) 1 1) := Lib.hid (YL.block (heap_alloc_new w3 _) rfl (by simp))
          have HB4 := Lib.hid (HB3.out.trans (hb4.mono HB3.out.size))
          clear hr3 hb3 hb4
          go_wp2_with fail
          refine (xTokensC _ _ _ _ _ HS4.out).mono ?_
          rintro e w5 ⟨A5, n5, c5, rfl, hr5, hb5⟩
          have HB5 := Lib.hid (HB4.out.trans (hb5.mono HB4.out.size))
          clear hr5 hb5 HS4
          generalize lexE [u] = er
          go_wp2_with fail
          go_ret
          exact ⟨rfl, HB5.out⟩
theorem lexLongAnyC (z a : Int) (w : World) (hz : (Lit.int .u8 z).wf = true) :
    Calls Try.prog 8 #[.int .u8 z, .int .i64 a] w fun e w' => e = .returned (.bool true) ∧ Below w.heap.size w w' := by
  rw [show Value.int .u8 z = .int .u8 ((UInt8.ofNat z.toNat).toNat : Int) from byte_of hz]
  exact lexLongC _ a w
end Go.Proofs.Ytfohekdmlhgapaa
