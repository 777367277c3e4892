/-
  The contracts of package subst's Same and Under. No statement is proved here.
-/
import Derived.Test.YtloeainlpcnhnaaWi
namespace Go.Proofs.Ytloeainlpcnhnaa
open Go.ChangeShapes Go.WideShapes Go.ChangeAt Go.RowKit
set_option linter.unusedVariables false

/-- how a call ends that tells a substitution of its own -/
def SEnd (L : List T) (sh : Int) (w : World) (e : Ending) (w' : World) : Prop :=
  ∃ A n c, e = .returned (.agg #[.slice A n c, .int .i64 sh]) ∧ RXL (fun b => b < w.heap.size) w' L A n c ∧ Below w.heap.size w w'
/-- variables n - 1 to 0, from a place on -/
def vsL (n : Nat) : List T := (List.range n).map fun (i : Nat) => T.node 4 ((n : Int) - 1 - (i : Int)) []
def clN (n : Int) : Nat := if n < 0 then 0 else if 200 < n then 200 else n.toNat
theorem Box.put2 {w : World} {p : Nat} {ty : TypeId} {x0 x1 : Value} (h : Box w p ty #[x0, x1]) (u0 u1 : Value) : Box ((w.setCell ⟨p, 0, none⟩ u0).setCell ⟨p, 1, none⟩ u1) p ty #[u0, u1] := by
  have := (h.setAt 0 u0).setAt 1 u1
  simpa using this
theorem vsL_at (m : Nat) (i : Nat) (t : T) (h : (vsL m)[i]? = some t) : i < m ∧ t = .node 4 ((m : Int) - 1 - (i : Int)) [] := by
  unfold vsL at h
  rw [List.getElem?_map, Option.map_eq_some_iff] at h
  obtain ⟨k, hk, rfl⟩ := h
  obtain ⟨h1, h2⟩ := List.getElem?_eq_some_iff.1 hk
  rw [List.length_range] at h1
  rw [List.getElem_range] at h2
  subst h2
  exact ⟨h1, rfl⟩
/-- three cells are laid -/
theorem lay3 {cs : Array Value} {m j : Nat} {v0 v1 v2 : Value} {p : Nat → Value → Value → Value → Prop} (hs : cs.size = m * 3) (hj : j < m)
    (h : ∀ i, i < j → ∃ a b c, cs[i * 3]? = some a ∧ cs[i * 3 + 1]? = some b ∧ cs[i * 3 + 2]? = some c ∧ p i a b c) (hp : p j v0 v1 v2) :
    ∀ i, i < j + 1 → ∃ a b c, (((cs.setIfInBounds (j * 3) v0).setIfInBounds (j * 3 + 1) v1).setIfInBounds (j * 3 + 2) v2)[i * 3]? = some a ∧ (((cs.setIfInBounds (j * 3) v0).setIfInBounds (j * 3 + 1) v1).setIfInBounds (j * 3 + 2) v2)[i * 3 + 1]? = some b ∧
      (((cs.setIfInBounds (j * 3) v0).setIfInBounds (j * 3 + 1) v1).setIfInBounds (j * 3 + 2) v2)[i * 3 + 2]? = some c ∧ p i a b c := by
  intro i hi
  by_cases e : i = j
  · subst e
    refine ⟨v0, v1, v2, ?_, ?_, ?_, hp⟩
    · rw [Array.getElem?_setIfInBounds_ne (by omega), Array.getElem?_setIfInBounds_ne (by omega), Array.getElem?_setIfInBounds_self_of_lt (by omega)]
    · rw [Array.getElem?_setIfInBounds_ne (by omega), Array.getElem?_setIfInBounds_self_of_lt (by simp; omega)]
    · rw [Array.getElem?_setIfInBounds_self_of_lt (by simp; omega)]
  · obtain ⟨a, b, c, h0, h1, h2, h3⟩ := h i (by omega)
    refine ⟨a, b, c, ?_, ?_, ?_, h3⟩
    · rw [Array.getElem?_setIfInBounds_ne (by omega), Array.getElem?_setIfInBounds_ne (by omega), Array.getElem?_setIfInBounds_ne (by omega), h0]
    · rw [Array.getElem?_setIfInBounds_ne (by omega), Array.getElem?_setIfInBounds_ne (by omega), Array.getElem?_setIfInBounds_ne (by omega), h1]
    · rw [Array.getElem?_setIfInBounds_ne (by omega), Array.getElem?_setIfInBounds_ne (by omega), Array.getElem?_setIfInBounds_ne (by omega), h2]
theorem vsL_len (m : Nat) : (vsL m).length = m := by simp [vsL]
/-- what holds at the head of Same's loop -/
structure SaI (m : Nat) (w : World) (j : Nat) (wr : World) (cs : Array Value) : Prop where
  res : Box wr w.heap.size 87 #[.slice none 0 0, .int .i64 0]
  row : Box wr (w.heap.size + 1) 26 cs
  size : cs.size = m * 3
  at_ : ∀ i, i < j → ∃ a b c, cs[i * 3]? = some a ∧ cs[i * 3 + 1]? = some b ∧ cs[i * 3 + 2]? = some c ∧ (a = .int .i64 4 ∧ b = .int .i64 ((m : Int) - 1 - (i : Int)) ∧ c = .slice none 0 0)
  below : Below w.heap.size w wr
set_option maxRecDepth 100000 in
set_option maxHeartbeats 2000000 in
theorem SameC (n : Int) (w : World) : Calls Try.prog 50 #[.int .i64 n] w (SEnd (vsL (clN n)) (clN n) w) := by
  obtain ⟨m, hm⟩ : ∃ m, clN n = m := ⟨_, rfl⟩
  have hcl : n < 0 ∧ m = 0 ∨ 0 ≤ n ∧ n ≤ 200 ∧ n = m ∨ 200 < n ∧ m = 200 := by
    unfold clN at hm
    by_cases h1 : n < 0
    · rw [if_pos h1] at hm; omega
    · rw [if_neg h1] at hm
      by_cases h2 : 200 < n
      · rw [if_pos h2] at hm; omega
      · rw [if_neg h2] at hm; omega
  have hm200 : m ≤ 200 := by omega
  rw [hm]
  clear hm
  obtain ⟨N, hN⟩ : ∃ N : Int, (m : Int) = N := ⟨_, rfl⟩
  obtain ⟨i0, hi, hz0, hz1, hz2⟩ := info_parts infoTerm
  have hmk : ∀ W : World, (Instr.makeSlice 24 (.int .i64 N) (.int .i64 N)).run Try.prog W = .ok (.slice (some ⟨W.heap.size, 0, none⟩) m m) (W.alloc (.cells (madeCells #[.int .i64 0, .int .i64 0, .slice none 0 0] (m * 3)) 26)) := by
    intro W
    have := run_make W 24 26 i0 _ Try.underlying24 hi hz0 .i64 .i64 N N (by omega) (Int.le_refl _) (by rw [hz2]; omega) (by omega)
    rw [hz1] at this
    have e : N.toNat = m := by omega
    rw [e] at this
    simpa [Value.cells] using this
  clear hi hz0 hz1 hz2 i0
  have hcs := size_madeCells #[.int .i64 0, .int .i64 0, .slice none 0 0] (m * 3)
  generalize madeCells #[.int .i64 0, .int .i64 0, .slice none 0 0] (m * 3) = cs0 at *
  obtain ⟨W, hW⟩ : ∃ W, (w.alloc (.cells #[.slice none 0 0, .int .i64 0] 87)).alloc (.cells cs0 26) = W := ⟨_, rfl⟩
  have HI : Hid (SaI m w 0 W cs0) := Lib.hid ⟨by rw [← hW]; exact (Box.new _ _ _).alloc _, by rw [← hW]; exact (Box.new (w.alloc _) _ _).at (by simp), hcs, fun i hi => by omega, by rw [← hW]; exact ((Below.refl _ _).alloc (Nat.le_refl _) _).alloc (by simp) _⟩
  have HW := Lib.hid hW; clear hW hcs
  have e1 : (if n < 0 then 0 else n) = (if N ≤ 0 then 0 else n) := by split <;> split <;> omega
  clear e1
  have hsel : n < 0 ∧ N = 0 ∨ ¬ n < 0 ∧ n ≤ 200 ∧ n = N ∨ ¬ n < 0 ∧ ¬ n ≤ 200 ∧ N = 200 := by omega
  clear hcl
  rcases hsel with ⟨h1, rfl⟩ | ⟨h1, h2, rfl⟩ | ⟨h1, h2, rfl⟩
  · have HNM := Lib.hid hN; clear hN
    go_enter Try.func50, Try.ntmps50
    go_wp2_with fail
    rw [HW.out]
    clear HW hmk
    go_loopw [12] (fun i wr => ∃ (j : Nat) (cs : Array Value), j ≤ m ∧ i = .int .i64 j ∧ Hid (SaI m w j wr cs)) (fun i _ => m - (intOf i).toNat)
    case atStart => exact ⟨0, cs0, Nat.zero_le _, rfl, HI⟩
    case round =>
      clear HI
      obtain ⟨j, cs, hj, rfl, HI⟩ := hrel
      by_cases hlt : j < m
      · exfalso; have := HNM.out; omega
      · obtain rfl : j = m := by omega
        obtain ⟨r0, r1⟩ := HI.out.res.two
        have f0 := HI.out.res.frozen 0
        have f1 := HI.out.res.frozen 1
        go_wp2_with fail
        refine bodyPost_ret (v := .agg #[.slice (some ⟨w.heap.size + 1, 0, none⟩) j j, .int .i64 0]) (by simp [results, Try.results50, go_sem, r0, r1]) rfl ?_
        refine ⟨_, _, _, by rw [HNM.out], ⟨vsL_len _, Nat.le_refl _, by unfold maxLen; omega, fun i t ht => ?_⟩, (HI.out.below.setCell (by dsimp only; omega) _).setCell (by dsimp only; omega) _⟩
        obtain ⟨h1', rfl⟩ := vsL_at _ _ _ ht
        obtain ⟨a, b, c, d0, d1, d2, rfl, rfl, rfl⟩ := HI.out.at_ i h1'
        have yb : Box _ (w.heap.size + 1) _ _ := (HI.out.row.other (a := ⟨w.heap.size, 0, none⟩) (by dsimp only; omega) (.slice (some ⟨w.heap.size + 1, 0, none⟩) j j)).other (a := ⟨w.heap.size, 1, none⟩) (by dsimp only; omega) (.int .i64 0)
        refine ⟨w.heap.size + 1, 0, _, _, _, rfl, by omega, ?_, ?_, ?_, rx_leaf (X := fun b => b < w.heap.size) (by decide) (wf_small (by omega) (by omega))⟩
        · rw [Nat.zero_add, yb.cell]; exact d0
        · rw [Nat.zero_add, yb.cell]; exact d1
        · rw [Nat.zero_add, yb.cell]; exact d2
  · have HNM := Lib.hid hN; clear hN
    go_enter Try.func50, Try.ntmps50
    go_wp2_with fail
    rw [HW.out]
    clear HW hmk
    go_loopw [12] (fun i wr => ∃ (j : Nat) (cs : Array Value), j ≤ m ∧ i = .int .i64 j ∧ Hid (SaI m w j wr cs)) (fun i _ => m - (intOf i).toNat)
    case atStart => exact ⟨0, cs0, Nat.zero_le _, rfl, HI⟩
    case round =>
      clear HI
      obtain ⟨j, cs, hj, rfl, HI⟩ := hrel
      by_cases hlt : j < m
      · go_wp2_with fail
        refine (varC _ _).mono ?_
        rintro e w1 ⟨rfl, hb1⟩
        have y0 := HI.out.res.keep hb1 HI.out.res.lt
        have y1 := HI.out.row.keep hb1 HI.out.row.lt
        have hbw := HI.out.below.trans (hb1.mono HI.out.below.size)
        have HB := Lib.hid hbw; clear hbw hb1
        obtain ⟨u0, hu0⟩ := y1.there (i := j * 3) (by rw [HI.out.size]; omega)
        obtain ⟨u1, hu1⟩ := y1.there (i := j * 3 + 1) (by rw [HI.out.size]; omega)
        obtain ⟨u2, hu2⟩ := y1.there (i := j * 3 + 2) (by rw [HI.out.size]; omega)
        have f0 := y1.frozen (j * 3)
        have f1 := y1.frozen (j * 3 + 1)
        have f2 := y1.frozen (j * 3 + 2)
        have hi0 : (0 : Int) ≤ j := by omega
        have hi1 : (j : Int) < m := by omega
        go_wp2_with fail
        go_roundw
        case rel =>
          refine ⟨j + 1, _, by omega, by go_num, Lib.hid ⟨((y0.other (by dsimp only; omega) _).other (by dsimp only; omega) _).other (by dsimp only; omega) _, ((y1.setAt _ _).setAt _ _).setAt _ _, by simp [HI.out.size], lay3 HI.out.size hlt HI.out.at_ ⟨rfl, ?_, rfl⟩, ((HB.out.setCell (by dsimp only; omega) _).setCell (by dsimp only; omega) _).setCell (by dsimp only; omega) _⟩⟩
          have := HNM.out
          congr 1
          omega
        case measure => simp [intOf]; omega
      · obtain rfl : j = m := by omega
        obtain ⟨r0, r1⟩ := HI.out.res.two
        have f0 := HI.out.res.frozen 0
        have f1 := HI.out.res.frozen 1
        go_wp2_with fail
        refine bodyPost_ret (v := .agg #[.slice (some ⟨w.heap.size + 1, 0, none⟩) j j, .int .i64 n]) (by simp [results, Try.results50, go_sem, r0, r1]) rfl ?_
        refine ⟨_, _, _, by rw [HNM.out], ⟨vsL_len _, Nat.le_refl _, by unfold maxLen; omega, fun i t ht => ?_⟩, (HI.out.below.setCell (by dsimp only; omega) _).setCell (by dsimp only; omega) _⟩
        obtain ⟨h1', rfl⟩ := vsL_at _ _ _ ht
        obtain ⟨a, b, c, d0, d1, d2, rfl, rfl, rfl⟩ := HI.out.at_ i h1'
        have yb : Box _ (w.heap.size + 1) _ _ := (HI.out.row.other (a := ⟨w.heap.size, 0, none⟩) (by dsimp only; omega) (.slice (some ⟨w.heap.size + 1, 0, none⟩) j j)).other (a := ⟨w.heap.size, 1, none⟩) (by dsimp only; omega) (.int .i64 n)
        refine ⟨w.heap.size + 1, 0, _, _, _, rfl, by omega, ?_, ?_, ?_, rx_leaf (X := fun b => b < w.heap.size) (by decide) (wf_small (by omega) (by omega))⟩
        · rw [Nat.zero_add, yb.cell]; exact d0
        · rw [Nat.zero_add, yb.cell]; exact d1
        · rw [Nat.zero_add, yb.cell]; exact d2
  · have HNM := Lib.hid hN; clear hN
    go_enter Try.func50, Try.ntmps50
    go_wp2_with fail
    rw [HW.out]
    clear HW hmk
    go_loopw [12] (fun i wr => ∃ (j : Nat) (cs : Array Value), j ≤ m ∧ i = .int .i64 j ∧ Hid (SaI m w j wr cs)) (fun i _ => m - (intOf i).toNat)
    case atStart => exact ⟨0, cs0, Nat.zero_le _, rfl, HI⟩
    case round =>
      clear HI
      obtain ⟨j, cs, hj, rfl, HI⟩ := hrel
      by_cases hlt : j < m
      · go_wp2_with fail
        refine (varC _ _).mono ?_
        rintro e w1 ⟨rfl, hb1⟩
        have y0 := HI.out.res.keep hb1 HI.out.res.lt
        have y1 := HI.out.row.keep hb1 HI.out.row.lt
        have hbw := HI.out.below.trans (hb1.mono HI.out.below.size)
        have HB := Lib.hid hbw; clear hbw hb1
        obtain ⟨u0, hu0⟩ := y1.there (i := j * 3) (by rw [HI.out.size]; omega)
        obtain ⟨u1, hu1⟩ := y1.there (i := j * 3 + 1) (by rw [HI.out.size]; omega)
        obtain ⟨u2, hu2⟩ := y1.there (i := j * 3 + 2) (by rw [HI.out.size]; omega)
        have f0 := y1.frozen (j * 3)
        have f1 := y1.frozen (j * 3 + 1)
        have f2 := y1.frozen (j * 3 + 2)
        have hi0 : (0 : Int) ≤ j := by omega
        have hi1 : (j : Int) < m := by omega
        go_wp2_with fail
        go_roundw
        case rel =>
          refine ⟨j + 1, _, by omega, by go_num, Lib.hid ⟨((y0.other (by dsimp only; omega) _).other (by dsimp only; omega) _).other (by dsimp only; omega) _, ((y1.setAt _ _).setAt _ _).setAt _ _, by simp [HI.out.size], lay3 HI.out.size hlt HI.out.at_ ⟨rfl, ?_, rfl⟩, ((HB.out.setCell (by dsimp only; omega) _).setCell (by dsimp only; omega) _).setCell (by dsimp only; omega) _⟩⟩
          have := HNM.out
          congr 1
          omega
        case measure => simp [intOf]; omega
      · obtain rfl : j = m := by omega
        obtain ⟨r0, r1⟩ := HI.out.res.two
        have f0 := HI.out.res.frozen 0
        have f1 := HI.out.res.frozen 1
        go_wp2_with fail
        refine bodyPost_ret (v := .agg #[.slice (some ⟨w.heap.size + 1, 0, none⟩) j j, .int .i64 200]) (by simp [results, Try.results50, go_sem, r0, r1]) rfl ?_
        refine ⟨_, _, _, by rw [HNM.out], ⟨vsL_len _, Nat.le_refl _, by unfold maxLen; omega, fun i t ht => ?_⟩, (HI.out.below.setCell (by dsimp only; omega) _).setCell (by dsimp only; omega) _⟩
        obtain ⟨h1', rfl⟩ := vsL_at _ _ _ ht
        obtain ⟨a, b, c, d0, d1, d2, rfl, rfl, rfl⟩ := HI.out.at_ i h1'
        have yb : Box _ (w.heap.size + 1) _ _ := (HI.out.row.other (a := ⟨w.heap.size, 0, none⟩) (by dsimp only; omega) (.slice (some ⟨w.heap.size + 1, 0, none⟩) j j)).other (a := ⟨w.heap.size, 1, none⟩) (by dsimp only; omega) (.int .i64 200)
        refine ⟨w.heap.size + 1, 0, _, _, _, rfl, by omega, ?_, ?_, ?_, rx_leaf (X := fun b => b < w.heap.size) (by decide) (wf_small (by omega) (by omega))⟩
        · rw [Nat.zero_add, yb.cell]; exact d0
        · rw [Nat.zero_add, yb.cell]; exact d1
        · rw [Nat.zero_add, yb.cell]; exact d2
end Go.Proofs.Ytloeainlpcnhnaa
