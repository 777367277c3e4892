/-
  Contracts of slices.Grow and slices.Concat at lists of terms. No statement is proved here.
-/
import Derived.Test.YtloeainlpcnhnaaGreatWc
import Derived.Lib.AppendZerosOnto
import Derived.Deep.AppendLies
namespace Go.Proofs.YtloeainlpcnhnaaGreat
open Go.ChangeShapes Go.WideShapes Go.ChangeAt Go.RowKit
set_option linter.unusedVariables false

def GEnd (w : World) (e : Ending) (w' : World) : Prop :=
  ∃ cap, e = .returned (.slice (some ⟨w.heap.size, 0, none⟩) 0 cap) ∧ w'.ownsRow w.heap.size 44 3 (.slice (some ⟨w.heap.size, 0, none⟩) 0 cap) 0 [] ∧ Below w.heap.size w w'
set_option maxRecDepth 100000 in
set_option maxHeartbeats 1000000 in
theorem growC (n : Nat) (h0 : 0 < n) (hn : n ≤ 3518437208780) (w : World) : Calls Tryz.prog 63 #[.slice none 0 0, .int .i64 n] w (GEnd w) := by
  obtain ⟨i0, hi, hz0, hz1, hz2⟩ := info_parts infoTerm
  have hrz : ∀ ty, (Builtin.append_ #[24, 3] ty #[.slice none 0 0, .int .i64 n]).run Tryz.prog w =
      .ok (.slice (some ⟨w.heap.size, 0, none⟩) n (grownCap w n 0 44)) (w.drew.alloc (.cells (#[] ++ Builtin.zeroCells (Value.cells zT) n ++ Builtin.zeroCells (Value.cells zT) (grownCap w n 0 44 - n)) 44)) := fun ty => by
    have h := Lib.run_append_grow_zeros w 24 3 ty 44 i0 zT .i64 .i64 Tryz.underlying24 Tryz.underlying3 hi hz0 none 0 0 [] (run_firstCells_none w.drew i0.size 0 0 0) n h0 (by omega) (by omega) (by omega) (by rw [hz2]; omega)
      (by rw [hz2]; simp only [Builtin.nextslicecap]; split <;> omega)
    simpa using h
  have hg := grownCap_ge w n 0 44
  have hgm := grownCap_le_maxLen w n 0 44 (by unfold maxLen; omega)
  obtain ⟨G, hG⟩ : ∃ G, grownCap w n 0 44 = G := ⟨_, rfl⟩
  rw [hG] at hrz hg hgm
  have hcs : (#[] ++ Builtin.zeroCells (Value.cells zT) n ++ Builtin.zeroCells (Value.cells zT) (G - n)).size = G * 3 := by
    simp only [Array.size_append, size_zeroCells]
    have : (Value.cells zT).size = 3 := rfl
    rw [this]
    simp only [List.size_toArray, List.length_nil]
    omega
  generalize (#[] ++ Builtin.zeroCells (Value.cells zT) n ++ Builtin.zeroCells (Value.cells zT) (G - n)) = cs at *
  have HCS := Lib.hid hcs; clear hcs hG hi hz0 hz1 hz2 i0
  have h1 : ¬ ((n : Int) < 0) := by omega
  have h4 : (0 : Int) < n := by omega
  unfold maxLen at hgm
  go_enter Tryz.func63, Tryz.ntmps63
  go_wp2_with (at_builtin; refine Lib.wpList_append_run _ rfl _ _ _ _ rfl _ _ rfl rfl _ _ (hrz _) ?_)
  go_ret
  refine ⟨G, rfl, ⟨rfl, .inr ⟨w.heap.size, G, cs, rfl, Nat.le_refl _, ?_, Nat.zero_le _, by unfold maxLen; omega, HCS.out, by simp⟩⟩, ?_⟩
  · exact heap_alloc_new w.drew _
  · exact ((Below.refl _ w).drew).alloc (by simp) _

/-- the cells of a list in memory -/
theorem RXL.cells {X : Nat → Prop} {w : World} {xs : List T} {A : Option Addr} {n c : Nat} (h : RXL X w xs A n c) : ∃ cs : List Value, cs.length = n * 3 ∧ KidL w (fun b => ¬ X b) cs xs ∧ (∀ u ∈ cs, u.oneCell' = true) ∧ ∀ a, A = some a → ∀ j u, cs[j]? = some u → w.cell? (a.add j) = some u := by
  obtain ⟨hl, h1, _, hat⟩ := h
  clear h1
  subst hl
  induction xs generalizing A with
  | nil => exact ⟨[], rfl, (fun i t ht => by simp at ht), (fun u hu => by cases hu), fun a _ j u hu => by simp at hu⟩
  | cons x xs ih =>
    obtain ⟨b, o, k, g, A', n', c', rfl, c0, c1, c2, hr⟩ := (hat 0 x rfl).full
    obtain ⟨cs, h1, h2, h3, h4⟩ := ih (A := some ⟨b, o + 3, none⟩) (fun i t ht => by
      obtain ⟨b', o', v0, v1, v2, e, hb, d0, d1, d2, hr'⟩ := hat (i + 1) t (by simpa using ht)
      cases e
      refine ⟨b, o + 3, v0, v1, v2, rfl, hb, ?_, ?_, ?_, hr'⟩
      · rw [show o + 3 + i * 3 = o + (i + 1) * 3 by omega]; exact d0
      · rw [show o + 3 + i * 3 = o + (i + 1) * 3 by omega]; exact d1
      · rw [show o + 3 + i * 3 = o + (i + 1) * 3 by omega]; exact d2)
    refine ⟨.int .i64 k :: .int .i64 g :: .slice A' n' c' :: cs, by simp [h1]; omega, fun i t ht => ?_, fun u hu => ?_, fun a ha j u hu => ?_⟩
    · cases i with
      | zero =>
        simp only [List.getElem?_cons_zero, Option.some.injEq] at ht
        subst ht
        exact ⟨k, g, A', n', c', rfl, rfl, rfl, hr⟩
      | succ i =>
        obtain ⟨k2, g2, A2, n2, c2', e0, e1, e2, hr2⟩ := h2 i t (by simpa using ht)
        refine ⟨k2, g2, A2, n2, c2', ?_, ?_, ?_, hr2⟩
        · rw [show (i + 1) * 3 = i * 3 + 1 + 1 + 1 by omega]; simpa using e0
        · rw [show (i + 1) * 3 + 1 = i * 3 + 1 + 1 + 1 + 1 by omega]; simpa using e1
        · rw [show (i + 1) * 3 + 2 = i * 3 + 2 + 1 + 1 + 1 by omega]; simpa using e2
    · simp only [List.mem_cons] at hu
      rcases hu with rfl | rfl | rfl | hu
      · rfl
      · rfl
      · rfl
      · exact h3 u hu
    · cases ha
      rw [addr_add]
      match j, hu with
      | 0, hu => simp at hu; subst hu; simpa using c0
      | 1, hu => simp at hu; subst hu; simpa using c1
      | 2, hu => simp at hu; subst hu; simpa using c2
      | j + 3, hu =>
        have := h4 _ rfl j u (by simpa using hu)
        rw [addr_add] at this
        rw [show o + (j + 3) = o + 3 + j by omega]
        exact this
theorem KidL.app {w : World} {ok : Nat → Prop} {cs ds : List Value} {xs ys : List T} (h : KidL w ok cs xs) (hl : cs.length = xs.length * 3) (k : KidL w ok ds ys) : KidL w ok (cs ++ ds) (xs ++ ys) := fun i t ht => by
  by_cases hi : i < xs.length
  · rw [List.getElem?_append_left hi] at ht
    obtain ⟨k1, h1, A, n, c, e0, e1, e2, hr⟩ := h i t ht
    exact ⟨k1, h1, A, n, c, by rw [List.getElem?_append_left (by omega)]; exact e0, by rw [List.getElem?_append_left (by omega)]; exact e1, by rw [List.getElem?_append_left (by omega)]; exact e2, hr⟩
  · rw [List.getElem?_append_right (by omega)] at ht
    obtain ⟨k1, h1, A, n, c, e0, e1, e2, hr⟩ := k _ t ht
    refine ⟨k1, h1, A, n, c, ?_, ?_, ?_, hr⟩
    · rw [List.getElem?_append_right (by omega), show i * 3 - cs.length = (i - xs.length) * 3 by omega]; exact e0
    · rw [List.getElem?_append_right (by omega), show i * 3 + 1 - cs.length = (i - xs.length) * 3 + 1 by omega]; exact e1
    · rw [List.getElem?_append_right (by omega), show i * 3 + 2 - cs.length = (i - xs.length) * 3 + 2 by omega]; exact e2
theorem run_append_empty (ty : TypeId) (g c : Nat) (A : Option Addr) (c' n : Nat) (h : n ≤ c) (w : World) : (Builtin.append_ #[24, 24] ty #[.slice (some ⟨g, 0, none⟩) n c, .slice A 0 c']).run Tryz.prog w = .ok (.slice (some ⟨g, 0, none⟩) n c) w := by
  obtain ⟨i0, hi, hz0, hz1, hz2⟩ := info_parts infoTerm
  cases A <;> simp [Builtin.append_, run_underlying Tryz.underlying24, sizeOf, typeInfo, hi, Builtin.lenOf, h, Builtin.firstCells, storeCells, loadCells, loadCellsFrom]

def sm (a b : Nat) : Nat → Nat
  | 0 => 0
  | 1 => a
  | _ => a + b
def cl2 (cs ds : List Value) : Nat → List Value
  | 0 => []
  | 1 => cs
  | _ => cs ++ ds
/-- an append at a row of the call's own -/
theorem append_row {w wr : World} {g cap n m c : Nat} {xs news : List Value} {A : Option Addr} (hb : Below w.heap.size w wr) (how : wr.ownsRow w.heap.size 44 3 (.slice (some ⟨g, 0, none⟩) n cap) n xs) (hnc : n ≤ cap)
    (hl : news.length = m * 3) (hnews : ∀ a, A = some a → ∀ j u, news[j]? = some u → w.cell? (a.add j) = some u) (h1 : ∀ u ∈ news, u.oneCell' = true) (hA : 0 < m → ∃ b o, A = some ⟨b, o, none⟩) (hs : n + m ≤ 3518437208780) (ty : TypeId) :
    ∃ g' cap' w', (Builtin.append_ #[24, 24] ty #[.slice (some ⟨g, 0, none⟩) n cap, .slice A m c]).run Tryz.prog wr = .ok (.slice (some ⟨g', 0, none⟩) (n + m) cap') w' ∧
      w'.ownsRow w.heap.size 44 3 (.slice (some ⟨g', 0, none⟩) (n + m) cap') (n + m) (xs ++ news) ∧ n + m ≤ cap' ∧ Below w.heap.size w w' := by
  rcases Nat.eq_zero_or_pos m with rfl | hm
  · have hn : news = [] := List.length_eq_zero_iff.1 (by simpa using hl)
    subst hn
    exact ⟨g, cap, wr, run_append_empty ty g cap A c n hnc wr, by simpa using how, hnc, hb⟩
  · obtain ⟨b, o, rfl⟩ := hA hm
    obtain ⟨i0, hi, hz0, hz1, hz2⟩ := info_parts infoTerm
    have hg := how.lt g rfl
    obtain ⟨g', cap', w', hrun, how', hgr, _, _⟩ := run_append_lies (P := Tryz.prog) wr 24 ty w.heap.size 44 i0 _ 3 40 Tryz.underlying24 hi hz0 hz1 hz2 rfl (by omega) (.slice (some ⟨g, 0, none⟩) n cap) n xs how ⟨b, o, none⟩ m c news hl
      (fun j u hu => by
        have := hnews _ rfl j u hu
        rw [addr_add] at this ⊢
        exact (hb.cell (cell_lt this)).trans this) h1 hm (by unfold maxLen; omega) (by omega) hb.size _ rfl
    refine ⟨g', cap', w', hrun, how', ?_, below_grown hb hgr (fun r hr => (how.lt r hr).1) hb.size⟩
    rcases how'.2 with ⟨h, _⟩ | ⟨g2, c2, cur, h, _, _, hle, _⟩
    · cases h
    · cases h; exact hle

def CEnd (X : Nat → Prop) (zs : List T) (m : Nat) (w : World) (e : Ending) (w' : World) : Prop := ∃ A c, e = .returned (.slice A m c) ∧ RXL X w' zs A m c ∧ Below w.heap.size w w'
theorem rxl_row {X : Nat → Prop} {w w' : World} {cs : List Value} {zs : List T} {A : Option Addr} {n c : Nat} (how : w'.ownsRow w.heap.size 44 3 (.slice A n c) n cs) (hk : KidL w' (fun b => ¬ X b) cs zs) (hz : zs.length = n) (hX : ∀ b, X b → b < w.heap.size) : RXL X w' zs A n c := by
  have h := rdF_row (k := 0) (h := 0) (ok' := fun b => ¬ X b) how hk hz (fun _ h => h) (fun g hg e => by have := (how.lt g hg).1; have := hX g e; omega) (by decide) (by decide)
  obtain ⟨A', n', c', e, _, _, h3, h4, h5, h6⟩ := RdF_node.1 h
  simp only [Value.agg.injEq] at e
  have e' : A = A' ∧ n = n' ∧ c = c' := by simpa using e
  obtain ⟨rfl, rfl, rfl⟩ := e'
  exact ⟨h3, h4, h5, h6⟩
set_option maxRecDepth 100000 in
set_option maxHeartbeats 2000000 in
theorem concatC {X : Nat → Prop} {w : World} {xs ys : List T} {A1 A2 : Option Addr} {n1 c1 n2 c2 B : Nat} (hx : RXL X w xs A1 n1 c1) (hy : RXL X w ys A2 n2 c2) (hX : ∀ b, X b → b < w.heap.size) (b0 : w.cell? ⟨B, 0, none⟩ = some (.slice A1 n1 c1)) (b1 : w.cell? ⟨B, 1, none⟩ = some (.slice A2 n2 c2))
    (h2 : 0 < n2) (hs : n1 + n2 ≤ 3518437208780) : Calls Tryz.prog 41 #[.slice (some ⟨B, 0, none⟩) 2 2] w (CEnd X (xs ++ ys) (n1 + n2) w) := by
  obtain ⟨cs, l1, k1, o1, e1⟩ := hx.cells
  obtain ⟨ds, l2, k2, o2, e2⟩ := hy.cells
  have ha1 : 0 < n1 → ∃ b o, A1 = some ⟨b, o, none⟩ := fun h => by
    obtain ⟨t, ht⟩ := at_of hx.len h
    obtain ⟨b, o, _, _, _, e, _⟩ := hx.at_ 0 t ht
    exact ⟨b, o, e⟩
  have ha2 : 0 < n2 → ∃ b o, A2 = some ⟨b, o, none⟩ := fun h => by
    obtain ⟨t, ht⟩ := at_of hy.len h
    obtain ⟨b, o, _, _, _, e, _⟩ := hy.at_ 0 t ht
    exact ⟨b, o, e⟩
  have lb := cell_lt b0
  dsimp only at lb
  have q1 := hx.le; have q2 := hx.cap; have q3 := hy.le; have q4 := hy.cap
  unfold maxLen at q2 q4
  have HX := Lib.hid hx; clear hx
  have HY := Lib.hid hy; clear hy
  have HXX := Lib.hid hX; clear hX
  have HL1 := Lib.hid (And.intro l1 (And.intro k1 (And.intro o1 e1))); clear l1 k1 o1 e1
  have HL2 := Lib.hid (And.intro l2 (And.intro k2 (And.intro o2 e2))); clear l2 k2 o2 e2
  have HA1 := Lib.hid ha1; clear ha1
  have HA2 := Lib.hid ha2; clear ha2
  go_enter Tryz.func41, Tryz.ntmps41
  go_wp2_with fail
  go_loop [3, 11] (fun z i => ∃ j : Nat, j ≤ 2 ∧ i = .int .i64 j ∧ z = .int .i64 (sm n1 n2 j : Nat)) (fun _ i => 2 - (intOf i).toNat)
  case atStart => exact ⟨0, by omega, rfl, rfl⟩
  case round =>
    obtain ⟨j, hj, rfl, rfl⟩ := hrel
    rcases (show j = 0 ∨ j = 1 ∨ j = 2 by omega) with rfl | rfl | rfl
    · have z0 : sm n1 n2 0 = 0 := rfl
      go_wp2_with fail
      go_round
      case rel => exact ⟨1, by omega, rfl, by simp [sm]⟩
      case measure => simp [intOf]
    · have z0 : sm n1 n2 1 = n1 := rfl
      go_wp2_with fail
      go_round
      case rel => exact ⟨2, by omega, rfl, by simp [sm]⟩
      case measure => simp [intOf]
    · have z0 : sm n1 n2 2 = n1 + n2 := rfl
      go_wp2_with fail
      have hG := growC (n1 + n2) (by omega) hs w
      rw [show ((n1 + n2 : Nat) : Int) = (n1 : Int) + n2 by omega] at hG
      refine hG.mono ?_
      clear hG
      rintro e w1 ⟨cap, rfl, how, hb⟩
      have HO := Lib.hid how; clear how
      have HB := Lib.hid hb; clear hb
      go_wp2_with fail
      go_loopw [6, 27] (fun v i wr => ∃ (j g cap : Nat), j ≤ 2 ∧ i = .int .i64 j ∧ v = .slice (some ⟨g, 0, none⟩) (sm n1 n2 j) cap ∧ Hid (wr.ownsRow w.heap.size 44 3 (.slice (some ⟨g, 0, none⟩) (sm n1 n2 j) cap) (sm n1 n2 j) (cl2 cs ds j)) ∧ sm n1 n2 j ≤ cap ∧ Hid (Below w.heap.size w wr)) (fun _ i _ => 2 - (intOf i).toNat)
      case atStart => exact ⟨0, w.heap.size, cap, by omega, rfl, rfl, HO, Nat.zero_le _, HB⟩
      case round =>
        obtain ⟨j, g, cap, hj, rfl, rfl, HO, hcap, HB⟩ := hrel
        have d0 : wr.cell? ⟨B, 0, none⟩ = some (.slice A1 n1 c1) := (HB.out.cell (p := ⟨B, 0, none⟩) lb).trans b0
        have d1 : wr.cell? ⟨B, 1, none⟩ = some (.slice A2 n2 c2) := (HB.out.cell (p := ⟨B, 1, none⟩) lb).trans b1
        rcases (show j = 0 ∨ j = 1 ∨ j = 2 by omega) with rfl | rfl | rfl
        · have hap := append_row (c := c1) (m := n1) HB.out HO.out hcap HL1.out.1 HL1.out.2.2.2 HL1.out.2.2.1 HA1.out (by show 0 + n1 ≤ _; omega)
          obtain ⟨g', cap', w', hrun, how', hle, hb'⟩ := hap 24
          have HO' := Lib.hid how'; clear how'
          have HB' := Lib.hid hb'; clear hb'
          have z0 : sm n1 n2 0 = 0 := rfl
          rw [z0] at hrun hle HO' ⊢
          go_wp2_with (at_builtin; refine Lib.wpList_append_run _ rfl _ _ _ _ rfl _ _ rfl rfl _ _ hrun ?_)
          go_roundw
          case rel => exact ⟨1, g', cap', by omega, rfl, by simp [sm], Lib.hid (by have := HO'.out; simpa [sm, cl2] using this), by simpa [sm] using hle, HB'⟩
          case measure => simp [intOf]
        · have hap := append_row (c := c2) (m := n2) HB.out HO.out hcap HL2.out.1 HL2.out.2.2.2 HL2.out.2.2.1 HA2.out (by show n1 + n2 ≤ _; omega)
          obtain ⟨g', cap', w', hrun, how', hle, hb'⟩ := hap 24
          have HO' := Lib.hid how'; clear how'
          have HB' := Lib.hid hb'; clear hb'
          have z0 : sm n1 n2 1 = n1 := rfl
          rw [z0] at hrun hle HO' ⊢
          go_wp2_with (at_builtin; refine Lib.wpList_append_run _ rfl _ _ _ _ rfl _ _ rfl rfl _ _ hrun ?_)
          go_roundw
          case rel => exact ⟨2, g', cap', by omega, rfl, by simp [sm], Lib.hid (by have := HO'.out; simpa [sm, cl2] using this), by simpa [sm] using hle, HB'⟩
          case measure => simp [intOf]
        · go_wp2_with fail
          go_ret
          refine ⟨_, cap, rfl, rxl_row (w := w) HO.out (KidL.app (HL1.out.2.1.move (fun _ h => h) fun b _ hl => HB.out.block b hl) (by rw [HL1.out.1, HX.out.len]) (HL2.out.2.1.move (fun _ h => h) fun b _ hl => HB.out.block b hl)) (by rw [List.length_append, HX.out.len, HY.out.len]) HXX.out, HB.out⟩
end Go.Proofs.YtloeainlpcnhnaaGreat
