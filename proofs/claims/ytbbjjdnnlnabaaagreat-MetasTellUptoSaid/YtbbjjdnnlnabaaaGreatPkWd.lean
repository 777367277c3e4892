/- Texts of one proof, put together. No statement is proved here. -/
import Derived.Test.YtbbjjdnnlnabaaaGreatPkWc
import Derived.Lib.AppendZerosOnto
import Derived.Deep.AppendLies
import Derived.Deep.RegionHeld3
namespace Go.Proofs.YtbbjjdnnlnabaaaGreat
open Go.ChangeShapes Go.WideShapes Go.ChangeAt Go.RowKit
set_option linter.unusedVariables false
set_option linter.unusedSimpArgs false
set_option maxRecDepth 100000
set_option maxHeartbeats 2000000
def GEnd (w : World) (e : Ending) (w' : World) : Prop :=
  ∃ cap, e = .returned (.slice (some ⟨w.heap.size, 0, none⟩) 0 cap) ∧ w'.ownsRow w.heap.size 39 3 (.slice (some ⟨w.heap.size, 0, none⟩) 0 cap) 0 [] ∧ Below w.heap.size w w'
theorem growC (n : Nat) (h0 : 0 < n) (hn : n ≤ 3518437208780) (w : World) : Calls Tryz.prog 54 #[.slice none 0 0, .int .i64 n] w (GEnd w) := by
  obtain ⟨i0, hi, hz0, hz1, hz2⟩ := info_parts infoTerm
  have hrz : ∀ ty, (Builtin.append_ #[24, 3] ty #[.slice none 0 0, .int .i64 n]).run Tryz.prog w =
      .ok (.slice (some ⟨w.heap.size, 0, none⟩) n (grownCap w n 0 39)) (w.drew.alloc (.cells (#[] ++ Builtin.zeroCells (Value.cells zT) n ++ Builtin.zeroCells (Value.cells zT) (grownCap w n 0 39 - n)) 39)) := fun ty => by
    have h := Lib.run_append_grow_zeros w 24 3 ty 39 i0 zT .i64 .i64 Tryz.underlying24 Tryz.underlying3 hi hz0 none 0 0 [] (run_firstCells_none w.drew i0.size 0 0 0) n h0 (by omega) (by omega) (by omega) (by rw [hz2]; omega)
      (by rw [hz2]; simp only [Builtin.nextslicecap]; split <;> omega)
    simpa using h
  have hg := grownCap_ge w n 0 39
  have hgm := grownCap_le_maxLen w n 0 39 (by unfold maxLen; omega)
  obtain ⟨G, hG⟩ : ∃ G, grownCap w n 0 39 = G := ⟨_, rfl⟩
  rw [hG] at hrz hg hgm
  have hcs : (#[] ++ Builtin.zeroCells (Value.cells zT) n ++ Builtin.zeroCells (Value.cells zT) (G - n)).size = G * 3 := by
    simp only [Array.size_append, size_zeroCells]
    have : (Value.cells zT).size = 3 := rfl
    rw [this]
    simp only [List.size_toArray, List.length_nil]
    omega
  generalize (#[] ++ Builtin.zeroCells (Value.cells zT) n ++ Builtin.zeroCells (Value.cells zT) (G - n)) = cs at *
  have HCS := Lib.hid hcs; clear hcs hG hi hz0 hz1 hz2 i0
  have h1 : ¬ ((n : Int) < 0) := by omega
  have h4 : (0 : Int) < n := by omega
  unfold maxLen at hgm
  go_enter Tryz.func54, Tryz.ntmps54
  go_wp2_with (at_builtin; refine Lib.wpList_append_run _ rfl _ _ _ _ rfl _ _ rfl rfl _ _ (hrz _) ?_)
  go_ret
  refine ⟨G, rfl, ⟨rfl, .inr ⟨w.heap.size, G, cs, rfl, Nat.le_refl _, ?_, Nat.zero_le _, by unfold maxLen; omega, HCS.out, by simp⟩⟩, ?_⟩
  · exact heap_alloc_new w.drew _
  · exact ((Below.refl _ w).drew).alloc (by simp) _
theorem RXL.cells {X : Nat → Prop} {w : World} {xs : List T} {A : Option Addr} {n c : Nat} (h : RXL X w xs A n c) : ∃ cs : List Value, cs.length = n * 3 ∧ KidL w (fun b => ¬ X b) cs xs ∧ (∀ u ∈ cs, u.oneCell' = true) ∧ ∀ a, A = some a → ∀ j u, cs[j]? = some u → w.cell? (a.add j) = some u := by
  obtain ⟨hl, h1, _, hat⟩ := h
  clear h1
  subst hl
  induction xs generalizing A with
  | nil => exact ⟨[], rfl, (fun i t ht => by simp at ht), (fun u hu => by cases hu), fun a _ j u hu => by simp at hu⟩
  | cons x xs ih =>
    obtain ⟨b, o, k, g, A', n', c', rfl, c0, c1, c2, hr⟩ := (hat 0 x rfl).full
    obtain ⟨cs, h1, h2, h3, h4⟩ := ih (A := some ⟨b, o + 3, none⟩) (fun i t ht => by
      obtain ⟨b', o', v0, v1, v2, e, hb, d0, d1, d2, hr'⟩ := hat (i + 1) t (by simpa using ht)
      cases e
      refine ⟨b, o + 3, v0, v1, v2, rfl, hb, ?_, ?_, ?_, hr'⟩
      · rw [show o + 3 + i * 3 = o + (i + 1) * 3 by omega]; exact d0
      · rw [show o + 3 + i * 3 = o + (i + 1) * 3 by omega]; exact d1
      · rw [show o + 3 + i * 3 = o + (i + 1) * 3 by omega]; exact d2)
    refine ⟨.int .i64 k :: .int .i64 g :: .slice A' n' c' :: cs, by simp [h1]; omega, fun i t ht => ?_, fun u hu => ?_, fun a ha j u hu => ?_⟩
    · cases i with
      | zero =>
        simp only [List.getElem?_cons_zero, Option.some.injEq] at ht
        subst ht
        exact ⟨k, g, A', n', c', rfl, rfl, rfl, hr⟩
      | succ i =>
        obtain ⟨k2, g2, A2, n2, c2', e0, e1, e2, hr2⟩ := h2 i t (by simpa using ht)
        refine ⟨k2, g2, A2, n2, c2', ?_, ?_, ?_, hr2⟩
        · rw [show (i + 1) * 3 = i * 3 + 1 + 1 + 1 by omega]; simpa using e0
        · rw [show (i + 1) * 3 + 1 = i * 3 + 1 + 1 + 1 + 1 by omega]; simpa using e1
        · rw [show (i + 1) * 3 + 2 = i * 3 + 2 + 1 + 1 + 1 by omega]; simpa using e2
    · simp only [List.mem_cons] at hu
      rcases hu with rfl | rfl | rfl | hu
      · rfl
      · rfl
      · rfl
      · exact h3 u hu
    · cases ha
      rw [addr_add]
      match j, hu with
      | 0, hu => simp at hu; subst hu; simpa using c0
      | 1, hu => simp at hu; subst hu; simpa using c1
      | 2, hu => simp at hu; subst hu; simpa using c2
      | j + 3, hu =>
        have := h4 _ rfl j u (by simpa using hu)
        rw [addr_add] at this
        rw [show o + (j + 3) = o + 3 + j by omega]
        exact this
theorem KidL.app {w : World} {ok : Nat → Prop} {cs ds : List Value} {xs ys : List T} (h : KidL w ok cs xs) (hl : cs.length = xs.length * 3) (k : KidL w ok ds ys) : KidL w ok (cs ++ ds) (xs ++ ys) := fun i t ht => by
  by_cases hi : i < xs.length
  · rw [List.getElem?_append_left hi] at ht
    obtain ⟨k1, h1, A, n, c, e0, e1, e2, hr⟩ := h i t ht
    exact ⟨k1, h1, A, n, c, by rw [List.getElem?_append_left (by omega)]; exact e0, by rw [List.getElem?_append_left (by omega)]; exact e1, by rw [List.getElem?_append_left (by omega)]; exact e2, hr⟩
  · rw [List.getElem?_append_right (by omega)] at ht
    obtain ⟨k1, h1, A, n, c, e0, e1, e2, hr⟩ := k _ t ht
    refine ⟨k1, h1, A, n, c, ?_, ?_, ?_, hr⟩
    · rw [List.getElem?_append_right (by omega), show i * 3 - cs.length = (i - xs.length) * 3 by omega]; exact e0
    · rw [List.getElem?_append_right (by omega), show i * 3 + 1 - cs.length = (i - xs.length) * 3 + 1 by omega]; exact e1
    · rw [List.getElem?_append_right (by omega), show i * 3 + 2 - cs.length = (i - xs.length) * 3 + 2 by omega]; exact e2
theorem run_append_empty (ty : TypeId) (g c : Nat) (A : Option Addr) (c' n : Nat) (h : n ≤ c) (w : World) : (Builtin.append_ #[24, 24] ty #[.slice (some ⟨g, 0, none⟩) n c, .slice A 0 c']).run Tryz.prog w = .ok (.slice (some ⟨g, 0, none⟩) n c) w := by
  obtain ⟨i0, hi, hz0, hz1, hz2⟩ := info_parts infoTerm
  cases A <;> simp [Builtin.append_, run_underlying Tryz.underlying24, sizeOf, typeInfo, hi, Builtin.lenOf, h, Builtin.firstCells, storeCells, loadCells, loadCellsFrom]
def sm (a b : Nat) : Nat → Nat
  | 0 => 0
  | 1 => a
  | _ => a + b
def cl2 (cs ds : List Value) : Nat → List Value
  | 0 => []
  | 1 => cs
  | _ => cs ++ ds
theorem append_row {w wr : World} {g cap n m c : Nat} {xs news : List Value} {A : Option Addr} (hb : Below w.heap.size w wr) (how : wr.ownsRow w.heap.size 39 3 (.slice (some ⟨g, 0, none⟩) n cap) n xs) (hnc : n ≤ cap)
    (hl : news.length = m * 3) (hnews : ∀ a, A = some a → ∀ j u, news[j]? = some u → w.cell? (a.add j) = some u) (h1 : ∀ u ∈ news, u.oneCell' = true) (hA : 0 < m → ∃ b o, A = some ⟨b, o, none⟩) (hs : n + m ≤ 3518437208780) (ty : TypeId) :
    ∃ g' cap' w', (Builtin.append_ #[24, 24] ty #[.slice (some ⟨g, 0, none⟩) n cap, .slice A m c]).run Tryz.prog wr = .ok (.slice (some ⟨g', 0, none⟩) (n + m) cap') w' ∧
      w'.ownsRow w.heap.size 39 3 (.slice (some ⟨g', 0, none⟩) (n + m) cap') (n + m) (xs ++ news) ∧ n + m ≤ cap' ∧ Below w.heap.size w w' := by
  rcases Nat.eq_zero_or_pos m with rfl | hm
  · have hn : news = [] := List.length_eq_zero_iff.1 (by simpa using hl)
    subst hn
    exact ⟨g, cap, wr, run_append_empty ty g cap A c n hnc wr, by simpa using how, hnc, hb⟩
  · obtain ⟨b, o, rfl⟩ := hA hm
    obtain ⟨i0, hi, hz0, hz1, hz2⟩ := info_parts infoTerm
    have hg := how.lt g rfl
    obtain ⟨g', cap', w', hrun, how', hgr, _, _⟩ := run_append_lies (P := Tryz.prog) wr 24 ty w.heap.size 39 i0 _ 3 40 Tryz.underlying24 hi hz0 hz1 hz2 rfl (by omega) (.slice (some ⟨g, 0, none⟩) n cap) n xs how ⟨b, o, none⟩ m c news hl
      (fun j u hu => by
        have := hnews _ rfl j u hu
        rw [addr_add] at this ⊢
        exact (hb.cell (cell_lt this)).trans this) h1 hm (by unfold maxLen; omega) (by omega) hb.size _ rfl
    refine ⟨g', cap', w', hrun, how', ?_, below_grown hb hgr (fun r hr => (how.lt r hr).1) hb.size⟩
    rcases how'.2 with ⟨h, _⟩ | ⟨g2, c2, cur, h, _, _, hle, _⟩
    · cases h
    · cases h; exact hle
def CEnd (X : Nat → Prop) (zs : List T) (m : Nat) (w : World) (e : Ending) (w' : World) : Prop := ∃ A c, e = .returned (.slice A m c) ∧ RXL X w' zs A m c ∧ Below w.heap.size w w'
theorem rxl_row {X : Nat → Prop} {w w' : World} {cs : List Value} {zs : List T} {A : Option Addr} {n c : Nat} (how : w'.ownsRow w.heap.size 39 3 (.slice A n c) n cs) (hk : KidL w' (fun b => ¬ X b) cs zs) (hz : zs.length = n) (hX : ∀ b, X b → b < w.heap.size) : RXL X w' zs A n c := by
  have h := rdF_row (k := 0) (h := 0) (ok' := fun b => ¬ X b) how hk hz (fun _ h => h) (fun g hg e => by have := (how.lt g hg).1; have := hX g e; omega) (by decide) (by decide)
  obtain ⟨A', n', c', e, _, _, h3, h4, h5, h6⟩ := RdF_node.1 h
  simp only [Value.agg.injEq] at e
  have e' : A = A' ∧ n = n' ∧ c = c' := by simpa using e
  obtain ⟨rfl, rfl, rfl⟩ := e'
  exact ⟨h3, h4, h5, h6⟩
theorem concatC {X : Nat → Prop} {w : World} {xs ys : List T} {A1 A2 : Option Addr} {n1 c1 n2 c2 B : Nat} (hx : RXL X w xs A1 n1 c1) (hy : RXL X w ys A2 n2 c2) (hX : ∀ b, X b → b < w.heap.size) (b0 : w.cell? ⟨B, 0, none⟩ = some (.slice A1 n1 c1)) (b1 : w.cell? ⟨B, 1, none⟩ = some (.slice A2 n2 c2))
    (h2 : 0 < n2) (hs : n1 + n2 ≤ 3518437208780) : Calls Tryz.prog 38 #[.slice (some ⟨B, 0, none⟩) 2 2] w (CEnd X (xs ++ ys) (n1 + n2) w) := by
  obtain ⟨cs, l1, k1, o1, e1⟩ := hx.cells
  obtain ⟨ds, l2, k2, o2, e2⟩ := hy.cells
  have ha1 : 0 < n1 → ∃ b o, A1 = some ⟨b, o, none⟩ := fun h => by
    obtain ⟨t, ht⟩ := at_of hx.len h
    obtain ⟨b, o, _, _, _, e, _⟩ := hx.at_ 0 t ht
    exact ⟨b, o, e⟩
  have ha2 : 0 < n2 → ∃ b o, A2 = some ⟨b, o, none⟩ := fun h => by
    obtain ⟨t, ht⟩ := at_of hy.len h
    obtain ⟨b, o, _, _, _, e, _⟩ := hy.at_ 0 t ht
    exact ⟨b, o, e⟩
  have lb := cell_lt b0
  dsimp only at lb
  have q1 := hx.le; have q2 := hx.cap; have q3 := hy.le; have q4 := hy.cap
  unfold maxLen at q2 q4
  have HX := Lib.hid hx; clear hx
  have HY := Lib.hid hy; clear hy
  have HXX := Lib.hid hX; clear hX
  have HL1 := Lib.hid (And.intro l1 (And.intro k1 (And.intro o1 e1))); clear l1 k1 o1 e1
  have HL2 := Lib.hid (And.intro l2 (And.intro k2 (And.intro o2 e2))); clear l2 k2 o2 e2
  have HA1 := Lib.hid ha1; clear ha1
  have HA2 := Lib.hid ha2; clear ha2
  go_enter Tryz.func38, Tryz.ntmps38
  go_wp2_with fail
  go_loop [3, 11] (fun z i => ∃ j : Nat, j ≤ 2 ∧ i = .int .i64 j ∧ z = .int .i64 (sm n1 n2 j : Nat)) (fun _ i => 2 - (intOf i).toNat)
  case atStart => exact ⟨0, by omega, rfl, rfl⟩
  case round =>
    obtain ⟨j, hj, rfl, rfl⟩ := hrel
    rcases (show j = 0 ∨ j = 1 ∨ j = 2 by omega) with rfl | rfl | rfl
    · have z0 : sm n1 n2 0 = 0 := rfl
      go_wp2_with fail
      go_round
      case rel => exact ⟨1, by omega, rfl, by simp [sm]⟩
      case measure => simp [intOf]
    · have z0 : sm n1 n2 1 = n1 := rfl
      go_wp2_with fail
      go_round
      case rel => exact ⟨2, by omega, rfl, by simp [sm]⟩
      case measure => simp [intOf]
    · have z0 : sm n1 n2 2 = n1 + n2 := rfl
      go_wp2_with fail
      have hG := growC (n1 + n2) (by omega) hs w
      rw [show ((n1 + n2 : Nat) : Int) = (n1 : Int) + n2 by omega] at hG
      refine hG.mono ?_
      clear hG
      rintro e w1 ⟨cap, rfl, how, hb⟩
      have HO := Lib.hid how; clear how
      have HB := Lib.hid hb; clear hb
      go_wp2_with fail
      go_loopw [6, 27] (fun v i wr => ∃ (j g cap : Nat), j ≤ 2 ∧ i = .int .i64 j ∧ v = .slice (some ⟨g, 0, none⟩) (sm n1 n2 j) cap ∧ Hid (wr.ownsRow w.heap.size 39 3 (.slice (some ⟨g, 0, none⟩) (sm n1 n2 j) cap) (sm n1 n2 j) (cl2 cs ds j)) ∧ sm n1 n2 j ≤ cap ∧ Hid (Below w.heap.size w wr)) (fun _ i _ => 2 - (intOf i).toNat)
      case atStart => exact ⟨0, w.heap.size, cap, by omega, rfl, rfl, HO, Nat.zero_le _, HB⟩
      case round =>
        obtain ⟨j, g, cap, hj, rfl, rfl, HO, hcap, HB⟩ := hrel
        have d0 : wr.cell? ⟨B, 0, none⟩ = some (.slice A1 n1 c1) := (HB.out.cell (p := ⟨B, 0, none⟩) lb).trans b0
        have d1 : wr.cell? ⟨B, 1, none⟩ = some (.slice A2 n2 c2) := (HB.out.cell (p := ⟨B, 1, none⟩) lb).trans b1
        rcases (show j = 0 ∨ j = 1 ∨ j = 2 by omega) with rfl | rfl | rfl
        · have hap := append_row (c := c1) (m := n1) HB.out HO.out hcap HL1.out.1 HL1.out.2.2.2 HL1.out.2.2.1 HA1.out (by show 0 + n1 ≤ _; omega)
          obtain ⟨g', cap', w', hrun, how', hle, hb'⟩ := hap 24
          have HO' := Lib.hid how'; clear how'
          have HB' := Lib.hid hb'; clear hb'
          have z0 : sm n1 n2 0 = 0 := rfl
          rw [z0] at hrun hle HO' ⊢
          go_wp2_with (at_builtin; refine Lib.wpList_append_run _ rfl _ _ _ _ rfl _ _ rfl rfl _ _ hrun ?_)
          go_roundw
          case rel => exact ⟨1, g', cap', by omega, rfl, by simp [sm], Lib.hid (by have := HO'.out; simpa [sm, cl2] using this), by simpa [sm] using hle, HB'⟩
          case measure => simp [intOf]
        · have hap := append_row (c := c2) (m := n2) HB.out HO.out hcap HL2.out.1 HL2.out.2.2.2 HL2.out.2.2.1 HA2.out (by show n1 + n2 ≤ _; omega)
          obtain ⟨g', cap', w', hrun, how', hle, hb'⟩ := hap 24
          have HO' := Lib.hid how'; clear how'
          have HB' := Lib.hid hb'; clear hb'
          have z0 : sm n1 n2 1 = n1 := rfl
          rw [z0] at hrun hle HO' ⊢
          go_wp2_with (at_builtin; refine Lib.wpList_append_run _ rfl _ _ _ _ rfl _ _ rfl rfl _ _ hrun ?_)
          go_roundw
          case rel => exact ⟨2, g', cap', by omega, rfl, by simp [sm], Lib.hid (by have := HO'.out; simpa [sm, cl2] using this), by simpa [sm] using hle, HB'⟩
          case measure => simp [intOf]
        · go_wp2_with fail
          go_ret
          refine ⟨_, cap, rfl, rxl_row (w := w) HO.out (KidL.app (HL1.out.2.1.move (fun _ h => h) fun b _ hl => HB.out.block b hl) (by rw [HL1.out.1, HX.out.len]) (HL2.out.2.1.move (fun _ h => h) fun b _ hl => HB.out.block b hl)) (by rw [List.length_append, HX.out.len, HY.out.len]) HXX.out, HB.out⟩
set_option maxHeartbeats 4000000
abbrev stopC (e : Int) : List PanicEntry := [{ v := .iface 150 (.agg #[.int .i64 e]), recovered := false }]
abbrev wkB (w : World) (pw n : Nat) : Prop := Box w pw 153 #[.int .i64 (n : Int)]
def AEnd (pw ps : Nat) (X : Nat → Prop) (w : World) (L : List T) (sh : Int) (A : Option Addr) (n c : Nat) (mv : Value) (r : Res) (e : Ending) (w' : World) : Prop :=
  match r with
  | .ok (t, m) => ∃ k h A' n' c' X' mv', e = .returned (.agg #[.int .i64 k, .int .i64 h, .slice A' n' c']) ∧ RX X' w' t (.agg #[.int .i64 k, .int .i64 h, .slice A' n' c']) ∧ Sc X' w' ps L sh A n c mv' ∧ Stp pw ps X w mv X' w' mv' ∧ wkB w' pw m
  | .error ec => e = .panicked (stopC ec) ∧ Fr (fun k => k = pw ∨ k = ps ∨ mv = .map (some k)) w w'
def LEnd (pw ps : Nat) (X : Nat → Prop) (w : World) (L : List T) (sh : Int) (A : Option Addr) (n c : Nat) (mv : Value) (r : Except Int (List T × Nat)) (e : Ending) (w' : World) : Prop :=
  match r with
  | .ok (ys, m) => ∃ A' n' c' X' mv', e = .returned (.slice A' n' c') ∧ RXL X' w' ys A' n' c' ∧ Sc X' w' ps L sh A n c mv' ∧ Stp pw ps X w mv X' w' mv' ∧ wkB w' pw m
  | .error ec => e = .panicked (stopC ec) ∧ Fr (fun k => k = pw ∨ k = ps ∨ mv = .map (some k)) w w'
def PEnd (pw : Nat) (X : Nat → Prop) (w : World) (r : Res) (e : Ending) (w' : World) : Prop :=
  match r with
  | .ok (t, m) => ∃ k h A' n' c', e = .returned (.agg #[.int .i64 k, .int .i64 h, .slice A' n' c']) ∧ RX X w' t (.agg #[.int .i64 k, .int .i64 h, .slice A' n' c']) ∧ Fr (fun k => k = pw) w w' ∧ wkB w' pw m
  | .error ec => e = .panicked (stopC ec) ∧ Fr (fun k => k = pw) w w'
def ApC (f : Nat) : Prop := ∀ (L : List T) (sh : Int) (u : Nat) (t : T) (n : Nat) (v : Value) (w : World) (pw ps : Nat) (X : Nat → Prop) (A : Option Addr) (m c : Nat) (mv : Value),
  40001 ≤ n + f → u ≤ n → n ≤ 40000 → Sub (bt n) L sh → Way (bt n - sh) t → nd t ≤ 200000000 → X pw → pw ≠ ps → wkB w pw n → Sc X w ps L sh A m c mv → RX X w t v →
  Calls Tryz.prog 118 #[.pointer (some ⟨pw, 0, none⟩), v, .pointer (some ⟨ps, 0, none⟩), .int .i64 u] w (AEnd pw ps X w L sh A m c mv (ap f L sh u t n))
def SpC (f : Nat) : Prop := ∀ (t : T) (args : List T) (n : Nat) (v : Value) (A : Option Addr) (m c : Nat) (w : World) (pw : Nat) (X : Nat → Prop),
  40001 ≤ n + f → n ≤ 40000 → Way (bt n) t → WayL (bt n) args → nd t ≤ 200000000 → ndL args ≤ 200000000 → X pw → (∀ b, X b → b < w.heap.size) → wkB w pw n → RX X w t v → RXL X w args A m c →
  Calls Tryz.prog 126 #[.pointer (some ⟨pw, 0, none⟩), v, .slice A m c] w (PEnd pw X w (sp f t args n))
theorem Sc.mapNe {X : Nat → Prop} {w : World} {ps : Nat} {L : List T} {sh : Int} {A : Option Addr} {n c : Nat} {mv : Value} (h : Sc X w ps L sh A n c mv) {b : Nat} {ty : TypeId} {cs : Array Value} (hb : Box w b ty cs) : mv ≠ .map (some b) := fun e => by
  rcases h.found with e1 | ⟨pm', es, cl, e1, _, hm, _⟩
  · rw [e] at e1; cases e1
  · rw [e] at e1; cases e1
    unfold Box at hb
    rw [hb] at hm
    cases hm
theorem Sc.less {X Y : Nat → Prop} {w : World} {ps : Nat} {L : List T} {sh : Int} {A : Option Addr} {n c : Nat} {mv : Value} (h : Sc Y w ps L sh A n c mv) (h1 : ∀ b, X b → Y b) (h2 : X ps) (h3 : ∀ pm, mv = .map (some pm) → X pm) : Sc X w ps L sh A n c mv := by
  refine ⟨h.box, h2, fun b hb => h.bnd b (h1 b hb), h.list.mono fun i _ e => h1 i e, ?_⟩
  rcases h.found with rfl | ⟨pm, es, cl, rfl, hx, hm, hok⟩
  · exact .inl rfl
  · exact .inr ⟨pm, es, cl, rfl, h3 pm rfl, hm, hok.keys, hok.one, fun x hx fr u hk h0 h1' => (hok.ok x hx fr u hk h0 h1').mono fun i _ e => h1 i e⟩
theorem Kids.moveX {w w' : World} {ok ok' : Nat → Prop} {cs : Array Value} {ys : List T} (hk : Kids w ok cs ys) (hm : ∀ b, ok b → b < w.heap.size → ok' b ∧ w'.heap[b]? = w.heap[b]?) : Kids w' ok' cs ys := fun i t ht => by
  obtain ⟨k, h, A, n, c, e0, e1, e2, hr⟩ := hk i t ht
  exact ⟨k, h, A, n, c, e0, e1, e2, RdF.moveX hm _ _ hr⟩
theorem Kids.rxl {X Y : Nat → Prop} {w : World} {cs : Array Value} {ys : List T} {b n : Nat} {ty : TypeId} (hk : Kids w (fun b => ¬ Y b) cs ys) (hb : Box w b ty cs) (hl : ys.length = n) (hm : n ≤ maxLen) (hX : ¬ X b) (hY : ∀ i, X i → Y i) : RXL X w ys (some ⟨b, 0, none⟩) n n := by
  refine ⟨hl, Nat.le_refl _, hm, fun i t ht => ?_⟩
  obtain ⟨k, h, A, n', c, e0, e1, e2, hr⟩ := hk i t ht
  refine ⟨b, 0, _, _, _, rfl, hX, ?_, ?_, ?_, RX.mono hr fun i _ e => hY i e⟩
  · rw [Nat.zero_add, hb.cell]; exact e0
  · rw [Nat.zero_add, hb.cell]; exact e1
  · rw [Nat.zero_add, hb.cell]; exact e2
theorem sboundN (k h : Int) (A : Option Addr) (n c : Nat) (hc : n ≤ c) (hm : c ≤ maxLen) (i : Nat) (hi : i ≤ maxLen) (w : World) :
    Calls Tryz.prog 89 #[.agg #[.int .i64 k, .int .i64 h, .slice A n c], .int .i64 i] w fun e w' => e = .returned (.int .i64 (bdn k n i : Nat)) ∧ Below w.heap.size w w' := by
  rw [← bd_bdn]; exact boundC k h A n c hc hm i hi w
theorem Stp.more {pw ps : Nat} {X Y : Nat → Prop} {w w' : World} {mv : Value} (h : Below w.heap.size w w') (h1 : ∀ b, X b → Y b) (h2 : ∀ b, b < w.heap.size → Y b → X b) : Stp pw ps X w mv Y w' mv :=
  ⟨⟨h.size, h1, h2, fun b hb _ => h.block b hb⟩, Fr.below h, fun _ e _ => e⟩
def contL (ys : List T) (r : Except Int (List T × Nat)) : Except Int (List T × Nat) :=
  match r with
  | .error e => .error e
  | .ok (zs, m) => .ok (ys ++ zs, m)
theorem contL_nil (r : Except Int (List T × Nat)) : contL [] r = r := by
  cases r with
  | error e => rfl
  | ok p => obtain ⟨zs, m⟩ := p; rfl
structure ArI (f : Nat) (L : List T) (sh : Int) (u : Nat) (k h : Int) (xs : List T) (n0 : Nat) (An : Option Addr) (n c : Nat) (w : World) (pw ps : Nat) (X : Nat → Prop) (A : Option Addr) (m cL : Nat) (mv : Value) (j : Nat) (wr : World)
    (cs : Array Value) (ys : List T) (n1 : Nat) (Y : Nat → Prop) (mv1 : Value) : Prop where
  row : Box wr (w.heap.size + 1) 39 cs
  size : cs.size = n * 3
  len : ys.length = j
  kids : Kids wr (fun b => ¬ Y b) cs ys
  own : Y (w.heap.size + 1)
  box : Box wr w.heap.size 39 #[.int .i64 k, .int .i64 h, .slice An n c]
  sc : Sc Y wr ps L sh A m cL mv1
  st : Stp pw ps X w mv Y wr mv1
  wk : wkB wr pw n1
  lo : n0 ≤ n1
  hi : n1 ≤ 40000
  eq : apL (fun u' x m => ap f L sh u' x m) k xs.length u xs 0 n0 = contL ys (apL (fun u' x m => ap f L sh u' x m) k xs.length u (xs.drop j) j n1)
theorem Stp.setCell {pw ps : Nat} {X Y : Nat → Prop} {w w' : World} {mv mv' : Value} (h : Stp pw ps X w mv Y w' mv') {a : Addr} (ha : w.heap.size ≤ a.block) (v : Value) : Stp pw ps X w mv Y (w'.setCell a v) mv' :=
  ⟨⟨by simpa [World.setCell] using h.adv.size, h.adv.more, h.adv.new, fun b hb e => (Below.heap_setCell _ _ _ _ (by omega)).trans (h.adv.block b hb e)⟩,
    ⟨h.fr.os, h.fr.tape, h.fr.output, by simpa [World.setCell] using h.fr.size, fun b hb e => (Below.heap_setCell _ _ _ _ (by omega)).trans (h.fr.block b hb e)⟩, h.mvs⟩
theorem Adv.setCell {X : Nat → Prop} {w : World} {a : Addr} (ha : X a.block) (v : Value) : Adv X w X (w.setCell a v) :=
  ⟨by simp [World.setCell], fun _ h => h, fun _ _ h => h, fun b hb e => Below.heap_setCell _ _ _ _ (fun e' => e (e' ▸ ha))⟩
theorem Sc.setCell {X : Nat → Prop} {w : World} {ps : Nat} {L : List T} {sh : Int} {A : Option Addr} {n c : Nat} {mv : Value} (h : Sc X w ps L sh A n c mv) {a : Addr} (ha : X a.block) (h1 : ps ≠ a.block) (h2 : mv ≠ .map (some a.block)) (v : Value) : Sc X (w.setCell a v) ps L sh A n c mv :=
  h.adv (Adv.setCell ha v) (Below.heap_setCell _ _ _ _ h1) (fun pm e => Below.heap_setCell _ _ _ _ (fun e' => h2 (e' ▸ e))) (fun b hb => by simpa [World.setCell] using h.bnd b hb)
theorem argsC {f : Nat} (hA : ApC f) (L : List T) (sh : Int) (u : Nat) (k h : Int) (xs : List T) (n0 : Nat) (An : Option Addr) (n c : Nat) (w : World) (pw ps : Nat) (X : Nat → Prop) (A : Option Addr) (m cL : Nat) (mv : Value)
    (hf : 40001 ≤ n0 + f) (hu : u + 1 ≤ n0) (hn0 : n0 ≤ 40000) (hs : Sub (bt n0) L sh) (hw : Way (bt n0 - sh) (.node k h xs)) (hnd : nd (.node k h xs) ≤ 200000000) (hX : X pw) (hne : pw ≠ ps) (hwk : wkB w pw n0) (hsc : Sc X w ps L sh A m cL mv)
    (hv : RX X w (.node k h xs) (.agg #[.int .i64 k, .int .i64 h, .slice An n c])) :
    Calls Tryz.prog 125 #[.pointer (some ⟨pw, 0, none⟩), .agg #[.int .i64 k, .int .i64 h, .slice An n c], .pointer (some ⟨ps, 0, none⟩), .int .i64 u] w (LEnd pw ps X w L sh A m cL mv (apL (fun u' x m => ap f L sh u' x m) k xs.length u xs 0 n0)) := by
  obtain ⟨An', n', c', ev, _, _, hn, hc, hm, hx⟩ := RdF_node.1 hv
  have ev' : An = An' ∧ n = n' ∧ c = c' := by simpa using ev
  obtain ⟨rfl, rfl, rfl⟩ := ev'
  clear ev
  have hMM := hm
  unfold maxLen at hm
  have hnl : n ≤ 200000000 := by rw [nd] at hnd; have := (wdL_nd xs).2; omega
  obtain ⟨i0, hi, hz0, hz1, hz2⟩ := info_parts infoTerm
  have hmk : ∀ W : World, (Instr.makeSlice 24 (.int .i64 n) (.int .i64 n)).run Tryz.prog W = .ok (.slice (some ⟨W.heap.size, 0, none⟩) n n) (W.alloc (.cells (madeCells #[.int .i64 0, .int .i64 0, .slice none 0 0] (n * 3)) 39)) := by
    intro W
    have := run_make W 24 39 i0 _ Tryz.underlying24 hi hz0 .i64 .i64 (n : Int) (n : Int) (by omega) (Int.le_refl _) (by rw [hz2]; omega) (by omega)
    rw [hz1] at this
    simpa [Value.cells] using this
  clear hi hz0 hz1 hz2
  have HN := Lib.hid hn; clear hn
  have HSC := Lib.hid hsc; clear hsc
  have HV := Lib.hid hv; clear hv
  have HX := Lib.hid hx; clear hx
  have HWK := Lib.hid hwk; clear hwk
  have HS := Lib.hid hs; clear hs
  have HW := Lib.hid hw; clear hw
  have HND := Lib.hid hnd; clear hnd
  have HXP := Lib.hid hX; clear hX
  have HAP := Lib.hid hA; clear hA
  have lpw := HWK.out.lt
  have lps := HSC.out.box.lt
  by_cases h0 : n = 0
  · subst h0
    have hxs : xs = [] := List.length_eq_zero_iff.1 HN.out
    go_enter Tryz.func125, Tryz.ntmps125
    go_wp2_with fail
    go_ret
    have hb : Below w.heap.size w (w.alloc (.cells #[.int .i64 k, .int .i64 h, .slice An 0 c] 39)) := (Below.refl _ _).alloc (Nat.le_refl _) _
    rw [hxs, apL]
    exact ⟨none, 0, 0, X, mv, rfl, ⟨rfl, Nat.le_refl _, Nat.zero_le _, fun i t ht => by simp at ht⟩, HSC.out.below hb, Stp.below hb, HWK.out.keep hb lpw⟩
  · have e0 : ((n : Int) == 0) = false := by rw [beq_eq_false_iff_ne]; omega
    go_enter Tryz.func125, Tryz.ntmps125
    go_wp2_with fail
    have hcs := size_madeCells #[.int .i64 0, .int .i64 0, .slice none 0 0] (n * 3)
    generalize madeCells #[.int .i64 0, .int .i64 0, .slice none 0 0] (n * 3) = cs0 at *
    obtain ⟨W, hW⟩ : ∃ W, (w.alloc (.cells #[.int .i64 k, .int .i64 h, .slice An n c] 39)).alloc (.cells cs0 39) = W := ⟨_, rfl⟩
    have hb : Below w.heap.size w W := by rw [← hW]; exact ((Below.refl _ _).alloc (Nat.le_refl _) _).alloc (by simp) _
    have x0 : Box W w.heap.size 39 #[.int .i64 k, .int .i64 h, .slice An n c] := by rw [← hW]; exact (Box.new _ _ _).alloc _
    have x1 : Box W (w.heap.size + 1) 39 cs0 := by rw [← hW]; exact (Box.new (w.alloc _) _ _).at (by simp)
    rw [hW]
    clear hW hmk
    have HCS := Lib.hid hcs; clear hcs
    go_loopw [23] (fun i wr => ∃ (j : Nat) (cs : Array Value) (ys : List T) (n1 : Nat) (Y : Nat → Prop) (mv1 : Value), j ≤ n ∧ i = .int .i64 j ∧ Hid (ArI f L sh u k h xs n0 An n c w pw ps X A m cL mv j wr cs ys n1 Y mv1)) (fun i _ => n - (intOf i).toNat)
    case atStart =>
      have hY2 : ∀ b, b < w.heap.size → (X b ∨ b = w.heap.size + 1) → X b := fun b hl e => by
        rcases e with e | e
        · exact e
        · omega
      refine ⟨0, cs0, [], n0, fun b => X b ∨ b = w.heap.size + 1, mv, Nat.zero_le _, rfl, Lib.hid ⟨x1, HCS.out, rfl, fun i t ht => by simp at ht, .inr rfl, x0, ?_, Stp.more hb (fun _ h => .inl h) hY2, HWK.out.keep hb lpw, Nat.le_refl _, hn0, ?_⟩⟩
      · exact HSC.out.more hb (fun _ h => .inl h) hY2 (fun b e => by
          rcases e with e | e
          · exact Nat.lt_of_lt_of_le (HSC.out.bnd b e) hb.size
          · rw [e]; exact x1.lt)
      · rw [List.drop_zero, contL_nil]
    case round =>
      obtain ⟨j, cs, ys, n1, Y, mv1, hj, rfl, HI⟩ := hrel
      clear x0 x1 hb HCS
      by_cases hlt : j < n
      · obtain ⟨t, ht⟩ := at_of HN.out hlt
        obtain ⟨b, o, k2, h2, A2, n2a, c2', rfl, c0, c1, c2, hr⟩ := (RdFAt.moveX (fun b hb hl => ⟨fun e => hb (HI.out.st.adv.new b hl e), HI.out.st.adv.block b hl hb⟩) (HX.out j t ht)).full
        have HT := Lib.hid ht; clear ht
        have hi0 : (0 : Int) ≤ j := by omega
        have hi1 : (j : Int) < n := by omega
        go_wp2_with fail
        have hbA : Below wr.heap.size wr (wr.alloc (.cells #[.int .i64 k2, .int .i64 h2, .slice A2 n2a c2'] 39)) := (Below.refl _ wr).alloc (Nat.le_refl _) _
        have xa := Box.new wr 39 #[.int .i64 k2, .int .i64 h2, .slice A2 n2a c2']
        generalize wr.alloc (.cells #[.int .i64 k2, .int .i64 h2, .slice A2 n2a c2'] 39) = Wa at *
        clear c0 c1 c2
        have HR := Lib.hid (RX.adv hr (Adv.below (X := Y) hbA)); clear hr
        have hl1 := HI.out.lo
        have hl2 := HI.out.hi
        obtain ⟨β, hβ⟩ : ∃ β, bdn k n j = β := ⟨_, rfl⟩
        have hβ1 : β ≤ 1 := by rw [← hβ]; exact bdn_le _ _ _
        have xb := HI.out.box.keep hbA HI.out.box.lt
        have HBD : Hid (∀ W', Calls Tryz.prog 89 #[.agg #[.int .i64 k, .int .i64 h, .slice (some ⟨b, o, none⟩) n c], .int .i64 j] W' fun e w' => e = .returned (.int .i64 (β : Nat)) ∧ Below W'.heap.size W' w') := Lib.hid fun W' => by
          rw [← hβ]; exact sboundN k h _ n c hc hMM j (by unfold maxLen; omega) W'
        have hst := HI.out.st.fr.size
        have hmem : t ∈ xs := List.mem_of_getElem? HT.out
        have hbt := bt_mono hl1
        have hndt : nd t ≤ 200000000 := by have h1 := HND.out; rw [nd] at h1; have := nd_mem hmem; omega
        have HAC : Hid (∀ W', Below Wa.heap.size Wa W' → Calls Tryz.prog 118 #[.pointer (some ⟨pw, 0, none⟩), .agg #[.int .i64 k2, .int .i64 h2, .slice A2 n2a c2'], .pointer (some ⟨ps, 0, none⟩), .int .i64 ((u : Int) + (β : Int))] W' (AEnd pw ps Y W' L sh A m cL mv1 (ap f L sh (u + β) t n1))) := Lib.hid fun W' hW' => by
          have hbW := hbA.trans (hW'.mono hbA.size)
          rw [show (u : Int) + (β : Int) = ((u + β : Nat) : Int) by omega]
          exact HAP.out L sh (u + β) t n1 _ W' pw ps Y A m cL mv1 (by omega) (by omega) hl2 (HS.out.mono hbt) ((HW.out.args hmem).mono (by omega)) hndt (HI.out.st.adv.more _ HXP.out) hne (HI.out.wk.keep hbW HI.out.wk.lt) (HI.out.sc.below hbW) (RX.adv HR.out (Adv.below hW'))
        have HEQ := HI.out.eq
        rw [drop_at HT.out, apL, HN.out, hβ] at HEQ
        have HEQ' := Lib.hid HEQ; clear HEQ
        have hw1 : IntKind.i64.wrap ((u : Int) + (β : Int)) = (u : Int) + (β : Int) := by rw [wrapEq, wrap_small (by omega) (by omega)]
        have hS : Wa.cell? ⟨wr.heap.size, 0, none⟩ = some (.int .i64 k2) ∧ Wa.cell? ⟨wr.heap.size, 1, none⟩ = some (.int .i64 h2) ∧ Wa.cell? ⟨wr.heap.size, 2, none⟩ = some (.slice A2 n2a c2') ∧ Wa.cell? ⟨w.heap.size, 0, none⟩ = some (.int .i64 k) ∧ Wa.cell? ⟨w.heap.size, 1, none⟩ = some (.int .i64 h) ∧ Wa.cell? ⟨w.heap.size, 2, none⟩ = some (.slice (some ⟨b, o, none⟩) n c) := ⟨xa.three.1, xa.three.2.1, xa.three.2.2, xb.three.1, xb.three.2.1, xb.three.2.2⟩
        have HKS : Hid (∀ w', Below Wa.heap.size Wa w' → (w'.cell? ⟨wr.heap.size, 0, none⟩ = some (.int .i64 k2) ∧ w'.cell? ⟨wr.heap.size, 1, none⟩ = some (.int .i64 h2) ∧ w'.cell? ⟨wr.heap.size, 2, none⟩ = some (.slice A2 n2a c2') ∧ w'.cell? ⟨w.heap.size, 0, none⟩ = some (.int .i64 k) ∧ w'.cell? ⟨w.heap.size, 1, none⟩ = some (.int .i64 h) ∧ w'.cell? ⟨w.heap.size, 2, none⟩ = some (.slice (some ⟨b, o, none⟩) n c))) := Lib.hid fun w' h => by
          have s1 := xa.keep h xa.lt
          have s2 := xb.keep h xb.lt
          exact ⟨s1.three.1, s1.three.2.1, s1.three.2.2, s2.three.1, s2.three.2.1, s2.three.2.2⟩
        have hcur : Below Wa.heap.size Wa Wa.drew := (Below.refl _ Wa).drew
        have hbWa := hbA
        clear hS hβ
        cases hres : ap f L sh (u + β) t n1 with
        | error ec =>
          rw [hres] at HAC
          have hap : apL (fun u' x m => ap f L sh u' x m) k xs.length u xs 0 n0 = .error ec := by rw [HN.out, HEQ'.out, hres]; rfl
          have HERR : Hid (∀ W' w8, Below Wa.heap.size Wa W' → Fr (fun k => k = pw ∨ k = ps ∨ mv1 = .map (some k)) W' w8 → LEnd pw ps X w L sh A m cL mv (apL (fun u' x m => ap f L sh u' x m) k xs.length u xs 0 n0) (.panicked (stopC ec)) w8) := Lib.hid fun W' w8 h1 h2 => by
            rw [hap]
            refine ⟨rfl, (HI.out.st.fr.then (hbWa.trans (h1.mono hbWa.size))).trans h2 fun i hi e => ?_⟩
            rcases e with e | e | e
            · exact .inl e
            · exact .inr (.inl e)
            · exact .inr (.inr (HI.out.st.mvs i e hi))
          clear hres hap
          obtain ⟨q0, q1, q2, q3, q4, q5⟩ := HKS.out _ (Below.refl _ _)
          go_region_with
            (first
              | (go_at_call 89
                 with_reducible refine (HBD.out _).mono ?_
                 rintro e w8 ⟨rfl, hb1⟩
                 replace hcur := hcur.trans (hb1.mono hcur.size)
                 clear hb1
                 obtain ⟨q0, q1, q2, q3, q4, q5⟩ := HKS.out _ hcur)
              | (go_at_call 118
                 with_reducible refine (HAC.out _ hcur).mono ?_
                 rintro e w8 ⟨rfl, hfr⟩
                 suffices hfk : wpAny Tryz.prog .any #[] (fun _ _ _ => True) 0 #[] { tmps := #[], defers := [] } w8 from ⟨rfl, HERR.out _ _ hcur hfr⟩))
          all_goals trivial
        | ok p =>
          obtain ⟨t', n2⟩ := p
          rw [hres] at HAC
          have hap : apL (fun u' x m => ap f L sh u' x m) k xs.length u xs 0 n0 = contL (ys ++ [t']) (apL (fun u' x m => ap f L sh u' x m) k xs.length u (xs.drop (j + 1)) (j + 1) n2) := by
            rw [HN.out, HEQ'.out, hres]
            simp only [contL]
            cases apL (fun u' x m => ap f L sh u' x m) k n u (xs.drop (j + 1)) (j + 1) n2 with
            | error e => rfl
            | ok q => obtain ⟨zs, m'⟩ := q; simp
          have HAPP := Lib.hid hap; clear hap
          have hgood := ap_good f L sh (u + β) t n1 (by omega) hl2 (HS.out.mono hbt) ((HW.out.args hmem).mono (Int.sub_le_sub_right hbt _)) t' n2 hres
          have HG := Lib.hid hgood; clear hgood
          have HRE := Lib.hid hres; clear hres
          have HF1 : Hid (∀ W' w9, Below Wa.heap.size Wa W' → Fr (fun k => k = pw ∨ k = ps ∨ mv1 = .map (some k)) W' w9 → Box w9 wr.heap.size 39 #[.int .i64 k2, .int .i64 h2, .slice A2 n2a c2'] ∧ Box w9 w.heap.size 39 #[.int .i64 k, .int .i64 h, .slice (some ⟨b, o, none⟩) n c] ∧ Box w9 (w.heap.size + 1) 39 cs) := Lib.hid fun W' w9 h1 h2 => by
            have hbW := hbWa.trans (h1.mono hbWa.size)
            have hsc := HI.out.sc.below hbW
            have a1 := xa.keep h1 xa.lt
            have a2 := xb.keep h1 xb.lt
            have a3 := HI.out.row.keep hbW HI.out.row.lt
            have l1 := HI.out.wk.lt
            have l2 := HI.out.sc.box.lt
            exact ⟨a1.fr h2 (fun e => by
              rcases e with e | e | e
              · omega
              · omega
              · exact hsc.mapNe a1 e), a2.fr h2 (fun e => by
              rcases e with e | e | e
              · omega
              · omega
              · exact hsc.mapNe a2 e), a3.fr h2 (fun e => by
              rcases e with e | e | e
              · omega
              · omega
              · exact hsc.mapNe a3 e)⟩
          have lrow := HI.out.row.lt
          go_region_held3 (fun w' => w'.cell? ⟨wr.heap.size, 0, none⟩ = some (.int .i64 k2) ∧ w'.cell? ⟨wr.heap.size, 1, none⟩ = some (.int .i64 h2) ∧ w'.cell? ⟨wr.heap.size, 2, none⟩ = some (.slice A2 n2a c2') ∧ w'.cell? ⟨w.heap.size, 0, none⟩ = some (.int .i64 k) ∧ w'.cell? ⟨w.heap.size, 1, none⟩ = some (.int .i64 h) ∧ w'.cell? ⟨w.heap.size, 2, none⟩ = some (.slice (some ⟨b, o, none⟩) n c))
            (first | exact HKS.out _ hcur | exact HFIN.out | exact HFIN3.out)
            (first
              | (go_at_call 89
                 with_reducible refine (HBD.out _).mono ?_
                 rintro e w8 ⟨rfl, hb1⟩
                 replace hcur := hcur.trans (hb1.mono hcur.size)
                 clear hb1)
              | (go_at_call 118
                 with_reducible refine (HAC.out _ hcur).mono ?_
                 rintro e w9 ⟨k3, h3, A3, n3, c3, Y3, mv3, rfl, hrx, hsc3, hst3, hwk3⟩
                 obtain ⟨y1, y2, y3⟩ := HF1.out _ _ hcur hst3.fr
                 have HFIN := (show w9.cell? ⟨wr.heap.size, 0, none⟩ = some (.int .i64 k2) ∧ w9.cell? ⟨wr.heap.size, 1, none⟩ = some (.int .i64 h2) ∧ w9.cell? ⟨wr.heap.size, 2, none⟩ = some (.slice A2 n2a c2') ∧ w9.cell? ⟨w.heap.size, 0, none⟩ = some (.int .i64 k) ∧ w9.cell? ⟨w.heap.size, 1, none⟩ = some (.int .i64 h) ∧ w9.cell? ⟨w.heap.size, 2, none⟩ = some (.slice (some ⟨b, o, none⟩) n c) from ⟨y1.three.1, y1.three.2.1, y1.three.2.2, y2.three.1, y2.three.2.1, y2.three.2.2⟩)
                 have HFIN3 := (show (((w9.setCell ⟨w.heap.size + 1, j * 3, none⟩ (.int .i64 k3)).setCell ⟨w.heap.size + 1, j * 3 + 1, none⟩ (.int .i64 h3)).setCell ⟨w.heap.size + 1, j * 3 + 2, none⟩ (.slice A3 n3 c3)).cell? ⟨wr.heap.size, 0, none⟩ = some (.int .i64 k2) ∧ (((w9.setCell ⟨w.heap.size + 1, j * 3, none⟩ (.int .i64 k3)).setCell ⟨w.heap.size + 1, j * 3 + 1, none⟩ (.int .i64 h3)).setCell ⟨w.heap.size + 1, j * 3 + 2, none⟩ (.slice A3 n3 c3)).cell? ⟨wr.heap.size, 1, none⟩ = some (.int .i64 h2) ∧ (((w9.setCell ⟨w.heap.size + 1, j * 3, none⟩ (.int .i64 k3)).setCell ⟨w.heap.size + 1, j * 3 + 1, none⟩ (.int .i64 h3)).setCell ⟨w.heap.size + 1, j * 3 + 2, none⟩ (.slice A3 n3 c3)).cell? ⟨wr.heap.size, 2, none⟩ = some (.slice A2 n2a c2') ∧ (((w9.setCell ⟨w.heap.size + 1, j * 3, none⟩ (.int .i64 k3)).setCell ⟨w.heap.size + 1, j * 3 + 1, none⟩ (.int .i64 h3)).setCell ⟨w.heap.size + 1, j * 3 + 2, none⟩ (.slice A3 n3 c3)).cell? ⟨w.heap.size, 0, none⟩ = some (.int .i64 k) ∧ (((w9.setCell ⟨w.heap.size + 1, j * 3, none⟩ (.int .i64 k3)).setCell ⟨w.heap.size + 1, j * 3 + 1, none⟩ (.int .i64 h3)).setCell ⟨w.heap.size + 1, j * 3 + 2, none⟩ (.slice A3 n3 c3)).cell? ⟨w.heap.size, 1, none⟩ = some (.int .i64 h) ∧ (((w9.setCell ⟨w.heap.size + 1, j * 3, none⟩ (.int .i64 k3)).setCell ⟨w.heap.size + 1, j * 3 + 1, none⟩ (.int .i64 h3)).setCell ⟨w.heap.size + 1, j * 3 + 2, none⟩ (.slice A3 n3 c3)).cell? ⟨w.heap.size, 2, none⟩ = some (.slice (some ⟨b, o, none⟩) n c) from by
                    have z1 := ((y1.other (a := ⟨w.heap.size + 1, j * 3, none⟩) (by dsimp only; omega) (.int .i64 k3)).other (a := ⟨w.heap.size + 1, j * 3 + 1, none⟩) (by dsimp only; omega) (.int .i64 h3)).other (a := ⟨w.heap.size + 1, j * 3 + 2, none⟩) (by dsimp only; omega) (.slice A3 n3 c3)
                    have z2 := ((y2.other (a := ⟨w.heap.size + 1, j * 3, none⟩) (by dsimp only; omega) (.int .i64 k3)).other (a := ⟨w.heap.size + 1, j * 3 + 1, none⟩) (by dsimp only; omega) (.int .i64 h3)).other (a := ⟨w.heap.size + 1, j * 3 + 2, none⟩) (by dsimp only; omega) (.slice A3 n3 c3)
                    exact ⟨z1.three.1, z1.three.2.1, z1.three.2.2, z2.three.1, z2.three.2.1, z2.three.2.2⟩)
                 replace HFIN := Lib.hid HFIN
                 replace HFIN3 := Lib.hid HFIN3
                 obtain ⟨u0, hu0⟩ := y3.there (i := j * 3) (by rw [HI.out.size]; omega)
                 obtain ⟨u1, hu1⟩ := y3.there (i := j * 3 + 1) (by rw [HI.out.size]; omega)
                 obtain ⟨u2, hu2⟩ := y3.there (i := j * 3 + 2) (by rw [HI.out.size]; omega)
                 have f0 := y3.frozen (j * 3)
                 have f1 := y3.frozen (j * 3 + 1)
                 have f2 := y3.frozen (j * 3 + 2)
                 have HY := Lib.hid (And.intro y2 y3)
                 clear y1 y2 y3
                 have HCU := Lib.hid hcur
                 clear hcur
                 have HH := Lib.hid (And.intro hrx (And.intro hsc3 (And.intro hst3 hwk3)))
                 clear hrx hsc3 hst3 hwk3))
          go_wp2_with fail
          go_roundw
          case rel =>
            obtain ⟨hrx, hsc3, hst3, hwk3⟩ := HH.out
            obtain ⟨y2, y3⟩ := HY.out
            obtain ⟨g1, g2, g3, g4⟩ := HG.out
            have hbW := hbWa.trans (HCU.out.mono hbWa.size)
            have adv := (Adv.below (X := Y) hbW).trans hst3.adv
            have hown : Y3 (w.heap.size + 1) := adv.more _ HI.out.own
            have hmn : mv3 ≠ .map (some (w.heap.size + 1)) := hsc3.mapNe y3
            have l1 := HI.out.wk.lt
            have l2 := HI.out.sc.box.lt
            have l3 := HI.out.sc.bnd
            have hset : ∀ g, ¬ Y3 g → g < w9.heap.size → (((w9.setCell ⟨w.heap.size + 1, j * 3, none⟩ (.int .i64 k3)).setCell ⟨w.heap.size + 1, j * 3 + 1, none⟩ (.int .i64 h3)).setCell ⟨w.heap.size + 1, j * 3 + 2, none⟩ (.slice A3 n3 c3)).heap[g]? = w9.heap[g]? := fun g hg _ => by
              have hgne : g ≠ w.heap.size + 1 := fun e => hg (e ▸ hown)
              rw [Below.heap_setCell _ _ _ _ hgne, Below.heap_setCell _ _ _ _ hgne, Below.heap_setCell _ _ _ _ hgne]
            refine ⟨j + 1, _, ys ++ [t'], n2, Y3, mv3, by omega, by go_num, Lib.hid ⟨((y3.setAt _ _).setAt _ _).setAt _ _, by simp [HI.out.size], by simp [HI.out.len], ?_, hown, ?_, ?_, ?_, ?_, by omega, g2, HAPP.out⟩⟩
            · exact Kids.snoc (HI.out.kids.moveX fun b hb hl => ⟨fun e => hb (adv.new b hl e), adv.block b hl hb⟩) HI.out.len hset (RdF.moveX (fun b hb hl => ⟨hb, hset b hb hl⟩) _ _ hrx) (by rw [HI.out.size]; omega)
            · exact ((y2.other (by dsimp only; omega) _).other (by dsimp only; omega) _).other (by dsimp only; omega) _
            · exact ((hsc3.setCell hown (by dsimp only; omega) hmn _).setCell hown (by dsimp only; omega) hmn _).setCell hown (by dsimp only; omega) hmn _
            · exact (((HI.out.st.trans ((Stp.below hbW).trans hst3)).setCell (by dsimp only; omega) _).setCell (by dsimp only; omega) _).setCell (by dsimp only; omega) _
            · exact ((hwk3.other (by dsimp only; omega) _).other (by dsimp only; omega) _).other (by dsimp only; omega) _
          case measure => simp [intOf]; omega
      · obtain rfl : j = n := by omega
        go_wp2_with fail
        go_ret
        have he := HI.out.eq
        rw [drop_all HN.out (Nat.le_refl _), apL] at he
        have he' : apL (fun u' x m => ap f L sh u' x m) k xs.length u xs 0 n0 = .ok (ys, n1) := by rw [he]; simp [contL]
        rw [he']
        have hsc := HI.out.sc
        have hbn := HSC.out.bnd
        have hX1 : ∀ b, (Y b ∧ b ≠ w.heap.size + 1) → Y b := fun b h => h.1
        have hmore : ∀ b, X b → (Y b ∧ b ≠ w.heap.size + 1) := fun b h => ⟨HI.out.st.adv.more b h, by have := hbn b h; omega⟩
        refine ⟨_, _, _, fun b => Y b ∧ b ≠ w.heap.size + 1, mv1, rfl, HI.out.kids.rxl HI.out.row HI.out.len (by unfold maxLen; omega) (fun h => h.2 rfl) hX1, hsc.less hX1 (hmore _ HSC.out.own) (fun pm e => ⟨?_, fun e2 => hsc.mapNe HI.out.row (e2 ▸ e)⟩), ⟨⟨HI.out.st.adv.size, hmore, fun b hb h => HI.out.st.adv.new b hb h.1, HI.out.st.adv.block⟩, HI.out.st.fr, HI.out.st.mvs⟩, HI.out.wk⟩
        rcases hsc.found with e1 | ⟨pm', es, cl, e1, hxp, _, _⟩
        · rw [e] at e1; cases e1
        · rw [e] at e1; cases e1; exact hxp
end Go.Proofs.YtbbjjdnnlnabaaaGreat
