/-
  Contracts of package lex's Text and of the document's Text. No statement is proved here.
-/
import Derived.Test.YtmkahbbcagfbhaaGreatDoorXu
namespace Go.Proofs.YtmkahbbcagfbhaaGreatDoor
open Go.ChangeShapes Go.WideShapes Go.ChangeAt Go.RowKit
set_option linter.unusedVariables false

theorem strCells_eq (s : ByteArray) : Lib.strCells s = s.data.toList.map bV := rfl
/-- a text is appended -/
theorem YRow.appS {w : World} {base : Nat} {v : Value} {n : Nat} {l : List UInt8} (h : YRow w base v n l) (s : ByteArray) (hb : base ≤ w.heap.size) (hn : n + s.size ≤ 140737488355328) :
    ∃ A c w', (Builtin.append_ #[28, 9] 28 #[v, .string s]).run Tryz.prog w = .ok (.slice A (n + s.size) c) w' ∧ YRow w' base (.slice A (n + s.size) c) (n + s.size) (l ++ s.data.toList) ∧ w.grownBy w' v.ownBlock := by
  obtain ⟨i0, hi, hz0, hz1, hz2⟩ := info_u8
  have hsz : s.size = s.data.toList.length := by rw [Array.length_toList]; rfl
  obtain ⟨v', w', hr, h2, h3, _⟩ := Lib.run_append_own_string (P := Tryz.prog) w base 28 9 28 5 i0 Tryz.underlying28 Tryz.underlying9 hi hz0 hz1 hz2 v n _ h.own s (by unfold maxLen; omega) (by omega) hb
  rw [strCells_eq, ← List.map_append] at h2
  have hrow : YRow w' base v' (n + s.size) (l ++ s.data.toList) := ⟨h2, by rw [List.length_append, h.len, hsz]⟩
  obtain ⟨A, c, rfl, _, _⟩ := hrow.full
  exact ⟨A, c, w', hr, hrow, h3⟩
/-- a byte is appended, laid in a block of its own -/
theorem YRow.appB {w : World} {base P : Nat} {v : Value} {n : Nat} {l : List UInt8} (h : YRow w base v n l) (u : UInt8) (hP : w.heap[P]? = some (.cells #[bV u] 5 (0, 0))) (hb : base ≤ w.heap.size) (hn : n + 1 ≤ 140737488355328) :
    ∃ g c w', (Builtin.append_ #[28, 28] 28 #[v, .slice (some ⟨P, 0, none⟩) 1 1]).run Tryz.prog w = .ok (.slice (some ⟨g, 0, none⟩) (n + 1) c) w' ∧ YRow w' base (.slice (some ⟨g, 0, none⟩) (n + 1) c) (n + 1) (l ++ [u]) ∧ w.grownBy w' v.ownBlock := by
  obtain ⟨i0, hi, hz0, hz1, hz2⟩ := info_u8
  obtain ⟨g, cap, w4, hrun, how4, hgr, hg4, _⟩ := run_append_lies (P := Tryz.prog) w 28 28 base 5 i0 _ 1 1 Tryz.underlying28 hi hz0 hz1 hz2 rfl (by omega) v n _
    h.own ⟨P, 0, none⟩ 1 1 [bV u] rfl (World.news_of_block hP) (by intro x hx; simp at hx; subst hx; rfl) (by omega) (by unfold maxLen; omega) (by omega) hb _ rfl
  refine ⟨g, cap, w4, hrun, ⟨?_, by rw [List.length_append, h.len]; rfl⟩, hgr⟩
  rw [List.map_append]
  exact how4
/-- whether the token ahead is a name -/
def pvX (x : List Tk) : Nat → Bool
  | 0 => false
  | j + 1 => match x[j]? with | some t => decide (t.1 = 0) | none => false
/-- what holds at the head of Text's loop -/
structure TxI (x : List Tk) (w : World) (j : Nat) (A : Option Addr) (n c : Nat) (wx : World) : Prop where
  below : Below w.heap.size w wx
  run : ∃ y, YRow wx w.heap.size (.slice A n c) n y ∧ y ++ txtL (pvX x j) (x.drop j) = txtL false x
theorem TxI.zero (x : List Tk) (w : World) : TxI x w 0 none 0 0 w := ⟨Below.refl _ _, [], YRow.nil _ _, rfl⟩
/-- what Text tells -/
def TxE (x : List Tk) (w : World) (e : Ending) (w' : World) : Prop :=
  ∃ (A : Option Addr) (n c : Nat), e = .returned (.slice A n c) ∧ YRow w' w.heap.size (.slice A n c) n (txtL false x) ∧ Below w.heap.size w w'
theorem TxI.last {x : List Tk} {w : World} {j : Nat} {A : Option Addr} {n c : Nat} {wx : World} (h : TxI x w j A n c wx) (hj : x.length ≤ j) : TxE x w (.returned (.slice A n c)) wx := by
  obtain ⟨y, hy, e⟩ := h.run
  rw [List.drop_of_length_le hj, show ∀ p, txtL p [] = [] from fun p => by cases p <;> rfl, List.append_nil] at e
  exact ⟨A, n, c, rfl, e ▸ hy, h.below⟩
/-- one token: a blank if it is a name behind a name, then its text -/
theorem TxI.step {x : List Tk} {w : World} {j : Nat} {A : Option Addr} {n c : Nat} {wx : World} {t : Tk} (h : TxI x w j A n c wx) (ht : x[j]? = some t) {A' : Option Addr} {n' c' : Nat} {w' : World} {y : List UInt8}
    (hy : YRow wx w.heap.size (.slice A n c) n y) (he : y ++ txtL (pvX x j) (x.drop j) = txtL false x) (hb : Below w.heap.size w w') (hz : YRow w' w.heap.size (.slice A' n' c') n' (y ++ ((if pvX x j = true ∧ t.1 = 0 then [32] else []) ++ t.2.data.toList))) :
    TxI x w (j + 1) A' n' c' w' := by
  refine ⟨hb, _, hz, ?_⟩
  rw [← he, drop_atX ht]
  have e : pvX x (j + 1) = decide (t.1 = 0) := by simp only [pvX, ht]
  rw [e]
  cases pvX x j <;> simp [txtL]
theorem txt_le {x : List Tk} {j : Nat} {t : Tk} (ht : x[j]? = some t) {y : List UInt8} (he : y ++ txtL (pvX x j) (x.drop j) = txtL false x) :
    y.length + (if pvX x j = true ∧ t.1 = 0 then [(32 : UInt8)] else []).length + t.2.size ≤ (txtL false x).length := by
  have e2 := congrArg List.length he
  rw [drop_atX ht, List.length_append] at e2
  have : (if pvX x j = true ∧ t.1 = 0 then [(32 : UInt8)] else []).length + t.2.size ≤ (txtL (pvX x j) (t :: x.drop (j + 1))).length := by
    have e3 : t.2.data.toList.length = t.2.size := by rw [Array.length_toList]; rfl
    rw [txtL, List.length_append, List.length_append, e3]
    omega
  omega
theorem two_cells (w : World) (p : Nat) (u v : Value) (k : Nat) (hk : k ≠ p) : ((w.setCell ⟨p, 0, none⟩ u).setCell ⟨p, 1, none⟩ v).heap[k]? = w.heap[k]? :=
  (Below.heap_setCell _ _ _ _ hk).trans (Below.heap_setCell _ _ _ _ hk)
set_option maxRecDepth 100000 in
set_option maxHeartbeats 4000000 in
theorem xTextC (x : List Tk) (A : Option Addr) (n c : Nat) (w : World) (h : TL w x A n c) (hB : (txtL false x).length ≤ 140737488355328) (hn : n ≤ 1000000) : Calls Tryz.prog 38 #[.slice A n c] w (TxE x w) := by
  have hm := h.cap
  have hc := h.le
  have hlen := h.len
  subst hlen
  unfold maxLen at hm
  have HX := Lib.hid h
  have HB := Lib.hid hB
  clear h hB
  go_enter Tryz.func38, Tryz.ntmps38
  go_wp2_with fail
  go_loopw [3, 8] (fun v i wr => ∃ (j : Nat) (A' : Option Addr) (n' c' : Nat), j ≤ x.length ∧ i = .int .i64 j ∧ v = .slice A' n' c' ∧ TxI x w j A' n' c' wr) (fun _ i _ => x.length - (Go.RowKit.intOf i).toNat)
  case atStart => exact ⟨0, none, 0, 0, Nat.zero_le _, rfl, rfl, TxI.zero x w⟩
  case round =>
    obtain ⟨j, A', n', c', hj, rfl, rfl, hI⟩ := hrel
    by_cases hlt : j < x.length
    · obtain ⟨t, ht⟩ := at_ofX (l := x) rfl hlt
      have hX2 := HX.out.keep hI.below
      obtain ⟨b, o, rfl, c0, c1⟩ := hX2.at_ j t ht
      have hi0 : (0 : Int) ≤ j := by omega
      have hi1 : (j : Int) < x.length := by omega
      obtain ⟨k, s⟩ := t
      obtain ⟨y, hy, he⟩ := hI.run
      have hle := txt_le ht he
      obtain ⟨W4, hW4⟩ : ∃ W4, wr.alloc (.cells #[.int .i64 k, .string s] 79) = W4 := ⟨_, rfl⟩
      have HP : Hid (∀ i, i + 1 = j → ∃ k0, W4.cell? ⟨b, o + i * 2, none⟩ = some (.int .i64 k0) ∧ pvX x j = decide (k0 = 0)) := Lib.hid (by
        rintro i rfl
        obtain ⟨t0, ht0⟩ := at_ofX (l := x) (k := i) rfl (by omega)
        obtain ⟨b', o', e, c0', _⟩ := hX2.at_ i t0 ht0
        cases e
        refine ⟨t0.1, ?_, by simp only [pvX, ht0]⟩
        have hb4 : Below wr.heap.size wr W4 := by
          rw [← hW4]
          exact (Below.refl _ _).alloc (Nat.le_refl _) _
        exact (hb4.cell (cell_ltX c0')).trans c0')
      have hx4 : BoxX W4 wr.heap.size 79 #[.int .i64 k, .string s] := by
        rw [← hW4]
        exact BoxX.new wr _ _
      have hb4 : Below wr.heap.size wr W4 := by
        rw [← hW4]
        exact (Below.refl _ _).alloc (Nat.le_refl _) _
      have hy4 := hy.keep hb4
      have hbw4 := hI.below.trans (hb4.mono hI.below.size)
      have d0 := hx4.cell 0
      have d1 := hx4.cell 1
      simp only [List.getElem?_toArray, List.getElem?_cons_zero, List.getElem?_cons_succ] at d0 d1
      have hlt4 := hx4.lt
      have HI := Lib.hid hI
      have HBW := Lib.hid hbw4
      have HT := Lib.hid ht
      have HE := Lib.hid he
      have HY := Lib.hid hy
      clear hX2 hI hbw4 ht he hy hx4 hb4
      cases j with
      | zero =>
        simp only [Nat.zero_mul, Nat.add_zero] at c0 c1
        obtain ⟨A2, c2, w2, hrun, hy2, hg2⟩ := hy4.appS s (HBW.out.size) (by have := HB.out; have := hy4.len; simp only at hle; omega)
        have hb2 := Below.grown HBW.out hg2 HBW.out.size fun g hg => (hy4.lt hg).1
        have HIn : Hid (TxI x w (0 + 1) A2 (n' + s.size) c2 w2) := Lib.hid (HI.out.step HT.out HY.out HE.out hb2 (by simpa [pvX] using hy2))
        clear hy4 hy2 hg2 hb2 hle
        go_wp2_with (at_builtin; first | (refine Lib.wpList_append_run _ rfl _ _ _ _ rfl _ _ rfl rfl _ _ hrun ?_; clear hrun))
        go_roundw
        case rel => exact ⟨0 + 1, _, _, _, by omega, by go_num, rfl, HIn.out⟩
        case measure => simp [Go.RowKit.intOf]; omega
      | succ j =>
        simp only at c0 c1
        obtain ⟨k0, c0', hpv⟩ := HP.out j rfl
        have hw1 : IntKind.i64.wrap (((j + 1 : Nat) : Int) - 1) = (j : Int) := by rw [show ((j + 1 : Nat) : Int) - 1 = (j : Int) by omega]; exact wrap_small _ (by omega) (by omega)
        have hw2 : ((j + 1 : Nat) : Int) - 1 = (j : Int) := by omega
        have hj0 : (0 : Int) < ((j + 1 : Nat) : Int) := by omega
        have hj1 : (0 : Int) ≤ (j : Int) := by omega
        have hj2 : (j : Int) < x.length := by omega
        by_cases hq : k0 = 0 ∧ k = 0
        · obtain ⟨rfl, rfl⟩ := hq
          have hcond : (pvX x (j + 1) = true ∧ (((0 : Int), s) : Tk).1 = 0) := ⟨by rw [hpv]; rfl, rfl⟩
          rw [if_pos hcond] at hle
          obtain ⟨W5, hW5⟩ : ∃ W5, W4.alloc (.cells #[.int .u8 32] 5) = W5 := ⟨_, rfl⟩
          have hb5 : Below W4.heap.size W4 W5 := by rw [← hW5]; exact (Below.refl _ _).alloc (Nat.le_refl _) _
          have hbw5 := HBW.out.trans (hb5.mono HBW.out.size)
          have hy5 := hy4.keep hb5
          obtain ⟨g6, c6, w6, hrun6, hy6, hg6⟩ := hy5.appB (P := W4.heap.size) 32 (by rw [← hW5]; exact heap_alloc_new W4 _) hbw5.size (by have := HB.out; have := hy4.len; simp only [List.length_singleton] at hle; omega)
          have hb6 := Below.grown hbw5 hg6 hbw5.size fun g hg => (hy5.lt hg).1
          have d1' : w6.cell? ⟨wr.heap.size, 1, none⟩ = some (.string s) := (World.cell?_of_block (hg6.block wr.heap.size (Nat.lt_of_lt_of_le hlt4 hb5.size) (fun e => by
            have := HY.out.lt e.symm
            omega))).trans ((hb5.cell (cell_ltX d1)).trans d1)
          obtain ⟨A2, c2, w2, hrun, hy2, hg2⟩ := hy6.appS s hb6.size (by have := HB.out; have := hy4.len; simp only [List.length_singleton] at hle; omega)
          have hb2 := Below.grown hb6 hg2 hb6.size fun g hg => (hy6.lt hg).1
          have HIn : Hid (TxI x w (j + 1 + 1) A2 (n' + 1 + s.size) c2 w2) := Lib.hid (HI.out.step HT.out HY.out HE.out hb2 (by rw [if_pos hcond, ← List.append_assoc]; exact hy2))
          clear hy4 hy2 hg2 hb2 hle hpv hy5 hy6 hg6 hb6 hb5 hbw5 hcond HP
          go_wp2_with (at_builtin; first | (refine Lib.wpList_append_run _ rfl _ _ _ _ rfl _ _ rfl rfl _ _ hrun6 ?_; clear hrun6) | (refine Lib.wpList_append_run _ rfl _ _ _ _ rfl _ _ rfl rfl _ _ hrun ?_; clear hrun))
          go_roundw
          case rel => exact ⟨j + 1 + 1, _, _, _, by omega, by go_num, rfl, HIn.out⟩
          case measure => simp [Go.RowKit.intOf]; omega
        · have hcond : ¬ (pvX x (j + 1) = true ∧ ((k, s) : Tk).1 = 0) := fun e => hq ⟨by have := e.1; rw [hpv] at this; simpa using this, e.2⟩
          rw [if_neg hcond] at hle
          obtain ⟨A2, c2, w2, hrun, hy2, hg2⟩ := hy4.appS s (HBW.out.size) (by have := HB.out; have := hy4.len; simp only at hle; omega)
          have hb2 := Below.grown HBW.out hg2 HBW.out.size fun g hg => (hy4.lt hg).1
          have HIn : Hid (TxI x w (j + 1 + 1) A2 (n' + s.size) c2 w2) := Lib.hid (HI.out.step HT.out HY.out HE.out hb2 (by rw [if_neg hcond]; exact hy2))
          clear hy4 hy2 hg2 hb2 hle hpv hcond HP
          by_cases hk0 : k0 = 0
          · have hk1 : ¬ k = 0 := fun e => hq ⟨hk0, e⟩
            have hk2 : (k == 0) = false := by simpa using hk1
            subst hk0
            clear hq
            go_wp2_with (at_builtin; first | (refine Lib.wpList_append_run _ rfl _ _ _ _ rfl _ _ rfl rfl _ _ hrun ?_; clear hrun))
            go_roundw
            case rel => exact ⟨j + 1 + 1, _, _, _, by omega, by go_num, rfl, HIn.out⟩
            case measure => simp [Go.RowKit.intOf]; omega
          · have hk2 : (k0 == 0) = false := by simpa using hk0
            clear hq
            go_wp2_with (at_builtin; first | (refine Lib.wpList_append_run _ rfl _ _ _ _ rfl _ _ rfl rfl _ _ hrun ?_; clear hrun))
            go_roundw
            case rel => exact ⟨j + 1 + 1, _, _, _, by omega, by go_num, rfl, HIn.out⟩
            case measure => simp [Go.RowKit.intOf]; omega
    · have HI := Lib.hid hI
      clear hI
      go_wp2_with fail
      go_ret
      exact HI.out.last (by omega)
end Go.Proofs.YtmkahbbcagfbhaaGreatDoor
