/-
  The walk through LexMarks. No statement is proved here.
-/
import Derived.Test.YtfohekdmlhgapaaXn
namespace Go.Proofs.Ytfohekdmlhgapaa
open Go.ChangeShapes Go.WideShapes Go.ChangeAt Go.RowKit
set_option linter.unusedVariables false
/-- what holds at the head of the first loop -/
structure MkI (l : List UInt8) (w : World) (j : Nat) (A : Option Addr) (n c : Nat) (wx : World) : Prop where
  below : Below w.heap.size w wx
  run : ∃ y, YRow wx w.heap.size (.slice A n c) n y ∧ y ++ keptL (l.drop j) = keptL l
  no37 : ∀ i u, i < j → l[i]? = some u → bI u ≠ 37
  few : n ≤ j
theorem MkI.done {l : List UInt8} {w : World} {j : Nat} {A : Option Addr} {n c : Nat} {wx : World} (h : MkI l w j A n c wx) (hj : l.length ≤ j) : YRow wx w.heap.size (.slice A n c) n (keptL l) ∧ ∀ u ∈ l, bI u ≠ 37 := by
  obtain ⟨y, hy, e⟩ := h.run
  rw [List.drop_of_length_le hj, show keptL [] = [] from rfl, List.append_nil] at e
  refine ⟨e ▸ hy, fun u hu => ?_⟩
  obtain ⟨i, hi⟩ := List.getElem?_of_mem hu
  exact h.no37 i u (by have := (List.getElem?_eq_some_iff.1 hi).1; omega) hi
theorem no37_succ {l : List UInt8} {j : Nat} {u : UInt8} (h : ∀ i u, i < j → l[i]? = some u → bI u ≠ 37) (hu : l[j]? = some u) (hb : bI u ≠ 37) : ∀ i u, i < j + 1 → l[i]? = some u → bI u ≠ 37 := by
  intro i v hi hv
  rcases Nat.lt_or_ge i j with h1 | h1
  · exact h i v h1 hv
  · obtain rfl : i = j := by omega
    rw [hu] at hv
    cases hv
    exact hb
theorem MkI.skip {l : List UInt8} {w : World} {j : Nat} {A : Option Addr} {n c : Nat} {wx : World} {u : UInt8} (h : MkI l w j A n c wx) (hu : l[j]? = some u) (hb : bI u ≠ 37) (hbl : blI (bI u) = true) : MkI l w (j + 1) A n c wx := by
  obtain ⟨y, hy, e⟩ := h.run
  refine ⟨h.below, ⟨y, hy, ?_⟩, no37_succ h.no37 hu hb, Nat.le_succ_of_le h.few⟩
  rw [← e, drop_atX hu]
  simp [keptL, hbl]
theorem MkI.one {l : List UInt8} {w : World} {j : Nat} {A : Option Addr} {n c : Nat} {wx : World} {u : UInt8} (h : MkI l w j A n c wx) (hu : l[j]? = some u) (hb : bI u ≠ 37) (hbl : blI (bI u) = false) (hn : j ≤ 5000) :
    ∃ g c' w6, (Builtin.append_ #[22, 22] 22 #[.slice A n c, .slice (some ⟨wx.heap.size, 0, none⟩) 1 1]).run Try.prog (wx.alloc (.cells #[bV u] 5)) = .ok (.slice (some ⟨g, 0, none⟩) (n + 1) c') w6 ∧ MkI l w (j + 1) (some ⟨g, 0, none⟩) (n + 1) c' w6 := by
  obtain ⟨y, hy, he⟩ := h.run
  have hf := h.few
  have hb1 : Below wx.heap.size wx (wx.alloc (.cells #[bV u] 5)) := (Below.refl _ _).alloc (Nat.le_refl _) _
  have hbw1 := h.below.trans (hb1.mono h.below.size)
  obtain ⟨g6, c6, w6, hrun6, hy6, hg6⟩ := (hy.keep hb1).appB (P := wx.heap.size) u (heap_alloc_new wx _) hbw1.size (by omega)
  have hb6 := Below.grown hbw1 hg6 hbw1.size fun g hg => ((hy.keep hb1).lt hg).1
  refine ⟨g6, c6, w6, hrun6, hb6, ⟨_, hy6, ?_⟩, no37_succ h.no37 hu hb, by omega⟩
  rw [← he, drop_atX hu, List.append_assoc]
  simp [keptL, hbl]
/-- what holds at the head of the second loop -/
structure MlI (x : List Tk) (w : World) (j : Nat) (A : Option Addr) (n c : Nat) (wx : World) : Prop where
  below : Below w.heap.size w wx
  row : YRow wx w.heap.size (.slice A n c) n (bytesL (x.take j))
theorem bytes_take {x : List Tk} {j : Nat} {t : Tk} (ht : x[j]? = some t) : bytesL (x.take (j + 1)) = bytesL (x.take j) ++ t.2.data.toList := by
  rw [List.take_add_one, ht]
  simp [bytesL]
theorem bytes_take_le (x : List Tk) (j : Nat) : (bytesL (x.take j)).length ≤ (bytesL x).length := by
  have : bytesL x = bytesL (x.take j) ++ bytesL (x.drop j) := by
    rw [bytesL, bytesL, bytesL, ← List.flatMap_append, List.take_append_drop]
  rw [this, List.length_append]
  omega
theorem MlI.one {x : List Tk} {w : World} {j : Nat} {A : Option Addr} {n c : Nat} {wx : World} {t : Tk} (h : MlI x w j A n c wx) (ht : x[j]? = some t) (hn : (bytesL x).length ≤ 5000) :
    ∃ A' c' w', (Builtin.append_ #[22, 9] 22 #[.slice A n c, .string t.2]).run Try.prog wx = .ok (.slice A' (n + t.2.size) c') w' ∧ MlI x w (j + 1) A' (n + t.2.size) c' w' := by
  have hl := h.row.len
  have h1 := bytes_take_le x (j + 1)
  have e3 : t.2.data.toList.length = t.2.size := by rw [Array.length_toList]; rfl
  rw [bytes_take ht, List.length_append, e3] at h1
  obtain ⟨A', c', w', hrun, hrow, hgr⟩ := h.row.appS t.2 h.below.size (by omega)
  exact ⟨A', c', w', hrun, h.below.grown hgr h.below.size (fun g hg => (h.row.lt hg).1), by rw [bytes_take ht]; exact hrow⟩
set_option maxRecDepth 100000 in
set_option maxHeartbeats 8000000 in
theorem lexMarksC (l : List UInt8) (A : Option Addr) (n c : Nat) (w : World) (h : YL w l A n c) :
    Calls Try.prog 6 #[.slice A n c] w fun e w' => e = .returned (.bool true) ∧ Below w.heap.size w w' := by
  have hn := h.cap
  have hn2 := h.le
  have hl := h.len
  unfold maxLen at hn
  have HA := Lib.hid (xAwakeC w)
  by_cases g1 : 5000 < n
  · have d1 : (5000 : Int) < n := by omega
    clear h
    go_enter Try.func6, Try.ntmps6
    go_wp2_with fail
    refine HA.out.mono ?_
    rintro e w1 ⟨rfl, hb1⟩
    go_wp2_with fail
    go_ret
    exact ⟨rfl, hb1⟩
  · have d1 : (n : Int) ≤ 5000 := by omega
    subst hl
    have H1 := Lib.hid h
    clear h
    have HCS := Lib.hid (lexE_cases l (by omega))
    go_enter Try.func6, Try.ntmps6
    go_wp2_with fail
    refine HA.out.mono ?_
    rintro e w1 ⟨rfl, hb1⟩
    have HB1 := Lib.hid hb1
    clear hb1 HA
    go_wp2_with fail
    go_loopw [4, 5] (fun v i wr => ∃ (j : Nat) (Am : Option Addr) (nm cm : Nat), j ≤ l.length ∧ i = .int .i64 j ∧ v = .slice Am nm cm ∧ MkI l w1 j Am nm cm wr) (fun _ i _ => l.length - (Go.RowKit.intOf i).toNat)
    case atStart => exact ⟨0, none, 0, 0, Nat.zero_le _, rfl, rfl, ⟨Below.refl _ _, ⟨[], YRow.nil _ _, rfl⟩, fun i u hi => by omega, Nat.zero_le _⟩⟩
    case round =>
      obtain ⟨j, Am, nm, cm, hj, rfl, rfl, hI⟩ := hrel
      by_cases hlt : j < l.length
      · obtain ⟨u, hu⟩ := at_ofX (l := l) rfl hlt
        have hbw := HB1.out.trans (hI.below.mono HB1.out.size)
        obtain ⟨b, o, rfl, c0⟩ := (H1.out.keep hbw).at_ j u hu
        have hi0 : (0 : Int) ≤ j := by omega
        have hi1 : (j : Int) < l.length := by omega
        rw [show bV u = .int .u8 (bI u) from rfl] at c0
        by_cases h37 : bI u = 37
        · rw [h37] at c0
          have HBW := Lib.hid hbw
          clear hI hbw hu
          go_wp2_with fail
          go_ret
          exact ⟨rfl, HBW.out⟩
        · have h37' : (bI u == 37) = false := by simpa using h37
          by_cases hbl : blI (bI u) = true
          · have HI := Lib.hid (hI.skip hu h37 hbl)
            have hz3 : bI u = 32 ∨ bI u = 9 ∨ bI u = 10 := by
              unfold blI at hbl
              simp only [Bool.or_eq_true, decide_eq_true_eq] at hbl
              rcases hbl with (h | h) | h
              · exact .inl h
              · exact .inr (.inl h)
              · exact .inr (.inr h)
            clear hI hbl hu hbw h37 h37'
            rcases hz3 with h3 | h3 | h3 <;> rw [h3] at c0
            all_goals go_wp2_with fail
            all_goals go_roundw
            all_goals first | exact ⟨j + 1, _, _, _, hlt, by go_num, rfl, HI.out⟩ | (simp [Go.RowKit.intOf]; omega)
          · have hblf : blI (bI u) = false := by simpa using hbl
            obtain ⟨g6, c6, w6, hrun6, hI6⟩ := hI.one hu h37 hblf (by omega)
            have HI := Lib.hid hI6
            have hz3 : (bI u == 32) = false ∧ (bI u == 9) = false ∧ (bI u == 10) = false := by
              unfold blI at hblf
              simp only [Bool.or_eq_false_iff, decide_eq_false_iff_not] at hblf
              exact ⟨by simpa using hblf.1.1, by simpa using hblf.1.2, by simpa using hblf.2⟩
            obtain ⟨e32, e9, e10⟩ := hz3
            have f32 : (bI u != 32) = true := by simpa using e32
            have f9 : (bI u != 9) = true := by simpa using e9
            have f10 : (bI u != 10) = true := by simpa using e10
            rw [show bV u = .int .u8 (bI u) from rfl] at hrun6
            clear hI hI6 hbl hblf hu hbw h37
            go_wp2_with (at_builtin; first | (refine Lib.wpList_append_run _ rfl _ _ _ _ rfl _ _ rfl rfl _ _ hrun6 ?_; clear hrun6))
            go_roundw
            case rel => exact ⟨j + 1, _, _, _, hlt, by go_num, rfl, HI.out⟩
            case measure => simp [Go.RowKit.intOf]; omega
      · obtain ⟨hyk, hno⟩ := hI.done (by omega)
        have HBW := Lib.hid (HB1.out.trans (hI.below.mono HB1.out.size))
        have HYK := Lib.hid hyk
        clear hI hyk
        go_wp2_with fail
        refine (xTokensC l A _ c wr (H1.out.keep HBW.out)).mono ?_
        rintro e w2 ⟨A2, n2, c2, rfl, hr2, hb2⟩
        have HB2 := Lib.hid (HBW.out.trans (hb2.mono HBW.out.size))
        have HY2 := Lib.hid (HYK.out.keep hb2)
        have hl2 := hr2.len
        have HR2 := Lib.hid hr2
        clear hr2 hb2 HBW HYK
        rcases HCS.out with ⟨e1, t1⟩ | ⟨e1, t1, t2⟩
        · have HGD := Lib.hid (toks_good t1)
          have hby := toks_bytes hno t1
          have hbl5 : (bytesL (lexT l)).length ≤ 5000 := by
            rw [hby]
            have : (keptL l).length ≤ l.length := List.length_filter_le _ _
            omega
          have HBY := Lib.hid hby
          have HB5 := Lib.hid hbl5
          rw [e1]
          subst hl2
          have hfew := tok_len l
          clear hby hbl5 hno
          go_wp2_with fail
          go_loopw [8, 9] (fun v i wr => ∃ (j : Nat) (Am : Option Addr) (nm cm : Nat), j ≤ (lexT l).length ∧ i = .int .i64 j ∧ v = .slice Am nm cm ∧ MlI (lexT l) w2 j Am nm cm wr) (fun _ i _ => (lexT l).length - (Go.RowKit.intOf i).toNat)
          case atStart => exact ⟨0, none, 0, 0, Nat.zero_le _, rfl, rfl, ⟨Below.refl _ _, YRow.nil _ _⟩⟩
          case round =>
            obtain ⟨j, Am, nm, cm, hj, rfl, rfl, hI⟩ := hrel
            by_cases hlt2 : j < (lexT l).length
            · obtain ⟨t, ht⟩ := at_ofX (l := lexT l) rfl hlt2
              obtain ⟨b, o, rfl, c0, c1⟩ := (HR2.out.keep hI.below).tl.at_ j t ht
              obtain ⟨A6, c6, w6, hrun6, hI6⟩ := hI.one ht HB5.out
              have hg := HGD.out t (List.mem_of_getElem? ht)
              have HI6 := Lib.hid hI6
              obtain ⟨kk, ss⟩ := t
              have hi0 : (0 : Int) ≤ j := by omega
              have hi1 : (j : Int) < (lexT l).length := by omega
              simp only at c0 c1 hrun6 hg HI6
              clear hI hI6 ht
              rcases hg with ⟨rfl, cc, hss, _⟩ | ⟨rfl, hne, _⟩
              · have hs1 : ((ss.size : Nat) : Int) = 1 := by rw [show ss = ⟨#[cc]⟩ from hss]; rfl
                clear hss
                go_wp2_with (at_builtin; first | (refine Lib.wpList_append_run _ rfl _ _ _ _ rfl _ _ rfl rfl _ _ hrun6 ?_; clear hrun6))
                go_roundw
                case rel => exact ⟨j + 1, _, _, _, hlt2, by go_num, rfl, HI6.out⟩
                case measure => simp [Go.RowKit.intOf]; omega
              · have hs0 : ((ss.size : Nat) : Int) ≠ 0 := by
                  intro e
                  apply hne
                  apply List.length_eq_zero_iff.1
                  rw [Array.length_toList]
                  show ss.size = 0
                  omega
                have hs0' : (((ss.size : Nat) : Int) == 0) = false := by simpa using hs0
                clear hne
                by_cases hs1 : ((ss.size : Nat) : Int) = 1
                · go_wp2_with (at_builtin; first | (refine Lib.wpList_append_run _ rfl _ _ _ _ rfl _ _ rfl rfl _ _ hrun6 ?_; clear hrun6))
                  all_goals go_roundw
                  all_goals first | exact ⟨j + 1, _, _, _, hlt2, by go_num, rfl, HI6.out⟩ | (simp [Go.RowKit.intOf]; omega)
                · have hs1' : (((ss.size : Nat) : Int) == 1) = false := by simpa using hs1
                  go_wp2_with (at_builtin; first | (refine Lib.wpList_append_run _ rfl _ _ _ _ rfl _ _ rfl rfl _ _ hrun6 ?_; clear hrun6))
                  all_goals go_roundw
                  all_goals first | exact ⟨j + 1, _, _, _, hlt2, by go_num, rfl, HI6.out⟩ | (simp [Go.RowKit.intOf]; omega)
            · have hrow := hI.row
              rw [List.take_of_length_le (by omega), HBY.out] at hrow
              have hcv1 := run_string hrow.yl
              have hcv2 := run_string (HY2.out.keep hI.below).yl
              have HBE := Lib.hid (HB2.out.trans (hI.below.mono HB2.out.size))
              clear hI hrow
              go_wp2_with fail
              go_ret
              exact ⟨rfl, HBE.out⟩
        · have hn2 : n2 = 0 := by rw [← hl2, t2]; rfl
          subst hn2
          rw [e1]
          go_wp2_with fail
          go_ret
          exact ⟨rfl, HB2.out⟩
end Go.Proofs.Ytfohekdmlhgapaa
