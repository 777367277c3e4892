/-
  The walk through LexBack. No statement is proved here.
-/
import Derived.Test.YtfohekdmlhgapaaXn
namespace Go.Proofs.Ytfohekdmlhgapaa
open Go.ChangeShapes Go.WideShapes Go.ChangeAt Go.RowKit
set_option linter.unusedVariables false
/-- what holds at the head of its loop -/
structure BkI (l : List UInt8) (w : World) (j : Nat) (A : Option Addr) (n c : Nat) (wx : World) : Prop where
  below : Below w.heap.size w wx
  run : ∃ y, YRow wx w.heap.size (.slice A n c) n y ∧ y ++ moreL (l.drop j) = moreL l
  few : n ≤ 13 * j
theorem BkI.zero (l : List UInt8) (w : World) : BkI l w 0 none 0 0 w := ⟨Below.refl _ _, ⟨[], YRow.nil _ _, rfl⟩, Nat.zero_le _⟩
theorem BkI.len {l : List UInt8} {w : World} {j : Nat} {A : Option Addr} {n c : Nat} {wx : World} (h : BkI l w j A n c wx) (hj : l.length ≤ j) : YRow wx w.heap.size (.slice A n c) n (moreL l) := by
  obtain ⟨y, hy, e⟩ := h.run
  rw [List.drop_of_length_le hj, show moreL [] = [] from rfl, List.append_nil] at e
  exact e ▸ hy
theorem BkI.one {l : List UInt8} {w : World} {j : Nat} {A : Option Addr} {n c : Nat} {wx : World} {u : UInt8} (h : BkI l w j A n c wx) (hu : l[j]? = some u) (hn : j ≤ 5000) :
    ∃ g c' w6, (Builtin.append_ #[22, 22] 22 #[.slice A n c, .slice (some ⟨wx.heap.size, 0, none⟩) 1 1]).run Try.prog (wx.alloc (.cells #[bV u] 5)) = .ok (.slice (some ⟨g, 0, none⟩) (n + 1) c') w6 ∧
      Below w.heap.size w w6 ∧ (bI u ≠ 10 → BkI l w (j + 1) (some ⟨g, 0, none⟩) (n + 1) c' w6) ∧
      (bI u = 10 → ∃ A7 c7 w7, (Builtin.append_ #[22, 9] 22 #[.slice (some ⟨g, 0, none⟩) (n + 1) c', .string ⟨#[32, 9, 37, 32, 97, 32, 40, 110, 111, 116, 101, 10]⟩]).run Try.prog w6 = .ok (.slice A7 (n + 1 + 12) c7) w7 ∧ BkI l w (j + 1) A7 (n + 1 + 12) c7 w7) := by
  obtain ⟨y, hy, he⟩ := h.run
  have hf := h.few
  have hb1 : Below wx.heap.size wx (wx.alloc (.cells #[bV u] 5)) := (Below.refl _ _).alloc (Nat.le_refl _) _
  have hbw1 := h.below.trans (hb1.mono h.below.size)
  obtain ⟨g6, c6, w6, hrun6, hy6, hg6⟩ := (hy.keep hb1).appB (P := wx.heap.size) u (heap_alloc_new wx _) hbw1.size (by omega)
  have hb6 := Below.grown hbw1 hg6 hbw1.size fun g hg => ((hy.keep hb1).lt hg).1
  refine ⟨g6, c6, w6, hrun6, hb6, fun hne => ⟨hb6, ⟨_, hy6, ?_⟩, by omega⟩, fun h10 => ?_⟩
  · rw [← he, drop_atX hu, moreL, if_neg hne, List.nil_append, List.append_assoc]; rfl
  · obtain ⟨A7, c7, w7, hrun7, hy7, hg7⟩ := hy6.appS ⟨#[32, 9, 37, 32, 97, 32, 40, 110, 111, 116, 101, 10]⟩ hb6.size (by show n + 1 + 12 ≤ _; omega)
    have hb7 := Below.grown hb6 hg7 hb6.size fun g hg => (hy6.lt hg).1
    refine ⟨A7, c7, w7, hrun7, hb7, ⟨_, hy7, ?_⟩, by omega⟩
    rw [← he, drop_atX hu, moreL, if_pos h10, List.append_assoc, List.append_assoc]
    rfl
set_option maxRecDepth 100000 in
set_option maxHeartbeats 4000000 in
theorem lexBackC (l : List UInt8) (A : Option Addr) (n c : Nat) (w : World) (h : YL w l A n c) :
    Calls Try.prog 4 #[.slice A n c] w fun e w' => e = .returned (.bool true) ∧ Below w.heap.size w w' := by
  have hn := h.cap
  have hn2 := h.le
  have hl := h.len
  unfold maxLen at hn
  have HA := Lib.hid (xAwakeC w)
  by_cases g1 : 5000 < n
  · have d1 : (5000 : Int) < n := by omega
    clear h
    go_enter Try.func4, Try.ntmps4
    go_wp2_with fail
    refine HA.out.mono ?_
    rintro e w1 ⟨rfl, hb1⟩
    go_wp2_with fail
    go_ret
    exact ⟨rfl, hb1⟩
  · have d1 : (n : Int) ≤ 5000 := by omega
    subst hl
    have H1 := Lib.hid h
    clear h
    have HCS := Lib.hid (lexE_cases l (by omega))
    go_enter Try.func4, Try.ntmps4
    go_wp2_with fail
    refine HA.out.mono ?_
    rintro e w1 ⟨rfl, hb1⟩
    have HB1 := Lib.hid hb1
    clear hb1 HA
    go_wp2_with fail
    refine (xTokensC l A _ c w1 (H1.out.keep HB1.out)).mono ?_
    rintro e w2 ⟨A2, n2, c2, rfl, hr2, hb2⟩
    have HB2 := Lib.hid (HB1.out.trans (hb2.mono HB1.out.size))
    have hl2 := hr2.len
    have HR2 := Lib.hid hr2
    clear hr2 hb2 HB1
    rcases HCS.out with ⟨e1, t1⟩ | ⟨e1, t1, t2⟩
    · have hgood := toks_good t1
      have hback := toks_txt hgood
      have hlenT : (txtL false (lexT l)).length ≤ 20000 := by
        have h1 := txt_tok l t1
        omega
      rw [e1]
      have HG := Lib.hid hback
      have HLT := Lib.hid hlenT
      have htl := tok_len l
      have HTL := Lib.hid htl
      clear hgood hback hlenT htl
      go_wp2_with fail
      refine (xTextC (lexT l) A2 n2 c2 w2 HR2.out.tl (by have := HLT.out; omega) (by have := HTL.out; omega)).mono ?_
      rintro e w3 ⟨A3, n3, c3, rfl, hy3, hb3⟩
      have HB3 := Lib.hid (HB2.out.trans (hb3.mono HB2.out.size))
      have HR3 := Lib.hid (HR2.out.keep hb3)
      have hcd : lexE (txtL false (lexT l)) = 0 ∧ lexT (txtL false (lexT l)) = lexT l := by
        rcases lexE_cases (txtL false (lexT l)) HLT.out with ⟨e, t⟩ | ⟨_, t, _⟩
        · rw [HG.out] at t
          exact ⟨e, (Option.some.inj t).symm⟩
        · rw [HG.out] at t; cases t
      have HY3 := Lib.hid hy3
      clear hy3 hb3 HB2
      go_wp2_with fail
      refine (xTokensC _ A3 n3 c3 w3 HY3.out.yl).mono ?_
      rintro e w4 ⟨A4, n4, c4, rfl, hr4, hb4⟩
      rw [hcd.2] at hr4
      rw [hcd.1]
      have HB4 := Lib.hid (HB3.out.trans (hb4.mono HB3.out.size))
      have HR4 := Lib.hid (HR3.out.keep hb4)
      have HS4 := Lib.hid hr4
      clear hr4 hb4 HB3 HR3 HY3 hcd
      go_wp2_with fail
      refine (xSameC _ _ _ _ _ _ _ _ w4 HR4.out.tl HS4.out.tl).mono ?_
      rintro e w5 ⟨rfl, hb5⟩
      rw [show decide (lexT l = lexT l) = true from decide_eq_true rfl]
      have HB5 := Lib.hid (HB4.out.trans (hb5.mono HB4.out.size))
      have HR5 := Lib.hid (HR4.out.keep hb5)
      clear hb5 HB4 HR4 HS4
      go_wp2_with fail
      go_loopw [9, 10] (fun v i wr => ∃ (j : Nat) (Am : Option Addr) (nm cm : Nat), j ≤ l.length ∧ i = .int .i64 j ∧ v = .slice Am nm cm ∧ BkI l w5 j Am nm cm wr) (fun _ i _ => l.length - (Go.RowKit.intOf i).toNat)
      case atStart => exact ⟨0, none, 0, 0, Nat.zero_le _, rfl, rfl, BkI.zero l w5⟩
      case round =>
        obtain ⟨j, Am, nm, cm, hj, rfl, rfl, hI⟩ := hrel
        by_cases hlt : j < l.length
        · obtain ⟨u, hu⟩ := at_ofX (l := l) rfl hlt
          have hbw := HB5.out.trans (hI.below.mono HB5.out.size)
          obtain ⟨b, o, rfl, c0⟩ := (H1.out.keep hbw).at_ j u hu
          obtain ⟨g6, c6, w6, hrun6, hb6, hne, heq⟩ := hI.one hu (by omega)
          have c6' : w6.cell? ⟨b, o + j, none⟩ = some (bV u) := by
            obtain ⟨b', o', e, c1⟩ := (H1.out.keep (HB5.out.trans (hb6.mono HB5.out.size))).at_ j u hu
            cases e
            exact c1
          have hi0 : (0 : Int) ≤ j := by omega
          have hi1 : (j : Int) < l.length := by omega
          rw [show bV u = .int .u8 (bI u) from rfl] at c0 c6' hrun6
          by_cases h10 : bI u = 10
          · obtain ⟨A7, c7, w7, hrun7, hI7⟩ := heq h10
            have HI7 := Lib.hid hI7
            rw [h10] at c0 c6' hrun6
            clear hI hne heq hu hb6 hbw hI7
            go_wp2_with (at_builtin; first | (refine Lib.wpList_append_run _ rfl _ _ _ _ rfl _ _ rfl rfl _ _ hrun6 ?_; clear hrun6) | (refine Lib.wpList_append_run _ rfl _ _ _ _ rfl _ _ rfl rfl _ _ hrun7 ?_; clear hrun7))
            go_roundw
            case rel => exact ⟨j + 1, _, _, _, hlt, by go_num, rfl, HI7.out⟩
            case measure => simp [Go.RowKit.intOf]; omega
          · have HI6 := Lib.hid (hne h10)
            have h10' : (bI u == 10) = false := by simpa using h10
            clear hI hne heq hu hb6 hbw
            go_wp2_with (at_builtin; first | (refine Lib.wpList_append_run _ rfl _ _ _ _ rfl _ _ rfl rfl _ _ hrun6 ?_; clear hrun6))
            go_roundw
            case rel => exact ⟨j + 1, _, _, _, hlt, by go_num, rfl, HI6.out⟩
            case measure => simp [Go.RowKit.intOf]; omega
        · have hym := hI.len (by omega)
          have hlm := hym.len
          have HYM := Lib.hid hym
          have HBM := Lib.hid (HB5.out.trans (hI.below.mono HB5.out.size))
          have HRM := Lib.hid (HR5.out.keep hI.below)
          have hfm := hI.few
          clear hI hym
          by_cases hbig : 20000 < nm
          · have hb1 : (20000 : Int) < nm := by omega
            go_wp2_with fail
            go_ret
            exact ⟨rfl, HBM.out⟩
          · have hb1 : (nm : Int) ≤ 20000 := by omega
            have hcd : lexE (moreL l) = 0 ∧ lexT (moreL l) = lexT l := by
              rcases lexE_cases (moreL l) (by omega) with ⟨e, t⟩ | ⟨_, t, _⟩
              · rw [toks_more, t1] at t
                exact ⟨e, (Option.some.inj t).symm⟩
              · rw [toks_more, t1] at t; cases t
            have HCD := Lib.hid hcd
            clear hcd hlm
            go_wp2_with fail
            refine (xTokensC _ _ _ _ wr HYM.out.yl).mono ?_
            rintro e w8 ⟨A8, n8, c8, rfl, hr8, hb8⟩
            rw [HCD.out.2] at hr8
            rw [HCD.out.1]
            have HR8 := Lib.hid (HRM.out.keep hb8)
            have HS8 := Lib.hid hr8
            have HB8 := Lib.hid (HBM.out.trans (hb8.mono HBM.out.size))
            clear hr8 hb8 HYM HRM HBM
            go_wp2_with fail
            refine (xSameC _ _ _ _ _ _ _ _ w8 HR8.out.tl HS8.out.tl).mono ?_
            rintro e w9 ⟨rfl, hb9⟩
            rw [show decide (lexT l = lexT l) = true from decide_eq_true rfl]
            have HB9 := Lib.hid (HB8.out.trans (hb9.mono HB8.out.size))
            clear hb9 HR8 HS8 HB8
            go_wp2_with fail
            go_ret
            exact ⟨rfl, HB9.out⟩
    · have hn2 : n2 = 0 := by rw [← hl2, t2]; rfl
      subst hn2
      rw [e1]
      go_wp2_with fail
      go_ret
      exact ⟨rfl, HB2.out⟩
end Go.Proofs.Ytfohekdmlhgapaa
