/-
  The walk through LexNote. No statement is proved here.
-/
import Derived.Test.YtfohekdmlhgapaaXn
namespace Go.Proofs.Ytfohekdmlhgapaa
open Go.ChangeShapes Go.WideShapes Go.ChangeAt Go.RowKit
set_option linter.unusedVariables false
theorem lex_same {a b : List UInt8} (h : toksL a = toksL b) (ha : a.length ≤ 20000) (hb : b.length ≤ 20000) : lexE a = lexE b ∧ lexT a = lexT b := by
  have h1 : ¬ 20000 < a.length := by omega
  have h2 : ¬ 20000 < b.length := by omega
  unfold lexE lexT
  simp only [if_neg h1, if_neg h2, h, and_self]
set_option maxRecDepth 100000 in
set_option maxHeartbeats 8000000 in
theorem lexNoteC (l q k : List UInt8) (A B D : Option Addr) (n c m d r s : Nat) (w : World) (h : YL w l A n c) (h2 : YL w q B m d) (h3 : YL w k D r s) :
    Calls Try.prog 7 #[.slice A n c, .slice B m d, .slice D r s] w fun e w' => e = .returned (.bool true) ∧ Below w.heap.size w w' := by
  have hn := h.cap
  have hn2 := h.le
  have hm := h2.cap
  have hm2 := h2.le
  have hr := h3.cap
  have hr2 := h3.le
  have hl := h.len
  have hk := h2.len
  have hj := h3.len
  unfold maxLen at hn hm hr
  subst hl
  subst hk
  subst hj
  have HA := Lib.hid (xAwakeC w)
  by_cases g1 : 3000 < l.length
  · have d1 : (3000 : Int) < l.length := by omega
    clear h h2 h3
    go_enter Try.func7, Try.ntmps7
    go_wp2_with fail
    refine HA.out.mono ?_
    rintro e w1 ⟨rfl, hb1⟩
    go_wp2_with fail
    go_ret
    exact ⟨rfl, hb1⟩
  · have d1 : (l.length : Int) ≤ 3000 := by omega
    by_cases g2 : 3000 < k.length
    · have d2 : (3000 : Int) < k.length := by omega
      clear h h2 h3
      go_enter Try.func7, Try.ntmps7
      go_wp2_with fail
      refine HA.out.mono ?_
      rintro e w1 ⟨rfl, hb1⟩
      go_wp2_with fail
      go_ret
      exact ⟨rfl, hb1⟩
    · have d2 : (k.length : Int) ≤ 3000 := by omega
      by_cases g3 : 3000 < q.length
      · have d3 : (3000 : Int) < q.length := by omega
        clear h h2 h3
        go_enter Try.func7, Try.ntmps7
        go_wp2_with fail
        refine HA.out.mono ?_
        rintro e w1 ⟨rfl, hb1⟩
        go_wp2_with fail
        go_ret
        exact ⟨rfl, hb1⟩
      · have d3 : (q.length : Int) ≤ 3000 := by omega
        have H1 := Lib.hid h
        have H2 := Lib.hid h2
        have H3 := Lib.hid h3
        clear h h2 h3
        go_enter Try.func7, Try.ntmps7
        go_wp2_with fail
        refine HA.out.mono ?_
        rintro e w1 ⟨rfl, hb1⟩
        have HB1 := Lib.hid hb1
        clear hb1 HA
        go_wp2_with fail
        go_loopw [8] (fun i wr => ∃ j : Nat, j ≤ q.length ∧ i = .int .i64 j ∧ wr = w1 ∧ Hid (∀ i u, i < j → q[i]? = some u → bI u ≠ 10)) (fun i _ => q.length - (Go.RowKit.intOf i).toNat)
        case atStart => exact ⟨0, Nat.zero_le _, rfl, rfl, Lib.hid fun i u hi => by omega⟩
        case round =>
          obtain ⟨j, hj, rfl, rfl, HQ⟩ := hrel
          by_cases hlt : j < q.length
          · obtain ⟨u, hu⟩ := at_ofX (l := q) rfl hlt
            obtain ⟨b, o, e, c0⟩ := (H2.out.keep HB1.out).at_ j u hu
            subst e
            have hi0 : (0 : Int) ≤ j := by omega
            have hi1 : (j : Int) < q.length := by omega
            rw [show bV u = .int .u8 (bI u) from rfl] at c0
            have HU := Lib.hid hu
            clear hu
            by_cases h10 : bI u = 10
            · rw [h10] at c0
              go_wp2_with fail
              go_ret
              exact ⟨rfl, HB1.out⟩
            · have h10' : (bI u == 10) = false := by simpa using h10
              have HQn : Hid (∀ i u, i < j + 1 → q[i]? = some u → bI u ≠ 10) := Lib.hid fun i v hi hv => by
                rcases Nat.lt_or_ge i j with h1 | h1
                · exact HQ.out i v h1 hv
                · obtain rfl : i = j := by omega
                  rw [HU.out] at hv
                  cases hv
                  exact h10
              go_wp2_with fail
              go_roundw
              case rel => exact ⟨j + 1, hlt, by go_num, by simp, HQn⟩
              case measure => simp [Go.RowKit.intOf]; omega
          · have HQA : Hid (∀ u ∈ q, bI u ≠ 10) := Lib.hid fun u hu => by
              obtain ⟨i, hi⟩ := List.getElem?_of_mem hu
              exact HQ.out i u (by have := (List.getElem?_eq_some_iff.1 hi).1; omega) hi
            clear HQ
            have h1 := H1.out.keep HB1.out
            have h2 := H2.out.keep HB1.out
            have h3 := H3.out.keep HB1.out
            -- x
            obtain ⟨A2, c2, w2, hrun2, hy2, hg2⟩ := (YRow.nil wr wr.heap.size).appY h1 (Nat.le_refl _) (by omega)
            have hb2 := Below.grown (Below.refl wr.heap.size wr) hg2 (Nat.le_refl _) (fun g hg => by cases hg)
            rw [Nat.zero_add, List.nil_append] at hy2
            rw [Nat.zero_add] at hrun2
            have hb3' : Below w2.heap.size w2 (w2.alloc (.cells #[.int .u8 10] 5)) := (Below.refl _ _).alloc (Nat.le_refl _) _
            have hb3 := hb2.trans (hb3'.mono hb2.size)
            obtain ⟨A4, c4, w4, hrun4, hy4, hg4⟩ := (hy2.keep hb3').appY (YL.block (l := [10]) (heap_alloc_new w2 _) rfl (by simp)) hb3.size (by simp; omega)
            have hb4 := Below.grown hb3 hg4 hb3.size (fun g hg => ((hy2.keep hb3').lt hg).1)
            obtain ⟨A5, c5, w5, hrun5, hy5, hg5⟩ := hy4.appY (h3.keep hb4) hb4.size (by simp; omega)
            have hb5 := Below.grown hb4 hg5 hb4.size (fun g hg => (hy4.lt hg).1)
            -- y
            obtain ⟨A6, c6, w6, hrun6, hy6, hg6⟩ := (YRow.nil w5 w5.heap.size).appY (h1.keep hb5) (Nat.le_refl _) (by omega)
            have hb6 := Below.grown (Below.refl w5.heap.size w5) hg6 (Nat.le_refl _) (fun g hg => by cases hg)
            rw [Nat.zero_add, List.nil_append] at hy6
            rw [Nat.zero_add] at hrun6
            have hb7' : Below w6.heap.size w6 (w6.alloc (.cells #[.int .u8 32, .int .u8 37] 5)) := (Below.refl _ _).alloc (Nat.le_refl _) _
            have hb7 := hb6.trans (hb7'.mono hb6.size)
            obtain ⟨A8, c8, w8, hrun8, hy8, hg8⟩ := (hy6.keep hb7').appY (YL.block (l := [32, 37]) (heap_alloc_new w6 _) rfl (by simp)) hb7.size (by simp; omega)
            have hb8 := Below.grown hb7 hg8 hb7.size (fun g hg => ((hy6.keep hb7').lt hg).1)
            obtain ⟨A9, c9, w9, hrun9, hy9, hg9⟩ := hy8.appY (h2.keep (hb5.trans (hb8.mono hb5.size))) hb8.size (by simp; omega)
            have hb9 := Below.grown hb8 hg9 hb8.size (fun g hg => (hy8.lt hg).1)
            have hb10' : Below w9.heap.size w9 (w9.alloc (.cells #[.int .u8 10] 5)) := (Below.refl _ _).alloc (Nat.le_refl _) _
            have hb10 := hb9.trans (hb10'.mono hb9.size)
            obtain ⟨A11, c11, w11, hrun11, hy11, hg11⟩ := (hy9.keep hb10').appY (YL.block (l := [10]) (heap_alloc_new w9 _) rfl (by simp)) hb10.size (by simp; omega)
            have hb11 := Below.grown hb10 hg11 hb10.size (fun g hg => ((hy9.keep hb10').lt hg).1)
            obtain ⟨A12, c12, w12, hrun12, hy12, hg12⟩ := hy11.appY (h3.keep (hb5.trans (hb11.mono hb5.size))) hb11.size (by simp; omega)
            have hb12 := Below.grown hb11 hg12 hb11.size (fun g hg => (hy11.lt hg).1)
            have HX := Lib.hid (hy5.keep hb12)
            have HY := Lib.hid hy12
            have HB12 := Lib.hid (HB1.out.trans ((hb5.trans (hb12.mono hb5.size)).mono HB1.out.size))
            simp only [List.length_cons, List.length_nil, Nat.zero_add] at hrun4 hrun5 hrun8 hrun9 hrun11 hrun12 HX HY
            clear hy2 hy4 hy5 hy6 hy8 hy9 hy11 hy12 hg2 hg4 hg5 hg6 hg8 hg9 hg11 hg12 hb2 hb3 hb3' hb4 hb5 hb6 hb7 hb7' hb8 hb9 hb10 hb10' hb11 hb12 h1 h2 h3
            go_wp2_with (at_builtin; first | (refine Lib.wpList_append_run _ rfl _ _ _ _ rfl _ _ rfl rfl _ _ hrun2 ?_; clear hrun2) | (refine Lib.wpList_append_run _ rfl _ _ _ _ rfl _ _ rfl rfl _ _ hrun4 ?_; clear hrun4) | (refine Lib.wpList_append_run _ rfl _ _ _ _ rfl _ _ rfl rfl _ _ hrun5 ?_; clear hrun5) | (refine Lib.wpList_append_run _ rfl _ _ _ _ rfl _ _ rfl rfl _ _ hrun6 ?_; clear hrun6) | (refine Lib.wpList_append_run _ rfl _ _ _ _ rfl _ _ rfl rfl _ _ hrun8 ?_; clear hrun8) | (refine Lib.wpList_append_run _ rfl _ _ _ _ rfl _ _ rfl rfl _ _ hrun9 ?_; clear hrun9) | (refine Lib.wpList_append_run _ rfl _ _ _ _ rfl _ _ rfl rfl _ _ hrun11 ?_; clear hrun11) | (refine Lib.wpList_append_run _ rfl _ _ _ _ rfl _ _ rfl rfl _ _ hrun12 ?_; clear hrun12))
            go_loopw [11] (fun i w9 => ∃ j : Nat, j ≤ l.length ∧ i = .int .i64 j ∧ w9 = w12 ∧ Hid (∀ i u, i < j → l[i]? = some u → bI u ≠ 37)) (fun i _ => l.length - (Go.RowKit.intOf i).toNat)
            case atStart => exact ⟨0, Nat.zero_le _, rfl, rfl, Lib.hid fun i u hi => by omega⟩
            case round =>
              obtain ⟨j, hj, rfl, rfl, HQ⟩ := hrel
              by_cases hlt : j < l.length
              · obtain ⟨u, hu⟩ := at_ofX (l := l) rfl hlt
                obtain ⟨b, o, e, c0⟩ := (H1.out.keep HB12.out).at_ j u hu
                subst e
                have hi0 : (0 : Int) ≤ j := by omega
                have hi1 : (j : Int) < l.length := by omega
                rw [show bV u = .int .u8 (bI u) from rfl] at c0
                have HU := Lib.hid hu
                clear hu
                by_cases h37 : bI u = 37
                · rw [h37] at c0
                  go_wp2_with fail
                  go_ret
                  exact ⟨rfl, HB12.out⟩
                · have h37' : (bI u == 37) = false := by simpa using h37
                  have HQn : Hid (∀ i u, i < j + 1 → l[i]? = some u → bI u ≠ 37) := Lib.hid fun i v hi hv => by
                    rcases Nat.lt_or_ge i j with h1 | h1
                    · exact HQ.out i v h1 hv
                    · obtain rfl : i = j := by omega
                      rw [HU.out] at hv
                      cases hv
                      exact h37
                  go_wp2_with fail
                  go_roundw
                  case rel => exact ⟨j + 1, hlt, by go_num, by simp, HQn⟩
                  case measure => simp [Go.RowKit.intOf]; omega
              · have HLA : ∀ u ∈ l, bI u ≠ 37 := fun u hu => by
                  obtain ⟨i, hi⟩ := List.getElem?_of_mem hu
                  exact HQ.out i u (by have := (List.getElem?_eq_some_iff.1 hi).1; omega) hi
                have hsame : toksL (l ++ [32, 37] ++ q ++ [10] ++ k) = toksL (l ++ [10] ++ k) := by
                  have := toks_note l q k HLA HQA.out
                  rw [List.append_assoc, List.append_assoc, List.append_assoc, List.append_assoc]
                  exact this
                have HS := Lib.hid (lex_same hsame (by simp; omega) (by simp; omega))
                clear HQ HLA hsame HQA
                go_wp2_with fail
                refine (xTokensC _ _ _ _ wr HX.out.yl).mono ?_
                rintro e w13 ⟨A13, n13, c13, rfl, hr13, hb13⟩
                have HB13 := Lib.hid (HB12.out.trans (hb13.mono HB12.out.size))
                have HR13 := Lib.hid hr13
                have HY13 := Lib.hid (HY.out.keep hb13)
                clear hr13 hb13 HX HY
                go_wp2_with fail
                refine (xTokensC _ _ _ _ w13 HY13.out.yl).mono ?_
                rintro e w14 ⟨A14, n14, c14, rfl, hr14, hb14⟩
                rw [HS.out.2] at hr14
                rw [HS.out.1]
                have HB14 := Lib.hid (HB13.out.trans (hb14.mono HB13.out.size))
                have HR14 := Lib.hid (HR13.out.keep hb14)
                have HS14 := Lib.hid hr14
                clear hr14 hb14 HR13 HY13 HB13 HS
                go_wp2_with fail
                refine (xSameC _ _ _ _ _ _ _ _ w14 HR14.out.tl HS14.out.tl).mono ?_
                rintro e w15 ⟨rfl, hb15⟩
                rw [show decide (lexT (l ++ [10] ++ k) = lexT (l ++ [10] ++ k)) = true from decide_eq_true rfl]
                have HB15 := Lib.hid (HB14.out.trans (hb15.mono HB14.out.size))
                clear hb15 HR14 HS14 HB14
                generalize lexE (l ++ [10] ++ k) = er
                go_wp2_with fail
                go_ret
                exact ⟨rfl, HB15.out⟩
end Go.Proofs.Ytfohekdmlhgapaa
