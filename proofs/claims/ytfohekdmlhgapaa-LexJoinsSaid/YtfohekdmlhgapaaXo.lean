/-
  The walk through LexJoins. No statement is proved here.
-/
import Derived.Test.YtfohekdmlhgapaaXn
namespace Go.Proofs.Ytfohekdmlhgapaa
open Go.ChangeShapes Go.WideShapes Go.ChangeAt Go.RowKit
set_option linter.unusedVariables false
set_option maxRecDepth 100000 in
set_option maxHeartbeats 4000000 in
theorem lexJoinsC (l k : List UInt8) (A B : Option Addr) (n c m d : Nat) (w : World) (h : YL w l A n c) (h2 : YL w k B m d) :
    Calls Try.prog 5 #[.slice A n c, .slice B m d] w fun e w' => e = .returned (.bool true) ∧ Below w.heap.size w w' := by
  have hn := h.cap
  have hn2 := h.le
  have hm := h2.cap
  have hm2 := h2.le
  have hl := h.len
  have hk := h2.len
  unfold maxLen at hn hm
  have HA := Lib.hid (xAwakeC w)
  by_cases g1 : 5000 < n
  · have d1 : (5000 : Int) < n := by omega
    clear h h2
    go_enter Try.func5, Try.ntmps5
    go_wp2_with fail
    refine HA.out.mono ?_
    rintro e w1 ⟨rfl, hb1⟩
    go_wp2_with fail
    go_ret
    exact ⟨rfl, hb1⟩
  · have d1 : (n : Int) ≤ 5000 := by omega
    by_cases g2 : 5000 < m
    · have d2 : (5000 : Int) < m := by omega
      clear h h2
      go_enter Try.func5, Try.ntmps5
      go_wp2_with fail
      refine HA.out.mono ?_
      rintro e w1 ⟨rfl, hb1⟩
      go_wp2_with fail
      go_ret
      exact ⟨rfl, hb1⟩
    · have d2 : (m : Int) ≤ 5000 := by omega
      have H1 := Lib.hid h
      have H2 := Lib.hid h2
      have HL := Lib.hid hl
      have HK := Lib.hid hk
      clear h h2 hl hk
      go_enter Try.func5, Try.ntmps5
      go_wp2_with fail
      refine HA.out.mono ?_
      rintro e w1 ⟨rfl, hb1⟩
      have HB1 := Lib.hid hb1
      clear hb1 HA
      go_wp2_with fail
      refine (xTokensC l A n c w1 (H1.out.keep HB1.out)).mono ?_
      rintro e w2 ⟨A2, n2, c2, rfl, hr2, hb2⟩
      have HB2 := Lib.hid (HB1.out.trans (hb2.mono HB1.out.size))
      have HR2 := Lib.hid hr2
      clear hr2 hb2 HB1
      go_wp2_with fail
      refine (xTokensC k B m d w2 (H2.out.keep HB2.out)).mono ?_
      rintro e w3 ⟨A3, n3, c3, rfl, hr3, hb3⟩
      have HB3 := Lib.hid (HB2.out.trans (hb3.mono HB2.out.size))
      have HR2' := Lib.hid (HR2.out.keep hb3)
      have HR3 := Lib.hid hr3
      have hs3 := HB3.out.size
      clear hr3 hb3 HB2 HR2
      -- the two texts with a line feed between
      obtain ⟨A4, c4, w4, hrun4, hy4, hg4⟩ := (YRow.nil w3 w3.heap.size).appY (H1.out.keep HB3.out) (Nat.le_refl _) (by omega)
      have hb4 := Below.grown (Below.refl w3.heap.size w3) hg4 (Nat.le_refl _) (fun g hg => by cases hg)
      rw [Nat.zero_add, List.nil_append] at hy4
      rw [Nat.zero_add] at hrun4
      obtain ⟨W5, hW5⟩ : ∃ W5, w4.alloc (.cells #[.int .u8 10] 5) = W5 := ⟨_, rfl⟩
      have hb5' : Below w4.heap.size w4 W5 := by rw [← hW5]; exact (Below.refl _ _).alloc (Nat.le_refl _) _
      have hb5 := hb4.trans (hb5'.mono hb4.size)
      obtain ⟨g6, c6, w6, hrun6, hy6, hg6⟩ := (hy4.keep hb5').appB (P := w4.heap.size) 10 (by rw [← hW5]; exact heap_alloc_new w4 _) hb5.size (by omega)
      have hb6 := Below.grown hb5 hg6 hb5.size (fun g hg => ((hy4.keep hb5').lt hg).1)
      obtain ⟨A7, c7, w7, hrun7, hy7, hg7⟩ := hy6.appY (H2.out.keep (HB3.out.trans (hb6.mono HB3.out.size))) hb6.size (by omega)
      have hb7 := Below.grown hb6 hg7 hb6.size (fun g hg => (hy6.lt hg).1)
      have hlen : (l ++ [10] ++ k).length ≤ 20000 := by
        have := HL.out
        have := HK.out
        simp
        omega
      have HC := Lib.hid (xTokensC _ _ _ _ w7 hy7.yl)
      have HJ : Hid (toksL (l ++ [10] ++ k) = (toksL l).bind fun x => (toksL k).map (x ++ ·)) := Lib.hid (by
        rw [List.append_assoc]
        exact toks_join l k)
      have HB7 := Lib.hid (HB3.out.trans (hb7.mono HB3.out.size))
      have HR2'' := Lib.hid (HR2'.out.keep hb7)
      have HR3'' := Lib.hid (HR3.out.keep hb7)
      have HCS := Lib.hid (lexE_cases _ hlen)
      clear hy4 hy6 hy7 hg4 hg6 hg7 hb4 hb5 hb5' hb6 hb7 hlen HR2' HR3
      go_wp2_with (at_builtin; first | (refine Lib.wpList_append_run _ rfl _ _ _ _ rfl _ _ rfl rfl _ _ hrun4 ?_; clear hrun4) | (refine Lib.wpList_append_run _ rfl _ _ _ _ rfl _ _ rfl rfl _ _ hrun6 ?_; clear hrun6) | (refine Lib.wpList_append_run _ rfl _ _ _ _ rfl _ _ rfl rfl _ _ hrun7 ?_; clear hrun7))
      refine HC.out.mono ?_
      rintro e w8 ⟨A8, n8, c8, rfl, hr8, hb8⟩
      have HB8 := Lib.hid (HB7.out.trans (hb8.mono HB7.out.size))
      have hx8 := HR2''.out.keep hb8
      have hy8 := HR3''.out.keep hb8
      have hs8 := HB8.out.size
      clear hb8 HR2'' HR3'' HB7 HC hW5
      have hbad : (lexE l = 8 ∨ lexE k = 8) → lexE (l ++ [10] ++ k) = 8 := by
        intro hh
        have hj : toksL (l ++ [10] ++ k) = none := by
          rw [HJ.out]
          rcases lexE_cases l (by have := HL.out; omega) with ⟨e1, t1⟩ | ⟨e1, t1, _⟩
          · rcases lexE_cases k (by have := HK.out; omega) with ⟨e2, t2⟩ | ⟨e2, t2, _⟩
            · rcases hh with hh | hh <;> omega
            · rw [t1, t2]; rfl
          · rw [t1]; rfl
        rcases HCS.out with ⟨_, t⟩ | ⟨e, _⟩
        · rw [hj] at t; cases t
        · exact e
      have HBAD := Lib.hid hbad
      clear hbad
      rcases lexE_cases l (by have := HL.out; omega) with ⟨e1, t1⟩ | ⟨e1, t1, _⟩
      · rcases lexE_cases k (by have := HK.out; omega) with ⟨e2, t2⟩ | ⟨e2, t2, _⟩
        · have HT : Hid (lexE (l ++ [10] ++ k) = 0 ∧ lexT (l ++ [10] ++ k) = lexT l ++ lexT k) := Lib.hid (by
            have hj : toksL (l ++ [10] ++ k) = some (lexT l ++ lexT k) := by rw [HJ.out, t1, t2]; rfl
            rcases HCS.out with ⟨e, t⟩ | ⟨_, t, _⟩
            · rw [hj] at t
              exact ⟨e, (Option.some.inj t).symm⟩
            · rw [hj] at t; cases t)
          have hn2 := hx8.len
          have hn3 := hy8.len
          have hf2 := tok_len l
          have hf3 := tok_len k
          obtain ⟨A9, c9, w9, hrun9, hz9, hg9⟩ := (TRow.nil w8 w8.heap.size).appT hx8.tl (Nat.le_refl _) (by have := HL.out; omega)
          have hb9 := Below.grown (Below.refl w8.heap.size w8) hg9 (Nat.le_refl _) (fun g hg => by cases hg)
          rw [Nat.zero_add, List.nil_append] at hz9
          rw [Nat.zero_add] at hrun9
          obtain ⟨Aa, ca, wa, hruna, hza, hga⟩ := hz9.appT (hy8.tl.keep hb9) hb9.size (by have := HL.out; have := HK.out; omega)
          have hba := Below.grown hb9 hga hb9.size (fun g hg => (hz9.lt hg).1)
          have HC := Lib.hid (xSameC _ _ _ _ _ _ _ _ wa hza.tl (hr8.keep hba).tl)
          have HBA := Lib.hid (HB8.out.trans (hba.mono hs8))
          rw [HT.out.2] at HC
          rw [show decide (lexT l ++ lexT k = lexT l ++ lexT k) = true from decide_eq_true rfl] at HC
          rw [e1, e2, HT.out.1]
          clear hz9 hza hg9 hga hb9 hba hx8 hy8 hr8 t1 t2 HT HJ HCS HBAD hf2 hf3 hn2 hn3 e1 e2
          go_wp2_with (at_builtin; first | (refine Lib.wpList_append_run _ rfl _ _ _ _ rfl _ _ rfl rfl _ _ hrun9 ?_; clear hrun9) | (refine Lib.wpList_append_run _ rfl _ _ _ _ rfl _ _ rfl rfl _ _ hruna ?_; clear hruna))
          refine HC.out.mono ?_
          rintro e w10 ⟨rfl, hb10⟩
          have HBB := Lib.hid (HBA.out.trans (hb10.mono HBA.out.size))
          clear hb10
          go_wp2_with fail
          go_ret
          exact ⟨rfl, HBB.out⟩
        · rw [e1, e2, HBAD.out (.inr e2)]
          clear hx8 hy8 hr8 t1 t2 HJ HCS HBAD e1 e2
          go_wp2_with fail
          go_ret
          exact ⟨rfl, HB8.out⟩
      · rw [e1, HBAD.out (.inl e1)]
        clear hx8 hy8 hr8 t1 HJ HCS HBAD e1
        go_wp2_with fail
        go_ret
        exact ⟨rfl, HB8.out⟩
end Go.Proofs.Ytfohekdmlhgapaa
