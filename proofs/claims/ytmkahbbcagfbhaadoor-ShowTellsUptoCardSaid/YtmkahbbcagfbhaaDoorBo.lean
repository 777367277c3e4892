/-
  Contract of package parse's whole. No statement is proved here.
-/
import Derived.Test.YtmkahbbcagfbhaaDoorCs
import Derived.Test.YtmkahbbcagfbhaaDoorBn
namespace Go.Proofs.YtmkahbbcagfbhaaDoor
open Go.ChangeShapes Go.WideShapes Go.ChangeAt Go.RowKit
set_option linter.unusedVariables false


/-- a TERM that may be, and the mark behind it -/
def wholeE (sg : List (ByteArray × T)) (m : ByteArray) (x : List Tk) : Rt := match wholeM mayB sg x with
  | .error e => .error e
  | .ok (t, y) => if hdT y = (1, m) then .ok (t, y.tail) else .error 8
set_option maxRecDepth 100000 in
set_option maxHeartbeats 2000000 in
theorem pWholeC {b0 R K : Nat} {SA : Option Addr} {sn sc : Nat} {sg : List (ByteArray × T)} {x : List Tk} {w : World} (h : PS b0 R K SA sn sc sg x w) (m : ByteArray) :
    Calls Tryd.prog 35 #[.pointer (some ⟨R, 0, none⟩), .string m] w (TmX w.heap.size b0 R K SA sn sc sg (wholeE sg m x) w) := by
  obtain ⟨W, hW⟩ : ∃ W, w.alloc (.cells #[.int .i64 0, .int .i64 0, .slice none 0 0] 24) = W := ⟨_, rfl⟩
  have hb : Below w.heap.size w W := by rw [← hW]; exact (Below.refl _ _).alloc (Nat.le_refl _) _
  have x1 : BoxX W w.heap.size 24 #[.int .i64 0, .int .i64 0, .slice none 0 0] := by rw [← hW]; exact BoxX.new _ _ _
  have hsz : W.heap.size = w.heap.size + 1 := by rw [← hW]; simp
  have hlt := h.lt
  have hfew := h.few
  have HB0 := Lib.hid h.le
  have HC := Lib.hid (show Calls Tryd.prog 54 #[.pointer (some ⟨R, 0, none⟩), .agg #[.slice none 0 0, .int .i64 1]] W (TmX W.heap.size b0 R K SA sn sc sg (termM sg 120 [] x) W) from pTermC 120 (Nat.le_refl _) x W [] none 0 0 1 (h.keep hb) (NL.nil _) (by simp) (by omega))
  have HB := Lib.hid hb
  have HX1 := Lib.hid x1
  have HSZ := Lib.hid hsz
  clear hb x1 h hsz
  subst hW
  go_enter Tryd.func35, Tryd.ntmps35
  go_wp2_with fail
  refine HC.out.mono ?_
  rintro e w2 ⟨hf2, k1, g1, A1, n1, c1, ec, rfl, hres⟩
  have hs2 := hf2.size
  rw [HSZ.out] at hs2
  have x2 := HX1.out.fr hf2 (by omega)
  have HF2 := Lib.hid ((FrB.below HB.out).trans hf2)
  clear HC HX1 HB hf2
  generalize (w.alloc (.cells #[.int .i64 0, .int .i64 0, .slice none 0 0] 24)) = W at *
  have hfr3 : ∀ (k g : Int) (s : Value), FrB R w (w2.alloc (.cells #[.int .i64 k, .int .i64 g, s] 24)) := fun k g s => HF2.out.then ((Below.refl _ _).alloc (Nat.le_refl _) _)
  rcases hres with ⟨t, y, hr, rfl, hrd, hps⟩ | ⟨hr, he, rfl, rfl, rfl, rfl, rfl⟩
  rotate_left
  · have d9 : (ec == 0) = false := by simpa using he
    have HR := Lib.hid (And.intro hr he)
    have x3 := x2.alloc (.cells #[.int .i64 0, .int .i64 0, .slice none 0 0] 24)
    have HF3 := Lib.hid (hfr3 0 0 (.slice none 0 0))
    clear hr he x2 hfr3
    have z9 := ((x3.put 0 (.int .i64 0)).put 1 (.int .i64 0)).put 2 ((.slice none 0 0))
    have e0 := z9.cell 0
    have e1 := z9.cell 1
    have e2 := z9.cell 2
    have r0 := x3.cell 0
    have r1 := x3.cell 1
    have r2 := x3.cell 2
    have fz0 := x3.frozen 0
    have fz1 := x3.frozen 1
    have fz2 := x3.frozen 2
    have lz := x3.lt
    simp only [List.setIfInBounds_toArray, List.set_cons_zero, List.set_cons_succ, List.getElem?_toArray, List.getElem?_cons_zero, List.getElem?_cons_succ] at e0 e1 e2 r0 r1 r2
    clear z9 x3
    go_wp2_with fail
    refine bodyPost_ret (v := .tuple #[.agg #[.int .i64 0, .int .i64 0, (.slice none 0 0)], .int .i64 ec]) (by simp [results, Tryd.results35, go_sem, e0, e1, e2]) rfl ?_
    have hff := HF3.out.put3 (P := w.heap.size) (Nat.le_refl _) (.int .i64 0) (.int .i64 0) (.slice none 0 0)
    exact ⟨hff, 0, 0, none, 0, 0, ec, rfl, .inr ⟨by rw [wholeE, wholeM, HR.out.1], HR.out.2, rfl, rfl, rfl, rfl, rfl⟩⟩
  obtain ⟨W3, hW3⟩ : ∃ W3, (w2.alloc (.cells #[.int .i64 k1, .int .i64 g1, (.slice A1 n1 c1)] 24)) = W3 := ⟨_, rfl⟩
  have hb3 : Below w2.heap.size w2 W3 := by rw [← hW3]; exact (Below.refl _ _).alloc (Nat.le_refl _) _
  have xt : BoxX W3 w2.heap.size 24 #[.int .i64 k1, .int .i64 g1, .slice A1 n1 c1] := by rw [← hW3]; exact BoxX.new _ _ _
  have x3 := x2.keep hb3 x2.lt
  have hl3 : W3.heap.size = w2.heap.size + 1 := by rw [← hW3]; simp
  have hnd := term_few sg 120 [] _ _ _ hr
  have hM := mayC t _ W3 (hrd.keep hb3).rd (by omega)
  have HF3 := Lib.hid (HF2.out.then hb3)
  have HM := Lib.hid hM
  have HP3 := Lib.hid (hps.keep hb3)
  have HR := Lib.hid (And.intro hr (hrd.keep hb3))
  have q0 := xt.cell 0
  have q1 := xt.cell 1
  have q2 := xt.cell 2
  simp only [List.getElem?_toArray, List.getElem?_cons_zero, List.getElem?_cons_succ] at q0 q1 q2
  clear hr hrd hps hb3 x2 hfr3 hnd hM HF2
  subst hW3
  go_wp2_with fail
  refine HM.out.mono ?_
  rintro e w4 ⟨rfl, hb4⟩
  have hs4 := hb4.size
  have x4 := x3.keep hb4 x3.lt
  have xt4 := xt.keep hb4 xt.lt
  have HF4 := Lib.hid (HF3.out.then hb4)
  have HP4 := Lib.hid (HP3.out.keep hb4)
  have HR4 := Lib.hid (And.intro HR.out.1 (HR.out.2.keep hb4))
  clear HM HP3 HR HF3 x3 xt q0 q1 q2 hb4
  generalize (w2.alloc (.cells #[.int .i64 k1, .int .i64 g1, (.slice A1 n1 c1)] 24)) = W3 at *
  cases hm : mayB t with
  | false =>
    have HE := Lib.hid (show wholeE sg m x = .error 4 by rw [wholeE, wholeM, HR4.out.1]; dsimp only; rw [if_neg (by rw [hm]; simp)])
    clear hm xt4
    have z9 := ((x4.put 0 (.int .i64 0)).put 1 (.int .i64 0)).put 2 ((.slice none 0 0))
    have e0 := z9.cell 0
    have e1 := z9.cell 1
    have e2 := z9.cell 2
    have r0 := x4.cell 0
    have r1 := x4.cell 1
    have r2 := x4.cell 2
    have fz0 := x4.frozen 0
    have fz1 := x4.frozen 1
    have fz2 := x4.frozen 2
    have lz := x4.lt
    simp only [List.setIfInBounds_toArray, List.set_cons_zero, List.set_cons_succ, List.getElem?_toArray, List.getElem?_cons_zero, List.getElem?_cons_succ] at e0 e1 e2 r0 r1 r2
    clear z9 x4
    go_wp2_with fail
    refine bodyPost_ret (v := .tuple #[.agg #[.int .i64 0, .int .i64 0, (.slice none 0 0)], .int .i64 4]) (by simp [results, Tryd.results35, go_sem, e0, e1, e2]) rfl ?_
    have hff := HF4.out.put3 (P := w.heap.size) (Nat.le_refl _) (.int .i64 0) (.int .i64 0) (.slice none 0 0)
    exact ⟨hff, 0, 0, none, 0, 0, 4, rfl, .inr ⟨HE.out, by decide, rfl, rfl, rfl, rfl, rfl⟩⟩
  | true =>
    have HE := Lib.hid (show wholeE sg m x = if hdT y = (1, m) then .ok (t, y.tail) else .error 8 by rw [wholeE, wholeM, HR4.out.1]; dsimp only; rw [if_pos hm])
    obtain ⟨q, hq⟩ : ∃ q, decide (hdT y = (1, m)) = q := ⟨_, rfl⟩
    have hT := pTakeC HP4.out m
    rw [hq] at hT
    have HT := Lib.hid hT
    have HQ := Lib.hid hq
    clear hm hq hT
    go_wp2_with fail
    refine HT.out.mono ?_
    rintro e w5 ⟨rfl, hps5, hf5⟩
    have hs5 := hf5.size
    have x5 := x4.fr hf5 (by omega)
    have xt5 := xt4.fr hf5 (by omega)
    have HF5 := Lib.hid (HF4.out.trans hf5)
    have HR5 := Lib.hid (HR4.out.2.fr hf5 (by have := HSZ.out; omega))
    have HP5 := Lib.hid hps5
    clear HT x4 xt4 hf5 hps5
    cases q with
    | false =>
      have HE2 := Lib.hid (show wholeE sg m x = .error 8 by rw [HE.out, if_neg (of_decide_eq_false HQ.out)])
      clear xt5
      have z9 := ((x5.put 0 (.int .i64 0)).put 1 (.int .i64 0)).put 2 ((.slice none 0 0))
      have e0 := z9.cell 0
      have e1 := z9.cell 1
      have e2 := z9.cell 2
      have r0 := x5.cell 0
      have r1 := x5.cell 1
      have r2 := x5.cell 2
      have fz0 := x5.frozen 0
      have fz1 := x5.frozen 1
      have fz2 := x5.frozen 2
      have lz := x5.lt
      simp only [List.setIfInBounds_toArray, List.set_cons_zero, List.set_cons_succ, List.getElem?_toArray, List.getElem?_cons_zero, List.getElem?_cons_succ] at e0 e1 e2 r0 r1 r2
      clear z9 x5
      go_wp2_with fail
      refine bodyPost_ret (v := .tuple #[.agg #[.int .i64 0, .int .i64 0, (.slice none 0 0)], .int .i64 8]) (by simp [results, Tryd.results35, go_sem, e0, e1, e2]) rfl ?_
      have hff := HF5.out.put3 (P := w.heap.size) (Nat.le_refl _) (.int .i64 0) (.int .i64 0) (.slice none 0 0)
      exact ⟨hff, 0, 0, none, 0, 0, 8, rfl, .inr ⟨HE2.out, by decide, rfl, rfl, rfl, rfl, rfl⟩⟩
    | true =>
      have HE2 := Lib.hid (show wholeE sg m x = .ok (t, y.tail) by rw [HE.out, if_pos (of_decide_eq_true HQ.out)])
      have hp6 := HP5.out
      rw [if_pos (of_decide_eq_true HQ.out)] at hp6
      have HP6 := Lib.hid hp6
      have q0 := xt5.cell 0
      have q1 := xt5.cell 1
      have q2 := xt5.cell 2
      simp only [List.getElem?_toArray, List.getElem?_cons_zero, List.getElem?_cons_succ] at q0 q1 q2
      clear hp6
      have z9 := ((x5.put 0 (.int .i64 k1)).put 1 (.int .i64 g1)).put 2 ((.slice A1 n1 c1))
      have e0 := z9.cell 0
      have e1 := z9.cell 1
      have e2 := z9.cell 2
      have r0 := x5.cell 0
      have r1 := x5.cell 1
      have r2 := x5.cell 2
      have fz0 := x5.frozen 0
      have fz1 := x5.frozen 1
      have fz2 := x5.frozen 2
      have lz := x5.lt
      simp only [List.setIfInBounds_toArray, List.set_cons_zero, List.set_cons_succ, List.getElem?_toArray, List.getElem?_cons_zero, List.getElem?_cons_succ] at e0 e1 e2 r0 r1 r2
      clear z9 x5
      go_wp2_with fail
      refine bodyPost_ret (v := .tuple #[.agg #[.int .i64 k1, .int .i64 g1, (.slice A1 n1 c1)], .int .i64 0]) (by simp [results, Tryd.results35, go_sem, e0, e1, e2]) rfl ?_
      have hff := HF5.out.put3 (P := w.heap.size) (Nat.le_refl _) (.int .i64 k1) (.int .i64 g1) (.slice A1 n1 c1)
      refine ⟨hff, k1, g1, A1, n1, c1, 0, rfl, .inl ⟨t, y.tail, HE2.out, rfl, ?_, HP6.out.put3 (by have := HB0.out; omega) (by omega) _ _ _⟩⟩
      exact (HR5.out.to fun b' h1 h2 => heap_other3Q _ _ _ _ _ _ (by have := HSZ.out; omega)).less (by have := HSZ.out; omega)
end Go.Proofs.YtmkahbbcagfbhaaDoor
