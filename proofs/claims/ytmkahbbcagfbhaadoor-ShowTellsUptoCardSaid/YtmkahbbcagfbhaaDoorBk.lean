/-
  Contracts of package parse's alone and closed. No statement is proved here.
-/
import Derived.Test.YtmkahbbcagfbhaaDoorBj
namespace Go.Proofs.YtmkahbbcagfbhaaDoor
open Go.ChangeShapes Go.WideShapes Go.ChangeAt Go.RowKit
set_option linter.unusedVariables false

set_option maxRecDepth 100000 in
set_option maxHeartbeats 8000000 in
theorem pAloneC {b0 R K : Nat} {SA : Option Addr} {sn sc : Nat} {sg : List (ByteArray × T)} (lo : Nat) (r : Rt) (k g : Int) (A : Option Addr) (n c : Nat) (ec : Int) (w : World) (hR : R < lo) (hlo : lo ≤ w.heap.size)
    (h : (∃ t y, r = .ok (t, y) ∧ ec = 0 ∧ RdN lo w t (.agg #[.int .i64 k, .int .i64 g, .slice A n c]) ∧ PS b0 R K SA sn sc sg y w) ∨ (r = .error ec ∧ ec ≠ 0 ∧ k = 0 ∧ g = 0 ∧ A = none ∧ n = 0 ∧ c = 0)) :
    Calls Tryd.prog 71 #[.pointer (some ⟨R, 0, none⟩), .agg #[.int .i64 k, .int .i64 g, .slice A n c], .int .i64 ec] w (TmX lo b0 R K SA sn sc sg (aloneM r) w) := by
  obtain ⟨W, hW⟩ : ∃ W, (w.alloc (.cells #[.int .i64 k, .int .i64 g, .slice A n c] 24)).alloc (.cells #[.int .i64 0, .int .i64 0, .slice none 0 0] 24) = W := ⟨_, rfl⟩
  have hb : Below w.heap.size w W := by rw [← hW]; exact ((Below.refl _ _).alloc (Nat.le_refl _) _).alloc (by simp) _
  have x0 : BoxX W w.heap.size 24 #[.int .i64 k, .int .i64 g, .slice A n c] := by rw [← hW]; exact (BoxX.new _ _ _).alloc _
  have x1 : BoxX W (w.heap.size + 1) 24 #[.int .i64 0, .int .i64 0, .slice none 0 0] := by
    have := BoxX.new (w.alloc (.cells #[.int .i64 k, .int .i64 g, .slice A n c] 24)) 24 #[.int .i64 0, .int .i64 0, .slice none 0 0]
    rw [← hW]; simpa using this
  have HB := Lib.hid hb
  have HX0 := Lib.hid x0
  have HX1 := Lib.hid x1
  rcases h with ⟨t, y, hr, rfl, hrd, hps⟩ | ⟨hr, he, rfl, rfl, rfl, rfl, rfl⟩
  · have HA := Lib.hid (pAtC (hps.keep hb))
    have HR := Lib.hid (And.intro hr (And.intro hrd hps))
    clear hb x0 x1 hr hrd hps
    subst hW
    go_enter Tryd.func71, Tryd.ntmps71
    go_wp2_with fail
    refine HA.out.mono ?_
    rintro e w1 ⟨rfl, hb1⟩
    have HB1 := Lib.hid (HB.out.trans (hb1.mono HB.out.size))
    have y0 := HX0.out.keep hb1 HX0.out.lt
    have y1 := HX1.out.keep hb1 HX1.out.lt
    have q0 := y0.cell 0
    have q1 := y0.cell 1
    have q2 := y0.cell 2
    simp only [List.getElem?_toArray, List.getElem?_cons_zero, List.getElem?_cons_succ] at q0 q1 q2
    clear hb1 HA HX0 HX1 y0 HB
    cases hbe : begM y with
    | true =>
      have HE := Lib.hid hbe
      clear hbe
      have z9 := ((y1.put 0 (.int .i64 0)).put 1 (.int .i64 0)).put 2 (.slice none 0 0)
      have e0 := z9.cell 0
      have e1 := z9.cell 1
      have e2 := z9.cell 2
      have r0 := y1.cell 0
      have r1 := y1.cell 1
      have r2 := y1.cell 2
      have fz0 := y1.frozen 0
      have fz1 := y1.frozen 1
      have fz2 := y1.frozen 2
      have lz := y1.lt
      simp only [List.setIfInBounds_toArray, List.set_cons_zero, List.set_cons_succ, List.getElem?_toArray, List.getElem?_cons_zero, List.getElem?_cons_succ] at e0 e1 e2 r0 r1 r2
      clear z9 y1 q0 q1 q2
      go_wp2_with fail
      refine bodyPost_ret (v := .tuple #[.agg #[.int .i64 0, .int .i64 0, .slice none 0 0], .int .i64 8]) (by simp [results, Tryd.results71, go_sem, e0, e1, e2]) rfl ?_
      have hbf := ((HB1.out.setCell (p := ⟨w.heap.size + 1, 0, none⟩) (by dsimp only; omega) (.int .i64 0)).setCell (p := ⟨w.heap.size + 1, 1, none⟩) (by dsimp only; omega) (.int .i64 0)).setCell (p := ⟨w.heap.size + 1, 2, none⟩) (by dsimp only; omega) (.slice none 0 0)
      refine ⟨FrB.below hbf, 0, 0, none, 0, 0, 8, rfl, .inr ⟨?_, by decide, rfl, rfl, rfl, rfl, rfl⟩⟩
      rw [HR.out.1, aloneM, if_pos HE.out]
    | false =>
      have HE := Lib.hid hbe
      clear hbe
      have z9 := ((y1.put 0 (.int .i64 k)).put 1 (.int .i64 g)).put 2 (.slice A n c)
      have e0 := z9.cell 0
      have e1 := z9.cell 1
      have e2 := z9.cell 2
      have r0 := y1.cell 0
      have r1 := y1.cell 1
      have r2 := y1.cell 2
      have fz0 := y1.frozen 0
      have fz1 := y1.frozen 1
      have fz2 := y1.frozen 2
      have lz := y1.lt
      simp only [List.setIfInBounds_toArray, List.set_cons_zero, List.set_cons_succ, List.getElem?_toArray, List.getElem?_cons_zero, List.getElem?_cons_succ] at e0 e1 e2 r0 r1 r2
      clear z9 y1
      go_wp2_with fail
      refine bodyPost_ret (v := .tuple #[.agg #[.int .i64 k, .int .i64 g, .slice A n c], .int .i64 0]) (by simp [results, Tryd.results71, go_sem, e0, e1, e2]) rfl ?_
      have hbf := ((HB1.out.setCell (p := ⟨w.heap.size + 1, 0, none⟩) (by dsimp only; omega) (.int .i64 k)).setCell (p := ⟨w.heap.size + 1, 1, none⟩) (by dsimp only; omega) (.int .i64 g)).setCell (p := ⟨w.heap.size + 1, 2, none⟩) (by dsimp only; omega) (.slice A n c)
      refine ⟨FrB.below hbf, k, g, A, n, c, 0, rfl, .inl ⟨t, y, ?_, rfl, HR.out.2.1.keep hbf, HR.out.2.2.keep hbf⟩⟩
      rw [HR.out.1, aloneM, if_neg (by rw [HE.out]; simp)]
  · have d9 : (ec == 0) = false := by simpa using he
    have HR := Lib.hid (And.intro hr he)
    have q0 := x0.cell 0
    have q1 := x0.cell 1
    have q2 := x0.cell 2
    simp only [List.getElem?_toArray, List.getElem?_cons_zero, List.getElem?_cons_succ] at q0 q1 q2
    clear hb x0 x1 hr he
    have HW := Lib.hid hW
    clear hW
    go_enter Tryd.func71, Tryd.ntmps71
    go_wp2_with fail
    refine bodyPost_ret (v := .tuple #[.agg #[.int .i64 0, .int .i64 0, .slice none 0 0], .int .i64 ec]) (by simp [results, Tryd.results71, go_sem]) rfl ?_
    refine ⟨FrB.below (((Below.refl _ _).alloc (Nat.le_refl _) _).alloc (by simp) _), 0, 0, none, 0, 0, ec, rfl, .inr ⟨?_, HR.out.2, rfl, rfl, rfl, rfl, rfl⟩⟩
    rw [HR.out.1, aloneM]
set_option maxRecDepth 100000 in
set_option maxHeartbeats 8000000 in
theorem pClosedC {b0 R K : Nat} {SA : Option Addr} {sn sc : Nat} {sg : List (ByteArray × T)} {k : Nat} (IH : TmC b0 R K SA sn sc sg k) {x : List Tk} {w : World} (h : PS b0 R K SA sn sc sg x w) (ss : List ByteArray) (A : Option Addr) (n c : Nat) (tm : Int) (hN : NL w ss A n c) (hk : ss.length + k ≤ 1000) (htm : tm + k = 121) (m : ByteArray) (hm : m ≠ ⟨#[]⟩) :
    Calls Tryd.prog 72 #[.pointer (some ⟨R, 0, none⟩), .string m, .agg #[.slice A n c, .int .i64 tm]] w (TmX w.heap.size b0 R K SA sn sc sg (closedM (1, m) (termM sg k ss.reverse x)) w) := by
  obtain ⟨W, hW⟩ : ∃ W, (w.alloc (.cells #[.slice A n c, .int .i64 tm] 81)).alloc (.cells #[.int .i64 0, .int .i64 0, .slice none 0 0] 24) = W := ⟨_, rfl⟩
  have hb : Below w.heap.size w W := by rw [← hW]; exact ((Below.refl _ _).alloc (Nat.le_refl _) _).alloc (by simp) _
  have x0 : BoxX W w.heap.size 81 #[.slice A n c, .int .i64 tm] := by rw [← hW]; exact (BoxX.new _ _ _).alloc _
  have x1 : BoxX W (w.heap.size + 1) 24 #[.int .i64 0, .int .i64 0, .slice none 0 0] := by
    have := BoxX.new (w.alloc (.cells #[.slice A n c, .int .i64 tm] 81)) 24 #[.int .i64 0, .int .i64 0, .slice none 0 0]
    rw [← hW]; simpa using this
  have hsz : W.heap.size = w.heap.size + 2 := by rw [← hW]; simp
  have c0 := x0.cell 0
  have c1 := x0.cell 1
  simp only [List.getElem?_toArray, List.getElem?_cons_zero, List.getElem?_cons_succ] at c0 c1
  have hlt := h.lt
  have HC := Lib.hid (IH x W ss A n c tm (h.keep hb) (hN.keep hb) hk htm)
  have HB := Lib.hid hb
  have HX1 := Lib.hid x1
  have HB0 := Lib.hid h.le
  have HM := Lib.hid (show ((1, m) : Tk) ≠ (1, ⟨#[]⟩) from fun e => hm (congrArg Prod.snd e))
  clear hb x0 x1 h hN
  subst hW
  go_enter Tryd.func72, Tryd.ntmps72
  go_wp2_with fail
  refine HC.out.mono ?_
  rintro e w2 ⟨hf2, k1, g1, A1, n1, c1', ec, rfl, hres⟩
  have x2 := HX1.out.fr hf2 (by omega)
  have hs2 := hf2.size
  rw [hsz] at hs2
  have HF2 := Lib.hid ((FrB.below HB.out).trans hf2)
  have HSZ := Lib.hid hsz
  clear HX1 HC c0 c1 HB hsz hf2
  generalize ((w.alloc (.cells #[.slice A n c, .int .i64 tm] 81)).alloc (.cells #[.int .i64 0, .int .i64 0, .slice none 0 0] 24)) = W at *
  rcases hres with ⟨t, y, hr, rfl, hrd, hps⟩ | ⟨hr, he, rfl, rfl, rfl, rfl, rfl⟩
  · obtain ⟨q, hq⟩ : ∃ q, decide (hdT y = (1, m)) = q := ⟨_, rfl⟩
    have hbA : Below w2.heap.size w2 (w2.alloc (.cells #[.int .i64 k1, .int .i64 g1, .slice A1 n1 c1'] 24)) := (Below.refl _ _).alloc (Nat.le_refl _) _
    have ht := pTakeC (hps.keep hbA) m
    rw [hq] at ht
    have x8 := BoxX.new w2 24 #[.int .i64 k1, .int .i64 g1, .slice A1 n1 c1']
    have x9 := x2.alloc (.cells #[.int .i64 k1, .int .i64 g1, .slice A1 n1 c1'] 24)
    have HA := Lib.hid hbA
    have HT := Lib.hid ht
    have HX8 := Lib.hid x8
    have HX9 := Lib.hid x9
    have HR := Lib.hid (And.intro hr (And.intro hrd hq))
    clear hr hrd hq hps hbA ht x8 x9 x2
    go_wp2_with fail
    refine HT.out.mono ?_
    rintro e w3 ⟨rfl, hps3, hf3⟩
    have y8 := HX8.out.fr hf3 (by omega)
    have y9 := HX9.out.fr hf3 (by omega)
    have hs3 := hf3.size
    simp only [World.size_alloc] at hs3
    have q0 := y8.cell 0
    have q1 := y8.cell 1
    have q2 := y8.cell 2
    simp only [List.getElem?_toArray, List.getElem?_cons_zero, List.getElem?_cons_succ] at q0 q1 q2
    have HF3 := Lib.hid (HF2.out.trans ((FrB.below HA.out).trans hf3))
    have HMid := Lib.hid (((Mid.refl W.heap.size w2.heap.size w2).below HA.out (Nat.le_refl _)).fr hf3 (by rw [HSZ.out]; omega) (by simp))
    have HP3 := Lib.hid hps3
    clear HX8 HX9 HT HA HF2 hf3 hps3 y8
    cases q with
    | true =>
      have z9 := ((y9.put 0 (.int .i64 k1)).put 1 (.int .i64 g1)).put 2 ((.slice A1 n1 c1'))
      have e0 := z9.cell 0
      have e1 := z9.cell 1
      have e2 := z9.cell 2
      have r0 := y9.cell 0
      have r1 := y9.cell 1
      have r2 := y9.cell 2
      have fz0 := y9.frozen 0
      have fz1 := y9.frozen 1
      have fz2 := y9.frozen 2
      have lz := y9.lt
      simp only [List.setIfInBounds_toArray, List.set_cons_zero, List.set_cons_succ, List.getElem?_toArray, List.getElem?_cons_zero, List.getElem?_cons_succ] at e0 e1 e2 r0 r1 r2
      clear z9 y9
      go_wp2_with fail
      refine bodyPost_ret (v := .tuple #[.agg #[.int .i64 k1, .int .i64 g1, (.slice A1 n1 c1')], .int .i64 0]) (by simp [results, Tryd.results72, go_sem, e0, e1, e2]) rfl ?_
      have hff := HF3.out.put3 (P := w.heap.size + 1) (by omega) (.int .i64 k1) (.int .i64 g1) (.slice A1 n1 c1')
      have hfl : FrB R w3 (((w3.setCell ⟨w.heap.size + 1, 0, none⟩ (.int .i64 k1)).setCell ⟨w.heap.size + 1, 1, none⟩ (.int .i64 g1)).setCell ⟨w.heap.size + 1, 2, none⟩ (.slice A1 n1 c1')) → True := fun _ => trivial
      obtain ⟨hr, hrd, hq⟩ := HR.out
      have hh : hdT y = (1, m) := of_decide_eq_true hq
      have hp3 := HP3.out
      rw [if_pos hh] at hp3
      have htk : takeM (1, m) y = .ok y.tail := by
        rcases hd_take (x := y) HM.out with ⟨_, h2⟩ | ⟨h1, _⟩
        · exact h2
        · exact absurd hh h1
      refine ⟨hff, k1, g1, A1, n1, c1', 0, rfl, .inl ⟨t, y.tail, by rw [hr, closedM, htk], rfl, ?_, hp3.put3 (by have := HB0.out; omega) (by omega) _ _ _⟩⟩
      exact (hrd.to (HMid.out.set3 (.inl (by rw [HSZ.out]; omega)) _ _ _)).less (by rw [HSZ.out]; omega)
    | false =>
      have z9 := ((y9.put 0 (.int .i64 0)).put 1 (.int .i64 0)).put 2 (.slice none 0 0)
      have e0 := z9.cell 0
      have e1 := z9.cell 1
      have e2 := z9.cell 2
      have r0 := y9.cell 0
      have r1 := y9.cell 1
      have r2 := y9.cell 2
      have fz0 := y9.frozen 0
      have fz1 := y9.frozen 1
      have fz2 := y9.frozen 2
      have lz := y9.lt
      simp only [List.setIfInBounds_toArray, List.set_cons_zero, List.set_cons_succ, List.getElem?_toArray, List.getElem?_cons_zero, List.getElem?_cons_succ] at e0 e1 e2 r0 r1 r2
      clear z9 y9 q0 q1 q2
      go_wp2_with fail
      refine bodyPost_ret (v := .tuple #[.agg #[.int .i64 0, .int .i64 0, .slice none 0 0], .int .i64 8]) (by simp [results, Tryd.results72, go_sem, e0, e1, e2]) rfl ?_
      have hff := HF3.out.put3 (P := w.heap.size + 1) (by omega) (.int .i64 0) (.int .i64 0) (.slice none 0 0)
      obtain ⟨hr, hrd, hq⟩ := HR.out
      have hh : hdT y ≠ (1, m) := of_decide_eq_false hq
      have htk : takeM (1, m) y = .error 8 := by
        rcases hd_take (x := y) HM.out with ⟨h1, _⟩ | ⟨_, h2⟩
        · exact absurd h1 hh
        · exact h2
      exact ⟨hff, 0, 0, none, 0, 0, 8, rfl, .inr ⟨by rw [hr, closedM, htk], by decide, rfl, rfl, rfl, rfl, rfl⟩⟩
  · have d9 : (ec == 0) = false := by simpa using he
    have HR := Lib.hid (And.intro hr he)
    have x9 := x2.alloc (.cells #[.int .i64 0, .int .i64 0, .slice none 0 0] 24)
    have x8 := BoxX.new w2 24 #[.int .i64 0, .int .i64 0, .slice none 0 0]
    have q0 := x8.cell 0
    have q1 := x8.cell 1
    have q2 := x8.cell 2
    simp only [List.getElem?_toArray, List.getElem?_cons_zero, List.getElem?_cons_succ] at q0 q1 q2
    have hbA : Below w2.heap.size w2 (w2.alloc (.cells #[.int .i64 0, .int .i64 0, .slice none 0 0] 24)) := (Below.refl _ _).alloc (Nat.le_refl _) _
    have HF3 := Lib.hid (HF2.out.then hbA)
    clear hr he x2 hbA x8
    have z9 := ((x9.put 0 (.int .i64 0)).put 1 (.int .i64 0)).put 2 ((.slice none 0 0))
    have e0 := z9.cell 0
    have e1 := z9.cell 1
    have e2 := z9.cell 2
    have r0 := x9.cell 0
    have r1 := x9.cell 1
    have r2 := x9.cell 2
    have fz0 := x9.frozen 0
    have fz1 := x9.frozen 1
    have fz2 := x9.frozen 2
    have lz := x9.lt
    simp only [List.setIfInBounds_toArray, List.set_cons_zero, List.set_cons_succ, List.getElem?_toArray, List.getElem?_cons_zero, List.getElem?_cons_succ] at e0 e1 e2 r0 r1 r2
    clear z9 x9
    go_wp2_with fail
    refine bodyPost_ret (v := .tuple #[.agg #[.int .i64 0, .int .i64 0, (.slice none 0 0)], .int .i64 ec]) (by simp [results, Tryd.results72, go_sem, e0, e1, e2]) rfl ?_
    have hff := HF3.out.put3 (P := w.heap.size + 1) (by omega) (.int .i64 0) (.int .i64 0) (.slice none 0 0)
    exact ⟨hff, 0, 0, none, 0, 0, ec, rfl, .inr ⟨by rw [HR.out.1, closedM], HR.out.2, rfl, rfl, rfl, rfl, rfl⟩⟩
end Go.Proofs.YtmkahbbcagfbhaaDoor
