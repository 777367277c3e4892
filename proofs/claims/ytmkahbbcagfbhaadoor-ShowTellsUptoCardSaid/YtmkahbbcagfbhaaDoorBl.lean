/-
  Contracts of package parse's pi and lam. No statement is proved here.
-/
import Derived.Test.YtmkahbbcagfbhaaDoorBk
namespace Go.Proofs.YtmkahbbcagfbhaaDoor
open Go.ChangeShapes Go.WideShapes Go.ChangeAt Go.RowKit
set_option linter.unusedVariables false


theorem NL.full {w : World} {ss : List ByteArray} {A : Option Addr} {n c : Nat} (h : NL w ss A n c) : NL w ss A n n := ⟨h.len, Nat.le_refl _, Nat.le_trans h.le h.cap, h.at_⟩
/-- a node of one or two terms in a row of their own -/
theorem RdN.node1 {lo G : Nat} {w : World} {a : T} {k g : Int} {A : Option Addr} {n c : Nat} {ty : TypeId} {z : Nat × Nat} (hG : w.heap[G]? = some (.cells #[.int .i64 k, .int .i64 g, .slice A n c] ty z)) (hlo : lo ≤ G) (ha : RdN lo w a (.agg #[.int .i64 k, .int .i64 g, .slice A n c])) :
    RdN lo w (.node 3 0 [a]) (.agg #[.int .i64 3, .int .i64 0, .slice (some ⟨G, 0, none⟩) 1 1]) := by
  refine RdF_node.2 ⟨some ⟨G, 0, none⟩, 1, 1, rfl, wfB (by omega) (by omega), wfB (by omega) (by omega), rfl, Nat.le_refl _, by unfold maxLen; omega, fun i t ht => ?_⟩
  have hc : ∀ j, w.cell? ⟨G, j, none⟩ = #[.int .i64 k, .int .i64 g, .slice A n c][j]? := fun j => by simp [World.cell?, hG]
  match i, ht with
  | 0, ht =>
    obtain rfl : a = t := by simpa using ht
    exact ⟨G, 0, _, _, _, rfl, hlo, hc 0, hc 1, hc 2, ha⟩
  | i + 1, ht => simp at ht
theorem RdN.node2 {lo G : Nat} {w : World} {a b : T} {k g k' g' : Int} {A A' : Option Addr} {n c n' c' : Nat} {ty : TypeId} {z : Nat × Nat} (hG : w.heap[G]? = some (.cells #[.int .i64 k, .int .i64 g, .slice A n c, .int .i64 k', .int .i64 g', .slice A' n' c'] ty z)) (hlo : lo ≤ G) (ha : RdN lo w a (.agg #[.int .i64 k, .int .i64 g, .slice A n c])) (hb : RdN lo w b (.agg #[.int .i64 k', .int .i64 g', .slice A' n' c'])) :
    RdN lo w (.node 1 0 [a, b]) (.agg #[.int .i64 1, .int .i64 0, .slice (some ⟨G, 0, none⟩) 2 2]) := by
  refine RdF_node.2 ⟨some ⟨G, 0, none⟩, 2, 2, rfl, wfB (by omega) (by omega), wfB (by omega) (by omega), rfl, Nat.le_refl _, by unfold maxLen; omega, fun i t ht => ?_⟩
  have hc : ∀ j, w.cell? ⟨G, j, none⟩ = #[.int .i64 k, .int .i64 g, .slice A n c, .int .i64 k', .int .i64 g', .slice A' n' c'][j]? := fun j => by simp [World.cell?, hG]
  match i, ht with
  | 0, ht =>
    obtain rfl : a = t := by simpa using ht
    exact ⟨G, 0, _, _, _, rfl, hlo, hc 0, hc 1, hc 2, ha⟩
  | 1, ht =>
    obtain rfl : b = t := by simpa using ht
    exact ⟨G, 0, _, _, _, rfl, hlo, hc 3, hc 4, hc 5, hb⟩
  | i + 2, ht => simp at ht
set_option maxRecDepth 100000 in
set_option maxHeartbeats 2000000 in
theorem pLamC {b0 R K : Nat} {SA : Option Addr} {sn sc : Nat} {sg : List (ByteArray × T)} {k : Nat} (IH : TmC b0 R K SA sn sc sg k) {x : List Tk} {w : World} (h : PS b0 R K SA sn sc sg x w) (ss : List ByteArray) (A : Option Addr) (n c : Nat) (tm : Int) (hN : NL w ss A n c) (hk : ss.length + (k + 1) ≤ 1000) (htm : tm + (k + 1) = 121) (h0tm : 0 ≤ tm) :
    Calls Tryd.prog 70 #[.pointer (some ⟨R, 0, none⟩), .agg #[.slice A n c, .int .i64 tm]] w (TmX w.heap.size b0 R K SA sn sc sg (lamM sg k ss.reverse x) w) := by
  obtain ⟨W, hW⟩ : ∃ W, (w.alloc (.cells #[.slice A n c, .int .i64 tm] 81)).alloc (.cells #[.int .i64 0, .int .i64 0, .slice none 0 0] 24) = W := ⟨_, rfl⟩
  have hb : Below w.heap.size w W := by rw [← hW]; exact ((Below.refl _ _).alloc (Nat.le_refl _) _).alloc (by simp) _
  have x0 : BoxX W w.heap.size 81 #[.slice A n c, .int .i64 tm] := by rw [← hW]; exact (BoxX.new _ _ _).alloc _
  have x1 : BoxX W (w.heap.size + 1) 24 #[.int .i64 0, .int .i64 0, .slice none 0 0] := by
    have := BoxX.new (w.alloc (.cells #[.slice A n c, .int .i64 tm] 81)) 24 #[.int .i64 0, .int .i64 0, .slice none 0 0]
    rw [← hW]; simpa using this
  have hsz : W.heap.size = w.heap.size + 2 := by rw [← hW]; simp
  have hlt := h.lt
  have HB0 := Lib.hid h.le
  have HN := Lib.hid (pNamedC (h.keep hb) ⟨#[93]⟩ (by decide))
  have HNL := Lib.hid (hN.keep hb)
  have HP0 := Lib.hid (h.keep hb)
  have HB := Lib.hid hb
  have HX0 := Lib.hid x0
  have HX1 := Lib.hid x1
  have HSZ := Lib.hid hsz
  clear hb x0 x1 h hN hsz
  subst hW
  go_enter Tryd.func70, Tryd.ntmps70
  go_wp2_with fail
  refine HN.out.mono ?_
  rintro e w1 ⟨hf1, s, q, rfl, _, hres⟩
  have y0 := HX0.out.fr hf1 (by omega)
  have y1 := HX1.out.fr hf1 (by omega)
  have HNL1 := Lib.hid (HNL.out.fr HP0.out hf1)
  have hs1 := hf1.size
  rw [HSZ.out] at hs1
  have HF1 := Lib.hid ((FrB.below HB.out).trans hf1)
  clear HN HNL HP0 HX0 HX1 HB hf1
  generalize ((w.alloc (.cells #[.slice A n c, .int .i64 tm] 81)).alloc (.cells #[.int .i64 0, .int .i64 0, .slice none 0 0] 24)) = W at *
  rcases hres with ⟨y, rfl, hr, hps⟩ | ⟨rfl, hr, _, _⟩
  rotate_left
  · have HR := Lib.hid (show namedM mR x = .error 8 from hr)
    clear hr y0 HNL1
    have z9 := ((y1.put 0 (.int .i64 0)).put 1 (.int .i64 0)).put 2 ((.slice none 0 0))
    have e0 := z9.cell 0
    have e1 := z9.cell 1
    have e2 := z9.cell 2
    have r0 := y1.cell 0
    have r1 := y1.cell 1
    have r2 := y1.cell 2
    have fz0 := y1.frozen 0
    have fz1 := y1.frozen 1
    have fz2 := y1.frozen 2
    have lz := y1.lt
    simp only [List.setIfInBounds_toArray, List.set_cons_zero, List.set_cons_succ, List.getElem?_toArray, List.getElem?_cons_zero, List.getElem?_cons_succ] at e0 e1 e2 r0 r1 r2
    clear z9 y1
    go_wp2_with fail
    refine bodyPost_ret (v := .tuple #[.agg #[.int .i64 0, .int .i64 0, (.slice none 0 0)], .int .i64 8]) (by simp [results, Tryd.results70, go_sem, e0, e1, e2]) rfl ?_
    have hff := HF1.out.put3 (P := w.heap.size + 1) (by omega) (.int .i64 0) (.int .i64 0) (.slice none 0 0)
    exact ⟨hff, 0, 0, none, 0, 0, 8, rfl, .inr ⟨by unfold lamM; rw [HR.out], by decide, rfl, rfl, rfl, rfl, rfl⟩⟩
  have HR := Lib.hid (show namedM mR x = .ok (s, y) from hr)
  have HP1 := Lib.hid hps
  clear hr hps
  have p0 := y0.cell 0
  have p1 := y0.cell 1
  simp only [List.getElem?_toArray, List.getElem?_cons_zero, List.getElem?_cons_succ] at p0 p1
  obtain ⟨W1, hW1⟩ : ∃ W1, w1.alloc (.cells #[.string s] 9) = W1 := ⟨_, rfl⟩
  have hbA : Below w1.heap.size w1 W1 := by rw [← hW1]; exact (Below.refl _ _).alloc (Nat.le_refl _) _
  have xs : BoxX W1 w1.heap.size 9 #[.string s] := by rw [← hW1]; exact BoxX.new _ _ _
  have hI := pInner1C A n c tm W1 (by omega) (by omega) (HNL1.out.keep hbA) (by have := HNL1.out.len; omega) _ s xs
  have HI := Lib.hid hI
  have HA := Lib.hid hbA
  clear hI hbA xs
  subst hW1
  go_wp2_with fail
  refine HI.out.mono ?_
  rintro e w2 ⟨A2, n2, c2, rfl, hnl2, hb2⟩
  have hb2' := HA.out.trans (hb2.mono HA.out.size)
  have hC := IH y w2 (ss ++ [s]) A2 n2 c2 (tm + 1) (HP1.out.keep hb2') hnl2 (by rw [List.length_append, List.length_singleton]; omega) (by omega)
  rw [List.reverse_append] at hC
  have HC := Lib.hid hC
  have HB2 := Lib.hid hb2'
  clear hC hb2 hb2' HI HA hnl2
  go_wp2_with fail
  refine HC.out.mono ?_
  rintro e w3 ⟨hf3, k1, g1, A1, n1, c1', ec, rfl, hres⟩
  have hs2 := HB2.out.size
  have hs3 := hf3.size
  have HF3 := Lib.hid (HF1.out.trans ((FrB.below HB2.out).trans hf3))
  have HM3 := Lib.hid (fun (lo : Nat) (hl : R < lo) => ((Mid.refl lo w1.heap.size w1).below HB2.out (Nat.le_refl _)).fr hf3 hl hs2)
  have z1 := (y1.keep HB2.out y1.lt).fr hf3 (by omega)
  clear HC y0 y1 p0 p1 HNL1 HB2 hf3 HF1 HP1
  rcases hres with ⟨b, y3, hr3, rfl, hrd3, hps3⟩ | ⟨hr3, he3, rfl, rfl, rfl, rfl, rfl⟩
  · have z8 := BoxX.new w3 24 #[.int .i64 k1, .int .i64 g1, .slice A1 n1 c1']
    have q0 := z8.cell 0
    have q1 := z8.cell 1
    have q2 := z8.cell 2
    simp only [List.getElem?_toArray, List.getElem?_cons_zero, List.getElem?_cons_succ] at q0 q1 q2
    obtain ⟨W4, hW4⟩ : ∃ W4, ((w3.alloc (.cells #[.int .i64 k1, .int .i64 g1, (.slice A1 n1 c1')] 24)).alloc (.cells #[.int .i64 k1, .int .i64 g1, (.slice A1 n1 c1')] 24)) = W4 := ⟨_, rfl⟩
    have hb4 : Below w3.heap.size w3 W4 := by rw [← hW4]; exact ((Below.refl _ _).alloc (Nat.le_refl _) _).alloc (by simp) _
    have hG4 : W4.heap[w3.heap.size + 1]? = some (.cells #[.int .i64 k1, .int .i64 g1, .slice A1 n1 c1'] 24 (0, 0)) := by
      have := heap_alloc_new (w3.alloc (.cells #[.int .i64 k1, .int .i64 g1, (.slice A1 n1 c1')] 24)) (.cells #[.int .i64 k1, .int .i64 g1, .slice A1 n1 c1'] 24)
      rw [← hW4]; simpa using this
    have z4 := z1.keep hb4 z1.lt
    have HF4 := Lib.hid (HF3.out.then hb4)
    have HR3 := Lib.hid (And.intro hr3 (And.intro (hrd3.keep hb4) (And.intro (hps3.keep hb4) hG4)))
    have hs4 := hb4.size
    clear hr3 hrd3 hps3 hb4 z8 z1 HF3 HM3 hG4
    subst hW4
    have z9 := ((z4.put 0 (.int .i64 3)).put 1 (.int .i64 0)).put 2 ((.slice (some ⟨w3.heap.size + 1, 0, none⟩) 1 1))
    have e0 := z9.cell 0
    have e1 := z9.cell 1
    have e2 := z9.cell 2
    have r0 := z4.cell 0
    have r1 := z4.cell 1
    have r2 := z4.cell 2
    have fz0 := z4.frozen 0
    have fz1 := z4.frozen 1
    have fz2 := z4.frozen 2
    have lz := z4.lt
    simp only [List.setIfInBounds_toArray, List.set_cons_zero, List.set_cons_succ, List.getElem?_toArray, List.getElem?_cons_zero, List.getElem?_cons_succ] at e0 e1 e2 r0 r1 r2
    clear z9 z4
    go_wp2_with fail
    refine bodyPost_ret (v := .tuple #[.agg #[.int .i64 3, .int .i64 0, (.slice (some ⟨w3.heap.size + 1, 0, none⟩) 1 1)], .int .i64 0]) (by simp [results, Tryd.results70, go_sem, e0, e1, e2]) rfl ?_
    have hff := HF4.out.put3 (P := w.heap.size + 1) (by omega) (.int .i64 3) (.int .i64 0) (.slice (some ⟨w3.heap.size + 1, 0, none⟩) 1 1)
    obtain ⟨hr3, hrd3, hps3, hG4⟩ := HR3.out
    refine ⟨hff, 3, 0, some ⟨w3.heap.size + 1, 0, none⟩, 1, 1, 0, rfl, .inl ⟨.node 3 0 [b], y3, ?_, rfl, ?_, hps3.put3 (by have := HB0.out; omega) (by omega) _ _ _⟩⟩
    · unfold lamM; rw [HR.out]; dsimp only; rw [show termM sg k (s :: ss.reverse) y = .ok (b, y3) from hr3]
    · refine RdN.less (lo := w2.heap.size) ?_ (by omega)
      refine RdN.node1 (G := w3.heap.size + 1) ((heap_other3Q _ _ _ _ _ _ (by omega)).trans hG4) (by omega) ?_
      exact hrd3.to fun b' h1 h2 => heap_other3Q _ _ _ _ _ _ (by omega)
  · have d9 : (ec == 0) = false := by simpa using he3
    have HR3 := Lib.hid (And.intro hr3 he3)
    have z8 := BoxX.new w3 24 #[.int .i64 0, .int .i64 0, .slice none 0 0]
    have q0 := z8.cell 0
    have q1 := z8.cell 1
    have q2 := z8.cell 2
    simp only [List.getElem?_toArray, List.getElem?_cons_zero, List.getElem?_cons_succ] at q0 q1 q2
    have z4 := z1.alloc (.cells #[.int .i64 0, .int .i64 0, .slice none 0 0] 24)
    have HF4 := Lib.hid (HF3.out.then ((Below.refl _ _).alloc (Nat.le_refl _) (.cells #[.int .i64 0, .int .i64 0, .slice none 0 0] 24)))
    clear hr3 he3 z8 z1 HF3 HM3
    have z9 := ((z4.put 0 (.int .i64 0)).put 1 (.int .i64 0)).put 2 ((.slice none 0 0))
    have e0 := z9.cell 0
    have e1 := z9.cell 1
    have e2 := z9.cell 2
    have r0 := z4.cell 0
    have r1 := z4.cell 1
    have r2 := z4.cell 2
    have fz0 := z4.frozen 0
    have fz1 := z4.frozen 1
    have fz2 := z4.frozen 2
    have lz := z4.lt
    simp only [List.setIfInBounds_toArray, List.set_cons_zero, List.set_cons_succ, List.getElem?_toArray, List.getElem?_cons_zero, List.getElem?_cons_succ] at e0 e1 e2 r0 r1 r2
    clear z9 z4
    go_wp2_with fail
    refine bodyPost_ret (v := .tuple #[.agg #[.int .i64 0, .int .i64 0, (.slice none 0 0)], .int .i64 ec]) (by simp [results, Tryd.results70, go_sem, e0, e1, e2]) rfl ?_
    have hff := HF4.out.put3 (P := w.heap.size + 1) (by omega) (.int .i64 0) (.int .i64 0) (.slice none 0 0)
    exact ⟨hff, 0, 0, none, 0, 0, ec, rfl, .inr ⟨by unfold lamM; rw [HR.out]; dsimp only; rw [show termM sg k (s :: ss.reverse) y = .error ec from HR3.out.1], HR3.out.2, rfl, rfl, rfl, rfl, rfl⟩⟩
set_option maxRecDepth 100000 in
set_option maxHeartbeats 2000000 in
theorem pPiC {b0 R K : Nat} {SA : Option Addr} {sn sc : Nat} {sg : List (ByteArray × T)} {k : Nat} (IH : TmC b0 R K SA sn sc sg k) {x : List Tk} {w : World} (h : PS b0 R K SA sn sc sg x w) (ss : List ByteArray) (A : Option Addr) (n c : Nat) (tm : Int) (hN : NL w ss A n c) (hk : ss.length + (k + 1) ≤ 1000) (htm : tm + (k + 1) = 121) (h0tm : 0 ≤ tm) :
    Calls Tryd.prog 69 #[.pointer (some ⟨R, 0, none⟩), .agg #[.slice A n c, .int .i64 tm]] w (TmX w.heap.size b0 R K SA sn sc sg (piM sg k ss.reverse x) w) := by
  obtain ⟨W, hW⟩ : ∃ W, (w.alloc (.cells #[.slice A n c, .int .i64 tm] 81)).alloc (.cells #[.int .i64 0, .int .i64 0, .slice none 0 0] 24) = W := ⟨_, rfl⟩
  have hb : Below w.heap.size w W := by rw [← hW]; exact ((Below.refl _ _).alloc (Nat.le_refl _) _).alloc (by simp) _
  have x0 : BoxX W w.heap.size 81 #[.slice A n c, .int .i64 tm] := by rw [← hW]; exact (BoxX.new _ _ _).alloc _
  have x1 : BoxX W (w.heap.size + 1) 24 #[.int .i64 0, .int .i64 0, .slice none 0 0] := by
    have := BoxX.new (w.alloc (.cells #[.slice A n c, .int .i64 tm] 81)) 24 #[.int .i64 0, .int .i64 0, .slice none 0 0]
    rw [← hW]; simpa using this
  have hsz : W.heap.size = w.heap.size + 2 := by rw [← hW]; simp
  have hlt := h.lt
  have HB0 := Lib.hid h.le
  have HN := Lib.hid (pNamedC (h.keep hb) ⟨#[58]⟩ (by decide))
  have HNL := Lib.hid (hN.keep hb)
  have HP0 := Lib.hid (h.keep hb)
  have HB := Lib.hid hb
  have HX0 := Lib.hid x0
  have HX1 := Lib.hid x1
  have HSZ := Lib.hid hsz
  clear hb x0 x1 h hN hsz
  subst hW
  go_enter Tryd.func69, Tryd.ntmps69
  go_wp2_with fail
  refine HN.out.mono ?_
  rintro e w1 ⟨hf1, s, q, rfl, _, hres⟩
  have y0 := HX0.out.fr hf1 (by omega)
  have y1 := HX1.out.fr hf1 (by omega)
  have HNL1 := Lib.hid (HNL.out.fr HP0.out hf1)
  have hs1 := hf1.size
  rw [HSZ.out] at hs1
  have HF1 := Lib.hid ((FrB.below HB.out).trans hf1)
  clear HN HNL HP0 HX0 HX1 HB hf1
  generalize ((w.alloc (.cells #[.slice A n c, .int .i64 tm] 81)).alloc (.cells #[.int .i64 0, .int .i64 0, .slice none 0 0] 24)) = W at *
  rcases hres with ⟨y, rfl, hr, hps⟩ | ⟨rfl, hr, _, _⟩
  rotate_left
  · have HR := Lib.hid (show namedM mK x = .error 8 from hr)
    clear hr y0 HNL1
    have z9 := ((y1.put 0 (.int .i64 0)).put 1 (.int .i64 0)).put 2 ((.slice none 0 0))
    have e0 := z9.cell 0
    have e1 := z9.cell 1
    have e2 := z9.cell 2
    have r0 := y1.cell 0
    have r1 := y1.cell 1
    have r2 := y1.cell 2
    have fz0 := y1.frozen 0
    have fz1 := y1.frozen 1
    have fz2 := y1.frozen 2
    have lz := y1.lt
    simp only [List.setIfInBounds_toArray, List.set_cons_zero, List.set_cons_succ, List.getElem?_toArray, List.getElem?_cons_zero, List.getElem?_cons_succ] at e0 e1 e2 r0 r1 r2
    clear z9 y1
    go_wp2_with fail
    refine bodyPost_ret (v := .tuple #[.agg #[.int .i64 0, .int .i64 0, (.slice none 0 0)], .int .i64 8]) (by simp [results, Tryd.results69, go_sem, e0, e1, e2]) rfl ?_
    have hff := HF1.out.put3 (P := w.heap.size + 1) (by omega) (.int .i64 0) (.int .i64 0) (.slice none 0 0)
    exact ⟨hff, 0, 0, none, 0, 0, 8, rfl, .inr ⟨by unfold piM; rw [HR.out], by decide, rfl, rfl, rfl, rfl, rfl⟩⟩
  have HR := Lib.hid (show namedM mK x = .ok (s, y) from hr)
  have HP1 := Lib.hid hps
  clear hr hps
  have p0 := y0.cell 0
  have p1 := y0.cell 1
  simp only [List.getElem?_toArray, List.getElem?_cons_zero, List.getElem?_cons_succ] at p0 p1
  have hI := pInner0C A n c tm w1 (by omega) (by omega) HNL1.out
  have HI := Lib.hid hI
  clear hI
  go_wp2_with fail
  refine HI.out.mono ?_
  rintro e w2 ⟨rfl, hb2⟩
  have hC := pClosedC IH (HP1.out.keep hb2) ss A n n (tm + 1) (HNL1.out.full.keep hb2) (by omega) (by omega) ⟨#[125]⟩ (by decide)
  have HC := Lib.hid hC
  have HB2 := Lib.hid hb2
  clear hC hb2 HI
  go_wp2_with fail
  refine HC.out.mono ?_
  rintro e w3 ⟨hf3, ka, ga, Aa, na, ca, ec, rfl, hres⟩
  have hs2 := HB2.out.size
  have hs3 := hf3.size
  have HF3 := Lib.hid (HF1.out.trans ((FrB.below HB2.out).trans hf3))
  have z1 := (y1.keep HB2.out y1.lt).fr hf3 (by omega)
  have z0 := (y0.keep HB2.out y0.lt).fr hf3 (by omega)
  have HNL3 := Lib.hid ((HNL1.out.keep HB2.out).fr (HP1.out.keep HB2.out) hf3)
  clear HC y0 y1 p0 p1 HNL1 HB2 hf3 HF1 HP1
  rcases hres with ⟨a, y2, hr3, rfl, hrd3, hps3⟩ | ⟨hr3, he3, rfl, rfl, rfl, rfl, rfl⟩
  · have z8 := BoxX.new w3 24 #[.int .i64 ka, .int .i64 ga, .slice Aa na ca]
    have q0 := z8.cell 0
    have q1 := z8.cell 1
    have q2 := z8.cell 2
    simp only [List.getElem?_toArray, List.getElem?_cons_zero, List.getElem?_cons_succ] at q0 q1 q2
    obtain ⟨W4, hW4⟩ : ∃ W4, (w3.alloc (.cells #[.int .i64 ka, .int .i64 ga, (.slice Aa na ca)] 24)) = W4 := ⟨_, rfl⟩
    have hb4 : Below w3.heap.size w3 W4 := by rw [← hW4]; exact (Below.refl _ _).alloc (Nat.le_refl _) _
    have z14 := z1.keep hb4 z1.lt
    have z04 := z0.keep hb4 z0.lt
    rw [hW4] at z8 q0 q1 q2
    have HF4 := Lib.hid (HF3.out.then hb4)
    have HNL4 := Lib.hid (HNL3.out.keep hb4)
    have HP4 := Lib.hid (hps3.keep hb4)
    have HRa := Lib.hid (And.intro hr3 (hrd3.keep hb4))
    have hs4 := hb4.size
    have hl4 : W4.heap.size = w3.heap.size + 1 := by rw [← hW4]; simp
    clear hr3 hrd3 hps3 hb4 z1 z0 HF3 HNL3
    have p0 := z04.cell 0
    have p1 := z04.cell 1
    simp only [List.getElem?_toArray, List.getElem?_cons_zero, List.getElem?_cons_succ] at p0 p1
    obtain ⟨W5, hW5⟩ : ∃ W5, W4.alloc (.cells #[.string s] 9) = W5 := ⟨_, rfl⟩
    have hbA : Below W4.heap.size W4 W5 := by rw [← hW5]; exact (Below.refl _ _).alloc (Nat.le_refl _) _
    have xs : BoxX W5 (w3.heap.size + 1) 9 #[.string s] := by rw [← hW5, ← hl4]; exact BoxX.new _ _ _
    have hI := pInner1C A n c tm W5 (by omega) (by omega) (HNL4.out.keep hbA) (by have := HNL4.out.len; omega) _ s xs
    have HI := Lib.hid hI
    have HA := Lib.hid hbA
    clear hI hbA xs
    subst hW5
    subst hW4
    go_wp2_with fail
    refine HI.out.mono ?_
    rintro e w5 ⟨A2, n2, c2, rfl, hnl5, hb5⟩
    have hb5' := HA.out.trans (hb5.mono HA.out.size)
    have hC := IH y2 w5 (ss ++ [s]) A2 n2 c2 (tm + 1) (HP4.out.keep hb5') hnl5 (by rw [List.length_append, List.length_singleton]; omega) (by omega)
    rw [List.reverse_append] at hC
    have HC := Lib.hid hC
    have HB5 := Lib.hid hb5'
    clear hC hb5 hb5' HI HA hnl5
    go_wp2_with fail
    refine HC.out.mono ?_
    rintro e w6 ⟨hf6, kb, gb, Ab, nb, cb, ec, rfl, hres⟩
    have hs5 := HB5.out.size
    have hs6 := hf6.size
    have HF6 := Lib.hid (HF4.out.trans ((FrB.below HB5.out).trans hf6))
    have HMa := Lib.hid (((Mid.refl w2.heap.size (w3.alloc (.cells #[.int .i64 ka, .int .i64 ga, (.slice Aa na ca)] 24)).heap.size (w3.alloc (.cells #[.int .i64 ka, .int .i64 ga, (.slice Aa na ca)] 24))).below HB5.out (Nat.le_refl _)).fr hf6 (by omega) hs5)
    have z16 := (z14.keep HB5.out z14.lt).fr hf6 (by omega)
    have z86 := (z8.keep HB5.out z8.lt).fr hf6 (by omega)
    have HRa6 := Lib.hid (And.intro HRa.out.1 (RdN.to HRa.out.2 HMa.out))
    clear HC z14 z8 z04 p0 p1 q0 q1 q2 HNL4 HB5 hf6 HF4 HP4 HRa HMa
    generalize (w3.alloc (.cells #[.int .i64 ka, .int .i64 ga, (.slice Aa na ca)] 24)) = W4 at *
    rcases hres with ⟨b, y3, hr6, rfl, hrd6, hps6⟩ | ⟨hr6, he6, rfl, rfl, rfl, rfl, rfl⟩
    · have z9 := BoxX.new w6 24 #[.int .i64 kb, .int .i64 gb, .slice Ab nb cb]
      have q0 := z9.cell 0
      have q1 := z9.cell 1
      have q2 := z9.cell 2
      simp only [List.getElem?_toArray, List.getElem?_cons_zero, List.getElem?_cons_succ] at q0 q1 q2
      have z87 := z86.alloc (.cells #[.int .i64 kb, .int .i64 gb, .slice Ab nb cb] 24)
      have s0 := z87.cell 0
      have s1 := z87.cell 1
      have s2 := z87.cell 2
      simp only [List.getElem?_toArray, List.getElem?_cons_zero, List.getElem?_cons_succ] at s0 s1 s2
      obtain ⟨W7, hW7⟩ : ∃ W7, ((w6.alloc (.cells #[.int .i64 kb, .int .i64 gb, (.slice Ab nb cb)] 24)).alloc (.cells #[.int .i64 ka, .int .i64 ga, .slice Aa na ca, .int .i64 kb, .int .i64 gb, .slice Ab nb cb] 24)) = W7 := ⟨_, rfl⟩
      have hb7 : Below w6.heap.size w6 W7 := by rw [← hW7]; exact ((Below.refl _ _).alloc (Nat.le_refl _) _).alloc (by simp) _
      have hG7 : W7.heap[w6.heap.size + 1]? = some (.cells #[.int .i64 ka, .int .i64 ga, .slice Aa na ca, .int .i64 kb, .int .i64 gb, .slice Ab nb cb] 24 (0, 0)) := by
        have := heap_alloc_new (w6.alloc (.cells #[.int .i64 kb, .int .i64 gb, (.slice Ab nb cb)] 24)) (.cells #[.int .i64 ka, .int .i64 ga, .slice Aa na ca, .int .i64 kb, .int .i64 gb, .slice Ab nb cb] 24)
        rw [← hW7]; simpa using this
      have z17 := z16.keep hb7 z16.lt
      have HF7 := Lib.hid (HF6.out.then hb7)
      have HR7 := Lib.hid (And.intro hr6 (And.intro (hrd6.keep hb7) (And.intro (hps6.keep hb7) (And.intro hG7 (And.intro HRa6.out.1 (RdN.keep HRa6.out.2 hb7))))))
      have hs7 := hb7.size
      clear hr6 hrd6 hps6 hb7 z9 z16 HF6 hG7 HRa6 z86 z87
      subst hW7
      have z9 := ((z17.put 0 (.int .i64 1)).put 1 (.int .i64 0)).put 2 ((.slice (some ⟨w6.heap.size + 1, 0, none⟩) 2 2))
      have e0 := z9.cell 0
      have e1 := z9.cell 1
      have e2 := z9.cell 2
      have r0 := z17.cell 0
      have r1 := z17.cell 1
      have r2 := z17.cell 2
      have fz0 := z17.frozen 0
      have fz1 := z17.frozen 1
      have fz2 := z17.frozen 2
      have lz := z17.lt
      simp only [List.setIfInBounds_toArray, List.set_cons_zero, List.set_cons_succ, List.getElem?_toArray, List.getElem?_cons_zero, List.getElem?_cons_succ] at e0 e1 e2 r0 r1 r2
      clear z9 z17
      go_wp2_with fail
      refine bodyPost_ret (v := .tuple #[.agg #[.int .i64 1, .int .i64 0, (.slice (some ⟨w6.heap.size + 1, 0, none⟩) 2 2)], .int .i64 0]) (by simp [results, Tryd.results69, go_sem, e0, e1, e2]) rfl ?_
      have hff := HF7.out.put3 (P := w.heap.size + 1) (by omega) (.int .i64 1) (.int .i64 0) (.slice (some ⟨w6.heap.size + 1, 0, none⟩) 2 2)
      obtain ⟨hr6, hrd6, hps6, hG7, hra, hrda⟩ := HR7.out
      refine ⟨hff, 1, 0, some ⟨w6.heap.size + 1, 0, none⟩, 2, 2, 0, rfl, .inl ⟨.node 1 0 [a, b], y3, ?_, rfl, ?_, hps6.put3 (by have := HB0.out; omega) (by omega) _ _ _⟩⟩
      · unfold piM; rw [HR.out]; dsimp only; rw [show closedM mQ (termM sg k ss.reverse y) = .ok (a, y2) from hra]; dsimp only; rw [show termM sg k (s :: ss.reverse) y2 = .ok (b, y3) from hr6]
      · refine RdN.less (lo := w2.heap.size) ?_ (by omega)
        refine RdN.node2 (G := w6.heap.size + 1) ((heap_other3Q _ _ _ _ _ _ (by omega)).trans hG7) (by omega) ?_ ?_
        · exact hrda.to fun b' h1 h2 => heap_other3Q _ _ _ _ _ _ (by omega)
        · exact (hrd6.to fun b' h1 h2 => heap_other3Q _ _ _ _ _ _ (by omega)).less (by omega)
    · have d9 : (ec == 0) = false := by simpa using he6
      have HR7 := Lib.hid (And.intro hr6 (And.intro he6 HRa6.out.1))
      have z9 := BoxX.new w6 24 #[.int .i64 0, .int .i64 0, .slice none 0 0]
      have q0 := z9.cell 0
      have q1 := z9.cell 1
      have q2 := z9.cell 2
      simp only [List.getElem?_toArray, List.getElem?_cons_zero, List.getElem?_cons_succ] at q0 q1 q2
      have z17 := z16.alloc (.cells #[.int .i64 0, .int .i64 0, .slice none 0 0] 24)
      have HF7 := Lib.hid (HF6.out.then ((Below.refl _ _).alloc (Nat.le_refl _) (.cells #[.int .i64 0, .int .i64 0, .slice none 0 0] 24)))
      clear hr6 he6 z9 z16 HF6 HRa6 z86
      have z9 := ((z17.put 0 (.int .i64 0)).put 1 (.int .i64 0)).put 2 ((.slice none 0 0))
      have e0 := z9.cell 0
      have e1 := z9.cell 1
      have e2 := z9.cell 2
      have r0 := z17.cell 0
      have r1 := z17.cell 1
      have r2 := z17.cell 2
      have fz0 := z17.frozen 0
      have fz1 := z17.frozen 1
      have fz2 := z17.frozen 2
      have lz := z17.lt
      simp only [List.setIfInBounds_toArray, List.set_cons_zero, List.set_cons_succ, List.getElem?_toArray, List.getElem?_cons_zero, List.getElem?_cons_succ] at e0 e1 e2 r0 r1 r2
      clear z9 z17
      go_wp2_with fail
      refine bodyPost_ret (v := .tuple #[.agg #[.int .i64 0, .int .i64 0, (.slice none 0 0)], .int .i64 ec]) (by simp [results, Tryd.results69, go_sem, e0, e1, e2]) rfl ?_
      have hff := HF7.out.put3 (P := w.heap.size + 1) (by omega) (.int .i64 0) (.int .i64 0) (.slice none 0 0)
      exact ⟨hff, 0, 0, none, 0, 0, ec, rfl, .inr ⟨by unfold piM; rw [HR.out]; dsimp only; rw [show closedM mQ (termM sg k ss.reverse y) = .ok (a, y2) from HR7.out.2.2]; dsimp only; rw [show termM sg k (s :: ss.reverse) y2 = .error ec from HR7.out.1], HR7.out.2.1, rfl, rfl, rfl, rfl, rfl⟩⟩
  · have d9 : (ec == 0) = false := by simpa using he3
    have HR3 := Lib.hid (And.intro hr3 he3)
    have z8 := BoxX.new w3 24 #[.int .i64 0, .int .i64 0, .slice none 0 0]
    have q0 := z8.cell 0
    have q1 := z8.cell 1
    have q2 := z8.cell 2
    simp only [List.getElem?_toArray, List.getElem?_cons_zero, List.getElem?_cons_succ] at q0 q1 q2
    have z4 := z1.alloc (.cells #[.int .i64 0, .int .i64 0, .slice none 0 0] 24)
    have HF4 := Lib.hid (HF3.out.then ((Below.refl _ _).alloc (Nat.le_refl _) (.cells #[.int .i64 0, .int .i64 0, .slice none 0 0] 24)))
    clear hr3 he3 z8 z1 z0 HF3 HNL3
    have z9 := ((z4.put 0 (.int .i64 0)).put 1 (.int .i64 0)).put 2 ((.slice none 0 0))
    have e0 := z9.cell 0
    have e1 := z9.cell 1
    have e2 := z9.cell 2
    have r0 := z4.cell 0
    have r1 := z4.cell 1
    have r2 := z4.cell 2
    have fz0 := z4.frozen 0
    have fz1 := z4.frozen 1
    have fz2 := z4.frozen 2
    have lz := z4.lt
    simp only [List.setIfInBounds_toArray, List.set_cons_zero, List.set_cons_succ, List.getElem?_toArray, List.getElem?_cons_zero, List.getElem?_cons_succ] at e0 e1 e2 r0 r1 r2
    clear z9 z4
    go_wp2_with fail
    refine bodyPost_ret (v := .tuple #[.agg #[.int .i64 0, .int .i64 0, (.slice none 0 0)], .int .i64 ec]) (by simp [results, Tryd.results69, go_sem, e0, e1, e2]) rfl ?_
    have hff := HF4.out.put3 (P := w.heap.size + 1) (by omega) (.int .i64 0) (.int .i64 0) (.slice none 0 0)
    exact ⟨hff, 0, 0, none, 0, 0, ec, rfl, .inr ⟨by unfold piM; rw [HR.out]; dsimp only; rw [show closedM mQ (termM sg k ss.reverse y) = .error ec from HR3.out.1], HR3.out.2, rfl, rfl, rfl, rfl, rfl⟩⟩
end Go.Proofs.YtmkahbbcagfbhaaDoor
