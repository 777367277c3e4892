/-
  Contract of package parse's term, at each depth. No statement is proved here.
-/
import Derived.Test.YtmkahbbcagfbhaaDoorBm
namespace Go.Proofs.YtmkahbbcagfbhaaDoor
open Go.ChangeShapes Go.WideShapes Go.ChangeAt Go.RowKit
set_option linter.unusedVariables false


theorem list_P : (⟨#[123]⟩ : ByteArray).toList = [123] := by kernel_rfl
theorem list_L : (⟨#[91]⟩ : ByteArray).toList = [91] := by kernel_rfl
theorem list_O : (⟨#[40]⟩ : ByteArray).toList = [40] := by kernel_rfl
theorem eq_P (s : ByteArray) : (s.toList == [123]) = decide (s = ⟨#[123]⟩) := by have h := bytes_eqB s ⟨#[123]⟩; rw [list_P] at h; exact h
theorem eq_L (s : ByteArray) : (s.toList == [91]) = decide (s = ⟨#[91]⟩) := by have h := bytes_eqB s ⟨#[91]⟩; rw [list_L] at h; exact h
theorem eq_O (s : ByteArray) : (s.toList == [40]) = decide (s = ⟨#[40]⟩) := by have h := bytes_eqB s ⟨#[40]⟩; rw [list_O] at h; exact h
theorem eq_T (s : ByteArray) : (s.toList == [116, 121, 112, 101]) = decide (s = tyN) := by rw [← ty_list]; exact bytes_eqB s _
set_option maxRecDepth 100000 in
set_option maxHeartbeats 2000000 in
theorem pTermAt {b0 R K : Nat} {SA : Option Addr} {sn sc : Nat} {sg : List (ByteArray × T)} (k : Nat) (IH : ∀ kk, k = kk + 1 → TmC b0 R K SA sn sc sg kk) (hk120 : k ≤ 120) : TmC b0 R K SA sn sc sg k := by
  intro x w ss A n c tm h hN hk htm
  have hgood := h.good
  have hsgf := h.sgf
  have hlN := hN.len
  have HNW := Lib.hid hN
  show Calls Tryd.prog 54 #[.pointer (some ⟨R, 0, none⟩), .agg #[.slice A n c, .int .i64 tm]] w (TmX w.heap.size b0 R K SA sn sc sg (termM sg k ss.reverse x) w)
  obtain ⟨W, hW⟩ : ∃ W, (w.alloc (.cells #[.slice A n c, .int .i64 tm] 81)).alloc (.cells #[.int .i64 0, .int .i64 0, .slice none 0 0] 24) = W := ⟨_, rfl⟩
  have hb : Below w.heap.size w W := by rw [← hW]; exact ((Below.refl _ _).alloc (Nat.le_refl _) _).alloc (by simp) _
  have x0 : BoxX W w.heap.size 81 #[.slice A n c, .int .i64 tm] := by rw [← hW]; exact (BoxX.new _ _ _).alloc _
  have x1 : BoxX W (w.heap.size + 1) 24 #[.int .i64 0, .int .i64 0, .slice none 0 0] := by
    have := BoxX.new (w.alloc (.cells #[.slice A n c, .int .i64 tm] 81)) 24 #[.int .i64 0, .int .i64 0, .slice none 0 0]
    rw [← hW]; simpa using this
  have hsz : W.heap.size = w.heap.size + 2 := by rw [← hW]; simp
  have hlt := h.lt
  have HPW := Lib.hid h
  have HB0 := Lib.hid h.le

  have hNx := pNextC (h.keep hb)
  obtain ⟨t1, ht1⟩ : ∃ t1, (hdT x).1 = t1 := ⟨_, rfl⟩
  obtain ⟨t2, ht2⟩ : ∃ t2, (hdT x).2 = t2 := ⟨_, rfl⟩
  rw [ht1, ht2] at hNx
  have HT := Lib.hid (show hdT x = (t1, t2) from Prod.ext ht1 ht2)
  have hsz2 : t2.size ≤ maxLen := by
    rw [← ht2]
    cases x with
    | nil => exact Nat.zero_le _
    | cons t r => exact (hgood t List.mem_cons_self).sz
  have HG := Lib.hid hgood
  have HN := Lib.hid hNx
  have HB := Lib.hid hb
  have HX0 := Lib.hid x0
  have HX1 := Lib.hid x1
  have HSZ := Lib.hid hsz
  clear hb x0 x1 h hN hsz hNx ht1 ht2 hgood
  subst hW
  go_enter Tryd.func54, Tryd.ntmps54
  go_wp2_with fail
  refine HN.out.mono ?_
  rintro e w1 ⟨rfl, hb1⟩
  have hs1 := hb1.size
  rw [HSZ.out] at hs1
  have y0 := HX0.out.keep hb1 HX0.out.lt
  have y1 := HX1.out.keep hb1 HX1.out.lt
  have HB1 := Lib.hid (HB.out.trans (hb1.mono HB.out.size))
  clear HN HX0 HX1 HB hb1
  generalize ((w.alloc (.cells #[.slice A n c, .int .i64 tm] 81)).alloc (.cells #[.int .i64 0, .int .i64 0, .slice none 0 0] 24)) = W at *
  obtain ⟨W1, hW1⟩ : ∃ W1, w1.alloc (.cells #[.int .i64 t1, .string t2] 64) = W1 := ⟨_, rfl⟩
  have hbA : Below w1.heap.size w1 W1 := by rw [← hW1]; exact (Below.refl _ _).alloc (Nat.le_refl _) _
  have xt : BoxX W1 w1.heap.size 64 #[.int .i64 t1, .string t2] := by rw [← hW1]; exact BoxX.new _ _ _
  have a0 := y0.keep hbA y0.lt
  have a1 := y1.keep hbA y1.lt
  have hbW1 := HB1.out.trans (hbA.mono HB1.out.size)
  have hFi := pFirstC (HPW.out.keep hbW1) ss A n c tm (HNW.out.keep hbW1) t1 t2 hsz2
  have HFi := Lib.hid hFi
  have HBW := Lib.hid hbW1
  have p0 := a0.cell 0
  have p1 := a0.cell 1
  simp only [List.getElem?_toArray, List.getElem?_cons_zero, List.getElem?_cons_succ] at p0 p1
  have v0 := xt.cell 0
  have v1 := xt.cell 1
  simp only [List.getElem?_toArray, List.getElem?_cons_zero, List.getElem?_cons_succ] at v0 v1
  have hsA := hbA.size
  have hl1 : W1.heap.size = w1.heap.size + 1 := by rw [← hW1]; simp
  clear hbA y0 y1 HB1 hFi hbW1
  subst hW1
  go_wp2_with fail
  refine HFi.out.mono ?_
  rintro e w2 ⟨hb2, kh, gh, ec, rfl, hres⟩
  have hs2 := hb2.size
  obtain ⟨W3, hW3⟩ : ∃ W3, (w2.alloc (.cells #[.int .i64 kh, .int .i64 gh, (.slice none 0 0)] 24)) = W3 := ⟨_, rfl⟩
  have hb3 : Below w2.heap.size w2 W3 := by rw [← hW3]; exact (Below.refl _ _).alloc (Nat.le_refl _) _
  have xh : BoxX W3 w2.heap.size 24 #[.int .i64 kh, .int .i64 gh, .slice none 0 0] := by rw [← hW3]; exact BoxX.new _ _ _
  have hb23 := hb2.trans (hb3.mono hb2.size)
  have b0' := a0.keep hb23 a0.lt
  have b1 := a1.keep hb23 a1.lt
  have bt := xt.keep hb23 xt.lt
  have HBW3 := Lib.hid (HBW.out.trans (hb23.mono HBW.out.size))
  have hl3 : W3.heap.size = w2.heap.size + 1 := by rw [← hW3]; simp
  have HRH := Lib.hid hres
  clear hb3 hb2 hb23 a0 a1 xt p0 p1 v0 v1 HFi HBW hres
  generalize (w1.alloc (.cells #[.int .i64 t1, .string t2] 64)) = W1 at *
  have p0 := b0'.cell 0
  have p1 := b0'.cell 1
  simp only [List.getElem?_toArray, List.getElem?_cons_zero, List.getElem?_cons_succ] at p0 p1
  have v0 := bt.cell 0
  have v1 := bt.cell 1
  simp only [List.getElem?_toArray, List.getElem?_cons_zero, List.getElem?_cons_succ] at v0 v1
  have q0 := xh.cell 0
  have q1 := xh.cell 1
  have q2 := xh.cell 2
  simp only [List.getElem?_toArray, List.getElem?_cons_zero, List.getElem?_cons_succ] at q0 q1 q2
  have hl0 := b0'.lt
  rcases HRH.out with ⟨hfi, rfl⟩ | ⟨hfi, he, rfl, rfl⟩
  rotate_left
  · have d9 : (ec == 0) = false := by simpa using he
    have HE := Lib.hid (And.intro hfi he)
    have HFF := Lib.hid (FrB.below (R := R) HBW3.out)
    clear hfi he HRH bt xh
    subst hW3
    have z9 := ((b1.put 0 (.int .i64 0)).put 1 (.int .i64 0)).put 2 ((.slice none 0 0))
    have e0 := z9.cell 0
    have e1 := z9.cell 1
    have e2 := z9.cell 2
    have r0 := b1.cell 0
    have r1 := b1.cell 1
    have r2 := b1.cell 2
    have fz0 := b1.frozen 0
    have fz1 := b1.frozen 1
    have fz2 := b1.frozen 2
    have lz := b1.lt
    simp only [List.setIfInBounds_toArray, List.set_cons_zero, List.set_cons_succ, List.getElem?_toArray, List.getElem?_cons_zero, List.getElem?_cons_succ] at e0 e1 e2 r0 r1 r2
    clear z9 b1
    go_wp2_with fail
    refine bodyPost_ret (v := .tuple #[.agg #[.int .i64 0, .int .i64 0, (.slice none 0 0)], .int .i64 ec]) (by simp [results, Tryd.results54, go_sem, e0, e1, e2]) rfl ?_
    have hff := HFF.out.put3 (P := w.heap.size + 1) (by omega) (.int .i64 0) (.int .i64 0) (.slice none 0 0)
    exact ⟨hff, 0, 0, none, 0, 0, ec, rfl, .inr ⟨term_bad sg k ss.reverse x (by rw [HT.out]; exact HE.out.1), HE.out.2, rfl, rfl, rfl, rfl, rfl⟩⟩
  by_cases htm2 : 120 < tm
  · have d1 : decide (120 < tm) = true := by simpa using htm2
    obtain rfl : k = 0 := by omega
    have HE := Lib.hid hfi
    have HFF := Lib.hid (FrB.below (R := R) HBW3.out)
    clear hfi HRH bt xh htm2
    subst hW3
    have z9 := ((b1.put 0 (.int .i64 0)).put 1 (.int .i64 0)).put 2 ((.slice none 0 0))
    have e0 := z9.cell 0
    have e1 := z9.cell 1
    have e2 := z9.cell 2
    have r0 := b1.cell 0
    have r1 := b1.cell 1
    have r2 := b1.cell 2
    have fz0 := b1.frozen 0
    have fz1 := b1.frozen 1
    have fz2 := b1.frozen 2
    have lz := b1.lt
    simp only [List.setIfInBounds_toArray, List.set_cons_zero, List.set_cons_succ, List.getElem?_toArray, List.getElem?_cons_zero, List.getElem?_cons_succ] at e0 e1 e2 r0 r1 r2
    clear z9 b1
    go_wp2_with fail
    refine bodyPost_ret (v := .tuple #[.agg #[.int .i64 0, .int .i64 0, (.slice none 0 0)], .int .i64 4]) (by simp [results, Tryd.results54, go_sem, e0, e1, e2]) rfl ?_
    have hff := HFF.out.put3 (P := w.heap.size + 1) (by omega) (.int .i64 0) (.int .i64 0) (.slice none 0 0)
    exact ⟨hff, 0, 0, none, 0, 0, 4, rfl, .inr ⟨term_deep sg ss.reverse x (by rw [HT.out]; exact HE.out), by decide, rfl, rfl, rfl, rfl, rfl⟩⟩
  have d1 : decide (120 < tm) = false := by simpa using htm2
  obtain ⟨kk, rfl⟩ : ∃ kk, k = kk + 1 := ⟨k - 1, by omega⟩
  have IH1 := IH kk rfl
  have h0tm : 0 ≤ tm := by omega
  have HS := Lib.hid (pSkipC (HPW.out.keep HBW3.out))
  have HFI := Lib.hid hfi
  have HBX := Lib.hid (And.intro b0' (And.intro b1 (And.intro bt xh)))
  clear hfi HRH htm2 b0' b1 bt xh
  subst hW3
  go_wp2_with fail
  refine HS.out.mono ?_
  rintro e w4 ⟨rfl, hps4, hf4⟩
  obtain ⟨b0', b1, bt, xh⟩ := HBX.out
  have hs4 := hf4.size
  have z0 := b0'.fr hf4 (by omega)
  have z1 := b1.fr hf4 (by omega)
  have zt := bt.fr hf4 (by omega)
  have zh := xh.fr hf4 (by omega)
  have HF4 := Lib.hid ((FrB.below HBW3.out).trans hf4)
  have HP4 := Lib.hid hps4
  have HNL4 := Lib.hid (HNW.out.fr HPW.out HF4.out)
  clear p0 p1 v0 v1 q0 q1 q2 b0' b1 bt xh hf4 HBX HS HBW3 hps4
  generalize (w2.alloc (.cells #[.int .i64 kh, .int .i64 gh, (.slice none 0 0)] 24)) = W3 at *
  have p0 := z0.cell 0
  have p1 := z0.cell 1
  simp only [List.getElem?_toArray, List.getElem?_cons_zero, List.getElem?_cons_succ] at p0 p1
  have v0 := zt.cell 0
  have v1 := zt.cell 1
  simp only [List.getElem?_toArray, List.getElem?_cons_zero, List.getElem?_cons_succ] at v0 v1
  have q0 := zh.cell 0
  have q1 := zh.cell 1
  have q2 := zh.cell 2
  simp only [List.getElem?_toArray, List.getElem?_cons_zero, List.getElem?_cons_succ] at q0 q1 q2
  clear z0 zt zh
  obtain ⟨t, r, rfl⟩ : ∃ t r, x = t :: r := by
    cases x with
    | nil =>
      have h1 := HT.out
      have h2 := HFI.out
      rw [← h1] at h2
      unfold firM at h2
      rw [if_neg (by decide), if_neg (by decide)] at h2
      cases h2
    | cons t r => exact ⟨t, r, rfl⟩
  obtain rfl : t = (t1, t2) := HT.out
  have hg := HG.out (t1, t2) List.mem_cons_self
  have HP5 := Lib.hid (show PS b0 R K SA sn sc sg r w4 from HP4.out)
  have hlt4 : w.heap.size + 1 < w4.heap.size := by omega
  by_cases c1 : ((t1, t2) : Tk) = mP
  · have e2 : t2 = ⟨#[123]⟩ := congrArg Prod.snd c1
    have k1 : (t2.toList == [123]) = true := (eq_P t2).trans (decide_eq_true e2)
    have HO := Lib.hid (show termM sg (kk + 1) ss.reverse ((t1, t2) :: r) = piM sg kk ss.reverse r by rw [c1]; exact term_P sg kk ss.reverse r)
    have HC := Lib.hid (pPiC IH1 HP5.out ss A n c tm HNL4.out hk htm h0tm)
    clear e2 c1
    go_wp2_with fail
    refine HC.out.mono ?_
    rintro e w9 ⟨hf9, ka, ga, Aa, na, ca, ec, rfl, hres⟩
    have hs9 := hf9.size
    have zb := z1.fr hf9 (by omega)
    have HF9 := Lib.hid (HF4.out.trans hf9)
    have HR := Lib.hid hres
    clear hf9 hres
    clear z1 HC p0 p1 v0 v1 q0 q1 q2
    have z9 := ((zb.put 0 (.int .i64 ka)).put 1 (.int .i64 ga)).put 2 ((.slice Aa na ca))
    have e0 := z9.cell 0
    have e1 := z9.cell 1
    have e2 := z9.cell 2
    have r0 := zb.cell 0
    have r1 := zb.cell 1
    have r2 := zb.cell 2
    have fz0 := zb.frozen 0
    have fz1 := zb.frozen 1
    have fz2 := zb.frozen 2
    have lz := zb.lt
    simp only [List.setIfInBounds_toArray, List.set_cons_zero, List.set_cons_succ, List.getElem?_toArray, List.getElem?_cons_zero, List.getElem?_cons_succ] at e0 e1 e2 r0 r1 r2
    clear z9 zb
    go_wp2_with fail
    refine bodyPost_ret (v := .tuple #[.agg #[.int .i64 ka, .int .i64 ga, (.slice Aa na ca)], .int .i64 ec]) (by simp [results, Tryd.results54, go_sem, e0, e1, e2]) rfl ?_
    have hff := HF9.out.put3 (P := w.heap.size + 1) (by omega) (.int .i64 ka) (.int .i64 ga) (.slice Aa na ca)
    refine ⟨hff, ka, ga, Aa, na, ca, ec, rfl, ?_⟩
    rw [HO.out]
    rcases HR.out with ⟨a, y2, hr3, h0, hrd3, hps3⟩ | h3
    · exact .inl ⟨a, y2, hr3, h0, (hrd3.to fun b' h1 h2 => heap_other3Q _ _ _ _ _ _ (by omega)).less (by omega), hps3.put3 (by have := HB0.out; omega) (by omega) _ _ _⟩
    · exact .inr h3
  by_cases c2 : ((t1, t2) : Tk) = mL
  · have e2 : t2 = ⟨#[91]⟩ := congrArg Prod.snd c2
    have k1 : (t2.toList == [123]) = false := (eq_P t2).trans (decide_eq_false (by rw [e2]; decide))
    have k2 : (t2.toList == [91]) = true := (eq_L t2).trans (decide_eq_true e2)
    have HO := Lib.hid (show termM sg (kk + 1) ss.reverse ((t1, t2) :: r) = lamM sg kk ss.reverse r by rw [c2]; exact term_L sg kk ss.reverse r)
    have HC := Lib.hid (pLamC IH1 HP5.out ss A n c tm HNL4.out hk htm h0tm)
    clear e2 c1 c2
    go_wp2_with fail
    refine HC.out.mono ?_
    rintro e w9 ⟨hf9, ka, ga, Aa, na, ca, ec, rfl, hres⟩
    have hs9 := hf9.size
    have zb := z1.fr hf9 (by omega)
    have HF9 := Lib.hid (HF4.out.trans hf9)
    have HR := Lib.hid hres
    clear hf9 hres
    clear z1 HC p0 p1 v0 v1 q0 q1 q2
    have z9 := ((zb.put 0 (.int .i64 ka)).put 1 (.int .i64 ga)).put 2 ((.slice Aa na ca))
    have e0 := z9.cell 0
    have e1 := z9.cell 1
    have e2 := z9.cell 2
    have r0 := zb.cell 0
    have r1 := zb.cell 1
    have r2 := zb.cell 2
    have fz0 := zb.frozen 0
    have fz1 := zb.frozen 1
    have fz2 := zb.frozen 2
    have lz := zb.lt
    simp only [List.setIfInBounds_toArray, List.set_cons_zero, List.set_cons_succ, List.getElem?_toArray, List.getElem?_cons_zero, List.getElem?_cons_succ] at e0 e1 e2 r0 r1 r2
    clear z9 zb
    go_wp2_with fail
    refine bodyPost_ret (v := .tuple #[.agg #[.int .i64 ka, .int .i64 ga, (.slice Aa na ca)], .int .i64 ec]) (by simp [results, Tryd.results54, go_sem, e0, e1, e2]) rfl ?_
    have hff := HF9.out.put3 (P := w.heap.size + 1) (by omega) (.int .i64 ka) (.int .i64 ga) (.slice Aa na ca)
    refine ⟨hff, ka, ga, Aa, na, ca, ec, rfl, ?_⟩
    rw [HO.out]
    rcases HR.out with ⟨a, y2, hr3, h0, hrd3, hps3⟩ | h3
    · exact .inl ⟨a, y2, hr3, h0, (hrd3.to fun b' h1 h2 => heap_other3Q _ _ _ _ _ _ (by omega)).less (by omega), hps3.put3 (by have := HB0.out; omega) (by omega) _ _ _⟩
    · exact .inr h3
  by_cases c3 : ((t1, t2) : Tk) = mO
  · have e2 : t2 = ⟨#[40]⟩ := congrArg Prod.snd c3
    have k1 : (t2.toList == [123]) = false := (eq_P t2).trans (decide_eq_false (by rw [e2]; decide))
    have k2 : (t2.toList == [91]) = false := (eq_L t2).trans (decide_eq_false (by rw [e2]; decide))
    have k3 : (t2.toList == [40]) = true := (eq_O t2).trans (decide_eq_true e2)
    have HO := Lib.hid (show termM sg (kk + 1) ss.reverse ((t1, t2) :: r) = aloneM (closedM mC (termM sg kk ss.reverse r)) by rw [c3]; exact term_O sg kk ss.reverse r)
    have HI := Lib.hid (pInner0C A n c tm w4 h0tm (by omega) HNL4.out)
    clear e2 c1 c2 c3
    go_wp2_with fail
    refine HI.out.mono ?_
    rintro e w5 ⟨rfl, hb5⟩
    have hC := pClosedC IH1 (HP5.out.keep hb5) ss A n n (tm + 1) (HNL4.out.full.keep hb5) (by omega) (by omega) ⟨#[41]⟩ (by decide)
    have HC := Lib.hid hC
    have HB5 := Lib.hid hb5
    have hs5 := hb5.size
    clear hC hb5 HI
    go_wp2_with fail
    refine HC.out.mono ?_
    rintro e w6 ⟨hf6, kc, gc, Ac, nc, cc, ec6, rfl, hres6⟩
    have hs6 := hf6.size
    have hA := pAloneC w5.heap.size (closedM mC (termM sg kk ss.reverse r)) kc gc Ac nc cc ec6 w6 (by omega) hs6 hres6
    have HA := Lib.hid hA
    have z6 := (z1.keep HB5.out z1.lt).fr hf6 (by omega)
    have HF6 := Lib.hid ((HF4.out.then HB5.out).trans hf6)
    clear hA hf6 hres6 z1 HC p0 p1 v0 v1 q0 q1 q2
    go_wp2_with fail
    refine HA.out.mono ?_
    rintro e w9 ⟨hf9, ka, ga, Aa, na, ca, ec, rfl, hres⟩
    have hs9 := hf9.size
    have zb := z6.fr hf9 (by omega)
    have HF9 := Lib.hid (HF6.out.trans hf9)
    have HR := Lib.hid hres
    clear hf9 hres
    clear z6 HA
    have z9 := ((zb.put 0 (.int .i64 ka)).put 1 (.int .i64 ga)).put 2 ((.slice Aa na ca))
    have e0 := z9.cell 0
    have e1 := z9.cell 1
    have e2 := z9.cell 2
    have r0 := zb.cell 0
    have r1 := zb.cell 1
    have r2 := zb.cell 2
    have fz0 := zb.frozen 0
    have fz1 := zb.frozen 1
    have fz2 := zb.frozen 2
    have lz := zb.lt
    simp only [List.setIfInBounds_toArray, List.set_cons_zero, List.set_cons_succ, List.getElem?_toArray, List.getElem?_cons_zero, List.getElem?_cons_succ] at e0 e1 e2 r0 r1 r2
    clear z9 zb
    go_wp2_with fail
    refine bodyPost_ret (v := .tuple #[.agg #[.int .i64 ka, .int .i64 ga, (.slice Aa na ca)], .int .i64 ec]) (by simp [results, Tryd.results54, go_sem, e0, e1, e2]) rfl ?_
    have hff := HF9.out.put3 (P := w.heap.size + 1) (by omega) (.int .i64 ka) (.int .i64 ga) (.slice Aa na ca)
    refine ⟨hff, ka, ga, Aa, na, ca, ec, rfl, ?_⟩
    rw [HO.out]
    rcases HR.out with ⟨a, y2, hr3, h0, hrd3, hps3⟩ | h3
    · exact .inl ⟨a, y2, hr3, h0, (hrd3.to fun b' h1 h2 => heap_other3Q _ _ _ _ _ _ (by omega)).less (by omega), hps3.put3 (by have := HB0.out; omega) (by omega) _ _ _⟩
    · exact .inr h3
  have ht0 : t1 = 0 := by
    have h2 := HFI.out
    unfold firM at h2
    by_cases h0 : t1 = 0
    · exact h0
    · rw [if_neg h0, if_neg (by rintro (e | e | e) <;> contradiction)] at h2
      cases h2
  subst ht0
  have k1 : (t2.toList == [123]) = false := (eq_P t2).trans (decide_eq_false (hg.nP rfl))
  have k2 : (t2.toList == [91]) = false := (eq_L t2).trans (decide_eq_false (hg.nL rfl))
  have k3 : (t2.toList == [40]) = false := (eq_O t2).trans (decide_eq_false (hg.nO rfl))
  have hh : hdM sg ss.reverse t2 = .ok (.node kh gh []) := by
    have h2 := HFI.out
    unfold firM at h2
    rw [if_pos rfl] at h2
    exact h2
  obtain ⟨_, m1, m2, m3, m4⟩ := hd_bound hh hsgf (by rw [List.length_reverse]; omega)
  by_cases hty : t2 = tyN
  · have k4 : (t2.toList == [116, 121, 112, 101]) = true := (eq_T t2).trans (decide_eq_true hty)
    have hk0 : kh = 0 ∧ gh = 0 := by
      unfold hdM at hh
      rw [if_pos hty] at hh
      cases hh
      exact ⟨rfl, rfl⟩
    obtain ⟨rfl, rfl⟩ := hk0
    have HO := Lib.hid (show termM sg (kk + 1) ss.reverse ((0, t2) :: r) = aloneM (.ok (.node 0 0 [], r)) by rw [hty]; exact term_T sg kk ss.reverse r)
    have HA := Lib.hid (pAloneC (R := R) (K := K) (SA := SA) (sn := sn) (sc := sc) (sg := sg) (b0 := b0) w4.heap.size (.ok (.node 0 0 [], r)) 0 0 none 0 0 0 w4 (by omega) (Nat.le_refl _) (.inl ⟨_, r, rfl, rfl, RdN.leaf (by omega) (by omega) (by omega) (by omega), HP5.out⟩))
    clear hty hh c1 c2 c3
    go_wp2_with fail
    refine HA.out.mono ?_
    rintro e w9 ⟨hf9, ka, ga, Aa, na, ca, ec, rfl, hres⟩
    have hs9 := hf9.size
    have zb := z1.fr hf9 (by omega)
    have HF9 := Lib.hid (HF4.out.trans hf9)
    have HR := Lib.hid hres
    clear hf9 hres
    clear z1 HA p0 p1 v0 v1 q0 q1 q2
    have z9 := ((zb.put 0 (.int .i64 ka)).put 1 (.int .i64 ga)).put 2 ((.slice Aa na ca))
    have e0 := z9.cell 0
    have e1 := z9.cell 1
    have e2 := z9.cell 2
    have r0 := zb.cell 0
    have r1 := zb.cell 1
    have r2 := zb.cell 2
    have fz0 := zb.frozen 0
    have fz1 := zb.frozen 1
    have fz2 := zb.frozen 2
    have lz := zb.lt
    simp only [List.setIfInBounds_toArray, List.set_cons_zero, List.set_cons_succ, List.getElem?_toArray, List.getElem?_cons_zero, List.getElem?_cons_succ] at e0 e1 e2 r0 r1 r2
    clear z9 zb
    go_wp2_with fail
    refine bodyPost_ret (v := .tuple #[.agg #[.int .i64 ka, .int .i64 ga, (.slice Aa na ca)], .int .i64 ec]) (by simp [results, Tryd.results54, go_sem, e0, e1, e2]) rfl ?_
    have hff := HF9.out.put3 (P := w.heap.size + 1) (by omega) (.int .i64 ka) (.int .i64 ga) (.slice Aa na ca)
    refine ⟨hff, ka, ga, Aa, na, ca, ec, rfl, ?_⟩
    rw [HO.out]
    rcases HR.out with ⟨a, y2, hr3, h0, hrd3, hps3⟩ | h3
    · exact .inl ⟨a, y2, hr3, h0, (hrd3.to fun b' h1 h2 => heap_other3Q _ _ _ _ _ _ (by omega)).less (by omega), hps3.put3 (by have := HB0.out; omega) (by omega) _ _ _⟩
    · exact .inr h3
  · have k4 : (t2.toList == [116, 121, 112, 101]) = false := (eq_T t2).trans (decide_eq_false hty)
    have hh2 : headM sg ss.reverse t2 = .ok (.node kh gh []) := by
      unfold hdM at hh
      rw [if_neg hty] at hh
      exact hh
    have HO := Lib.hid (show termM sg (kk + 1) ss.reverse ((0, t2) :: r) = othersM sg ss.reverse (termM sg kk ss.reverse) kh gh [] r from term_N sg kk ss.reverse t2 r hty hh2)
    have HC := Lib.hid (pOthersC IH1 HP5.out ss A n c tm HNL4.out hk htm h0tm kh gh (wfB m1 (by omega)) (wfB m3 m4))
    clear hty hh hh2 c1 c2 c3
    go_wp2_with fail
    refine HC.out.mono ?_
    rintro e w9 ⟨hf9, ka, ga, Aa, na, ca, ec, rfl, hres⟩
    have hs9 := hf9.size
    have zb := z1.fr hf9 (by omega)
    have HF9 := Lib.hid (HF4.out.trans hf9)
    have HR := Lib.hid hres
    clear hf9 hres
    clear z1 HC p0 p1 v0 v1 q0 q1 q2
    have z9 := ((zb.put 0 (.int .i64 ka)).put 1 (.int .i64 ga)).put 2 ((.slice Aa na ca))
    have e0 := z9.cell 0
    have e1 := z9.cell 1
    have e2 := z9.cell 2
    have r0 := zb.cell 0
    have r1 := zb.cell 1
    have r2 := zb.cell 2
    have fz0 := zb.frozen 0
    have fz1 := zb.frozen 1
    have fz2 := zb.frozen 2
    have lz := zb.lt
    simp only [List.setIfInBounds_toArray, List.set_cons_zero, List.set_cons_succ, List.getElem?_toArray, List.getElem?_cons_zero, List.getElem?_cons_succ] at e0 e1 e2 r0 r1 r2
    clear z9 zb
    go_wp2_with fail
    refine bodyPost_ret (v := .tuple #[.agg #[.int .i64 ka, .int .i64 ga, (.slice Aa na ca)], .int .i64 ec]) (by simp [results, Tryd.results54, go_sem, e0, e1, e2]) rfl ?_
    have hff := HF9.out.put3 (P := w.heap.size + 1) (by omega) (.int .i64 ka) (.int .i64 ga) (.slice Aa na ca)
    refine ⟨hff, ka, ga, Aa, na, ca, ec, rfl, ?_⟩
    rw [HO.out]
    rcases HR.out with ⟨a, y2, hr3, h0, hrd3, hps3⟩ | h3
    · exact .inl ⟨a, y2, hr3, h0, (hrd3.to fun b' h1 h2 => heap_other3Q _ _ _ _ _ _ (by omega)).less (by omega), hps3.put3 (by have := HB0.out; omega) (by omega) _ _ _⟩
    · exact .inr h3
theorem pTermC {b0 R K : Nat} {SA : Option Addr} {sn sc : Nat} {sg : List (ByteArray × T)} : ∀ k : Nat, k ≤ 120 → TmC b0 R K SA sn sc sg k := by
  intro k
  induction k with
  | zero => exact fun h => pTermAt 0 (fun kk e => by omega) h
  | succ k ih => exact fun hk => pTermAt (k + 1) (fun kk e => by obtain rfl : kk = k := by omega
                                                                 exact ih (by omega)) hk
end Go.Proofs.YtmkahbbcagfbhaaDoor
