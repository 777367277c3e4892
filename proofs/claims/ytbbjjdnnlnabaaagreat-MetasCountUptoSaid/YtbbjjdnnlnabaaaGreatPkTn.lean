/- Texts of one proof, put together. No statement is proved here. -/
import Derived.Test.YtbbjjdnnlnabaaaGreatPkTk
import Derived.Test.YtbbjjdnnlnabaaaGreatPkTj
import Derived.Test.YtbbjjdnnlnabaaaGreatPkT
namespace Go.Proofs.YtbbjjdnnlnabaaaGreat
open Go.ChangeShapes Go.WideShapes Go.ChangeAt Go.RowKit
set_option linter.unusedVariables false
set_option linter.unusedSimpArgs false
set_option maxRecDepth 100000
set_option maxHeartbeats 4000000
def DnEnd (pw : Nat) (X : Nat → Prop) (r : Res) (w : World) (e : Ending) (w' : World) : Prop :=
  ∃ k h A n c, e = .returned (.tuple #[.agg #[.int .i64 k, .int .i64 h, .slice A n c], .int .i64 (anE r)]) ∧ RX X w' (anT r) (.agg #[.int .i64 k, .int .i64 h, .slice A n c]) ∧ Fr (fun k => k = pw) w w'
theorem rdoneC {pw : Nat} {X : Nat → Prop} {r : Res} {k h : Int} {A : Option Addr} {n c : Nat} (w : World) (hq : QRz pw X w k h A n c r) (hnd : ∀ t m, r = .ok (t, m) → nd t ≤ 1099511627776) :
    Calls Tryz.prog 97 #[.pointer (some ⟨pw, 0, none⟩), .agg #[.int .i64 k, .int .i64 h, .slice A n c]] w (DnEnd pw X r w) := by
  obtain ⟨W, hW⟩ : ∃ W, (w.alloc (.cells #[.int .i64 k, .int .i64 h, .slice A n c] 39)).alloc (.cells #[.int .i64 0, .int .i64 0, .slice none 0 0] 39) = W := ⟨_, rfl⟩
  have hb : Below w.heap.size w W := by rw [← hW]; exact ((Below.refl _ _).alloc (Nat.le_refl _) _).alloc (by simp) _
  have x0 : Box W w.heap.size 39 #[.int .i64 k, .int .i64 h, .slice A n c] := by rw [← hW]; exact (Box.new _ _ _).alloc _
  have x1 : Box W (w.heap.size + 1) 39 #[.int .i64 0, .int .i64 0, .slice none 0 0] := by rw [← hW]; exact (Box.new (w.alloc _) _ _).at (by simp)
  have HW := Lib.hid hW; clear hW
  obtain ⟨t, m, ec, hE, hrd, hwk, hmy⟩ : ∃ (t : T) (m : Nat) (ec : Int), (ec = 0 ∨ ec ≠ 0) ∧ RX X w t (.agg #[.int .i64 k, .int .i64 h, .slice A n c]) ∧ wk2 w pw m ec ∧ (ec = 0 ∧ nd t ≤ 1099511627776 ∧ r = .ok (t, m) ∨ ec ≠ 0 ∧ t = .node 0 0 [] ∧ r = .error ec) := by
    cases r with
    | error ec =>
      obtain ⟨h1, ⟨m, h2⟩, h3⟩ := hq
      exact ⟨.node 0 0 [], m, ec, .inr h1, by rw [h3]; exact rx_leaf' (by decide) (by decide), h2, .inr ⟨h1, rfl, rfl⟩⟩
    | ok p =>
      obtain ⟨t, m⟩ := p
      exact ⟨t, m, 0, .inl rfl, hq.1, hq.2, .inl ⟨rfl, hnd t m rfl, rfl⟩⟩
  clear hq hnd hE
  have lpw := hwk.lt
  have HRD := Lib.hid hrd; clear hrd
  have hwW := hwk.keep hb lpw
  clear hwk
  go_enter Tryz.func97, Tryz.ntmps97
  go_wp2_with fail
  rw [HW.out]
  clear HW
  refine (refMay t _ _ (Rd.keep hb _ _ (RX.rd HRD.out))).mono ?_
  have hmb : nd t ≤ 1099511627776 := by
    rcases hmy with ⟨_, h1, _⟩ | ⟨_, rfl, _⟩
    · exact h1
    · simp [nd, ndL]
  rw [mayB_big hmb]
  clear hmb
  rintro e w1 ⟨rfl, hb1⟩
  have z0 := x0.keep hb1 x0.lt
  have z1 := x1.keep hb1 x1.lt
  have zw := hwW.keep hb1 hwW.lt
  have HB := Lib.hid (hb.trans (hb1.mono hb.size))
  have szw := HB.out.size
  clear hb hb1 x0 x1 hwW
  obtain ⟨c0, c1, c2⟩ := z0.three
  obtain ⟨r0, r1, r2⟩ := z1.three
  have f0 := z1.frozen 0
  have f1 := z1.frozen 1
  have f2 := z1.frozen 2
  obtain ⟨k0, k1⟩ := zw.two
  have kf := zw.frozen 1
  have l0 := z0.lt
  have l1 := z1.lt
  have lw1 := zw.lt
  rcases hmy with ⟨rfl, _, hr⟩ | ⟨hne, ht, hr⟩
  · cases hm : myB t
    · have HR : Hid (anE r = 4 ∧ anT r = .node 0 0 []) := Lib.hid (by rw [hr]; simp [anE, anT, hm])
      clear hr
      go_wp2_with fail
      have y1 : Box (w1.setCell ⟨pw, 1, none⟩ (.int .i64 4)) (w.heap.size + 1) 39 #[.int .i64 0, .int .i64 0, .slice none 0 0] := z1.other (by dsimp only; omega) _
      have yw : wk2 (w1.setCell ⟨pw, 1, none⟩ (.int .i64 4)) pw m 4 := wk2.put zw 4
      have HFR : Hid (Fr (fun k => k = pw) w (w1.setCell ⟨pw, 1, none⟩ (.int .i64 4))) := Lib.hid ((Fr.below (X := fun k => k = pw) HB.out).put (fun _ => rfl) _)
      generalize w1.setCell ⟨pw, 1, none⟩ (.int .i64 4) = W5 at *
      clear c0 c1 c2 r0 r1 r2 f0 f1 f2 k0 k1 kf
      obtain ⟨q0, q1, q2⟩ := y1.three
      have f0 := y1.frozen 0
      have f1 := y1.frozen 1
      have f2 := y1.frozen 2
      obtain ⟨k0, k1⟩ := yw.two
      have lw5 := yw.lt
      have l5 := y1.lt
      have hpne : pw ≠ w.heap.size + 1 := by omega
      go_region_with fail
      all_goals
        go_wp2_with fail
        refine bodyPost_ret (v := .tuple #[.agg #[.int .i64 0, .int .i64 0, .slice none 0 0], .int .i64 4]) (by simp [results, Tryz.results97, go_sem, q0, q1, q2]) rfl ?_
        refine ⟨_, _, _, _, _, by rw [HR.out.1], ?_, (HFR.out.set3 (a := w.heap.size + 1) (fun h => by omega) _ _ _).then (Below.refl _ _).drew⟩
        rw [HR.out.2]
        exact rx_leaf' (by decide) (by decide)
    · have HR : Hid (anE r = 0 ∧ anT r = t) := Lib.hid (by rw [hr]; simp [anE, anT, hm])
      clear hr
      go_wp2_with fail
      refine bodyPost_ret (v := .tuple #[.agg #[.int .i64 k, .int .i64 h, .slice A n c], .int .i64 0]) (by simp [results, Tryz.results97, go_sem, r0, r1, r2]) rfl ?_
      refine ⟨_, _, _, _, _, by rw [HR.out.1], ?_, (Fr.below HB.out).set3 (fun h => by omega) _ _ _⟩
      rw [HR.out.2]
      exact RX.adv HRD.out (Adv.below (below_set3 HB.out (by omega) _ _ _))
  · subst ht
    have HR : Hid (anE r = ec ∧ anT r = .node 0 0 []) := Lib.hid (by rw [hr]; exact ⟨rfl, rfl⟩)
    have hE1 : (ec != 0) = true := by simpa using hne
    have hE2 : (ec == 0) = false := by simpa using hne
    clear hr
    cases hm : myB (.node 0 0 [])
    · exfalso
      simp [myB, nodB, nodL, okN, nd, ndL, dp, dpL] at hm
    go_wp2_with fail
    have HFR : Hid (Fr (fun k => k = pw) w w1) := Lib.hid (Fr.below HB.out)
    have hpne : pw ≠ w.heap.size + 1 := by omega
    obtain ⟨q0, q1, q2⟩ := z1.three
    go_region_with fail
    all_goals
      go_wp2_with fail
      refine bodyPost_ret (v := .tuple #[.agg #[.int .i64 0, .int .i64 0, .slice none 0 0], .int .i64 ec]) (by simp [results, Tryz.results97, go_sem, q0, q1, q2]) rfl ?_
      refine ⟨_, _, _, _, _, by rw [HR.out.1], ?_, (HFR.out.set3 (a := w.heap.size + 1) (fun h => by omega) _ _ _).then (Below.refl _ _).drew⟩
      rw [HR.out.2]
      exact rx_leaf' (by decide) (by decide)
theorem qpC : ∀ f, QpC f
  | 0 => fun L sh u t n v w pw X A m c h1 h2 h3 => by omega
  | f + 1 => rapplyC (qpC f) (rspineC (qpC f))
abbrev XA (w w2 : World) (b : Nat) : Prop := b = w2.heap.size ∨ b = w.heap.size + 2
def RZn (Z : Nat → Prop) (t : T) (ec : Int) (w : World) (e : Ending) (w' : World) : Prop :=
  ∃ k h A n c, e = .returned (.tuple #[.agg #[.int .i64 k, .int .i64 h, .slice A n c], .int .i64 ec]) ∧ RX Z w' t (.agg #[.int .i64 k, .int .i64 h, .slice A n c]) ∧ Below w.heap.size w w'
abbrev XBk (Z : Nat → Prop) (w w2 : World) (b : Nat) : Prop := Z b ∨ b = w2.heap.size ∨ b = w.heap.size + 2
theorem rApplyX {Z : Nat → Prop} {t : T} {L : List T} {sh : Int} {A : Option Addr} {n c : Nat} {v : Value} {w : World} (hZ : ∀ b, Z b → b < w.heap.size) (hvz : RX Z w t v) (hlz : RXL Z w L A n c) (hnt : nd t ≤ 1099511627776) (hnL : ∀ x ∈ L, nd x ≤ 1099511627776) (hlo : myB t = true → LoT t) (hlL : ∀ x ∈ L, myB x = true → LoT x) :
    Calls Tryz.prog 76 #[v, .agg #[.slice A n c, .int .i64 sh]] w (RZn Z (apT t L sh) (apE t L sh) w) := by
  have hv : Rd w t v := RX.rd hvz
  have hn := hlz.len
  have hc := hlz.le
  have hm := hlz.cap
  have hx : ∀ i t, L[i]? = some t → RdAt w A i t := fun i t ht => rdFAt_rd (hlz.at_ i t ht)
  have HVZ := Lib.hid hvz; clear hvz
  have HLZ := Lib.hid hlz; clear hlz
  have HZ := Lib.hid hZ; clear hZ
  obtain ⟨k, h, At, nt, ct, rfl⟩ := hv.full
  obtain ⟨W, hW⟩ : ∃ W, ((w.alloc (.cells #[.int .i64 k, .int .i64 h, .slice At nt ct] 39)).alloc (.cells #[.slice A n c, .int .i64 sh] 105)).alloc (.cells #[.int .i64 0, .int .i64 0, .slice none 0 0] 39) = W := ⟨_, rfl⟩
  have hb : Below w.heap.size w W := by rw [← hW]; exact (((Below.refl _ _).alloc (Nat.le_refl _) _).alloc (by simp) _).alloc (by simp; omega) _
  have x0 : Box W w.heap.size 39 #[.int .i64 k, .int .i64 h, .slice At nt ct] := by rw [← hW]; exact ((Box.new _ _ _).alloc _).alloc _
  have x1 : Box W (w.heap.size + 1) 105 #[.slice A n c, .int .i64 sh] := by rw [← hW]; exact ((Box.new (w.alloc _) _ _).at (by simp)).alloc _
  have x2 : Box W (w.heap.size + 2) 39 #[.int .i64 0, .int .i64 0, .slice none 0 0] := by rw [← hW]; exact (Box.new _ _ _).at (by simp)
  have HW := Lib.hid hW; clear hW
  have HV := Lib.hid hv; clear hv
  have HN := Lib.hid hn; clear hn
  have HX := Lib.hid hx; clear hx
  have HNL := Lib.hid hnL; clear hnL
  have HLO := Lib.hid hlo; clear hlo
  have HLL := Lib.hid hlL; clear hlL
  have HMM := Lib.hid hm; clear hm
  go_enter Tryz.func76, Tryz.ntmps76
  go_wp2_with fail
  rw [HW.out]
  clear HW
  refine (refMay t _ _ (Rd.keep hb _ _ HV.out)).mono ?_
  rw [mayB_big hnt]
  rintro e w1 ⟨rfl, hb1⟩
  replace x0 := x0.keep hb1 x0.lt
  replace x1 := x1.keep hb1 x1.lt
  replace x2 := x2.keep hb1 x2.lt
  replace hb := hb.trans (hb1.mono hb.size)
  clear hb1
  obtain ⟨d0, d1⟩ := x1.two
  go_wp2_with fail
  refine (rmayC L A n c sh _ HN.out hc HMM.out (fun i u hu => RdAt.keep hb (HX.out i u hu)) HNL.out).mono ?_
  rintro e w2 ⟨rfl, hb1⟩
  clear d0 d1
  replace x0 := x0.keep hb1 x0.lt
  replace x1 := x1.keep hb1 x1.lt
  replace x2 := x2.keep hb1 x2.lt
  replace hb := hb.trans (hb1.mono hb.size)
  clear hb1
  have szb := hb.size
  obtain ⟨r0, r1, r2⟩ := x2.three
  have f0 := x2.frozen 0
  have f1 := x2.frozen 1
  have f2 := x2.frozen 2
  have l2 := x2.lt
  cases hp : (myB t && sbB L sh)
  · have HR : Hid (apT t L sh = .node 0 0 [] ∧ apE t L sh = 1) := Lib.hid (by unfold apT apE; rw [hp]; exact ⟨rfl, rfl⟩)
    have hpp : myB t = false ∨ myB t = true ∧ sbB L sh = false := by
      cases h1 : myB t
      · exact .inl rfl
      · rw [h1] at hp; exact .inr ⟨rfl, by simpa using hp⟩
    clear hp
    rcases hpp with h1 | ⟨h1, h2⟩
    case' inl => rw [h1]; clear h1
    case' inr => rw [h1, h2]; clear h1 h2
    all_goals
      go_wp2_with fail
      refine bodyPost_ret (v := .tuple #[.agg #[.int .i64 0, .int .i64 0, .slice none 0 0], .int .i64 1]) (by simp [results, Tryz.results76, go_sem, r0, r1, r2]) rfl ?_
      refine ⟨_, _, _, _, _, by rw [HR.out.2], ?_, below_set3 hb (by omega) _ _ _⟩
      rw [HR.out.1]
      exact rx_leaf' (by decide) (by decide)
  · have h12 : myB t = true ∧ sbB L sh = true := by rw [Bool.and_eq_true] at hp; exact hp
    obtain ⟨h1, h2⟩ := h12
    have HR : Hid (apT t L sh = anT (apR t L sh) ∧ apE t L sh = anE (apR t L sh)) := Lib.hid (by unfold apT apE; rw [hp]; exact ⟨rfl, rfl⟩)
    clear hp
    obtain ⟨p1, p2, p3⟩ := sb_parts h2
    have hsub : Sub (bt 0) L sh := ⟨p3, fun x hx => okT_mono (by rw [bt0]; omega) _ (HLL.out x hx (p3 x hx)), p2.1, p2.2⟩
    have hway : Way (bt 0 - sh) t := way_of h1 (HLO.out h1) (by rw [bt0]; omega)
    have hnt4 := ((myB_iff t).1 h1).2.1
    have hgood := ap_good (B := 562949953421312) fl L sh 0 t 0 (Nat.le_refl _) (by omega) hsub hway
    have HG := Lib.hid (show ∀ t' m, apR t L sh = .ok (t', m) → nd t' ≤ 1099511627776 from fun t' m e => by have := hgood t' m e; omega); clear hgood
    have HSB := Lib.hid hsub; clear hsub
    have HWY := Lib.hid hway; clear hway
    have hbp : Below w2.heap.size w2 (w2.alloc (.cells #[.int .i64 0, .int .i64 0] 125)) := (Below.refl _ _).alloc (Nat.le_refl _) _
    obtain ⟨c0, c1, c2⟩ := x0.three
    obtain ⟨d0, d1⟩ := x1.two
    have l0 := x0.lt
    have l1 := x1.lt
    rw [h1, h2]
    go_wp2_with fail
    have hrt : RX (XBk Z w w2) (w2.alloc (.cells #[.int .i64 0, .int .i64 0] 125)) t (.agg #[.int .i64 k, .int .i64 h, .slice At nt ct]) := RdF.moveX (fun b hb' hl => ⟨fun e => by
      rcases e with e | e | e
      · exact hb' e
      · omega
      · omega, (hb.trans (hbp.mono szb)).block b hl⟩) _ _ HVZ.out
    have hrL : RXL (XBk Z w w2) (w2.alloc (.cells #[.int .i64 0, .int .i64 0] 125)) (unN 0 L) A n c := by
      rw [unN_zero]
      exact ⟨HLZ.out.len, HLZ.out.le, HLZ.out.cap, fun i u hu => RdFAt.moveX (fun b hb' hl => ⟨fun e => by
        rcases e with e | e | e
        · exact hb' e
        · omega
        · omega, (hb.trans (hbp.mono szb)).block b hl⟩) (HLZ.out.at_ i u hu)⟩
    have hwk : wk2 (w2.alloc (.cells #[.int .i64 0, .int .i64 0] 125)) w2.heap.size 0 0 := Box.new w2 _ _
    have hA := qpC fl L sh 0 t 0 (.agg #[.int .i64 k, .int .i64 h, .slice At nt ct]) (w2.alloc (.cells #[.int .i64 0, .int .i64 0] 125)) w2.heap.size (XBk Z w w2) A n c (by rw [fl_eq]; omega) (Nat.le_refl _) (by omega) (by omega) HSB.out HWY.out (by omega) (.inr (.inl rfl)) (fun b e => by
      have := hwk.lt
      rcases e with e | e | e
      · have := HZ.out b e; omega
      · omega
      · omega) hwk hrL hrt
    rw [show sh + ((0 : Nat) : Int) = sh by omega, show ap fl L sh 0 t 0 = apR t L sh from rfl] at hA
    refine hA.mono ?_
    clear hA hrt hrL hwk
    rintro e w5 ⟨k5, h5, A5, n5, c5, rfl, hfr, hcs⟩
    have hfr5 : Fr (fun b => b = w2.heap.size) w2 w5 := (Fr.below (X := fun b => b = w2.heap.size) hbp).trans hfr fun i _ e => e
    have y2 := x2.fr hfr5 (by omega)
    have hq : QRz w2.heap.size (XBk Z w w2) w5 k5 h5 A5 n5 c5 (apR t L sh) := hcs
    have hl2 : w.heap.size + 2 < w2.heap.size := l2
    have hbq : Below w5.heap.size w5 (w5.alloc (.cells #[.int .i64 k5, .int .i64 h5, .slice A5 n5 c5] 39)) := (Below.refl _ _).alloc (Nat.le_refl _) _
    have hq6 := hq.keep hbq
    have y6 := y2.keep hbq y2.lt
    have HFR5 := Lib.hid (hfr5.then hbq)
    clear hq hcs hfr hfr5 hbp c0 c1 c2 d0 d1 l0 l1 r0 r1 r2 f0 f1 f2 x0 x1 x2 l2 y2
    go_wp2_with fail
    refine (rdoneC _ hq6 HG.out).mono ?_
    clear hq6
    rintro e w6 ⟨k6, h6, A6, n6, c6, rfl, hrd6, hfr6⟩
    have z2 := y6.fr hfr6 (by omega)
    have HFR6 := Lib.hid (HFR5.out.trans hfr6 fun i _ e => e)
    have HRD := Lib.hid hrd6; clear hrd6 hfr6 hbq y6
    obtain ⟨r0, r1, r2⟩ := z2.three
    have f0 := z2.frozen 0
    have f1 := z2.frozen 1
    have f2 := z2.frozen 2
    have l2 := z2.lt
    go_wp2_with fail
    refine bodyPost_ret (v := .tuple #[.agg #[.int .i64 k6, .int .i64 h6, .slice A6 n6 c6], .int .i64 (anE (apR t L sh))]) (by simp [results, Tryz.results76, go_sem, r0, r1, r2, l2]) rfl ?_
    refine ⟨_, _, _, _, _, by rw [HR.out.2], ?_, ?_⟩
    · rw [HR.out.1]
      exact RX.mono (RX.adv (RX.adv HRD.out (Adv.set3 (X := XBk Z w w2) (a := w.heap.size + 2) (.inr (.inr rfl)) _ _ _)) (Adv.below ((Below.refl _ _).alloc (Nat.le_refl _) _))) (fun i _ e => .inl e)
    · exact (below_set3 (hb.trans (HFR6.out.to_below (B := w.heap.size) (fun i e => by omega) (by omega))) (a := w.heap.size + 2) (by omega) _ _ _).alloc (by simp [World.setCell]; have := HFR6.out.size; omega) _
end Go.Proofs.YtbbjjdnnlnabaaaGreat
