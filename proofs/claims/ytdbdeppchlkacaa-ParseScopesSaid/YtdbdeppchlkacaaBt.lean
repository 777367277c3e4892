/-
  Contracts of package parse's Term and Decls. No statement is proved here.
-/
import Derived.Test.YtdbdeppchlkacaaBs
namespace Go.Proofs.Ytdbdeppchlkacaa
open Go.ChangeShapes Go.WideShapes Go.ChangeAt Go.RowKit
set_option linter.unusedVariables false


/-- what a text is, read as a term -/
def readT (ds : List (ByteArray × T)) (l : List UInt8) : Except Int T := if lexE l ≠ 0 then .error (lexE l) else match wholeE ds ⟨#[]⟩ (lexT l) with
  | .error e => .error e
  | .ok (t, _) => .ok t
/-- what a text is, read as declarations -/
def readD (l : List UInt8) : Except Int (List (ByteArray × T)) := if lexE l ≠ 0 then .error (lexE l) else declsM mayB nmB (lexT l).length [] (lexT l)
set_option maxRecDepth 100000 in
set_option maxHeartbeats 2000000 in
theorem pTermTopC (l : List UInt8) (A : Option Addr) (n c : Nat) (ds : List (ByteArray × T)) (SA : Option Addr) (sn sc : Nat) (w : World) (hY : YL w l A n c) (hD : DS w ds SA sn sc) (hds : ds.length ≤ 1000) :
    Calls Try.prog 15 #[.slice A n c, .slice SA sn sc] w fun e w' => Below w.heap.size w w' ∧ ∃ k g A' n' c' ec, e = .returned (.tuple #[.agg #[.int .i64 k, .int .i64 g, .slice A' n' c'], .int .i64 ec]) ∧
      ((∃ t, readT ds l = .ok t ∧ ec = 0 ∧ Rd w' t (.agg #[.int .i64 k, .int .i64 g, .slice A' n' c'])) ∨ (readT ds l = .error ec ∧ ec ≠ 0 ∧ k = 0 ∧ g = 0 ∧ A' = none ∧ n' = 0 ∧ c' = 0)) := by
  obtain ⟨W, hW⟩ : ∃ W, w.alloc (.cells #[.int .i64 0, .int .i64 0, .slice none 0 0] 31) = W := ⟨_, rfl⟩
  have hb : Below w.heap.size w W := by rw [← hW]; exact (Below.refl _ _).alloc (Nat.le_refl _) _
  have x1 : BoxX W w.heap.size 31 #[.int .i64 0, .int .i64 0, .slice none 0 0] := by rw [← hW]; exact BoxX.new _ _ _
  have hsz : W.heap.size = w.heap.size + 1 := by rw [← hW]; simp
  have HC := Lib.hid (pBeginC l A n c ds SA sn sc W (hY.keep hb) (hD.keep hb) hds)
  have HB := Lib.hid hb
  have HX1 := Lib.hid x1
  have HSZ := Lib.hid hsz
  clear hb x1 hY hD hsz
  subst hW
  go_enter Try.func15, Try.ntmps15
  go_wp2_with fail
  refine HC.out.mono ?_
  rintro e w2 ⟨hb2, hres⟩
  have hs2 := hb2.size
  rw [HSZ.out] at hs2
  have x2 := HX1.out.keep hb2 HX1.out.lt
  have HB2 := Lib.hid (HB.out.trans (hb2.mono HB.out.size))
  clear HC HX1 hb2
  rcases hres with ⟨he, rfl⟩ | ⟨he, R, K, hK, hKR, rfl, hps⟩
  · have d9 : (lexE l == 0) = false := by simpa using he
    have HE := Lib.hid he
    clear he HB HSZ
    have z9 := ((x2.put 0 (.int .i64 0)).put 1 (.int .i64 0)).put 2 ((.slice none 0 0))
    have e0 := z9.cell 0
    have e1 := z9.cell 1
    have e2 := z9.cell 2
    have r0 := x2.cell 0
    have r1 := x2.cell 1
    have r2 := x2.cell 2
    have fz0 := x2.frozen 0
    have fz1 := x2.frozen 1
    have fz2 := x2.frozen 2
    have lz := x2.lt
    simp only [List.setIfInBounds_toArray, List.set_cons_zero, List.set_cons_succ, List.getElem?_toArray, List.getElem?_cons_zero, List.getElem?_cons_succ] at e0 e1 e2 r0 r1 r2
    clear z9 x2
    go_wp2_with fail
    refine bodyPost_ret (v := .tuple #[.agg #[.int .i64 0, .int .i64 0, (.slice none 0 0)], .int .i64 (lexE l)]) (by simp [results, Try.results15, go_sem, e0, e1, e2]) rfl ?_
    have hff := ((HB2.out.setCell (p := ⟨w.heap.size, 0, none⟩) (by dsimp only; omega) (.int .i64 0)).setCell (p := ⟨w.heap.size, 1, none⟩) (by dsimp only; omega) (.int .i64 0)).setCell (p := ⟨w.heap.size, 2, none⟩) (by dsimp only; omega) (.slice none 0 0)
    exact ⟨hff, 0, 0, none, 0, 0, (lexE l), rfl, .inr ⟨by rw [readT, if_pos HE.out], HE.out, rfl, rfl, rfl, rfl, rfl⟩⟩
  · have HW := Lib.hid (pWholeC hps ⟨#[]⟩)
    have HRT := Lib.hid (show readT ds l = match wholeE ds ⟨#[]⟩ (lexT l) with | .error e => .error e | .ok (t, _) => .ok t by rw [readT, if_neg (by rw [he]; simp)])
    rw [HSZ.out] at hK
    clear hps he HB HSZ
    go_wp2_with fail
    refine HW.out.mono ?_
    rintro e w3 ⟨hf3, k, g, A', n', c', ec, rfl, hres⟩
    have hs3 := hf3.size
    have x3 := x2.fr hf3 (by omega)
    have HB3 := Lib.hid (FrB.toBelow HB2.out hf3 (by omega) (by omega))
    have HR := Lib.hid hres
    clear HW x2 hf3 hres HB2
    have z9 := ((x3.put 0 (.int .i64 k)).put 1 (.int .i64 g)).put 2 ((.slice A' n' c'))
    have e0 := z9.cell 0
    have e1 := z9.cell 1
    have e2 := z9.cell 2
    have r0 := x3.cell 0
    have r1 := x3.cell 1
    have r2 := x3.cell 2
    have fz0 := x3.frozen 0
    have fz1 := x3.frozen 1
    have fz2 := x3.frozen 2
    have lz := x3.lt
    simp only [List.setIfInBounds_toArray, List.set_cons_zero, List.set_cons_succ, List.getElem?_toArray, List.getElem?_cons_zero, List.getElem?_cons_succ] at e0 e1 e2 r0 r1 r2
    clear z9 x3
    go_wp2_with fail
    refine bodyPost_ret (v := .tuple #[.agg #[.int .i64 k, .int .i64 g, (.slice A' n' c')], .int .i64 ec]) (by simp [results, Try.results15, go_sem, e0, e1, e2]) rfl ?_
    have hff := ((HB3.out.setCell (p := ⟨w.heap.size, 0, none⟩) (by dsimp only; omega) (.int .i64 k)).setCell (p := ⟨w.heap.size, 1, none⟩) (by dsimp only; omega) (.int .i64 g)).setCell (p := ⟨w.heap.size, 2, none⟩) (by dsimp only; omega) (.slice A' n' c')
    refine ⟨hff, k, g, A', n', c', ec, rfl, ?_⟩
    rw [HRT.out]
    rcases HR.out with ⟨t, y, hr, h0, hrd, _⟩ | ⟨hr, h3⟩
    · exact .inl ⟨t, by rw [hr], h0, (hrd.to fun b' h1 h2 => heap_other3Q _ _ _ _ _ _ (by omega)).rd⟩
    · exact .inr ⟨by rw [hr], h3⟩
theorem PS.up {b0 b1 R K : Nat} {SA : Option Addr} {sn sc : Nat} {sg : List (ByteArray × T)} {x : List Tk} {w : World} (h : PS b0 R K SA sn sc sg x w) (h1 : b0 ≤ b1) (h2 : b1 ≤ w.heap.size) : PS b1 R K SA sn sc sg x w :=
  ⟨h.box, ⟨h.dl.len, h.dl.le, h.dl.cap, fun i d hd => by
    obtain ⟨b, o, k, g, A', n, c, e, hb, c0, c1, c2, c3, hr⟩ := h.dl.at_ i d hd
    exact ⟨b, o, k, g, A', n, c, e, ⟨hb.1, by omega⟩, c0, c1, c2, c3, RdF.moveQ (fun q hq hl => ⟨⟨hq.1, by omega⟩, rfl⟩) _ _ hr⟩⟩, h.mp, h.ne, h.klt, Nat.le_trans h.rle h1, h2, h.few, h.good, h.sgf⟩
/-- what holds at the head of Decls' loop -/
structure DsI (l : List UInt8) (w : World) (R K lo gf : Nat) (SA : Option Addr) (sn sc : Nat) (sg : List (ByteArray × T)) (cs : List Value) (y : List Tk) (wr : World) : Prop where
  ps : PS wr.heap.size R K SA sn sc sg y wr
  row : DRow R lo wr SA sn sc sg cs
  below : Below w.heap.size w wr
  big : lo ≤ wr.heap.size
  few : sg.length ≤ 40
  sz : ∀ d ∈ sg, d.1.size ≤ maxLen
  fuel : y.length ≤ gf
  eq : declsM mayB nmB y.length sg y = readD l
set_option maxRecDepth 100000 in
set_option maxHeartbeats 2000000 in
theorem pDeclsC (l : List UInt8) (A : Option Addr) (n c : Nat) (w : World) (hY : YL w l A n c) :
    Calls Try.prog 9 #[.slice A n c] w fun e w' => Below w.heap.size w w' ∧ ∃ SA sn sc ec, e = .returned (.tuple #[.slice SA sn sc, .int .i64 ec]) ∧
      ((∃ ds, readD l = .ok ds ∧ ec = 0 ∧ DS w' ds SA sn sc ∧ ds.length ≤ 40) ∨ (readD l = .error ec ∧ ec ≠ 0 ∧ SA = none ∧ sn = 0 ∧ sc = 0)) := by
  have HC := Lib.hid (pBeginC l A n c [] none 0 0 w hY (DS.nil _) (by simp))
  clear hY
  go_enter Try.func9, Try.ntmps9
  go_wp2_with fail
  refine HC.out.mono ?_
  rintro e w2 ⟨hb2, hres⟩
  have hs2 := hb2.size
  have HB2 := Lib.hid hb2
  clear HC hb2
  rcases hres with ⟨he, rfl⟩ | ⟨he, R, K, hK, hKR, rfl, hps⟩
  · have d9 : (lexE l == 0) = false := by simpa using he
    have HE := Lib.hid he
    clear he
    go_wp2_with fail
    go_loopg [5] 0 (fun _ u5 wr => u5 = .int .i64 (lexE l) ∧ Hid (Below w.heap.size w wr))
    case atStart => exact ⟨rfl, HB2⟩
    case round =>
      obtain ⟨rfl, HB⟩ := hrel
      go_wp2_with fail
      go_ret2
      exact ⟨HB.out, none, 0, 0, lexE l, rfl, .inr ⟨by rw [readD, if_pos HE.out], HE.out, rfl, rfl, rfl⟩⟩
  · have HRD := Lib.hid (show readD l = declsM mayB nmB (lexT l).length [] (lexT l) by rw [readD, if_neg (by rw [he]; simp)])
    have HI0 := Lib.hid (show DsI l w R K w2.heap.size (lexT l).length none 0 0 [] [] (lexT l) w2 from
      ⟨hps.up hps.le (Nat.le_refl _), DRow.nil _ _ _, HB2.out, Nat.le_refl _, by simp, (fun d hd => by cases hd), Nat.le_refl _, HRD.out.symm⟩)
    have hRlo := hps.lt
    clear hps he
    go_wp2_with fail
    go_loopg [5] (lexT l).length (fun gf u5 wr => (∃ ec, u5 = .int .i64 ec ∧ Hid (ec ≠ 0 ∧ readD l = .error ec ∧ Below w.heap.size w wr)) ∨ (u5 = .int .i64 0 ∧ ∃ SA sn sc sg cs y, Hid (DsI l w R K w2.heap.size gf SA sn sc sg cs y wr)))
    case atStart => exact .inr ⟨rfl, _, _, _, _, _, _, HI0⟩
    case round =>
      clear HI0
      rcases hrel with ⟨ec, rfl, HE⟩ | ⟨rfl, SA, sn, sc, sg, cs, y, HI⟩
      · have d9 : (ec == 0) = false := by simpa using HE.out.1
        go_wp2_with fail
        go_ret2
        exact ⟨HE.out.2.2, none, 0, 0, ec, rfl, .inr ⟨HE.out.2.1, HE.out.1, rfl, rfl, rfl⟩⟩
      · have hT := pTakeC HI.out.ps ⟨#[]⟩
        have hbig := HI.out.big
        cases y with
        | nil =>
          rw [show decide (hdT [] = ((1, ⟨#[]⟩) : Tk)) = true from rfl] at hT
          have HT := Lib.hid hT
          have HEQ := Lib.hid (show readD l = .ok sg by rw [← HI.out.eq]; rfl)
          clear hT
          go_wp2_with fail
          refine HT.out.mono ?_
          rintro e w3 ⟨rfl, hps3, hf3⟩
          obtain ⟨Ar, nr, cr, hbx, _, _⟩ := hps3.box
          have cR1 : w3.cell? ⟨R, 1, none⟩ = some (.slice SA sn sc) := hbx.cell 1
          have HF := Lib.hid (And.intro (FrB.toBelow HI.out.below hf3 (by omega) (by omega)) (hps3.dl.ds HI.out.sz))
          clear HT hf3 hps3 hbx
          go_wp2_with fail
          go_ret2
          exact ⟨HF.out.1, SA, sn, sc, 0, rfl, .inl ⟨sg, HEQ.out, rfl, HF.out.2, HI.out.few⟩⟩
        | cons t r =>
          have hne : hdT (t :: r) ≠ ((1, ⟨#[]⟩) : Tk) := (HI.out.ps.good t List.mem_cons_self).one
          rw [show decide (hdT (t :: r) = ((1, ⟨#[]⟩) : Tk)) = false from decide_eq_false hne] at hT
          have HT := Lib.hid hT
          have HNE := Lib.hid hne
          obtain ⟨g', rfl⟩ : ∃ g', gk = g' + 1 := ⟨gk - 1, by have := HI.out.fuel; simp at this; omega⟩
          clear hT hne
          go_wp2_with fail
          refine HT.out.mono ?_
          rintro e w3 ⟨rfl, hps3, hf3⟩
          rw [if_neg HNE.out] at hps3
          have hs3 := hf3.size
          have hD := pDeclC (hps3.up hf3.size (Nat.le_refl _)) (HI.out.row.mv (fun q hq hl => hf3.block q hl (by omega)) hRlo) hRlo (by omega) HI.out.few
          have HD := Lib.hid hD
          have HB3 := Lib.hid (FrB.toBelow HI.out.below hf3 (by omega) (by omega))
          clear HT hf3 hps3 hD
          go_wp2_with fail
          refine HD.out.mono ?_
          rintro e w4 ⟨hb4, hs4, ec, rfl, hres⟩
          have HB4 := Lib.hid (HB3.out.trans (hb4.mono (by omega)))
          have hEQ := HI.out.eq
          rw [List.length_cons, declsM] at hEQ
          clear HD hb4
          rcases hres with ⟨hec, hd⟩ | ⟨rfl, d, y2, SA', sc', cs', hd, hps4, hrow4, hdz⟩
          · have HE2 := Lib.hid (show ec ≠ 0 ∧ readD l = .error ec ∧ Below w.heap.size w w4 from ⟨hec, by
              rw [← hEQ]
              split at hd
              · rename_i h40; rw [if_pos h40]; cases hd; rfl
              · rename_i h40; rw [if_neg h40, hd], HB4.out⟩)
            clear hEQ hec hd
            go_wp2_with fail
            go_roundg g'
            case measure => omega
            case rel => exact .inl ⟨ec, rfl, HE2⟩
          · have h40 : ¬ 40 ≤ sg.length := fun h => by rw [if_pos h] at hd; cases hd
            rw [if_neg h40] at hd hEQ
            rw [hd] at hEQ
            have hlen := decl_len hd
            simp only [List.length_cons] at hlen
            have HI2 := Lib.hid (show DsI l w R K w2.heap.size g' SA' (sn + 1) sc' (sg ++ [d]) cs' y2 w4 from
              ⟨hps4, hrow4, HB4.out, by omega, by rw [List.length_append, List.length_singleton]; omega, fun d' hd' => by
                rcases List.mem_append.1 hd' with h | h
                · exact HI.out.sz d' h
                · rw [List.mem_singleton.1 h]; exact hdz, by have := HI.out.fuel; simp at this; omega, by rw [← hEQ]; exact decls_fuel _ _ _ _ (Nat.le_refl _) (by omega)⟩)
            clear hEQ hps4 hrow4 hd hdz hlen
            go_wp2_with fail
            go_roundg g'
            case measure => omega
            case rel => exact .inr ⟨rfl, _, _, _, _, _, _, HI2⟩
end Go.Proofs.Ytdbdeppchlkacaa
