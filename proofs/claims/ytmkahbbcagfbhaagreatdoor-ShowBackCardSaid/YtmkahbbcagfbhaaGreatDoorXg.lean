/-
  Contract of package lex's Tokens. No statement is proved here.
-/
import Derived.Test.YtmkahbbcagfbhaaGreatDoorXf
namespace Go.Proofs.YtmkahbbcagfbhaaGreatDoor
open Go.ChangeShapes Go.WideShapes Go.ChangeAt Go.RowKit
set_option linter.unusedVariables false

theorem World_ownsRow_base {w : World} {b b' : Nat} {e : TypeId} {size : Nat} {v : Value} {n : Nat} {xs : List Value} (h : w.ownsRow b e size v n xs) (hb : b' ≤ b) : w.ownsRow b' e size v n xs := by
  refine ⟨h.1, ?_⟩
  rcases h.2 with h1 | ⟨g, cap, cur, e, hg, h1⟩
  · exact .inl h1
  · exact .inr ⟨g, cap, cur, e, by omega, h1⟩
theorem TRow.base {w : World} {b b' : Nat} {v : Value} {n : Nat} {x : List Tk} (h : TRow w b v n x) (hb : b' ≤ b) : TRow w b' v n x := ⟨World_ownsRow_base h.own hb, h.len⟩
/-- what Tokens tells -/
def TkE (l : List UInt8) (w : World) (e : Ending) (w' : World) : Prop :=
  ∃ (A : Option Addr) (n c : Nat), e = .returned (.tuple #[.slice A n c, .int .i64 (lexE l)]) ∧ TRow w' w.heap.size (.slice A n c) n (lexT l) ∧ Below w.heap.size w w'
theorem RdX.iter {w : World} {R K : Nat} {l : List UInt8} {lv : Value} {n : Nat} {o : List Tk} {fr : Int} {nt : Bool} {s : ByteArray} {p : Nat} (h : RdX w R l lv n o fr nt) (hK : w.heap[K]? = some (.stringIter s p)) (hne : K ≠ R) (s' : ByteArray) (p' : Nat) :
    RdX (w.iterAt K s' p') R l lv n o fr nt := by
  refine ⟨(Lib.iterAt_other w K R s' p' (Ne.symm hne)).trans h.box, h.row.move fun g hg => Lib.iterAt_other w K g s' p' ?_⟩
  rintro rfl
  obtain ⟨cs, ty, fr, hh⟩ := h.row.cells_ hg
  rw [hK] at hh
  cases hh
theorem nxt_len (l : List UInt8) (pos : Nat) (o : List Tk) (fr : Int) (nt : Bool) (c : Int) : (nxt l pos o fr nt c).2.1.length ≤ o.length + 2 := by
  have hf : (fluP l pos o fr).length ≤ o.length + 1 := by
    unfold fluP
    split
    · omega
    · rw [List.length_append]; exact Nat.le_refl _
  unfold nxt
  repeat' split
  all_goals simp only
  all_goals try omega
  rw [List.length_append, List.length_singleton]
  omega
theorem FrX.ok {l : List UInt8} {pos : Nat} {cur : List UInt8} {fr : Int} (h : FrX l pos cur fr) : fr = -1 ∨ ∃ f : Nat, fr = (f : Int) ∧ f ≤ pos := by
  rcases h with ⟨_, h⟩ | ⟨f, h, hf, _⟩
  · exact .inl h
  · exact .inr ⟨f, h, Nat.le_of_lt hf⟩
/-- what holds at the head of its loop -/
structure TkI (l : List UInt8) (w : World) (gf pos : Nat) (s : LSt) (fr : Int) (A : Option Addr) (n c : Nat) (wx : World) : Prop where
  it : wx.heap[w.heap.size + 1]? = some (.stringIter ⟨l.toArray⟩ pos)
  below : Below w.heap.size w wx
  rd : RdX wx w.heap.size l (.slice A n c) n s.out fr s.note
  ok : LOk s
  from_ : FrX l pos s.cur fr
  le : pos ≤ l.length
  few : s.out.length ≤ 2 * pos
  run : runL ⟨[], [], false⟩ l = runL s (l.drop pos)
  fuel : l.length ≤ pos + gf
set_option maxRecDepth 100000 in
set_option maxHeartbeats 4000000 in
theorem xTokensC (l : List UInt8) (A : Option Addr) (n c : Nat) (w : World) (h : YL w l A n c) : Calls Tryz.prog 43 #[.slice A n c] w (TkE l w) := by
  have hm := h.cap
  have hc := h.le
  have hlen := h.len
  subst hlen
  unfold maxLen at hm
  by_cases hgt : 20000 < l.length
  · have hgt' : (20000 : Int) < (l.length : Int) := by omega
    have HE := Lib.hid (show lexE l = 4 from if_pos hgt)
    have HT := Lib.hid (show lexT l = [] from if_pos hgt)
    clear h hgt
    go_enter Tryz.func43, Tryz.ntmps43
    go_wp2_with fail
    go_ret2
    exact ⟨none, 0, 0, by rw [HE.out]; rfl, by rw [HT.out]; exact TRow.nil _ _, Below.refl _ _⟩
  · have hle' : (l.length : Int) ≤ 20000 := by omega
    have hcv := run_string h
    obtain ⟨tx, htx⟩ : ∃ tx, ByteArray.mk l.toArray = tx := ⟨_, rfl⟩
    have HTX := Lib.hid htx
    have HSZ := Lib.hid (show tx.size = l.length by rw [← htx]; rfl)
    rw [htx] at hcv
    have HE : Hid (lexE l = if (toksL l).isSome = true then 0 else 8) := Lib.hid (if_neg hgt)
    have HT : Hid (lexT l = (toksL l).getD []) := Lib.hid (if_neg hgt)
    have hb0 : Below w.heap.size w ((w.alloc (.cells #[.string tx, .slice none 0 0, .int .i64 (-1), .bool false] 106)).iter tx 0) :=
      ((Below.refl _ _).alloc (Nat.le_refl _) _).alloc (by simp) _
    have HI0 : Hid (TkI l w l.length 0 ⟨[], [], false⟩ (-1) none 0 0 ((w.alloc (.cells #[.string tx, .slice none 0 0, .int .i64 (-1), .bool false] 106)).iter tx 0)) := Lib.hid (by
      refine ⟨?_, hb0, ⟨?_, TRow.nil _ _⟩, lok0 [], .inl ⟨rfl, rfl⟩, Nat.zero_le _, Nat.zero_le _, rfl, by omega⟩
      · have := World.iter_heap (w.alloc (.cells #[.string tx, .slice none 0 0, .int .i64 (-1), .bool false] 106)) tx 0
        rw [htx]
        simpa using this
      · rw [htx]
        exact (BoxX.new w _ _).alloc _)
    have b0 := (BoxX.new w 106 #[.string tx, .slice none 0 0, .int .i64 (-1), .bool false]).cell 0
    simp only [List.getElem?_toArray, List.getElem?_cons_zero] at b0
    clear h htx hb0 hgt
    go_enter Tryz.func43, Tryz.ntmps43
    go_wp2_with fail
    clear hcv b0
    go_loopg [] l.length (fun gf wx => ∃ (pos : Nat) (s : LSt) (fr : Int) (Ar : Option Addr) (nr cr : Nat), TkI l w gf pos s fr Ar nr cr wx)
    case atStart => exact ⟨0, _, _, _, _, _, HI0.out⟩
    case round =>
      clear HI0
      obtain ⟨pos, s, fr, Ar, nr, cr, hI⟩ := hrel
      have hnr := hI.rd.row.len
      have hfew := hI.few
      have hple := hI.le
      have hRK : w.heap.size + 1 ≠ w.heap.size := by omega
      have hit := hI.it
      rw [HTX.out] at hit
      by_cases hps : pos < l.length
      · obtain ⟨g', rfl⟩ : ∃ g', gk = g' + 1 := ⟨gk - 1, by have := hI.fuel; omega⟩
        have hps' : pos < tx.size := by rw [HSZ.out]; exact hps
        have hnx : ∀ ty, (Instr.next (.pointer (some ⟨w.heap.size + 1, 0, none⟩)) true ty).run Tryz.prog wr = _ := fun ty => Lib.run_next_any_at wr (w.heap.size + 1) tx pos ty hit hps'
        have hR1 := Lib.rune_le tx pos
        obtain ⟨r, hr⟩ : ∃ r, nxt l pos s.out fr s.note ((Utf8.decode tx pos).1 : Int) = r := ⟨_, rfl⟩
        have hst := nxt_step hps hI.ok hI.from_ r (by rw [HTX.out]; exact hr)
        rw [HTX.out] at hst
        have hwd := Lib.width_pos tx pos
        have hnl := nxt_len l pos s.out fr s.note ((Utf8.decode tx pos).1 : Int)
        rw [hr] at hnl
        obtain ⟨W, hWd⟩ : ∃ W, wr.iterAt (w.heap.size + 1) tx (pos + (Utf8.decode tx pos).2) = W := ⟨_, rfl⟩
        have hit2 := Lib.iterAt_heap wr (w.heap.size + 1) tx pos (pos + (Utf8.decode tx pos).2) hit
        have hbw2 := Lib.below_iterAt hI.below (k := w.heap.size + 1) (by omega) tx (pos + (Utf8.decode tx pos).2)
        have hrd2 := hI.rd.iter hI.it hRK tx (pos + (Utf8.decode tx pos).2)
        rw [hWd] at hnx hit2 hbw2 hrd2
        generalize (Utf8.decode tx pos).1 = cR at *
        generalize (Utf8.decode tx pos).2 = dR at *
        have HC := Lib.hid (xNextC l s.out fr s.note w.heap.size _ nr pos (cR : Int) W hrd2 hI.from_.ok (Nat.le_of_lt hps) (by omega) (by omega) (by omega) r hr)
        have HI := Lib.hid hI
        have HST := Lib.hid hst
        have HIT := Lib.hid hit2
        have HB2 := Lib.hid hbw2
        have HRD := Lib.hid hrd2
        clear hI hr hst hit2 hbw2 hrd2 hWd hit
        go_wp2_with fail
        refine HC.out.mono ?_
        rintro e w3 ⟨rfl, lv3, n3, hrd3, hkp3, hnw3, hn3⟩
        obtain ⟨A3, c3, rfl, hnc3, hcm3⟩ := hrd3.row.full
        have hK3 : w3.heap[w.heap.size + 1]? = some (.stringIter tx (pos + dR)) := (hkp3.block _ (Array.getElem?_eq_some_iff.1 HIT.out).1 hRK (fun e => by
          obtain ⟨cs, ty, fr', hh⟩ := HRD.out.row.cells_ e.symm
          rw [HIT.out] at hh; cases hh)).trans HIT.out
        have hb3 : Below w.heap.size w w3 := KpX.below HB2.out hkp3 HB2.out.size (Nat.le_refl _) fun g hg => by have := (HRD.out.row.lt hg).1; omega
        obtain ⟨hlen2, hbad, hgood⟩ := HST.out
        cases hr1 : r.1 with
        | false =>
          have hn := hbad hr1
          have ht : toksL l = none := by rw [toksL, HI.out.run, hn]; rfl
          have HE1 := Lib.hid (show lexE l = 8 by rw [HE.out, ht]; rfl)
          have HT1 := Lib.hid (show lexT l = [] by rw [HT.out, ht]; rfl)
          have HB3 := Lib.hid hb3
          clear hrd3 hkp3 hnw3 hK3 hb3 hbad hgood hn ht
          go_wp2_with fail
          go_ret2
          exact ⟨none, 0, 0, by rw [HE1.out]; rfl, by rw [HT1.out]; exact TRow.nil _ _, HB3.out⟩
        | true =>
          obtain ⟨cur, ho, hfr, hrun⟩ := hgood hr1
          have HI3 : Hid (TkI l w g' (pos + dR) ⟨r.2.1, cur, r.2.2.2⟩ r.2.2.1 A3 n3 c3 w3) := Lib.hid ⟨by rw [HTX.out]; exact hK3, hb3, hrd3.row.len ▸ hrd3, ho, hfr, hlen2, by simp only; omega, HI.out.run.trans hrun, by have := HI.out.fuel; omega⟩
          clear hrd3 hkp3 hnw3 hK3 hb3 hbad hgood ho hfr hrun
          go_wp2_with fail
          go_roundg g'
          case measure => omega
          case rel => exact ⟨_, _, _, _, _, _, HI3.out⟩
      · obtain rfl : pos = l.length := by omega
        have hps' : ¬ l.length < tx.size := by rw [HSZ.out]; omega
        have hnx : ∀ ty, (Instr.next (.pointer (some ⟨w.heap.size + 1, 0, none⟩)) true ty).run Tryz.prog wr = _ := fun ty => Lib.run_next_end_at wr (w.heap.size + 1) tx l.length ty hit hps'
        have HC := Lib.hid (xEndNameC l s.out fr s.note w.heap.size _ nr l.length wr hI.rd hI.from_.ok (Nat.le_refl _) (by omega))
        obtain ⟨p0, p1, p2, p3⟩ := hI.rd.cells4
        rw [HTX.out] at p0
        have hfin : toksL l = some (fluP l l.length s.out fr) := by
          rw [toksL, hI.run, List.drop_length]
          show some (fin s) = _
          rw [hI.from_.flu (Nat.le_refl _)]; rfl
        have HE1 := Lib.hid (show lexE l = 0 by rw [HE.out, hfin]; rfl)
        have HT1 := Lib.hid (show lexT l = fluP l l.length s.out fr by rw [HT.out, hfin]; rfl)
        have HI := Lib.hid hI
        clear hI hit hfin
        have hsz' : ((tx.size : Nat) : Int) = (l.length : Int) := by rw [HSZ.out]
        go_wp2_with fail
        refine HC.out.mono ?_
        rintro e w3 ⟨rfl, lv3, n3, hrd3, hkp3, hnw3, hn3⟩
        obtain ⟨A3, c3, rfl, hnc3, hcm3⟩ := hrd3.row.full
        have hb3 : Below w.heap.size w w3 := KpX.below HI.out.below hkp3 HI.out.below.size (Nat.le_refl _) fun g hg => by have := (HI.out.rd.row.lt hg).1; omega
        obtain ⟨q0, q1, q2, q3⟩ := hrd3.cells4
        have HB3 := Lib.hid hb3
        have HR3 := Lib.hid (hrd3.row.base (b' := w.heap.size) (by omega))
        clear hrd3 hkp3 hnw3 hb3 p0 p1 p2 p3 HC
        go_wp2_with fail
        go_ret2
        exact ⟨A3, n3, c3, by rw [HE1.out]; rfl, by rw [HT1.out]; exact HR3.out, HB3.out⟩
end Go.Proofs.YtmkahbbcagfbhaaGreatDoor
