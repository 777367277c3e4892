/-
  Contracts of package meta's each, for others of the closures that it is called with. No statement is proved here.
-/
import Derived.Test.YtaccaamdbfccmaaKc
namespace Go.Proofs.Ytaccaamdbfccmaa
open Go.ChangeShapes Go.WideShapes Go.ChangeAt Go.RowKit
set_option linter.unusedVariables false

set_option maxRecDepth 100000 in
set_option maxHeartbeats 4000000 in
theorem eachAC {X : Nat → Prop} {St : Nat → World → Prop} {p1 p2 : Value} {wB w : World} {A : Option Addr} {n c c0 M : Nat} (xs : List Int) (g : Nat → Int → Nat → Res) (hb : Below wB.heap.size wB w) (hn : xs.length = n) (hc : n ≤ c) (hm : c ≤ maxLen) (hn40 : n ≤ 3518437208780) (hx : ∀ i t, xs[i]? = some t → IntAt wB A i t)
    (hX : ∀ b, X b → wB.heap.size ≤ b ∧ b < w.heap.size) (hSt : ∀ c W W', W.heap.size ≤ W'.heap.size → (∀ b, X b → W'.heap[b]? = W.heap[b]?) → St c W → St c W') (h0 : St c0 w) 
    (HF : ∀ (i : Nat) (t : Int) (W : World) (c : Nat), xs[i]? = some t → Fr X w W → St c W → Calls Try.prog 36 #[.int .i64 i, .int .i64 t, p1, p2] W (CEn X St W (g i t c))) :
    Calls Try.prog 35 #[.slice A n c, .func (.func 36) #[] #[p1, p2]] w (GEn X St w (eaI g xs 0 c0)) := by
  have hMM := hm
  unfold maxLen at hm
  have HN := Lib.hid hn; clear hn
  have HX := Lib.hid hx; clear hx
  have HF' := Lib.hid HF; clear HF
  have HST := Lib.hid hSt; clear hSt
  have HXB := Lib.hid hX; clear hX
  have H0 := Lib.hid h0; clear h0
  have HB := Lib.hid hb; clear hb
  skip
  skip
  obtain ⟨i0, hi, hz0, hz1, hz2⟩ := info_parts infoTerm
  have hmk : ∀ W : World, (Instr.makeSlice 22 (.int .i64 (n : Int)) (.int .i64 (n : Int))).run Try.prog W = .ok (.slice (some ⟨W.heap.size, 0, none⟩) n n) (W.alloc (.cells (madeCells #[.int .i64 0, .int .i64 0, .slice none 0 0] (n * 3)) 24)) := by
    intro W
    have := run_make W 22 24 i0 _ Try.underlying22 hi hz0 .i64 .i64 (n : Int) (n : Int) (by omega) (Int.le_refl _) (by rw [hz2]; omega) (by omega)
    rw [hz1] at this
    simpa [Value.cells] using this
  clear hi hz0 hz1 hz2
  by_cases hn0 : n = 0
  · subst hn0
    have hxs : xs = [] := List.length_eq_zero_iff.1 HN.out
    go_enter Try.func35, Try.ntmps35
    go_wp2_with fail
    go_ret2
    rw [hxs, eaI]
    exact ⟨none, 0, 0, rfl, ⟨rfl, Nat.le_refl _, Nat.zero_le _, fun i t ht => by simp at ht⟩, Fr.refl _ _, H0.out⟩
  · have e0 : ((n : Int) == 0) = false := by rw [beq_eq_false_iff_ne]; omega
    go_enter Try.func35, Try.ntmps35
    go_wp2_with fail
    have hcs := size_madeCells #[.int .i64 0, .int .i64 0, .slice none 0 0] (n * 3)
    generalize madeCells #[.int .i64 0, .int .i64 0, .slice none 0 0] (n * 3) = cs0 at *
    have hb0 : Below w.heap.size w (w.alloc (.cells cs0 24)) := (Below.refl _ w).alloc (Nat.le_refl _) _
    have x3 := Box.new w 24 cs0
    have hI : MiI X St g xs c0 w n 0 (w.alloc (.cells cs0 24)) cs0 [] c0 := ⟨x3, hcs, rfl, fun i t ht => by simp at ht, Fr.below hb0, HST.out _ _ _ hb0.size (fun b hxb => hb0.block b (HXB.out b hxb).2) H0.out, by rw [List.drop_zero, contL_nil]⟩
    have HI := Lib.hid hI; clear hI hcs hmk hb0 x3 H0
    go_loopw [19] (fun i wr => ∃ (j : Nat) (cs : Array Value) (ys : List T) (c1 : Nat), j ≤ n ∧ i = .int .i64 j ∧ Hid (MiI X St g xs c0 w n j wr cs ys c1)) (fun i _ => n - (intOf i).toNat)
    case atStart => exact ⟨0, cs0, [], c0, Nat.zero_le _, rfl, HI⟩
    case round =>
      clear HI
      obtain ⟨j, cs, ys, c1, hj, rfl, HI⟩ := hrel
      by_cases hlt : j < n
      · obtain ⟨t, ht⟩ := at_ofI HN.out hlt
        have hBr : Below wB.heap.size wB wr := HB.out.trans ((HI.out.fr.to_below (fun i e => (HXB.out i e).1) HB.out.size))
        obtain ⟨b, o, rfl, c0'⟩ := HX.out j t ht
        have q0 := (hBr.cell (cell_lt c0')).trans c0'
        clear c0'
        have HT := Lib.hid ht; clear ht hBr
        have heq := HI.out.eq
        rw [drop_atI HT.out, eaI] at heq
        have HEQ := Lib.hid heq; clear heq
        have hi0 : (0 : Int) ≤ j := by omega
        have hi1 : (j : Int) < n := by omega
        go_wp2_with fail
        have hbA : Below wr.heap.size wr wr := Below.refl _ wr
        have lX : ∀ b, X b → b < wr.heap.size := fun b e => Nat.lt_of_lt_of_le (HXB.out b e).2 HI.out.fr.size
        obtain ⟨Wa, hWa⟩ : ∃ Wa, wr = Wa := ⟨_, rfl⟩
        have hcall := HF'.out j t wr c1 HT.out HI.out.fr HI.out.st
        clear hWa Wa q0
        cases hres : g j t c1 with
        | error ec =>
          rw [hres] at hcall
          refine hcall.mono ?_
          rintro e w1 ⟨rfl, hne, hfr⟩
          have hne' : (ec != 0) = true := by simpa using hne
          have HE : Hid (GEn X St w (eaI g xs 0 c0) (.returned (.tuple #[.slice none 0 0, .int .i64 ec])) (w1.alloc (.cells #[.int .i64 0, .int .i64 0, .slice none 0 0] 24))) := Lib.hid (by
            rw [HEQ.out, hres]
            exact ⟨rfl, hne, (((HI.out.fr.then hbA).trans hfr fun _ _ e => e).then ((Below.refl _ _).alloc (Nat.le_refl _) _))⟩)
          clear hres hcall hfr hbA hne
          go_wp2_with fail
          go_ret2
          exact HE.out
        | ok p =>
          obtain ⟨t', c2⟩ := p
          rw [hres] at hcall
          refine hcall.mono ?_
          rintro e w1 ⟨k3, h3, A3, n3, c3, rfl, hrx, hfr, hst⟩
          have s1 := HI.out.fr.size
          have s2 := hbA.size
          have s3 := hfr.size
          have lrow := HI.out.row.lt
          have nrow : ¬ X w.heap.size := fun e => by have := (HXB.out _ e).2; omega
          have z3 : Box w1 w.heap.size 24 cs := (HI.out.row.keep hbA lrow).fr hfr nrow
          have hfr2 : Fr X wr w1 := (Fr.below (X := X) hbA).trans hfr fun _ _ e => e
          obtain ⟨u0, hu0⟩ := z3.there (i := j * 3) (by rw [HI.out.size]; omega)
          obtain ⟨u1, hu1⟩ := z3.there (i := j * 3 + 1) (by rw [HI.out.size]; omega)
          obtain ⟨u2, hu2⟩ := z3.there (i := j * 3 + 2) (by rw [HI.out.size]; omega)
          have f0 := z3.frozen (j * 3)
          have f1 := z3.frozen (j * 3 + 1)
          have f2 := z3.frozen (j * 3 + 2)
          have lz3 := z3.lt
          have HZ := Lib.hid z3; clear z3
          have HRX := Lib.hid hrx; clear hrx
          have HFR := Lib.hid hfr2; clear hfr2 hfr
          have HS2 := Lib.hid hst; clear hst
          have HRES := Lib.hid hres; clear hres hcall hbA
          go_wp2_with fail
          go_roundw
          case rel =>
            have hset : ∀ g, g ≠ w.heap.size → g < w1.heap.size → (((((w1.setCell ⟨w.heap.size, j * 3, none⟩ (.int .i64 k3)).setCell ⟨w.heap.size, j * 3 + 1, none⟩ (.int .i64 h3)).setCell ⟨w.heap.size, j * 3 + 2, none⟩ (.slice A3 n3 c3))).alloc (.cells #[.int .i64 k3, .int .i64 h3, .slice A3 n3 c3] 24)).heap[g]? = w1.heap[g]? := fun g hg hg' => by
              rw [Below.heap_alloc _ _ _ (by simpa using hg'), Below.heap_setCell _ _ _ _ hg, Below.heap_setCell _ _ _ _ hg, Below.heap_setCell _ _ _ _ hg]
            have hfw : Fr X w w1 := HI.out.fr.trans HFR.out fun _ _ e => e
            have hsz : w1.heap.size ≤ (((((w1.setCell ⟨w.heap.size, j * 3, none⟩ (.int .i64 k3)).setCell ⟨w.heap.size, j * 3 + 1, none⟩ (.int .i64 h3)).setCell ⟨w.heap.size, j * 3 + 2, none⟩ (.slice A3 n3 c3))).alloc (.cells #[.int .i64 k3, .int .i64 h3, .slice A3 n3 c3] 24)).heap.size := by simp [World.setCell]
            refine ⟨j + 1, _, ys ++ [t'], c2, by omega, by go_num, Lib.hid ⟨(((HZ.out.setAt _ _).setAt _ _).setAt _ _).alloc _, by simp [HI.out.size], by simp [HI.out.len], ?_, ?_, ?_, ?_⟩⟩
            · refine Kids.snoc (HI.out.kids.moveX fun b hb hl => ⟨hb, HFR.out.block b hl fun e => by have := (HXB.out b e).2; omega⟩) HI.out.len (fun b hb hl => hset b (by omega) hl) ?_ (by rw [HI.out.size]; omega)
              exact RdF.moveX (fun b hb hl => ⟨by omega, hset b (by omega) hl⟩) _ _ HRX.out
            · exact ⟨hfw.os, hfw.tape, hfw.output, by omega, fun b hb e => (hset b (by omega) (by omega)).trans (hfw.block b hb e)⟩
            · exact HST.out _ _ _ hsz (fun b e => hset b (by have := (HXB.out b e).2; omega) (by have := (HXB.out b e).2; omega)) HS2.out
            · rw [HEQ.out, HRES.out]
              simp only
              cases eaI g (xs.drop (j + 1)) (j + 1) c2 with
              | error e => rfl
              | ok q => obtain ⟨zs, c4⟩ := q; simp [contL]
          case measure => simp [intOf]; omega
      · obtain rfl : j = n := by omega
        have heq := HI.out.eq
        rw [drop_allI HN.out (by omega), eaI] at heq
        have HEQ := Lib.hid heq; clear heq
        go_wp2_with fail
        go_ret2
        rw [HEQ.out]
        simp only [contL, List.append_nil]
        refine ⟨_, _, _, rfl, Kids.rxlF HI.out.kids HI.out.row HI.out.len hn40 HI.out.size, HI.out.fr, HI.out.st⟩
end Go.Proofs.Ytaccaamdbfccmaa
