/-
  Contracts of package meta's each, for each of the closures that it is called with. No statement is proved here.
-/
import Derived.Test.YtaccaamdbfccmaaKb
import Derived.Test.YtaccaamdbfccmaaWe
namespace Go.Proofs.Ytaccaamdbfccmaa
open Go.ChangeShapes Go.WideShapes Go.ChangeAt Go.RowKit
set_option linter.unusedVariables false

/-- how a closure ends: a term and no error, or noughts and an error -/
def CEn (X : Nat → Prop) (St : Nat → World → Prop) (w : World) (r : Res) (e : Ending) (w' : World) : Prop :=
  match r with
  | .error ec => e = .returned (.tuple #[zT, .int .i64 ec]) ∧ ec ≠ 0 ∧ Fr X w w'
  | .ok (t, c) => ∃ k h A n cc, e = .returned (.tuple #[.agg #[.int .i64 k, .int .i64 h, .slice A n cc], .int .i64 0]) ∧ RX (fun b => b < w.heap.size) w' t (.agg #[.int .i64 k, .int .i64 h, .slice A n cc]) ∧ Fr X w w' ∧ St c w'
/-- how each ends -/
def GEn (X : Nat → Prop) (St : Nat → World → Prop) (w : World) (r : Except Int (List T × Nat)) (e : Ending) (w' : World) : Prop :=
  match r with
  | .error ec => e = .returned (.tuple #[.slice none 0 0, .int .i64 ec]) ∧ ec ≠ 0 ∧ Fr X w w'
  | .ok (ys, c) => ∃ A n cc, e = .returned (.tuple #[.slice A n cc, .int .i64 0]) ∧ RXL (fun b => b < w.heap.size) w' ys A n cc ∧ Fr X w w' ∧ St c w'
/-- what holds at the head of each's loop -/
structure MeI (X : Nat → Prop) (St : Nat → World → Prop) (g : Nat → T → Nat → Res) (xs : List T) (c0 M : Nat) (w : World) (n j : Nat) (wr : World) (cs : Array Value) (ys : List T) (c1 : Nat) : Prop where
  row : Box wr w.heap.size 24 cs
  size : cs.size = n * 3
  len : ys.length = j
  kids : Kids wr (fun b => w.heap.size < b) cs ys
  fr : Fr X w wr
  st : St c1 wr
  lo : c1 + 4000 * ndL (xs.drop j) ≤ M
  eq : eaL g xs 0 c0 = contL ys (eaL g (xs.drop j) j c1)
/-- a list of numbers: what each becomes, by its place -/
def eaI (g : Nat → Int → Nat → Res) : List Int → Nat → Nat → Except Int (List T × Nat)
  | [], _, c => .ok ([], c)
  | x :: xs, i, c =>
    match g i x c with
    | .error e => .error e
    | .ok (y, c1) =>
      match eaI g xs (i + 1) c1 with
      | .error e => .error e
      | .ok (ys, c2) => .ok (y :: ys, c2)
structure MiI (X : Nat → Prop) (St : Nat → World → Prop) (g : Nat → Int → Nat → Res) (xs : List Int) (c0 : Nat) (w : World) (n j : Nat) (wr : World) (cs : Array Value) (ys : List T) (c1 : Nat) : Prop where
  row : Box wr w.heap.size 24 cs
  size : cs.size = n * 3
  len : ys.length = j
  kids : Kids wr (fun b => w.heap.size < b) cs ys
  fr : Fr X w wr
  st : St c1 wr
  eq : eaI g xs 0 c0 = contL ys (eaI g (xs.drop j) j c1)
/-- a number in a list in memory -/
def IntAt (w : World) (A : Option Addr) (i : Nat) (x : Int) : Prop := ∃ b o, A = some ⟨b, o, none⟩ ∧ w.cell? ⟨b, o + i, none⟩ = some (.int .i64 x)
theorem at_ofI {xs : List Int} {n j : Nat} (hn : xs.length = n) (h : j < n) : ∃ t, xs[j]? = some t := ⟨_, List.getElem?_eq_getElem (by omega)⟩
theorem drop_atI {xs : List Int} {j : Nat} {t : Int} (h : xs[j]? = some t) : xs.drop j = t :: xs.drop (j + 1) := by
  obtain ⟨h1, h2⟩ := List.getElem?_eq_some_iff.1 h
  rw [List.drop_eq_getElem_cons h1, h2]
theorem drop_allI {xs : List Int} {n j : Nat} (hn : xs.length = n) (h : n ≤ j) : xs.drop j = [] := List.drop_of_length_le (by omega)
theorem Kids.rxlF {w w0 : World} {cs : Array Value} {ys : List T} {n : Nat} {ty : TypeId} (hk : Kids w (fun b => w0.heap.size < b) cs ys) (hb : Box w w0.heap.size ty cs) (hl : ys.length = n) (hm : n ≤ 3518437208780) (hs : cs.size = n * 3) : RXL (fun b => b < w0.heap.size) w ys (some ⟨w0.heap.size, 0, none⟩) n n := by
  refine ⟨hl, Nat.le_refl _, by unfold maxLen; omega, fun i t ht => ?_⟩
  obtain ⟨k, h, A, n', c, e0, e1, e2, hr⟩ := hk i t ht
  refine ⟨w0.heap.size, 0, _, _, _, rfl, Nat.lt_irrefl _, ?_, ?_, ?_, RdF.moveX (fun b hb _ => ⟨by omega, rfl⟩) _ _ hr⟩
  · rw [Nat.zero_add, hb.cell]; exact e0
  · rw [Nat.zero_add, hb.cell]; exact e1
  · rw [Nat.zero_add, hb.cell]; exact e2

set_option maxRecDepth 100000 in
set_option maxHeartbeats 4000000 in
theorem eachFC {X : Nat → Prop} {St : Nat → World → Prop} {p1 p2 p3 : Value} {wB w : World} {A : Option Addr} {n c c0 M : Nat} (xs : List T) (g : Nat → T → Nat → Res) (hb : Below wB.heap.size wB w) (hn : xs.length = n) (hc : n ≤ c) (hm : c ≤ maxLen) (hn40 : n ≤ 3518437208780) (hx : ∀ i t, xs[i]? = some t → RdAt wB A i t)
    (hX : ∀ b, X b → wB.heap.size ≤ b ∧ b < w.heap.size) (hSt : ∀ c W W', W.heap.size ≤ W'.heap.size → (∀ b, X b → W'.heap[b]? = W.heap[b]?) → St c W → St c W') (h0 : St c0 w) (hlo : c0 + 4000 * ndL xs ≤ M) (hg : ∀ i t c t1 c1, xs[i]? = some t → g i t c = .ok (t1, c1) → c1 ≤ c + 4000 * nd t)
    (HF : ∀ (i : Nat) (t : T) (v : Value) (W : World) (c : Nat), xs[i]? = some t → Rd wB t v → Fr X w W → St c W → c + 4000 * ndL (xs.drop i) ≤ M → Calls Try.prog 61 #[.int .i64 i, v, p1, p2, p3] W (CEn X St W (g i t c))) :
    Calls Try.prog 33 #[.slice A n c, .func (.func 61) #[] #[p1, p2, p3]] w (GEn X St w (eaL g xs 0 c0)) := by
  have hMM := hm
  unfold maxLen at hm
  have HN := Lib.hid hn; clear hn
  have HX := Lib.hid hx; clear hx
  have HF' := Lib.hid HF; clear HF
  have HST := Lib.hid hSt; clear hSt
  have HXB := Lib.hid hX; clear hX
  have H0 := Lib.hid h0; clear h0
  have HB := Lib.hid hb; clear hb
  have HG := Lib.hid hg; clear hg
  have HLO := Lib.hid hlo; clear hlo
  obtain ⟨i0, hi, hz0, hz1, hz2⟩ := info_parts infoTerm
  have hmk : ∀ W : World, (Instr.makeSlice 22 (.int .i64 (n : Int)) (.int .i64 (n : Int))).run Try.prog W = .ok (.slice (some ⟨W.heap.size, 0, none⟩) n n) (W.alloc (.cells (madeCells #[.int .i64 0, .int .i64 0, .slice none 0 0] (n * 3)) 24)) := by
    intro W
    have := run_make W 22 24 i0 _ Try.underlying22 hi hz0 .i64 .i64 (n : Int) (n : Int) (by omega) (Int.le_refl _) (by rw [hz2]; omega) (by omega)
    rw [hz1] at this
    simpa [Value.cells] using this
  clear hi hz0 hz1 hz2
  by_cases hn0 : n = 0
  · subst hn0
    have hxs : xs = [] := List.length_eq_zero_iff.1 HN.out
    go_enter Try.func33, Try.ntmps33
    go_wp2_with fail
    go_ret2
    rw [hxs, eaL]
    exact ⟨none, 0, 0, rfl, ⟨rfl, Nat.le_refl _, Nat.zero_le _, fun i t ht => by simp at ht⟩, Fr.refl _ _, H0.out⟩
  · have e0 : ((n : Int) == 0) = false := by rw [beq_eq_false_iff_ne]; omega
    go_enter Try.func33, Try.ntmps33
    go_wp2_with fail
    have hcs := size_madeCells #[.int .i64 0, .int .i64 0, .slice none 0 0] (n * 3)
    generalize madeCells #[.int .i64 0, .int .i64 0, .slice none 0 0] (n * 3) = cs0 at *
    have hb0 : Below w.heap.size w (w.alloc (.cells cs0 24)) := (Below.refl _ w).alloc (Nat.le_refl _) _
    have x3 := Box.new w 24 cs0
    have hI : MeI X St g xs c0 M w n 0 (w.alloc (.cells cs0 24)) cs0 [] c0 := ⟨x3, hcs, rfl, fun i t ht => by simp at ht, Fr.below hb0, HST.out _ _ _ hb0.size (fun b hxb => hb0.block b (HXB.out b hxb).2) H0.out, by rw [List.drop_zero]; exact HLO.out, by rw [List.drop_zero, contL_nil]⟩
    have HI := Lib.hid hI; clear hI hcs hmk hb0 x3 H0
    go_loopw [19] (fun i wr => ∃ (j : Nat) (cs : Array Value) (ys : List T) (c1 : Nat), j ≤ n ∧ i = .int .i64 j ∧ Hid (MeI X St g xs c0 M w n j wr cs ys c1)) (fun i _ => n - (intOf i).toNat)
    case atStart => exact ⟨0, cs0, [], c0, Nat.zero_le _, rfl, HI⟩
    case round =>
      clear HI
      obtain ⟨j, cs, ys, c1, hj, rfl, HI⟩ := hrel
      by_cases hlt : j < n
      · obtain ⟨t, ht⟩ := at_of HN.out hlt
        have hBr : Below wB.heap.size wB wr := HB.out.trans ((HI.out.fr.to_below (fun i e => (HXB.out i e).1) HB.out.size))
        obtain ⟨b, o, k2, h2, A2, n2, c2', rfl, c0', c1', c2'', hr⟩ := (HX.out j t ht).full
        have q0 := (hBr.cell (cell_lt c0')).trans c0'
        have q1 := (hBr.cell (cell_lt c1')).trans c1'
        have q2 := (hBr.cell (cell_lt c2'')).trans c2''
        clear c0' c1' c2''
        have HR := Lib.hid hr; clear hr
        have HT := Lib.hid ht; clear ht hBr
        have heq := HI.out.eq
        rw [drop_at HT.out, eaL] at heq
        have HEQ := Lib.hid heq; clear heq
        have hi0 : (0 : Int) ≤ j := by omega
        have hi1 : (j : Int) < n := by omega
        go_wp2_with fail
        have hbA : Below wr.heap.size wr (wr.alloc (.cells #[.int .i64 k2, .int .i64 h2, .slice A2 n2 c2'] 24)) := (Below.refl _ wr).alloc (Nat.le_refl _) _
        generalize wr.alloc (.cells #[.int .i64 k2, .int .i64 h2, .slice A2 n2 c2'] 24) = Wa at *
        clear q0 q1 q2
        have lX : ∀ b, X b → b < wr.heap.size := fun b e => Nat.lt_of_lt_of_le (HXB.out b e).2 HI.out.fr.size
        have hcall := HF'.out j t _ Wa c1 HT.out HR.out (HI.out.fr.then hbA) (HST.out _ _ _ hbA.size (fun b e => hbA.block b (lX b e)) HI.out.st) HI.out.lo
        cases hres : g j t c1 with
        | error ec =>
          rw [hres] at hcall
          refine hcall.mono ?_
          rintro e w1 ⟨rfl, hne, hfr⟩
          have hne' : (ec != 0) = true := by simpa using hne
          have HE : Hid (GEn X St w (eaL g xs 0 c0) (.returned (.tuple #[.slice none 0 0, .int .i64 ec])) (w1.alloc (.cells #[.int .i64 0, .int .i64 0, .slice none 0 0] 24))) := Lib.hid (by
            rw [HEQ.out, hres]
            exact ⟨rfl, hne, (((HI.out.fr.then hbA).trans hfr fun _ _ e => e).then ((Below.refl _ _).alloc (Nat.le_refl _) _))⟩)
          clear hres hcall hfr hbA hne
          go_wp2_with fail
          go_ret2
          exact HE.out
        | ok p =>
          obtain ⟨t', c2⟩ := p
          rw [hres] at hcall
          refine hcall.mono ?_
          rintro e w1 ⟨k3, h3, A3, n3, c3, rfl, hrx, hfr, hst⟩
          have s1 := HI.out.fr.size
          have s2 := hbA.size
          have s3 := hfr.size
          have lrow := HI.out.row.lt
          have nrow : ¬ X w.heap.size := fun e => by have := (HXB.out _ e).2; omega
          have z3 : Box w1 w.heap.size 24 cs := (HI.out.row.keep hbA lrow).fr hfr nrow
          have hfr2 : Fr X wr w1 := (Fr.below (X := X) hbA).trans hfr fun _ _ e => e
          obtain ⟨u0, hu0⟩ := z3.there (i := j * 3) (by rw [HI.out.size]; omega)
          obtain ⟨u1, hu1⟩ := z3.there (i := j * 3 + 1) (by rw [HI.out.size]; omega)
          obtain ⟨u2, hu2⟩ := z3.there (i := j * 3 + 2) (by rw [HI.out.size]; omega)
          have f0 := z3.frozen (j * 3)
          have f1 := z3.frozen (j * 3 + 1)
          have f2 := z3.frozen (j * 3 + 2)
          have lz3 := z3.lt
          have HZ := Lib.hid z3; clear z3
          have HRX := Lib.hid hrx; clear hrx
          have HFR := Lib.hid hfr2; clear hfr2 hfr
          have HS2 := Lib.hid hst; clear hst
          have HRES := Lib.hid hres; clear hres hcall hbA
          go_wp2_with fail
          go_roundw
          case rel =>
            have hset : ∀ g, g ≠ w.heap.size → g < w1.heap.size → (((((w1.setCell ⟨w.heap.size, j * 3, none⟩ (.int .i64 k3)).setCell ⟨w.heap.size, j * 3 + 1, none⟩ (.int .i64 h3)).setCell ⟨w.heap.size, j * 3 + 2, none⟩ (.slice A3 n3 c3))).alloc (.cells #[.int .i64 k3, .int .i64 h3, .slice A3 n3 c3] 24)).heap[g]? = w1.heap[g]? := fun g hg hg' => by
              rw [Below.heap_alloc _ _ _ (by simpa using hg'), Below.heap_setCell _ _ _ _ hg, Below.heap_setCell _ _ _ _ hg, Below.heap_setCell _ _ _ _ hg]
            have hfw : Fr X w w1 := HI.out.fr.trans HFR.out fun _ _ e => e
            have hsz : w1.heap.size ≤ (((((w1.setCell ⟨w.heap.size, j * 3, none⟩ (.int .i64 k3)).setCell ⟨w.heap.size, j * 3 + 1, none⟩ (.int .i64 h3)).setCell ⟨w.heap.size, j * 3 + 2, none⟩ (.slice A3 n3 c3))).alloc (.cells #[.int .i64 k3, .int .i64 h3, .slice A3 n3 c3] 24)).heap.size := by simp [World.setCell]
            refine ⟨j + 1, _, ys ++ [t'], c2, by omega, by go_num, Lib.hid ⟨(((HZ.out.setAt _ _).setAt _ _).setAt _ _).alloc _, by simp [HI.out.size], by simp [HI.out.len], ?_, ?_, ?_, ?_, ?_⟩⟩
            · refine Kids.snoc (HI.out.kids.moveX fun b hb hl => ⟨hb, HFR.out.block b hl fun e => by have := (HXB.out b e).2; omega⟩) HI.out.len (fun b hb hl => hset b (by omega) hl) ?_ (by rw [HI.out.size]; omega)
              exact RdF.moveX (fun b hb hl => ⟨by omega, hset b (by omega) hl⟩) _ _ HRX.out
            · exact ⟨hfw.os, hfw.tape, hfw.output, by omega, fun b hb e => (hset b (by omega) (by omega)).trans (hfw.block b hb e)⟩
            · exact HST.out _ _ _ hsz (fun b e => hset b (by have := (HXB.out b e).2; omega) (by have := (HXB.out b e).2; omega)) HS2.out
            · have h1 := HG.out j t c1 t' c2 HT.out HRES.out
              have h2 := HI.out.lo
              rw [drop_at HT.out, ndL] at h2
              omega
            · rw [HEQ.out, HRES.out]
              simp only
              cases eaL g (xs.drop (j + 1)) (j + 1) c2 with
              | error e => rfl
              | ok q => obtain ⟨zs, c4⟩ := q; simp [contL]
          case measure => simp [intOf]; omega
      · obtain rfl : j = n := by omega
        have heq := HI.out.eq
        rw [drop_all HN.out (by omega), eaL] at heq
        have HEQ := Lib.hid heq; clear heq
        go_wp2_with fail
        go_ret2
        rw [HEQ.out]
        simp only [contL, List.append_nil]
        refine ⟨_, _, _, rfl, Kids.rxlF HI.out.kids HI.out.row HI.out.len hn40 HI.out.size, HI.out.fr, HI.out.st⟩
end Go.Proofs.Ytaccaamdbfccmaa
