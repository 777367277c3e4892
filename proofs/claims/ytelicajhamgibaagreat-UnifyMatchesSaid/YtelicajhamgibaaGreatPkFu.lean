/-
  Texts of one proof, put together. No statement is proved here.
-/
import Derived.Test.YtelicajhamgibaaGreatPkB
import Derived.Test.YtelicajhamgibaaGreatWk
import Derived.Test.YtelicajhamgibaaGreatPf
import Derived.Test.YtelicajhamgibaaGreatOw

/-
  Contract of the document's own Same of layer 3. No statement is proved here.
-/
namespace Go.Proofs.YtelicajhamgibaaGreat
open Go.ChangeShapes Go.WideShapes Go.ChangeAt Go.RowKit
set_option linter.unusedVariables false

/-! ### Same -/
theorem vs_take (m j : Nat) (h : j < m) : (vsL m).take j ++ [T.node 4 ((m : Int) - 1 - (j : Int)) []] = (vsL m).take (j + 1) := by
  have hl : j < (vsL m).length := by rw [vsL_len]; exact h
  rw [List.take_succ_eq_append_getElem hl]
  obtain ⟨_, e⟩ := vsL_at _ _ _ (List.getElem?_eq_getElem hl)
  rw [e]
/-- what holds at the head of Same's loop -/
structure RsI (m : Nat) (w : World) (j : Nat) (wr : World) (Av : Option Addr) (cv : Nat) (cs : List Value) : Prop where
  res : Box wr w.heap.size 73 #[.slice none 0 0, .int .i64 0]
  out : Box wr (w.heap.size + 1) 73 #[.slice Av j cv, .int .i64 m]
  row : GRow (fun b => b < w.heap.size + 2) wr (w.heap.size + 2) (.slice Av j cv) j cs ((vsL m).take j)
  below : Below w.heap.size w wr
end Go.Proofs.YtelicajhamgibaaGreat

/-
  Contracts of package unify's Full, and of the document's. No statement is proved here.
-/
namespace Go.Proofs.YtelicajhamgibaaGreat
open Go.ChangeShapes Go.WideShapes Go.ChangeAt Go.RowKit
set_option linter.unusedVariables false

/-- what a meta is, or itself -/
def fulT (x : BT) (i : Nat) (s : Int) : T := if x.1 = true then x.2 else .node 6 i (vsL (clN s))
def fulL (sz : List Int) : List BT → Nat → List T
  | [], _ => []
  | x :: xs, i => fulT x i (sz.getD i 0) :: fulL sz xs (i + 1)
theorem fulL_len (sz : List Int) : ∀ (bs : List BT) (i : Nat), (fulL sz bs i).length = bs.length
  | [], _ => rfl
  | x :: xs, i => by rw [fulL, List.length_cons, List.length_cons, fulL_len sz xs]
theorem clN_zero : vsL (clN 0) = [] := rfl
theorem clN_le (s : Int) : clN s ≤ 200 := by unfold clN; split; omega; split <;> omega
/-- what holds at the head of Full's loop -/
structure FuI (sz : List Int) (bs : List BT) (n : Nat) (w : World) (j : Nat) (wr : World) (cs : Array Value) (ys : List T) : Prop where
  row : Box wr w.heap.size 24 cs
  size : cs.size = n * 3
  len : ys.length = j
  kids : Kids wr (fun b => w.heap.size < b) cs ys
  below : Below w.heap.size w wr
  eq : fulL sz bs 0 = ys ++ fulL sz (bs.drop j) j
theorem Kids.rdat {w : World} {q : Nat} {ok : Nat → Prop} {cs : Array Value} {ys : List T} {ty : TypeId} (hk : Kids w ok cs ys) (hb : Box w q ty cs) : ∀ i t, ys[i]? = some t → RdAt w (some ⟨q, 0, none⟩) i t := fun i t ht => by
  obtain ⟨k, h, A, n', c, e0, e1, e2, hr⟩ := hk i t ht
  refine ⟨q, 0, _, _, _, rfl, ?_, ?_, ?_, RdF.rd _ _ hr⟩
  · rw [Nat.zero_add, hb.cell]; exact e0
  · rw [Nat.zero_add, hb.cell]; exact e1
  · rw [Nat.zero_add, hb.cell]; exact e2
theorem wf_place {j : Nat} (h : j ≤ 1000) : (Lit.int .i64 (j : Int)).wf = true := by
  simp [Lit.wf, IntKind.min, IntKind.max, IntKind.signed, IntKind.bits]; omega
/-- one more term has its place -/
theorem FuI.step {sz : List Int} {bs : List BT} {n : Nat} {w : World} {j : Nat} {wr : World} {cs : Array Value} {ys : List T} {x : BT} {w1 : World} {k h : Int} {A : Option Addr} {m c : Nat} (hi : FuI sz bs n w j wr cs ys) (hx : bs[j]? = some x) (hj : j < n)
    (hb : Below wr.heap.size wr w1) (hr : RdF (fun b => w.heap.size < b) w1 (fulT x j (sz.getD j 0)) (.agg #[.int .i64 k, .int .i64 h, .slice A m c])) :
    ∃ cs', FuI sz bs n w (j + 1) (((w1.setCell ⟨w.heap.size, j * 3, none⟩ (.int .i64 k)).setCell ⟨w.heap.size, j * 3 + 1, none⟩ (.int .i64 h)).setCell ⟨w.heap.size, j * 3 + 2, none⟩ (.slice A m c)) cs' (ys ++ [fulT x j (sz.getD j 0)]) := by
  have z := hi.row.keep hb hi.row.lt
  have hset : ∀ g, w.heap.size < g → g < w1.heap.size → (((w1.setCell ⟨w.heap.size, j * 3, none⟩ (.int .i64 k)).setCell ⟨w.heap.size, j * 3 + 1, none⟩ (.int .i64 h)).setCell ⟨w.heap.size, j * 3 + 2, none⟩ (.slice A m c)).heap[g]? = w1.heap[g]? := fun g hg _ => by
    rw [Below.heap_setCell _ _ _ _ (by dsimp only; omega), Below.heap_setCell _ _ _ _ (by dsimp only; omega), Below.heap_setCell _ _ _ _ (by dsimp only; omega)]
  have e := hi.eq
  rw [drop_at hx, fulL] at e
  refine ⟨_, ⟨((z.setAt _ _).setAt _ _).setAt _ _, by simp [hi.size], by simp [hi.len], Kids.snoc (hi.kids.move fun g _ hg => hb.block g hg) hi.len hset (RdF.move (fun _ h => h) hset _ _ hr) (by rw [hi.size]; omega), ?_, by rw [e]; simp⟩⟩
  exact (((hi.below.trans (hb.mono hi.below.size)).setCell (Nat.le_refl _) _).setCell (Nat.le_refl _) _).setCell (Nat.le_refl _) _

set_option maxRecDepth 100000 in
set_option maxHeartbeats 8000000 in
theorem FullC (bs : List BT) (sz : List Int) (A : Option Addr) (n c : Nat) (As : Option Addr) (L cs : Nat) (w : World) (hbl : BL (fun _ => True) w bs A n c) (hwd : ∀ x ∈ bs, wd x.2 ≤ 3518437208780) (hn : n ≤ 60) (hl : sz.length = L) (hlc : L ≤ cs) (hcm : cs ≤ maxLen) (hs : Nu w sz As) :
    Calls Tryz.prog 15 #[.slice A n c, .slice As L cs] w fun e w' => ∃ q, e = .returned (.slice (some ⟨q, 0, none⟩) n n) ∧ (∀ i t, (fulL sz bs 0)[i]? = some t → RdAt w' (some ⟨q, 0, none⟩) i t) ∧ Below w.heap.size w w' := by
  have hc1 := hbl.le
  have hc2 := hbl.cap
  unfold maxLen at hc2 hcm
  have HBL := Lib.hid hbl; clear hbl
  have HWD := Lib.hid hwd; clear hwd
  have HS := Lib.hid hs; clear hs
  have HLZ := Lib.hid hl; clear hl
  obtain ⟨i0, hi, hz0, hz1, hz2⟩ := info_parts infoTerm
  have hmk : ∀ W : World, (Instr.makeSlice 22 (.int .i64 (n : Int)) (.int .i64 (n : Int))).run Tryz.prog W = .ok (.slice (some ⟨W.heap.size, 0, none⟩) n n) (W.alloc (.cells (madeCells #[.int .i64 0, .int .i64 0, .slice none 0 0] (n * 3)) 24)) := by
    intro W
    have := run_make W 22 24 i0 _ Tryz.underlying22 hi hz0 .i64 .i64 (n : Int) (n : Int) (by omega) (Int.le_refl _) (by rw [hz2]; omega) (by omega)
    rw [hz1] at this
    simpa [Value.cells] using this
  clear hi hz0 hz1 hz2
  go_enter Tryz.func15, Tryz.ntmps15
  go_wp2_with fail
  have hcs := size_madeCells #[.int .i64 0, .int .i64 0, .slice none 0 0] (n * 3)
  generalize madeCells #[.int .i64 0, .int .i64 0, .slice none 0 0] (n * 3) = cs0 at *
  have hb0 : Below w.heap.size w (w.alloc (.cells cs0 24)) := (Below.refl _ w).alloc (Nat.le_refl _) _
  have HI : Hid (FuI sz bs n w 0 (w.alloc (.cells cs0 24)) cs0 []) := Lib.hid ⟨Box.new w _ cs0, hcs, rfl, fun i t ht => by simp at ht, hb0, by rw [List.drop_zero, List.nil_append]⟩
  clear hcs hmk hb0
  go_loopw [13] (fun i wr => ∃ (j : Nat) (cs : Array Value) (ys : List T), j ≤ n ∧ i = .int .i64 j ∧ Hid (FuI sz bs n w j wr cs ys)) (fun i _ => n - (Go.RowKit.intOf i).toNat)
  case atStart => exact ⟨0, cs0, [], Nat.zero_le _, rfl, HI⟩
  case round =>
    clear HI
    obtain ⟨j, csr, ys, hj, rfl, HI⟩ := hrel
    by_cases hlt : j < n
    · obtain ⟨x, hx⟩ := at_of (k := j) HBL.out.len hlt
      obtain ⟨b, o, kb, gb, Ab, nb, cb, rfl, d0, d1, d2, d3, hrb⟩ := (HBL.out.keep HI.out.below).at_ j x hx
      obtain ⟨bx, tx⟩ := x
      dsimp only at d0 hrb
      have hi0 : (0 : Int) ≤ j := by omega
      have hi1 : (j : Int) < n := by omega
      have HX := Lib.hid hx
      obtain ⟨Wa, hWa⟩ : ∃ Wa, wr.alloc (.cells #[.bool bx, .int .i64 kb, .int .i64 gb, .slice Ab nb cb] 38) = Wa := ⟨_, rfl⟩
      have hbA : Below wr.heap.size wr Wa := by rw [← hWa]; exact (Below.refl _ _).alloc (Nat.le_refl _) _
      have x7 : Box Wa wr.heap.size 38 #[.bool bx, .int .i64 kb, .int .i64 gb, .slice Ab nb cb] := by rw [← hWa]; exact Box.new _ _ _
      have HBA := Lib.hid hbA
      have HRD := Lib.hid (Rd.keep hbA _ _ (RdF.rd _ _ hrb))
      have HWX := Lib.hid (HWD.out (bx, tx) (List.mem_of_getElem? hx))
      have a0 := x7.cell 0
      have a1 := x7.cell 1
      have a2 := x7.cell 2
      have a3 := x7.cell 3
      have lrow := HI.out.row.lt
      have HWA := Lib.hid hWa
      have zA := HI.out.row.keep hbA lrow
      have HZA := Lib.hid zA
      clear hx hrb hbA x7 zA
      simp only [List.getElem?_toArray, List.getElem?_cons_zero, List.getElem?_cons_succ] at a0 a1 a2 a3
      cases bx
      · by_cases hjL : j < L
        · obtain ⟨z, hz⟩ : ∃ z, sz[j]? = some z := ⟨_, List.getElem?_eq_getElem (by rw [HLZ.out]; exact hjL)⟩
          obtain ⟨bS, oS, rfl, s0⟩ := (HS.out.keep (HI.out.below.trans (HBA.out.mono HI.out.below.size))) j z hz
          have hdL : decide ((j : Int) < (L : Int)) = true := decide_eq_true (by omega)
          have hjL2 : (j : Int) < L := by omega
          have HZ := Lib.hid (show sz.getD j 0 = z by rw [List.getD_eq_getElem?_getD, hz]; rfl)
          have HSM := Lib.hid (SameC z Wa)
          have hfd : ∀ (A : Option Addr) (n c : Nat) (x : Int) (W : World), (Instr.field 73 (.agg #[.slice A n c, .int .i64 x]) 0).run Tryz.prog W = .ok (.slice A n c) W := fun A n c x W => by kernel_rfl
          clear hz
          go_wp2_with fail
          clear hWa
          refine HSM.out.mono ?_
          rintro e w1 ⟨A3, n3, c3, rfl, hrl, hb1⟩
          have hbw := HBA.out.trans (hb1.mono HBA.out.size)
          have z3 := HZA.out.keep hb1 HZA.out.lt
          have sA := HBA.out.size
          have hr3 : RdF (fun b => w.heap.size < b) w1 (fulT (false, tx) j (sz.getD j 0)) (.agg #[.int .i64 6, .int .i64 j, .slice A3 n3 c3]) := by
            rw [HZ.out]
            exact RdF_node.2 ⟨A3, n3, c3, rfl, by decide, wf_place (by omega), hrl.len, hrl.le, hrl.cap, fun i t ht => RdFAt.moveX (fun b hb _ => ⟨by have hb : ¬ b < Wa.heap.size := hb; show w.heap.size < b; omega, rfl⟩) (hrl.at_ i t ht)⟩
          obtain ⟨cs', hJ⟩ := HI.out.step HX.out hlt hbw hr3
          have HJ := Lib.hid hJ
          obtain ⟨u0, hu0⟩ := z3.there (i := j * 3) (by rw [HI.out.size]; omega)
          obtain ⟨u1, hu1⟩ := z3.there (i := j * 3 + 1) (by rw [HI.out.size]; omega)
          obtain ⟨u2, hu2⟩ := z3.there (i := j * 3 + 2) (by rw [HI.out.size]; omega)
          have f0 := z3.frozen (j * 3)
          have f1 := z3.frozen (j * 3 + 1)
          have f2 := z3.frozen (j * 3 + 2)
          clear hrl hb1 hbw z3 hr3 hJ a0 a1 a2 a3 d0 d1 d2 d3 s0
          go_wp2_with fail
          go_roundw
          case rel => exact ⟨j + 1, _, _, by omega, by go_num, HJ⟩
          case measure => simp [Go.RowKit.intOf]; omega
        · have hdL : decide ((j : Int) < (L : Int)) = false := decide_eq_false (by omega)
          have hz0 : sz.getD j 0 = 0 := by rw [List.getD_eq_getElem?_getD, List.getElem?_eq_none (by rw [HLZ.out]; omega)]; rfl
          have hr3 : RdF (fun b => w.heap.size < b) Wa (fulT (false, tx) j (sz.getD j 0)) (.agg #[.int .i64 6, .int .i64 j, .slice none 0 0]) := by
            rw [hz0]
            exact RdF_node.2 ⟨none, 0, 0, rfl, by decide, wf_place (by omega), rfl, Nat.le_refl _, Nat.zero_le _, fun i t ht => by rw [clN_zero] at ht; simp at ht⟩
          obtain ⟨cs', hJ⟩ := HI.out.step HX.out hlt HBA.out hr3
          have HJ := Lib.hid hJ
          have z3 := HZA.out
          obtain ⟨u0, hu0⟩ := z3.there (i := j * 3) (by rw [HI.out.size]; omega)
          obtain ⟨u1, hu1⟩ := z3.there (i := j * 3 + 1) (by rw [HI.out.size]; omega)
          obtain ⟨u2, hu2⟩ := z3.there (i := j * 3 + 2) (by rw [HI.out.size]; omega)
          have f0 := z3.frozen (j * 3)
          have f1 := z3.frozen (j * 3 + 1)
          have f2 := z3.frozen (j * 3 + 2)
          clear z3 hr3 hJ hz0
          go_wp2_with fail
          clear hWa
          go_roundw
          case rel => exact ⟨j + 1, _, _, by omega, by go_num, HJ⟩
          case measure => simp [Go.RowKit.intOf]; omega
      · have HOW := Lib.hid (termOwn tx _ Wa HRD.out HWX.out)
        go_wp2_with fail
        clear hWa
        refine HOW.out.mono ?_
        rintro e w1 ⟨v1, rfl, how, hb1⟩
        obtain ⟨k3, h3, A3, n3, c3, rfl⟩ := how.full
        have hbw := HBA.out.trans (hb1.mono HBA.out.size)
        have z3 := HZA.out.keep hb1 HZA.out.lt
        have sA := HBA.out.size
        have hr3 : RdF (fun b => w.heap.size < b) w1 (fulT (true, tx) j (sz.getD j 0)) (.agg #[.int .i64 k3, .int .i64 h3, .slice A3 n3 c3]) :=
          RdF.moveX (fun b hb _ => ⟨by have hb : Wa.heap.size ≤ b := hb; show w.heap.size < b; omega, rfl⟩) _ _ how.rdF
        obtain ⟨cs', hJ⟩ := HI.out.step HX.out hlt hbw hr3
        have HJ := Lib.hid hJ
        obtain ⟨u0, hu0⟩ := z3.there (i := j * 3) (by rw [HI.out.size]; omega)
        obtain ⟨u1, hu1⟩ := z3.there (i := j * 3 + 1) (by rw [HI.out.size]; omega)
        obtain ⟨u2, hu2⟩ := z3.there (i := j * 3 + 2) (by rw [HI.out.size]; omega)
        have f0 := z3.frozen (j * 3)
        have f1 := z3.frozen (j * 3 + 1)
        have f2 := z3.frozen (j * 3 + 2)
        clear how hb1 hbw z3 hr3 hJ a0 a1 a2 a3 d0 d1 d2 d3
        go_wp2_with fail
        go_roundw
        case rel => exact ⟨j + 1, _, _, by omega, by go_num, HJ⟩
        case measure => simp [Go.RowKit.intOf]; omega
    · have e := HI.out.eq
      rw [drop_all HBL.out.len (by omega), fulL, List.append_nil] at e
      have HE := Lib.hid e; clear e
      go_wp2_with fail
      go_ret
      rw [HE.out]
      exact ⟨_, rfl, HI.out.kids.rdat HI.out.row, HI.out.below⟩
end Go.Proofs.YtelicajhamgibaaGreat
