/-
  Texts of one proof, put together. No statement is proved here.
-/
import Derived.Test.YtnnmnkgogiabiaaGreatPkA
import Derived.Test.YtnnmnkgogiabiaaGreatRr

/-
  Contracts of the document's own goes and invert. No statement is proved here.
-/
namespace Go.Proofs.YtnnmnkgogiabiaaGreat
open Go.ChangeShapes Go.WideShapes Go.ChangeAt Go.RowKit
set_option linter.unusedVariables false

/-- what the document's goes tells -/
def rgV (vs : List Int) (n x : Int) : Int := if n ≤ x then wrap64 (wrap64 (x - n) + vs.length) else (pls x vs).getD (-1)
def rgo (vs : List Int) (n x : Int) : Option Int := if rgV vs n x < 0 then none else some (rgV vs n x)
theorem rgo_eq {vs : List Int} {n x : Int} (h0 : 0 ≤ x) (hx : x ≤ 1125899906842624) (hn : 0 ≤ n ∧ n ≤ 1000) (hl : (vs.length : Int) ≤ 1099511627776) : rgo vs n x = igo vs n x := by
  unfold rgo rgV igo
  by_cases h : n ≤ x
  · rw [if_pos h, if_pos h, wrap_small (x := x - n) (by omega) (by omega), wrap_small (by omega) (by omega), if_neg (by omega)]
  · rw [if_neg h, if_neg h]
    cases hp : pls x vs with
    | none => rfl
    | some p =>
      have := pls_lt hp
      rw [Option.getD_some, if_neg (by omega)]
theorem pls_drop {x : Int} : ∀ {l : List Int} {j : Nat} {v : Int}, l[j]? = some v → (∀ i u, i < j → l[i]? = some u → u ≠ x) → pls x l = pls x (l.drop j)
  | l, 0, v, _, _ => by rw [List.drop_zero]
  | y :: ys, j + 1, v, h, hn => by
    rw [List.getElem?_cons_succ] at h
    rw [List.drop_succ_cons, pls, if_neg (hn 0 y (by omega) rfl)]
    exact pls_drop h fun i u hi hu => hn (i + 1) u (by omega) (by simpa using hu)
theorem rnL_none {tf : Int → Option Int} {k : Int} {n : Nat} {t : T} {ts : List T} {i : Nat} {f : Int} (h : rn tf t (wrap64 (f + bd k n i)) = none) : rnL tf k n (t :: ts) i f = none := by rw [rnL, h]; rfl
theorem rnL_some {tf : Int → Option Int} {k : Int} {n : Nat} {t u : T} {ts : List T} {i : Nat} {f : Int} (h : rn tf t (wrap64 (f + bd k n i)) = some u) : rnL tf k n (t :: ts) i f = (rnL tf k n ts (i + 1) f).map (u :: ·) := by rw [rnL, h]; rfl

set_option maxRecDepth 100000 in
set_option maxHeartbeats 4000000 in
theorem rgoesC (vs : List Int) (V0 : Option Addr) (nv c0v : Nat) (x i : Int) (w : World) (hnv : vs.length = nv) (hnc : nv ≤ c0v) (hnm : c0v ≤ maxLen) (hx : ∀ i z, vs[i]? = some z → ∃ b o, V0 = some ⟨b, o, none⟩ ∧ w.cell? ⟨b, o + i, none⟩ = some (.int .i64 z)) :
    Calls Tryz.prog 84 #[.int .i64 i, .slice V0 nv c0v, .int .i64 x] w fun e w' => e = .returned (.int .i64 (rgV vs x i)) ∧ Below w.heap.size w w' := by
  have HX := Lib.hid hx; clear hx
  have HN := Lib.hid hnv; clear hnv
  unfold maxLen at hnm
  by_cases hle : x ≤ i
  · have d1 : decide (x ≤ i) = true := by simpa using hle
    have e : rgV vs x i = wrap64 (wrap64 (i - x) + nv) := by rw [rgV, if_pos hle, HN.out]
    rw [e]
    clear hle
    go_enter Tryz.func84, Tryz.ntmps84
    go_wp2_with fail
    go_ret
    exact ⟨rfl, Below.refl _ _⟩
  · have d1 : decide (x ≤ i) = false := by simpa using hle
    have e : rgV vs x i = (pls i vs).getD (-1) := by rw [rgV, if_neg hle]
    rw [e]
    clear hle e
    go_enter Tryz.func84, Tryz.ntmps84
    go_wp2_with fail
    go_loopw [7] (fun q wr => ∃ (j : Nat), j ≤ nv ∧ q = .int .i64 j ∧ wr = w ∧ Hid (∀ m u, m < j → vs[m]? = some u → u ≠ i)) (fun q _ => nv - (Go.RowKit.intOf q).toNat)
    case atStart => exact ⟨0, Nat.zero_le _, rfl, rfl, Lib.hid (fun m u h => by omega)⟩
    case round =>
      obtain ⟨j, hj, rfl, rfl, HP⟩ := hrel
      by_cases hlt : j < nv
      · have hi0 : (0 : Int) ≤ j := by omega
        have hi1 : (j : Int) < nv := by omega
        obtain ⟨v, hv⟩ := at_of HN.out hlt
        obtain ⟨b, o, rfl, hc0⟩ := HX.out j v hv
        have HV := Lib.hid hv; clear hv
        have hw1 : IntKind.i64.wrap ((nv : Int) - 1) = (nv : Int) - 1 := by rw [wrapEq]; exact wrap_small (by omega) (by omega)
        have hw2 : IntKind.i64.wrap ((nv : Int) - 1 - j) = (nv : Int) - 1 - j := by rw [wrapEq]; exact wrap_small (by omega) (by omega)
        by_cases hvi : v = i
        · have e1 : (v == i) = true := by simpa using hvi
          have HVI := Lib.hid hvi; clear hvi
          go_wp2_with fail
          go_ret
          refine ⟨?_, Below.refl _ _⟩
          have h := pls_drop HV.out HP.out
          rw [← HVI.out]
          rw [← HVI.out] at h
          rw [h, drop_at HV.out, pls, if_pos rfl, Option.getD_some, List.length_drop, HN.out]
          refine congrArg (fun z => Ending.returned (Value.int .i64 z)) ?_
          omega
        · have e1 : (v == i) = false := by simpa using hvi
          have HVI := Lib.hid hvi; clear hvi
          go_wp2_with fail
          go_roundw
          case rel => exact ⟨j + 1, by omega, by go_num, by first | rfl | trivial, Lib.hid (fun m u hm hu => by
            by_cases hmj : m < j
            · exact HP.out m u hmj hu
            · have : m = j := by omega
              subst this
              have e := HV.out.symm.trans hu
              cases e
              exact HVI.out)⟩
          case measure => simp [Go.RowKit.intOf]; omega
      · obtain rfl : j = nv := by omega
        have hn : pls i vs = none := pls_none.2 fun hm => by
          obtain ⟨m, hm⟩ := List.getElem?_of_mem hm
          exact HP.out m i (by have := (List.getElem?_eq_some_iff.1 hm).1; have := HN.out; omega) hm rfl
        have HNO := Lib.hid hn; clear hn
        go_wp2_with fail
        go_ret
        exact ⟨by rw [HNO.out]; rfl, Below.refl _ _⟩

set_option maxRecDepth 100000 in
set_option maxHeartbeats 16000000 in
theorem rinvertC (vs : List Int) (V0 : Option Addr) (nv c0v : Nat) (x : Int) (hnv : vs.length = nv) (hnc : nv ≤ c0v) (hnm : c0v ≤ maxLen) (t : T) : ∀ (f : Int) (v : Value) (w : World), (∀ i z, vs[i]? = some z → ∃ b o, V0 = some ⟨b, o, none⟩ ∧ w.cell? ⟨b, o + i, none⟩ = some (.int .i64 z)) → Rd w t v → nd t ≤ 1048576 → Calls Tryz.prog 64 #[v, .slice V0 nv c0v, .int .i64 x, .int .i64 f] w (DEnd (rn (rgo vs x) t f) w) := by
  have HNV := Lib.hid hnv; clear hnv
  have HNC := Lib.hid hnc; clear hnc
  have HNM := Lib.hid hnm; clear hnm
  induction t using T.ind with
  | step k h xs ih =>
    intro f v w hnum hv hnd
    have HNUM := Lib.hid hnum; clear hnum
    obtain ⟨A, n, c, rfl, hk, hh, hn, hc, hm, hx⟩ := Rd_node.1 hv
    clear hv
    have HMM := Lib.hid hm
    unfold maxLen at hm
    have hnd' : n ≤ 1048576 ∧ ∀ t ∈ xs, nd t ≤ 1048576 := by
      rw [nd] at hnd
      have := (wdL_nd xs).2
      exact ⟨by omega, fun t ht => by have := nd_mem ht; omega⟩
    obtain ⟨hn20, hnds⟩ := hnd'
    clear hnd
    have HND := Lib.hid hnds; clear hnds
    have HN := Lib.hid hn; clear hn
    have HX := Lib.hid hx; clear hx
    have IH := Lib.hid ih; clear ih
    by_cases hvar : k = 4 ∧ f ≤ h
    · obtain ⟨hk4, hf⟩ := hvar
      have hD : rn (rgo vs x) (.node k h xs) f = ((rgo vs x (wrap64 (h - f))).map (fun y => wrap64 (y + f))).bind fun h' => (rnL (rgo vs x) k xs.length xs 0 f).map (.node k h') := by rw [rn, rnH, if_pos ⟨hk4, hf⟩]
      have HU0 := Lib.hid hD; clear hD
      generalize rn (rgo vs x) (.node k h xs) f = D at *
      have e1 : (k == 4) = true := by simpa using hk4
      have d1 : decide (f ≤ h) = true := by simpa using hf
      have hsub : IntKind.i64.wrap (h - f) = wrap64 (h - f) := wrapEq _
      have HK4 := Lib.hid hk4
      clear hk4 hf
      obtain ⟨W, hW⟩ : ∃ W, ((w.alloc (.cells #[.int .i64 k, .int .i64 h, .slice A n c] 24)).alloc (.cells #[.int .i64 0, .int .i64 0, .slice none 0 0] 24)).alloc (.cells #[.int .i64 k, .int .i64 h, .slice none 0 0] 24) = W := ⟨_, rfl⟩
      have hb : Below w.heap.size w W := by rw [← hW]; exact (((Below.refl _ _).alloc (Nat.le_refl _) _).alloc (by simp) _).alloc (by simp; omega) _
      have x1 : Box W w.heap.size 24 #[.int .i64 k, .int .i64 h, .slice A n c] := by rw [← hW]; exact ((Box.new _ _ _).alloc _).alloc _
      have x2 : Box W (w.heap.size + 1) 24 #[.int .i64 0, .int .i64 0, .slice none 0 0] := by rw [← hW]; exact ((Box.new (w.alloc _) _ _).at (by simp)).alloc _
      have x3 : Box W (w.heap.size + 1 + 1) 24 #[.int .i64 k, .int .i64 h, .slice none 0 0] := by rw [← hW]; exact (Box.new ((w.alloc _).alloc _) _ _).at (by simp)
      have HWW := Lib.hid hW; clear hW
      have HG := Lib.hid (rgoesC vs V0 nv c0v x (wrap64 (h - f)) W HNV.out HNC.out HNM.out (fun i z hz => by obtain ⟨b, o, e, h⟩ := HNUM.out i z hz; exact ⟨b, o, e, (hb.cell (cell_lt h)).trans h⟩))
      have HRG : Hid (rgo vs x (wrap64 (h - f)) = if rgV vs x (wrap64 (h - f)) < 0 then none else some (rgV vs x (wrap64 (h - f)))) := Lib.hid rfl
      generalize rgV vs x (wrap64 (h - f)) = Y at *
      generalize rgo vs x (wrap64 (h - f)) = O at *
      by_cases hy : Y < 0
      · have HU : Hid (D = none) := Lib.hid (by rw [HU0.out, HRG.out, if_pos hy]; rfl)
        have d2 : decide (Y < 0) = true := by simpa using hy
        clear hy HU0 HRG
        go_enter Tryz.func64, Tryz.ntmps64
        go_wp2_with fail
        rw [HWW.out]
        clear HWW
        refine HG.out.mono ?_
        rintro e w1 ⟨rfl, hb1⟩
        have z2 := x2.keep hb1 x2.lt
        replace hb := hb.trans (hb1.mono hb.size)
        clear hb1 x1 x2 x3
        obtain ⟨r0, r1, r2⟩ := z2.three
        have f0 := z2.frozen 0
        have f1 := z2.frozen 1
        have f2 := z2.frozen 2
        go_wp2_with fail
        refine bodyPost_ret (v := .tuple #[.agg #[.int .i64 0, .int .i64 0, .slice none 0 0], .bool false]) (by simp [results, Tryz.results64, go_sem, r0, r1, r2]) rfl ?_
        exact ⟨0, 0, none, 0, 0, false, rfl, .inr ⟨HU.out, rfl, rfl⟩, below_set3 hb (by omega) _ _ _⟩
      obtain ⟨h', hh0⟩ : ∃ h', h' = wrap64 (Y + f) := ⟨_, rfl⟩
      have HU : Hid (D = (rnL (rgo vs x) k xs.length xs 0 f).map (.node k h')) := Lib.hid (by rw [HU0.out, HRG.out, if_neg hy, hh0]; rfl)
      have hsum : IntKind.i64.wrap (Y + f) = h' := by rw [hh0]; exact wrapEq _
      have hwf2 : (Lit.int .i64 h').wf = true := by rw [hh0]; exact wf_wrap64 _
      have d2 : decide (Y < 0) = false := by simpa using hy
      clear hy HU0 HRG hh0
      go_enter Tryz.func64, Tryz.ntmps64
      go_wp2_with fail
      rw [HWW.out]
      clear HWW
      refine HG.out.mono ?_
      rintro e w1 ⟨rfl, hb1⟩
      replace x1 := x1.keep hb1 x1.lt
      replace x2 := x2.keep hb1 x2.lt
      replace x3 := x3.keep hb1 x3.lt
      replace hb := hb.trans (hb1.mono hb.size)
      clear hb1 HG
      obtain ⟨c0, c1, c2⟩ := x1.three
      obtain ⟨o0, o1, o2⟩ := x3.three
      have fo1 := x3.frozen 1
      have lo := x3.lt
      go_wp2_with fail
      obtain ⟨W2, hW2⟩ : ∃ W2, w1.setCell ⟨w.heap.size + 1 + 1, 1, none⟩ (.int .i64 h') = W2 := ⟨_, rfl⟩
      rw [hW2]
      replace x1 : Box W2 w.heap.size 24 #[.int .i64 k, .int .i64 h, .slice A n c] := by rw [← hW2]; exact x1.other (by dsimp only; omega) _
      replace x2 : Box W2 (w.heap.size + 1) 24 #[.int .i64 0, .int .i64 0, .slice none 0 0] := by rw [← hW2]; exact x2.other (by dsimp only; omega) _
      replace x3 : Box W2 (w.heap.size + 1 + 1) 24 #[.int .i64 k, .int .i64 h', .slice none 0 0] := by rw [← hW2]; simpa using x3.setAt 1 (.int .i64 h')
      replace hb : Below w.heap.size w W2 := by rw [← hW2]; exact hb.setCell (by dsimp only; omega) _
      clear hW2 c0 c1 c2 o0 o1 o2 fo1 lo e1 d1 d2 hsub hsum HK4
      go_loopw [12] (fun i wr => ∃ (j : Nat) (Av : Option Addr) (cv : Nat) (cs : List Value) (ys : List T), j ≤ n ∧ i = .int .i64 j ∧ Box wr w.heap.size 24 #[.int .i64 k, .int .i64 h, .slice A n c] ∧
        Box wr (w.heap.size + 1) 24 #[.int .i64 0, .int .i64 0, .slice none 0 0] ∧ Box wr (w.heap.size + 1 + 1) 24 #[.int .i64 k, .int .i64 h', .slice Av j cv] ∧
        Hid (wr.ownsRow (w.heap.size + 1 + 1 + 1) 24 3 (.slice Av j cv) j cs) ∧ Hid (ys.length = j ∧ rnL (rgo vs x) k xs.length xs 0 f = (rnL (rgo vs x) k xs.length (xs.drop j) j f).map (ys ++ ·)) ∧
        Hid (KidL wr (fun g => w.heap.size + 1 + 1 + 1 ≤ g ∧ g < wr.heap.size ∧ some g ≠ Value.ownBlock (.slice Av j cv)) cs ys) ∧ Below w.heap.size w wr) (fun i _ => n - (Go.RowKit.intOf i).toNat)
      case atStart => exact ⟨0, none, 0, [], [], Nat.zero_le _, rfl, x1, x2, x3, Lib.hid (World.ownsRow_nil _ _ _ _), Lib.hid ⟨rfl, by simp⟩, Lib.hid (fun i t ht => by simp at ht), hb⟩
      case round =>
        obtain ⟨j, Av, cv, cs, ys, hj, rfl, y1, y2, y3, HOW, HP, HK, hbr⟩ := hrel
        clear x1 x2 x3 hb
        obtain ⟨a0, a1, a2⟩ := y1.three
        by_cases hlt : j < n
        · obtain ⟨t, ht⟩ := at_of HN.out hlt
          obtain ⟨bA, oA, k2, h2, A2, n2, c2', rfl, c0, c1, c2, hr⟩ := (RdAt.keep hbr (HX.out j t ht)).full
          have HT := Lib.hid ht; clear ht
          have HR := Lib.hid hr; clear hr
          have hi0 : (0 : Int) ≤ j := by omega
          have hi1 : (j : Int) < n := by omega
          have l3 := y3.lt
          go_wp2_with fail
          have HKS : Hid (∀ w' : World, Below wr.heap.size wr w' → SDn w.heap.size k h bA oA n c j k2 h2 A2 n2 c2' w') := Lib.hid fun w' hw' => by
            have s1 := y1.keep hw' y1.lt
            exact ⟨s1.three.1, s1.three.2.1, s1.three.2.2, (hw'.cell (cell_lt c0)).trans c0, (hw'.cell (cell_lt c1)).trans c1, (hw'.cell (cell_lt c2)).trans c2⟩
          have hsum : IntKind.i64.wrap (f + bd k n j) = wrap64 (f + bd k n j) := wrapEq _
          have HBI : Hid (∀ W', Calls Tryz.prog 32 #[.agg #[.int .i64 k, .int .i64 h, .slice (some ⟨bA, oA, none⟩) n c], .int .i64 j] W' fun e w' => e = .returned (.int .i64 (bd k n j)) ∧ Below W'.heap.size W' w') := Lib.hid fun W' => refBinds k h _ n c hc HMM.out j (by unfold maxLen; omega) W'
          have HDC : Hid (∀ W', Below wr.heap.size wr W' → Calls Tryz.prog 64 #[.agg #[.int .i64 k2, .int .i64 h2, .slice A2 n2 c2'], .slice V0 nv c0v, .int .i64 x, .int .i64 (wrap64 (f + bd k n j))] W' (DEnd (rn (rgo vs x) t (wrap64 (f + bd k n j))) W')) := Lib.hid fun W' hW' => IH.out t (List.mem_of_getElem? HT.out) _ _ W' (fun i z hz => by obtain ⟨b, o, e, h⟩ := HNUM.out i z hz; exact ⟨b, o, e, ((hbr.trans (hW'.mono hbr.size)).cell (cell_lt h)).trans h⟩) (Rd.keep hW' _ _ HR.out) (HND.out t (List.mem_of_getElem? HT.out))
          have hcur : Below wr.heap.size wr wr.drew := (Below.refl _ wr).drew
          clear a0 a1 a2 c0 c1 c2
          go_region_held3 (fun w' => w'.cell? ⟨w.heap.size, 0, none⟩ = some (.int .i64 k) ∧ w'.cell? ⟨w.heap.size, 1, none⟩ = some (.int .i64 h) ∧ w'.cell? ⟨w.heap.size, 2, none⟩ = some (.slice (some ⟨bA, oA, none⟩) n c) ∧ w'.cell? ⟨bA, oA + j * 3, none⟩ = some (.int .i64 k2) ∧ w'.cell? ⟨bA, oA + j * 3 + 1, none⟩ = some (.int .i64 h2) ∧ w'.cell? ⟨bA, oA + j * 3 + 2, none⟩ = some (.slice A2 n2 c2'))
            (first | exact HKS.out _ hcur | exact HKS.out _ (hcur.alloc hcur.size _) | exact HKS.out _ (below_set3 hcur hp _ _ _) | exact HKS.out _ (below_set3 (hcur.alloc hcur.size _) hcur.size _ _ _))
            (first
              | (go_at_call 32
                 with_reducible refine (HBI.out wr.drew).mono ?_
                 rintro e w1 ⟨rfl, hb1⟩
                 replace hcur := hcur.trans hb1
                 clear hb1)
              | (go_at_call 32
                 refine (HBI.out (wr.drew.alloc (.cells #[.int .i64 0, .int .i64 0, .slice none 0 0] 24))).mono ?_
                 rintro e w1 ⟨rfl, hb1⟩
                 have zP : Box w1 wr.heap.size 24 #[.int .i64 0, .int .i64 0, .slice none 0 0] := (Box.new wr.drew 24 #[.int .i64 0, .int .i64 0, .slice none 0 0]).keep hb1 (Box.new _ _ _).lt
                 have hp : wr.heap.size ≤ wr.heap.size := Nat.le_refl _
                 have hcur := (hcur.alloc hcur.size (.cells #[.int .i64 0, .int .i64 0, .slice none 0 0] 24)).trans (hb1.mono (hcur.alloc hcur.size _).size)
                 clear hb1)
              | (go_at_call 64
                 have zP2 := zP
                 refine (HDC.out w1 hcur).mono ?_
                 rintro e w2 ⟨k3, h3, A3, n3, c3, bo, rfl, hout, hb1⟩
                 have zP := zP.keep hb1 zP.lt
                 have hng : ∀ g, w1.heap.size ≤ g ∧ g < w2.heap.size → wr.heap.size ≤ g ∧ g < w2.heap.size ∧ g ≠ wr.heap.size := fun g hg => ⟨Nat.le_trans hcur.size hg.1, hg.2, fun e => by have := zP2.lt; omega⟩
                 have hcur := hcur.trans (hb1.mono hcur.size)
                 clear hb1 zP2
                 obtain ⟨p0, p1, p2⟩ := zP.three
                 have fp0 := zP.frozen 0
                 have fp1 := zP.frozen 1
                 have fp2 := zP.frozen 2)
              | (go_at_call 64
                 refine (HDC.out w1 hcur).mono ?_
                 rintro e w2 ⟨k3, h3, A3, n3, c3, bo, rfl, hout, hb1⟩
                 have hng : ∀ g, w1.heap.size ≤ g ∧ g < w2.heap.size → wr.heap.size ≤ g ∧ g < w2.heap.size ∧ g ≠ w2.heap.size := fun g hg => ⟨Nat.le_trans hcur.size hg.1, hg.2, by omega⟩
                 have hcur := hcur.trans (hb1.mono hcur.size)
                 clear hb1)
              | (go_at_call 64
                 refine (HDC.out (w1.alloc (.cells #[.int .i64 0, .int .i64 0, .slice none 0 0] 24)) (hcur.alloc hcur.size _)).mono ?_
                 rintro e w2 ⟨k3, h3, A3, n3, c3, bo, rfl, hout, hb1⟩
                 have zP := (Box.new w1 24 #[.int .i64 0, .int .i64 0, .slice none 0 0]).keep hb1 (Box.new _ _ _).lt
                 have hp : wr.heap.size ≤ w1.heap.size := hcur.size
                 have hng : ∀ g, (w1.alloc (.cells #[.int .i64 0, .int .i64 0, .slice none 0 0] 24)).heap.size ≤ g ∧ g < w2.heap.size → wr.heap.size ≤ g ∧ g < w2.heap.size ∧ g ≠ w1.heap.size := fun g hg => by
                   have h1 := hg.1
                   simp at h1
                   exact ⟨by omega, hg.2, by omega⟩
                 have hcur := (hcur.alloc hcur.size (.cells #[.int .i64 0, .int .i64 0, .slice none 0 0] 24)).trans (hb1.mono (hcur.alloc hcur.size _).size)
                 clear hb1
                 obtain ⟨p0, p1, p2⟩ := zP.three
                 have fp0 := zP.frozen 0
                 have fp1 := zP.frozen 1
                 have fp2 := zP.frozen 2))
          obtain ⟨Wf, hWf⟩ : ∃ Wf, w2.alloc (.cells #[.int .i64 k3, .int .i64 h3, .slice A3 n3 c3] 24) = Wf := ⟨_, rfl⟩
          obtain ⟨p, hpe⟩ : ∃ p, p = w2.heap.size := ⟨_, rfl⟩
          have xP : Box Wf p 24 #[.int .i64 k3, .int .i64 h3, .slice A3 n3 c3] := by rw [hpe, ← hWf]; exact Box.new _ _ _
          have hbF : Below wr.heap.size wr Wf := by rw [← hWf]; exact hcur.alloc hcur.size _
          have hoF : DOut (rn (rgo vs x) t (wrap64 (f + bd k n j))) (fun g => wr.heap.size ≤ g ∧ g < Wf.heap.size ∧ g ≠ p) Wf (.agg #[.int .i64 k3, .int .i64 h3, .slice A3 n3 c3]) bo := by
            rw [hpe, ← hWf]; exact hout.move (fun g hg => by have := hng g hg; exact ⟨this.1, by simp; omega, this.2.2⟩) (fun g hg hg' => Below.heap_alloc _ _ _ hg')
          have hpl : wr.heap.size ≤ p := by rw [hpe]; exact hcur.size
          rw [hWf, ← hpe]
          clear hWf hpe hout hng hcur
          rotate_left 1
          obtain ⟨Wf, hWf⟩ : ∃ Wf, ((w2.setCell ⟨w1.heap.size, 0, none⟩ (.int .i64 k3)).setCell ⟨w1.heap.size, 1, none⟩ (.int .i64 h3)).setCell ⟨w1.heap.size, 2, none⟩ (.slice A3 n3 c3) = Wf := ⟨_, rfl⟩
          obtain ⟨p, hpe⟩ : ∃ p, p = w1.heap.size := ⟨_, rfl⟩
          have xP : Box Wf p 24 #[.int .i64 k3, .int .i64 h3, .slice A3 n3 c3] := by rw [hpe, ← hWf]; exact zP.set3 _ _ _
          have hbF : Below wr.heap.size wr Wf := by rw [← hWf]; exact below_set3 hcur hp _ _ _
          have hoF : DOut (rn (rgo vs x) t (wrap64 (f + bd k n j))) (fun g => wr.heap.size ≤ g ∧ g < Wf.heap.size ∧ g ≠ p) Wf (.agg #[.int .i64 k3, .int .i64 h3, .slice A3 n3 c3]) bo := by
            rw [hpe, ← hWf]; exact hout.move (fun g hg => by have := hng g hg; exact ⟨this.1, by simp; exact this.2.1, this.2.2⟩) (fun g hg hg' => heap_other3 _ _ _ _ _ _ (hng g hg).2.2)
          have hpl : wr.heap.size ≤ p := by rw [hpe]; exact hp
          rw [hWf, ← hpe]
          clear hWf hpe hout hng hcur p0 p1 p2 fp0 fp1 fp2 zP hp
          rotate_left 1
          obtain ⟨Wf, hWf⟩ : ∃ Wf, ((w2.setCell ⟨wr.heap.size, 0, none⟩ (.int .i64 k3)).setCell ⟨wr.heap.size, 1, none⟩ (.int .i64 h3)).setCell ⟨wr.heap.size, 2, none⟩ (.slice A3 n3 c3) = Wf := ⟨_, rfl⟩
          obtain ⟨p, hpe⟩ : ∃ p, p = wr.heap.size := ⟨_, rfl⟩
          have xP : Box Wf p 24 #[.int .i64 k3, .int .i64 h3, .slice A3 n3 c3] := by rw [hpe, ← hWf]; exact zP.set3 _ _ _
          have hbF : Below wr.heap.size wr Wf := by rw [← hWf]; exact below_set3 hcur hp _ _ _
          have hoF : DOut (rn (rgo vs x) t (wrap64 (f + bd k n j))) (fun g => wr.heap.size ≤ g ∧ g < Wf.heap.size ∧ g ≠ p) Wf (.agg #[.int .i64 k3, .int .i64 h3, .slice A3 n3 c3]) bo := by
            rw [hpe, ← hWf]; exact hout.move (fun g hg => by have := hng g hg; exact ⟨this.1, by simp; exact this.2.1, this.2.2⟩) (fun g hg hg' => heap_other3 _ _ _ _ _ _ (hng g hg).2.2)
          have hpl : wr.heap.size ≤ p := by rw [hpe]; exact hp
          rw [hWf, ← hpe]
          clear hWf hpe hout hng hcur p0 p1 p2 fp0 fp1 fp2 zP hp
          rotate_left 1
          all_goals
            have z1 := y1.keep hbF y1.lt
            have z2 := y2.keep hbF y2.lt
            have z3 := y3.keep hbF y3.lt
            have sF := hbF.size
            have lp := xP.lt
            have HOF := Lib.hid hoF; clear hoF
            clear HKS HBI HDC
            cases bo
            · have hnone : rn (rgo vs x) t (wrap64 (f + bd k n j)) = none := by
                rcases HOF.out with ⟨_, _, h, _⟩ | ⟨h, _, _⟩
                · cases h
                · exact h
              have HNO := Lib.hid hnone; clear hnone HOF
              obtain ⟨d0, d1, d2⟩ := z2.three
              have f0 := z2.frozen 0
              have f1 := z2.frozen 1
              have f2 := z2.frozen 2
              go_wp2_with fail
              refine bodyPost_ret (v := .tuple #[.agg #[.int .i64 0, .int .i64 0, .slice none 0 0], .bool false]) (by simp [results, Tryz.results64, go_sem, d0, d1, d2]) rfl ?_
              refine ⟨0, 0, none, 0, 0, false, rfl, .inr ⟨?_, rfl, rfl⟩, below_set3 (hbr.trans (hbF.mono hbr.size)) (by omega) _ _ _⟩
              rw [HU.out, HP.out.2, drop_at HT.out, HN.out, rnL_none HNO.out]
              rfl
            · obtain ⟨t', ht', hrf⟩ : ∃ t', rn (rgo vs x) t (wrap64 (f + bd k n j)) = some t' ∧ RdF (fun g => wr.heap.size ≤ g ∧ g < Wf.heap.size ∧ g ≠ p) Wf t' (.agg #[.int .i64 k3, .int .i64 h3, .slice A3 n3 c3]) := by
                rcases HOF.out with ⟨t', h1, _, h3⟩ | ⟨_, h, _⟩
                · exact ⟨t', h1, h3⟩
                · cases h
              have HT' := Lib.hid ht'; clear ht' HOF
              have HRF := Lib.hid hrf; clear hrf
              obtain ⟨q0, q1, q2⟩ := z3.three
              obtain ⟨x0, x1, x2⟩ := xP.three
              have l3' := z3.lt
              have hbD : Below wr.heap.size wr (Wf.alloc (.cells #[.int .i64 k3, .int .i64 h3, .slice A3 n3 c3] 24)) := hbF.alloc hbF.size _
              obtain ⟨i0, hi, hz0, hz1, hz2⟩ := info_parts infoTerm
              have HI := Lib.hid hi; clear hi
              have HZ0 := Lib.hid hz0; clear hz0
              go_wp2_with (
                at_builtin
                refine wpList_append_lies (Wf.alloc (.cells #[.int .i64 k3, .int .i64 h3, .slice A3 n3 c3] 24)) rfl (.tmp 70) (.tmp 72) 22 rfl (w.heap.size + 1 + 1 + 1) 24 i0 _ 3 40 Tryz.underlying22 HI.out HZ0.out hz1 hz2 rfl (by omega) (.slice Av j cv) j cs rfl (HOW.out.kept (grown_of_below hbD) (own_none _)) ⟨Wf.heap.size, 0, none⟩ 1 1 [.int .i64 k3, .int .i64 h3, .slice A3 n3 c3] rfl rfl (World.news_of_block (heap_alloc_new Wf _)) (by intro u hu; simp at hu; rcases hu with rfl | rfl | rfl <;> rfl) (by omega) (by unfold maxLen; omega) (by omega) (by simp; omega) _ rfl ?_
                intro g cap w4 how4 hgr hg4 hlt4
                have hw4 : ∀ g', g' < wr.heap.size → some g' ≠ Value.ownBlock (.slice Av j cv) → w4.heap[g']? = wr.heap[g']? := fun g' hg' hne => (hgr.block g' (Nat.lt_of_lt_of_le hg' hbD.size) hne).trans (hbD.block g' hg')
                have nb : ∀ g, g < w.heap.size + 1 + 1 + 1 → some g ≠ Value.ownBlock (.slice Av j cv) := fun g hg e => by
                  have := HOW.out.lt g e.symm
                  omega
                have u1 : Box w4 w.heap.size _ _ := (hw4 _ y1.lt (nb _ (by omega))).trans y1
                have u2 : Box w4 (w.heap.size + 1) _ _ := (hw4 _ y2.lt (nb _ (by omega))).trans y2
                have u3 : Box w4 (w.heap.size + 1 + 1) _ _ := (hw4 _ y3.lt (nb _ (by omega))).trans y3
                have s4 : Wf.heap.size + 1 ≤ w4.heap.size := by have := hgr.size; simpa using this
                have hgo : ∀ g', g' < Wf.heap.size → some g' ≠ Value.ownBlock (.slice Av j cv) → w4.heap[g']? = Wf.heap[g']? := fun g' hg' hne => (hgr.block g' (by simp; omega) hne).trans (Below.heap_alloc _ _ _ hg')
                have hg5 : ∀ g', g' < Wf.heap.size → some g' ≠ Value.ownBlock (.slice Av j cv) → g' ≠ g := fun g' hg' hne e => by
                  rcases hg4 with h4 | h4
                  · rw [h4] at hne; exact hne (by rw [e])
                  · have h5 : g = Wf.heap.size + 1 := by simpa using h4
                    omega
                have hob : ∀ g', wr.heap.size ≤ g' → some g' ≠ Value.ownBlock (.slice Av j cv) := fun g' hg' e => by
                  have := HOW.out.lt g' e.symm
                  omega
                have hg6 : w.heap.size + 1 + 1 + 1 ≤ g := by
                  rcases hg4 with h4 | h4
                  · exact (HOW.out.lt g h4).1
                  · have h5 : g = Wf.heap.size + 1 := by simpa using h4
                    omega
                have hb4 : Below w.heap.size w w4 := below_grown (hbr.trans (hbD.mono hbr.size)) hgr (fun r hr => by have := HOW.out.lt r hr; omega) (by simp; omega)
                have HH4 := Lib.hid how4; clear how4
                have HGO := Lib.hid hgo; clear hgo hw4 hgr hg4
                obtain ⟨v0, v1, v2⟩ := u3.three
                have fv := u3.frozen 2)
              go_roundw
              case rel =>
                have hset : ∀ g', g' ≠ w.heap.size + 1 + 1 → (w4.setCell ⟨w.heap.size + 1 + 1, 2, none⟩ (.slice (some ⟨g, 0, none⟩) (j + 1) cap)).heap[g']? = w4.heap[g']? := fun g' hne => Below.heap_setCell _ _ _ _ hne
                refine ⟨j + 1, some ⟨g, 0, none⟩, cap, _, ys ++ [t'], by omega, by go_num, u1.other (by dsimp only; omega) _, u2.other (by dsimp only; omega) _, by simpa using u3.setAt 2 (.slice (some ⟨g, 0, none⟩) (j + 1) cap), Lib.hid (HH4.out.kept (grown_set w4 ⟨w.heap.size + 1 + 1, 2, none⟩ _) (.inr (by simp [Value.ownBlock]; omega))), Lib.hid ⟨by simp [HP.out.1], ?_⟩, Lib.hid ?_, ?_⟩
                · rw [HP.out.2, drop_at HT.out, HN.out, rnL_some HT'.out, Option.map_map]
                  congr 1
                  funext l
                  simp
                · refine KidL.snoc (KidL.move HK.out (fun g' hg' => ?_) (fun g' hg' hg'' => ?_)) (by rw [HOW.out.1, HP.out.1]) (RdF.move (fun g' hg' => ?_) (fun g' hg' hg'' => ?_) _ _ HRF.out)
                  · exact ⟨hg'.1, by simp; omega, fun e => hg5 g' (by omega) hg'.2.2 (by simpa [Value.ownBlock] using e)⟩
                  · rw [hset g' (by omega), HGO.out g' (by omega) hg'.2.2]; exact hbF.block g' hg''
                  · exact ⟨by omega, by simp; omega, fun e => hg5 g' hg'.2.1 (hob g' hg'.1) (by simpa [Value.ownBlock] using e)⟩
                  · rw [hset g' (by omega), HGO.out g' hg'.2.1 (hob g' hg'.1)]
                · exact hb4.setCell (by dsimp only; omega) _
              case measure => simp [Go.RowKit.intOf]; omega
        · obtain rfl : j = n := by omega
          have hys : D = some (.node k h' ys) := by rw [HU.out, HP.out.2, drop_all HN.out (Nat.le_refl _), rnL]; simp
          have HYS := Lib.hid hys; clear hys
          obtain ⟨d0, d1, d2⟩ := y2.three
          have f0 := y2.frozen 0
          have f1 := y2.frozen 1
          have f2 := y2.frozen 2
          obtain ⟨q0, q1, q2⟩ := y3.three
          have l3 := y3.lt
          go_wp2_with fail
          refine bodyPost_ret (v := .tuple #[.agg #[.int .i64 k, .int .i64 h', .slice Av j cv], .bool true]) (by simp [results, Tryz.results64, go_sem, d0, d1, d2]) rfl ?_
          refine ⟨_, _, _, _, _, true, rfl, .inl ⟨_, HYS.out, rfl, ?_⟩, below_set3 hbr (by omega) _ _ _⟩
          have hset := heap_other3 wr (w.heap.size + 1) (.int .i64 k) (.int .i64 h') (.slice Av j cv)
          refine rdF_row (HOW.out.kept (grown_set3 wr (w.heap.size + 1) (.int .i64 k) (.int .i64 h') (.slice Av j cv)) (.inr fun e => by have := HOW.out.lt _ e; omega)) (KidL.move HK.out (fun _ h => h) fun g hg _ => hset g (by omega)) HP.out.1 (fun g hg => ⟨by omega, by simpa using hg.2.1⟩) (fun g hg => ?_) hk hwf2
          have := HOW.out.lt g hg
          exact ⟨by omega, by simpa using this.2⟩
    · obtain ⟨h', hh', hwf⟩ : ∃ h', rn (rgo vs x) (.node k h xs) f = (rnL (rgo vs x) k xs.length xs 0 f).map (.node k h') ∧ h' = h := ⟨h, by rw [rn, rnH, if_neg hvar]; rfl, rfl⟩
      have HU := Lib.hid hh'; clear hh'
      have hwf2 : (Lit.int .i64 h').wf = true := by rw [hwf]; exact hh
      have HH0 := Lib.hid hwf; clear hwf
      generalize rn (rgo vs x) (.node k h xs) f = D at *
      obtain ⟨W, hW⟩ : ∃ W, ((w.alloc (.cells #[.int .i64 k, .int .i64 h, .slice A n c] 24)).alloc (.cells #[.int .i64 0, .int .i64 0, .slice none 0 0] 24)).alloc (.cells #[.int .i64 k, .int .i64 h, .slice none 0 0] 24) = W := ⟨_, rfl⟩
      have hb : Below w.heap.size w W := by rw [← hW]; exact (((Below.refl _ _).alloc (Nat.le_refl _) _).alloc (by simp) _).alloc (by simp; omega) _
      have x1 : Box W w.heap.size 24 #[.int .i64 k, .int .i64 h, .slice A n c] := by rw [← hW]; exact ((Box.new _ _ _).alloc _).alloc _
      have x2 : Box W (w.heap.size + 1) 24 #[.int .i64 0, .int .i64 0, .slice none 0 0] := by rw [← hW]; exact ((Box.new (w.alloc _) _ _).at (by simp)).alloc _
      have x3 : Box W (w.heap.size + 1 + 1) 24 #[.int .i64 k, .int .i64 h', .slice none 0 0] := by rw [HH0.out]; rw [← hW]; exact (Box.new ((w.alloc _).alloc _) _ _).at (by simp)
      have HWW := Lib.hid hW; clear hW
      have hcase : k ≠ 4 ∨ (k = 4 ∧ h < f) := by omega
      clear hvar HH0
      rcases hcase with hk4 | ⟨hk4, hf⟩
      · have e1 : (k == 4) = false := by simpa using hk4
        clear hk4
        go_enter Tryz.func64, Tryz.ntmps64
        go_wp2_with fail
        rw [HWW.out]
        clear HWW e1
        go_loopw [12] (fun i wr => ∃ (j : Nat) (Av : Option Addr) (cv : Nat) (cs : List Value) (ys : List T), j ≤ n ∧ i = .int .i64 j ∧ Box wr w.heap.size 24 #[.int .i64 k, .int .i64 h, .slice A n c] ∧
          Box wr (w.heap.size + 1) 24 #[.int .i64 0, .int .i64 0, .slice none 0 0] ∧ Box wr (w.heap.size + 1 + 1) 24 #[.int .i64 k, .int .i64 h', .slice Av j cv] ∧
          Hid (wr.ownsRow (w.heap.size + 1 + 1 + 1) 24 3 (.slice Av j cv) j cs) ∧ Hid (ys.length = j ∧ rnL (rgo vs x) k xs.length xs 0 f = (rnL (rgo vs x) k xs.length (xs.drop j) j f).map (ys ++ ·)) ∧
          Hid (KidL wr (fun g => w.heap.size + 1 + 1 + 1 ≤ g ∧ g < wr.heap.size ∧ some g ≠ Value.ownBlock (.slice Av j cv)) cs ys) ∧ Below w.heap.size w wr) (fun i _ => n - (Go.RowKit.intOf i).toNat)
        case atStart => exact ⟨0, none, 0, [], [], Nat.zero_le _, rfl, x1, x2, x3, Lib.hid (World.ownsRow_nil _ _ _ _), Lib.hid ⟨rfl, by simp⟩, Lib.hid (fun i t ht => by simp at ht), hb⟩
        case round =>
          obtain ⟨j, Av, cv, cs, ys, hj, rfl, y1, y2, y3, HOW, HP, HK, hbr⟩ := hrel
          clear x1 x2 x3 hb
          obtain ⟨a0, a1, a2⟩ := y1.three
          by_cases hlt : j < n
          · obtain ⟨t, ht⟩ := at_of HN.out hlt
            obtain ⟨bA, oA, k2, h2, A2, n2, c2', rfl, c0, c1, c2, hr⟩ := (RdAt.keep hbr (HX.out j t ht)).full
            have HT := Lib.hid ht; clear ht
            have HR := Lib.hid hr; clear hr
            have hi0 : (0 : Int) ≤ j := by omega
            have hi1 : (j : Int) < n := by omega
            have l3 := y3.lt
            go_wp2_with fail
            have HKS : Hid (∀ w' : World, Below wr.heap.size wr w' → SDn w.heap.size k h bA oA n c j k2 h2 A2 n2 c2' w') := Lib.hid fun w' hw' => by
              have s1 := y1.keep hw' y1.lt
              exact ⟨s1.three.1, s1.three.2.1, s1.three.2.2, (hw'.cell (cell_lt c0)).trans c0, (hw'.cell (cell_lt c1)).trans c1, (hw'.cell (cell_lt c2)).trans c2⟩
            have hsum : IntKind.i64.wrap (f + bd k n j) = wrap64 (f + bd k n j) := wrapEq _
            have HBI : Hid (∀ W', Calls Tryz.prog 32 #[.agg #[.int .i64 k, .int .i64 h, .slice (some ⟨bA, oA, none⟩) n c], .int .i64 j] W' fun e w' => e = .returned (.int .i64 (bd k n j)) ∧ Below W'.heap.size W' w') := Lib.hid fun W' => refBinds k h _ n c hc HMM.out j (by unfold maxLen; omega) W'
            have HDC : Hid (∀ W', Below wr.heap.size wr W' → Calls Tryz.prog 64 #[.agg #[.int .i64 k2, .int .i64 h2, .slice A2 n2 c2'], .slice V0 nv c0v, .int .i64 x, .int .i64 (wrap64 (f + bd k n j))] W' (DEnd (rn (rgo vs x) t (wrap64 (f + bd k n j))) W')) := Lib.hid fun W' hW' => IH.out t (List.mem_of_getElem? HT.out) _ _ W' (fun i z hz => by obtain ⟨b, o, e, h⟩ := HNUM.out i z hz; exact ⟨b, o, e, ((hbr.trans (hW'.mono hbr.size)).cell (cell_lt h)).trans h⟩) (Rd.keep hW' _ _ HR.out) (HND.out t (List.mem_of_getElem? HT.out))
            have hcur : Below wr.heap.size wr wr.drew := (Below.refl _ wr).drew
            clear a0 a1 a2 c0 c1 c2
            go_region_held3 (fun w' => w'.cell? ⟨w.heap.size, 0, none⟩ = some (.int .i64 k) ∧ w'.cell? ⟨w.heap.size, 1, none⟩ = some (.int .i64 h) ∧ w'.cell? ⟨w.heap.size, 2, none⟩ = some (.slice (some ⟨bA, oA, none⟩) n c) ∧ w'.cell? ⟨bA, oA + j * 3, none⟩ = some (.int .i64 k2) ∧ w'.cell? ⟨bA, oA + j * 3 + 1, none⟩ = some (.int .i64 h2) ∧ w'.cell? ⟨bA, oA + j * 3 + 2, none⟩ = some (.slice A2 n2 c2'))
              (first | exact HKS.out _ hcur | exact HKS.out _ (hcur.alloc hcur.size _) | exact HKS.out _ (below_set3 hcur hp _ _ _) | exact HKS.out _ (below_set3 (hcur.alloc hcur.size _) hcur.size _ _ _))
              (first
                | (go_at_call 32
                   with_reducible refine (HBI.out wr.drew).mono ?_
                   rintro e w1 ⟨rfl, hb1⟩
                   replace hcur := hcur.trans hb1
                   clear hb1)
                | (go_at_call 32
                   refine (HBI.out (wr.drew.alloc (.cells #[.int .i64 0, .int .i64 0, .slice none 0 0] 24))).mono ?_
                   rintro e w1 ⟨rfl, hb1⟩
                   have zP : Box w1 wr.heap.size 24 #[.int .i64 0, .int .i64 0, .slice none 0 0] := (Box.new wr.drew 24 #[.int .i64 0, .int .i64 0, .slice none 0 0]).keep hb1 (Box.new _ _ _).lt
                   have hp : wr.heap.size ≤ wr.heap.size := Nat.le_refl _
                   have hcur := (hcur.alloc hcur.size (.cells #[.int .i64 0, .int .i64 0, .slice none 0 0] 24)).trans (hb1.mono (hcur.alloc hcur.size _).size)
                   clear hb1)
                | (go_at_call 64
                   have zP2 := zP
                   refine (HDC.out w1 hcur).mono ?_
                   rintro e w2 ⟨k3, h3, A3, n3, c3, bo, rfl, hout, hb1⟩
                   have zP := zP.keep hb1 zP.lt
                   have hng : ∀ g, w1.heap.size ≤ g ∧ g < w2.heap.size → wr.heap.size ≤ g ∧ g < w2.heap.size ∧ g ≠ wr.heap.size := fun g hg => ⟨Nat.le_trans hcur.size hg.1, hg.2, fun e => by have := zP2.lt; omega⟩
                   have hcur := hcur.trans (hb1.mono hcur.size)
                   clear hb1 zP2
                   obtain ⟨p0, p1, p2⟩ := zP.three
                   have fp0 := zP.frozen 0
                   have fp1 := zP.frozen 1
                   have fp2 := zP.frozen 2)
                | (go_at_call 64
                   refine (HDC.out w1 hcur).mono ?_
                   rintro e w2 ⟨k3, h3, A3, n3, c3, bo, rfl, hout, hb1⟩
                   have hng : ∀ g, w1.heap.size ≤ g ∧ g < w2.heap.size → wr.heap.size ≤ g ∧ g < w2.heap.size ∧ g ≠ w2.heap.size := fun g hg => ⟨Nat.le_trans hcur.size hg.1, hg.2, by omega⟩
                   have hcur := hcur.trans (hb1.mono hcur.size)
                   clear hb1)
                | (go_at_call 64
                   refine (HDC.out (w1.alloc (.cells #[.int .i64 0, .int .i64 0, .slice none 0 0] 24)) (hcur.alloc hcur.size _)).mono ?_
                   rintro e w2 ⟨k3, h3, A3, n3, c3, bo, rfl, hout, hb1⟩
                   have zP := (Box.new w1 24 #[.int .i64 0, .int .i64 0, .slice none 0 0]).keep hb1 (Box.new _ _ _).lt
                   have hp : wr.heap.size ≤ w1.heap.size := hcur.size
                   have hng : ∀ g, (w1.alloc (.cells #[.int .i64 0, .int .i64 0, .slice none 0 0] 24)).heap.size ≤ g ∧ g < w2.heap.size → wr.heap.size ≤ g ∧ g < w2.heap.size ∧ g ≠ w1.heap.size := fun g hg => by
                     have h1 := hg.1
                     simp at h1
                     exact ⟨by omega, hg.2, by omega⟩
                   have hcur := (hcur.alloc hcur.size (.cells #[.int .i64 0, .int .i64 0, .slice none 0 0] 24)).trans (hb1.mono (hcur.alloc hcur.size _).size)
                   clear hb1
                   obtain ⟨p0, p1, p2⟩ := zP.three
                   have fp0 := zP.frozen 0
                   have fp1 := zP.frozen 1
                   have fp2 := zP.frozen 2))
            obtain ⟨Wf, hWf⟩ : ∃ Wf, w2.alloc (.cells #[.int .i64 k3, .int .i64 h3, .slice A3 n3 c3] 24) = Wf := ⟨_, rfl⟩
            obtain ⟨p, hpe⟩ : ∃ p, p = w2.heap.size := ⟨_, rfl⟩
            have xP : Box Wf p 24 #[.int .i64 k3, .int .i64 h3, .slice A3 n3 c3] := by rw [hpe, ← hWf]; exact Box.new _ _ _
            have hbF : Below wr.heap.size wr Wf := by rw [← hWf]; exact hcur.alloc hcur.size _
            have hoF : DOut (rn (rgo vs x) t (wrap64 (f + bd k n j))) (fun g => wr.heap.size ≤ g ∧ g < Wf.heap.size ∧ g ≠ p) Wf (.agg #[.int .i64 k3, .int .i64 h3, .slice A3 n3 c3]) bo := by
              rw [hpe, ← hWf]; exact hout.move (fun g hg => by have := hng g hg; exact ⟨this.1, by simp; omega, this.2.2⟩) (fun g hg hg' => Below.heap_alloc _ _ _ hg')
            have hpl : wr.heap.size ≤ p := by rw [hpe]; exact hcur.size
            rw [hWf, ← hpe]
            clear hWf hpe hout hng hcur
            rotate_left 1
            obtain ⟨Wf, hWf⟩ : ∃ Wf, ((w2.setCell ⟨w1.heap.size, 0, none⟩ (.int .i64 k3)).setCell ⟨w1.heap.size, 1, none⟩ (.int .i64 h3)).setCell ⟨w1.heap.size, 2, none⟩ (.slice A3 n3 c3) = Wf := ⟨_, rfl⟩
            obtain ⟨p, hpe⟩ : ∃ p, p = w1.heap.size := ⟨_, rfl⟩
            have xP : Box Wf p 24 #[.int .i64 k3, .int .i64 h3, .slice A3 n3 c3] := by rw [hpe, ← hWf]; exact zP.set3 _ _ _
            have hbF : Below wr.heap.size wr Wf := by rw [← hWf]; exact below_set3 hcur hp _ _ _
            have hoF : DOut (rn (rgo vs x) t (wrap64 (f + bd k n j))) (fun g => wr.heap.size ≤ g ∧ g < Wf.heap.size ∧ g ≠ p) Wf (.agg #[.int .i64 k3, .int .i64 h3, .slice A3 n3 c3]) bo := by
              rw [hpe, ← hWf]; exact hout.move (fun g hg => by have := hng g hg; exact ⟨this.1, by simp; exact this.2.1, this.2.2⟩) (fun g hg hg' => heap_other3 _ _ _ _ _ _ (hng g hg).2.2)
            have hpl : wr.heap.size ≤ p := by rw [hpe]; exact hp
            rw [hWf, ← hpe]
            clear hWf hpe hout hng hcur p0 p1 p2 fp0 fp1 fp2 zP hp
            rotate_left 1
            obtain ⟨Wf, hWf⟩ : ∃ Wf, ((w2.setCell ⟨wr.heap.size, 0, none⟩ (.int .i64 k3)).setCell ⟨wr.heap.size, 1, none⟩ (.int .i64 h3)).setCell ⟨wr.heap.size, 2, none⟩ (.slice A3 n3 c3) = Wf := ⟨_, rfl⟩
            obtain ⟨p, hpe⟩ : ∃ p, p = wr.heap.size := ⟨_, rfl⟩
            have xP : Box Wf p 24 #[.int .i64 k3, .int .i64 h3, .slice A3 n3 c3] := by rw [hpe, ← hWf]; exact zP.set3 _ _ _
            have hbF : Below wr.heap.size wr Wf := by rw [← hWf]; exact below_set3 hcur hp _ _ _
            have hoF : DOut (rn (rgo vs x) t (wrap64 (f + bd k n j))) (fun g => wr.heap.size ≤ g ∧ g < Wf.heap.size ∧ g ≠ p) Wf (.agg #[.int .i64 k3, .int .i64 h3, .slice A3 n3 c3]) bo := by
              rw [hpe, ← hWf]; exact hout.move (fun g hg => by have := hng g hg; exact ⟨this.1, by simp; exact this.2.1, this.2.2⟩) (fun g hg hg' => heap_other3 _ _ _ _ _ _ (hng g hg).2.2)
            have hpl : wr.heap.size ≤ p := by rw [hpe]; exact hp
            rw [hWf, ← hpe]
            clear hWf hpe hout hng hcur p0 p1 p2 fp0 fp1 fp2 zP hp
            rotate_left 1
            all_goals
              have z1 := y1.keep hbF y1.lt
              have z2 := y2.keep hbF y2.lt
              have z3 := y3.keep hbF y3.lt
              have sF := hbF.size
              have lp := xP.lt
              have HOF := Lib.hid hoF; clear hoF
              clear HKS HBI HDC
              cases bo
              · have hnone : rn (rgo vs x) t (wrap64 (f + bd k n j)) = none := by
                  rcases HOF.out with ⟨_, _, h, _⟩ | ⟨h, _, _⟩
                  · cases h
                  · exact h
                have HNO := Lib.hid hnone; clear hnone HOF
                obtain ⟨d0, d1, d2⟩ := z2.three
                have f0 := z2.frozen 0
                have f1 := z2.frozen 1
                have f2 := z2.frozen 2
                go_wp2_with fail
                refine bodyPost_ret (v := .tuple #[.agg #[.int .i64 0, .int .i64 0, .slice none 0 0], .bool false]) (by simp [results, Tryz.results64, go_sem, d0, d1, d2]) rfl ?_
                refine ⟨0, 0, none, 0, 0, false, rfl, .inr ⟨?_, rfl, rfl⟩, below_set3 (hbr.trans (hbF.mono hbr.size)) (by omega) _ _ _⟩
                rw [HU.out, HP.out.2, drop_at HT.out, HN.out, rnL_none HNO.out]
                rfl
              · obtain ⟨t', ht', hrf⟩ : ∃ t', rn (rgo vs x) t (wrap64 (f + bd k n j)) = some t' ∧ RdF (fun g => wr.heap.size ≤ g ∧ g < Wf.heap.size ∧ g ≠ p) Wf t' (.agg #[.int .i64 k3, .int .i64 h3, .slice A3 n3 c3]) := by
                  rcases HOF.out with ⟨t', h1, _, h3⟩ | ⟨_, h, _⟩
                  · exact ⟨t', h1, h3⟩
                  · cases h
                have HT' := Lib.hid ht'; clear ht' HOF
                have HRF := Lib.hid hrf; clear hrf
                obtain ⟨q0, q1, q2⟩ := z3.three
                obtain ⟨x0, x1, x2⟩ := xP.three
                have l3' := z3.lt
                have hbD : Below wr.heap.size wr (Wf.alloc (.cells #[.int .i64 k3, .int .i64 h3, .slice A3 n3 c3] 24)) := hbF.alloc hbF.size _
                obtain ⟨i0, hi, hz0, hz1, hz2⟩ := info_parts infoTerm
                have HI := Lib.hid hi; clear hi
                have HZ0 := Lib.hid hz0; clear hz0
                go_wp2_with (
                  at_builtin
                  refine wpList_append_lies (Wf.alloc (.cells #[.int .i64 k3, .int .i64 h3, .slice A3 n3 c3] 24)) rfl (.tmp 70) (.tmp 72) 22 rfl (w.heap.size + 1 + 1 + 1) 24 i0 _ 3 40 Tryz.underlying22 HI.out HZ0.out hz1 hz2 rfl (by omega) (.slice Av j cv) j cs rfl (HOW.out.kept (grown_of_below hbD) (own_none _)) ⟨Wf.heap.size, 0, none⟩ 1 1 [.int .i64 k3, .int .i64 h3, .slice A3 n3 c3] rfl rfl (World.news_of_block (heap_alloc_new Wf _)) (by intro u hu; simp at hu; rcases hu with rfl | rfl | rfl <;> rfl) (by omega) (by unfold maxLen; omega) (by omega) (by simp; omega) _ rfl ?_
                  intro g cap w4 how4 hgr hg4 hlt4
                  have hw4 : ∀ g', g' < wr.heap.size → some g' ≠ Value.ownBlock (.slice Av j cv) → w4.heap[g']? = wr.heap[g']? := fun g' hg' hne => (hgr.block g' (Nat.lt_of_lt_of_le hg' hbD.size) hne).trans (hbD.block g' hg')
                  have nb : ∀ g, g < w.heap.size + 1 + 1 + 1 → some g ≠ Value.ownBlock (.slice Av j cv) := fun g hg e => by
                    have := HOW.out.lt g e.symm
                    omega
                  have u1 : Box w4 w.heap.size _ _ := (hw4 _ y1.lt (nb _ (by omega))).trans y1
                  have u2 : Box w4 (w.heap.size + 1) _ _ := (hw4 _ y2.lt (nb _ (by omega))).trans y2
                  have u3 : Box w4 (w.heap.size + 1 + 1) _ _ := (hw4 _ y3.lt (nb _ (by omega))).trans y3
                  have s4 : Wf.heap.size + 1 ≤ w4.heap.size := by have := hgr.size; simpa using this
                  have hgo : ∀ g', g' < Wf.heap.size → some g' ≠ Value.ownBlock (.slice Av j cv) → w4.heap[g']? = Wf.heap[g']? := fun g' hg' hne => (hgr.block g' (by simp; omega) hne).trans (Below.heap_alloc _ _ _ hg')
                  have hg5 : ∀ g', g' < Wf.heap.size → some g' ≠ Value.ownBlock (.slice Av j cv) → g' ≠ g := fun g' hg' hne e => by
                    rcases hg4 with h4 | h4
                    · rw [h4] at hne; exact hne (by rw [e])
                    · have h5 : g = Wf.heap.size + 1 := by simpa using h4
                      omega
                  have hob : ∀ g', wr.heap.size ≤ g' → some g' ≠ Value.ownBlock (.slice Av j cv) := fun g' hg' e => by
                    have := HOW.out.lt g' e.symm
                    omega
                  have hg6 : w.heap.size + 1 + 1 + 1 ≤ g := by
                    rcases hg4 with h4 | h4
                    · exact (HOW.out.lt g h4).1
                    · have h5 : g = Wf.heap.size + 1 := by simpa using h4
                      omega
                  have hb4 : Below w.heap.size w w4 := below_grown (hbr.trans (hbD.mono hbr.size)) hgr (fun r hr => by have := HOW.out.lt r hr; omega) (by simp; omega)
                  have HH4 := Lib.hid how4; clear how4
                  have HGO := Lib.hid hgo; clear hgo hw4 hgr hg4
                  obtain ⟨v0, v1, v2⟩ := u3.three
                  have fv := u3.frozen 2)
                go_roundw
                case rel =>
                  have hset : ∀ g', g' ≠ w.heap.size + 1 + 1 → (w4.setCell ⟨w.heap.size + 1 + 1, 2, none⟩ (.slice (some ⟨g, 0, none⟩) (j + 1) cap)).heap[g']? = w4.heap[g']? := fun g' hne => Below.heap_setCell _ _ _ _ hne
                  refine ⟨j + 1, some ⟨g, 0, none⟩, cap, _, ys ++ [t'], by omega, by go_num, u1.other (by dsimp only; omega) _, u2.other (by dsimp only; omega) _, by simpa using u3.setAt 2 (.slice (some ⟨g, 0, none⟩) (j + 1) cap), Lib.hid (HH4.out.kept (grown_set w4 ⟨w.heap.size + 1 + 1, 2, none⟩ _) (.inr (by simp [Value.ownBlock]; omega))), Lib.hid ⟨by simp [HP.out.1], ?_⟩, Lib.hid ?_, ?_⟩
                  · rw [HP.out.2, drop_at HT.out, HN.out, rnL_some HT'.out, Option.map_map]
                    congr 1
                    funext l
                    simp
                  · refine KidL.snoc (KidL.move HK.out (fun g' hg' => ?_) (fun g' hg' hg'' => ?_)) (by rw [HOW.out.1, HP.out.1]) (RdF.move (fun g' hg' => ?_) (fun g' hg' hg'' => ?_) _ _ HRF.out)
                    · exact ⟨hg'.1, by simp; omega, fun e => hg5 g' (by omega) hg'.2.2 (by simpa [Value.ownBlock] using e)⟩
                    · rw [hset g' (by omega), HGO.out g' (by omega) hg'.2.2]; exact hbF.block g' hg''
                    · exact ⟨by omega, by simp; omega, fun e => hg5 g' hg'.2.1 (hob g' hg'.1) (by simpa [Value.ownBlock] using e)⟩
                    · rw [hset g' (by omega), HGO.out g' hg'.2.1 (hob g' hg'.1)]
                  · exact hb4.setCell (by dsimp only; omega) _
                case measure => simp [Go.RowKit.intOf]; omega
          · obtain rfl : j = n := by omega
            have hys : D = some (.node k h' ys) := by rw [HU.out, HP.out.2, drop_all HN.out (Nat.le_refl _), rnL]; simp
            have HYS := Lib.hid hys; clear hys
            obtain ⟨d0, d1, d2⟩ := y2.three
            have f0 := y2.frozen 0
            have f1 := y2.frozen 1
            have f2 := y2.frozen 2
            obtain ⟨q0, q1, q2⟩ := y3.three
            have l3 := y3.lt
            go_wp2_with fail
            refine bodyPost_ret (v := .tuple #[.agg #[.int .i64 k, .int .i64 h', .slice Av j cv], .bool true]) (by simp [results, Tryz.results64, go_sem, d0, d1, d2]) rfl ?_
            refine ⟨_, _, _, _, _, true, rfl, .inl ⟨_, HYS.out, rfl, ?_⟩, below_set3 hbr (by omega) _ _ _⟩
            have hset := heap_other3 wr (w.heap.size + 1) (.int .i64 k) (.int .i64 h') (.slice Av j cv)
            refine rdF_row (HOW.out.kept (grown_set3 wr (w.heap.size + 1) (.int .i64 k) (.int .i64 h') (.slice Av j cv)) (.inr fun e => by have := HOW.out.lt _ e; omega)) (KidL.move HK.out (fun _ h => h) fun g hg _ => hset g (by omega)) HP.out.1 (fun g hg => ⟨by omega, by simpa using hg.2.1⟩) (fun g hg => ?_) hk hwf2
            have := HOW.out.lt g hg
            exact ⟨by omega, by simpa using this.2⟩
      · have e1 : (k == 4) = true := by simpa using hk4
        have d1 : decide (f ≤ h) = false := by simpa using hf
        clear hk4 hf
        go_enter Tryz.func64, Tryz.ntmps64
        go_wp2_with fail
        rw [HWW.out]
        clear HWW e1 d1
        go_loopw [12] (fun i wr => ∃ (j : Nat) (Av : Option Addr) (cv : Nat) (cs : List Value) (ys : List T), j ≤ n ∧ i = .int .i64 j ∧ Box wr w.heap.size 24 #[.int .i64 k, .int .i64 h, .slice A n c] ∧
          Box wr (w.heap.size + 1) 24 #[.int .i64 0, .int .i64 0, .slice none 0 0] ∧ Box wr (w.heap.size + 1 + 1) 24 #[.int .i64 k, .int .i64 h', .slice Av j cv] ∧
          Hid (wr.ownsRow (w.heap.size + 1 + 1 + 1) 24 3 (.slice Av j cv) j cs) ∧ Hid (ys.length = j ∧ rnL (rgo vs x) k xs.length xs 0 f = (rnL (rgo vs x) k xs.length (xs.drop j) j f).map (ys ++ ·)) ∧
          Hid (KidL wr (fun g => w.heap.size + 1 + 1 + 1 ≤ g ∧ g < wr.heap.size ∧ some g ≠ Value.ownBlock (.slice Av j cv)) cs ys) ∧ Below w.heap.size w wr) (fun i _ => n - (Go.RowKit.intOf i).toNat)
        case atStart => exact ⟨0, none, 0, [], [], Nat.zero_le _, rfl, x1, x2, x3, Lib.hid (World.ownsRow_nil _ _ _ _), Lib.hid ⟨rfl, by simp⟩, Lib.hid (fun i t ht => by simp at ht), hb⟩
        case round =>
          obtain ⟨j, Av, cv, cs, ys, hj, rfl, y1, y2, y3, HOW, HP, HK, hbr⟩ := hrel
          clear x1 x2 x3 hb
          obtain ⟨a0, a1, a2⟩ := y1.three
          by_cases hlt : j < n
          · obtain ⟨t, ht⟩ := at_of HN.out hlt
            obtain ⟨bA, oA, k2, h2, A2, n2, c2', rfl, c0, c1, c2, hr⟩ := (RdAt.keep hbr (HX.out j t ht)).full
            have HT := Lib.hid ht; clear ht
            have HR := Lib.hid hr; clear hr
            have hi0 : (0 : Int) ≤ j := by omega
            have hi1 : (j : Int) < n := by omega
            have l3 := y3.lt
            go_wp2_with fail
            have HKS : Hid (∀ w' : World, Below wr.heap.size wr w' → SDn w.heap.size k h bA oA n c j k2 h2 A2 n2 c2' w') := Lib.hid fun w' hw' => by
              have s1 := y1.keep hw' y1.lt
              exact ⟨s1.three.1, s1.three.2.1, s1.three.2.2, (hw'.cell (cell_lt c0)).trans c0, (hw'.cell (cell_lt c1)).trans c1, (hw'.cell (cell_lt c2)).trans c2⟩
            have hsum : IntKind.i64.wrap (f + bd k n j) = wrap64 (f + bd k n j) := wrapEq _
            have HBI : Hid (∀ W', Calls Tryz.prog 32 #[.agg #[.int .i64 k, .int .i64 h, .slice (some ⟨bA, oA, none⟩) n c], .int .i64 j] W' fun e w' => e = .returned (.int .i64 (bd k n j)) ∧ Below W'.heap.size W' w') := Lib.hid fun W' => refBinds k h _ n c hc HMM.out j (by unfold maxLen; omega) W'
            have HDC : Hid (∀ W', Below wr.heap.size wr W' → Calls Tryz.prog 64 #[.agg #[.int .i64 k2, .int .i64 h2, .slice A2 n2 c2'], .slice V0 nv c0v, .int .i64 x, .int .i64 (wrap64 (f + bd k n j))] W' (DEnd (rn (rgo vs x) t (wrap64 (f + bd k n j))) W')) := Lib.hid fun W' hW' => IH.out t (List.mem_of_getElem? HT.out) _ _ W' (fun i z hz => by obtain ⟨b, o, e, h⟩ := HNUM.out i z hz; exact ⟨b, o, e, ((hbr.trans (hW'.mono hbr.size)).cell (cell_lt h)).trans h⟩) (Rd.keep hW' _ _ HR.out) (HND.out t (List.mem_of_getElem? HT.out))
            have hcur : Below wr.heap.size wr wr.drew := (Below.refl _ wr).drew
            clear a0 a1 a2 c0 c1 c2
            go_region_held3 (fun w' => w'.cell? ⟨w.heap.size, 0, none⟩ = some (.int .i64 k) ∧ w'.cell? ⟨w.heap.size, 1, none⟩ = some (.int .i64 h) ∧ w'.cell? ⟨w.heap.size, 2, none⟩ = some (.slice (some ⟨bA, oA, none⟩) n c) ∧ w'.cell? ⟨bA, oA + j * 3, none⟩ = some (.int .i64 k2) ∧ w'.cell? ⟨bA, oA + j * 3 + 1, none⟩ = some (.int .i64 h2) ∧ w'.cell? ⟨bA, oA + j * 3 + 2, none⟩ = some (.slice A2 n2 c2'))
              (first | exact HKS.out _ hcur | exact HKS.out _ (hcur.alloc hcur.size _) | exact HKS.out _ (below_set3 hcur hp _ _ _) | exact HKS.out _ (below_set3 (hcur.alloc hcur.size _) hcur.size _ _ _))
              (first
                | (go_at_call 32
                   with_reducible refine (HBI.out wr.drew).mono ?_
                   rintro e w1 ⟨rfl, hb1⟩
                   replace hcur := hcur.trans hb1
                   clear hb1)
                | (go_at_call 32
                   refine (HBI.out (wr.drew.alloc (.cells #[.int .i64 0, .int .i64 0, .slice none 0 0] 24))).mono ?_
                   rintro e w1 ⟨rfl, hb1⟩
                   have zP : Box w1 wr.heap.size 24 #[.int .i64 0, .int .i64 0, .slice none 0 0] := (Box.new wr.drew 24 #[.int .i64 0, .int .i64 0, .slice none 0 0]).keep hb1 (Box.new _ _ _).lt
                   have hp : wr.heap.size ≤ wr.heap.size := Nat.le_refl _
                   have hcur := (hcur.alloc hcur.size (.cells #[.int .i64 0, .int .i64 0, .slice none 0 0] 24)).trans (hb1.mono (hcur.alloc hcur.size _).size)
                   clear hb1)
                | (go_at_call 64
                   have zP2 := zP
                   refine (HDC.out w1 hcur).mono ?_
                   rintro e w2 ⟨k3, h3, A3, n3, c3, bo, rfl, hout, hb1⟩
                   have zP := zP.keep hb1 zP.lt
                   have hng : ∀ g, w1.heap.size ≤ g ∧ g < w2.heap.size → wr.heap.size ≤ g ∧ g < w2.heap.size ∧ g ≠ wr.heap.size := fun g hg => ⟨Nat.le_trans hcur.size hg.1, hg.2, fun e => by have := zP2.lt; omega⟩
                   have hcur := hcur.trans (hb1.mono hcur.size)
                   clear hb1 zP2
                   obtain ⟨p0, p1, p2⟩ := zP.three
                   have fp0 := zP.frozen 0
                   have fp1 := zP.frozen 1
                   have fp2 := zP.frozen 2)
                | (go_at_call 64
                   refine (HDC.out w1 hcur).mono ?_
                   rintro e w2 ⟨k3, h3, A3, n3, c3, bo, rfl, hout, hb1⟩
                   have hng : ∀ g, w1.heap.size ≤ g ∧ g < w2.heap.size → wr.heap.size ≤ g ∧ g < w2.heap.size ∧ g ≠ w2.heap.size := fun g hg => ⟨Nat.le_trans hcur.size hg.1, hg.2, by omega⟩
                   have hcur := hcur.trans (hb1.mono hcur.size)
                   clear hb1)
                | (go_at_call 64
                   refine (HDC.out (w1.alloc (.cells #[.int .i64 0, .int .i64 0, .slice none 0 0] 24)) (hcur.alloc hcur.size _)).mono ?_
                   rintro e w2 ⟨k3, h3, A3, n3, c3, bo, rfl, hout, hb1⟩
                   have zP := (Box.new w1 24 #[.int .i64 0, .int .i64 0, .slice none 0 0]).keep hb1 (Box.new _ _ _).lt
                   have hp : wr.heap.size ≤ w1.heap.size := hcur.size
                   have hng : ∀ g, (w1.alloc (.cells #[.int .i64 0, .int .i64 0, .slice none 0 0] 24)).heap.size ≤ g ∧ g < w2.heap.size → wr.heap.size ≤ g ∧ g < w2.heap.size ∧ g ≠ w1.heap.size := fun g hg => by
                     have h1 := hg.1
                     simp at h1
                     exact ⟨by omega, hg.2, by omega⟩
                   have hcur := (hcur.alloc hcur.size (.cells #[.int .i64 0, .int .i64 0, .slice none 0 0] 24)).trans (hb1.mono (hcur.alloc hcur.size _).size)
                   clear hb1
                   obtain ⟨p0, p1, p2⟩ := zP.three
                   have fp0 := zP.frozen 0
                   have fp1 := zP.frozen 1
                   have fp2 := zP.frozen 2))
            obtain ⟨Wf, hWf⟩ : ∃ Wf, w2.alloc (.cells #[.int .i64 k3, .int .i64 h3, .slice A3 n3 c3] 24) = Wf := ⟨_, rfl⟩
            obtain ⟨p, hpe⟩ : ∃ p, p = w2.heap.size := ⟨_, rfl⟩
            have xP : Box Wf p 24 #[.int .i64 k3, .int .i64 h3, .slice A3 n3 c3] := by rw [hpe, ← hWf]; exact Box.new _ _ _
            have hbF : Below wr.heap.size wr Wf := by rw [← hWf]; exact hcur.alloc hcur.size _
            have hoF : DOut (rn (rgo vs x) t (wrap64 (f + bd k n j))) (fun g => wr.heap.size ≤ g ∧ g < Wf.heap.size ∧ g ≠ p) Wf (.agg #[.int .i64 k3, .int .i64 h3, .slice A3 n3 c3]) bo := by
              rw [hpe, ← hWf]; exact hout.move (fun g hg => by have := hng g hg; exact ⟨this.1, by simp; omega, this.2.2⟩) (fun g hg hg' => Below.heap_alloc _ _ _ hg')
            have hpl : wr.heap.size ≤ p := by rw [hpe]; exact hcur.size
            rw [hWf, ← hpe]
            clear hWf hpe hout hng hcur
            rotate_left 1
            obtain ⟨Wf, hWf⟩ : ∃ Wf, ((w2.setCell ⟨w1.heap.size, 0, none⟩ (.int .i64 k3)).setCell ⟨w1.heap.size, 1, none⟩ (.int .i64 h3)).setCell ⟨w1.heap.size, 2, none⟩ (.slice A3 n3 c3) = Wf := ⟨_, rfl⟩
            obtain ⟨p, hpe⟩ : ∃ p, p = w1.heap.size := ⟨_, rfl⟩
            have xP : Box Wf p 24 #[.int .i64 k3, .int .i64 h3, .slice A3 n3 c3] := by rw [hpe, ← hWf]; exact zP.set3 _ _ _
            have hbF : Below wr.heap.size wr Wf := by rw [← hWf]; exact below_set3 hcur hp _ _ _
            have hoF : DOut (rn (rgo vs x) t (wrap64 (f + bd k n j))) (fun g => wr.heap.size ≤ g ∧ g < Wf.heap.size ∧ g ≠ p) Wf (.agg #[.int .i64 k3, .int .i64 h3, .slice A3 n3 c3]) bo := by
              rw [hpe, ← hWf]; exact hout.move (fun g hg => by have := hng g hg; exact ⟨this.1, by simp; exact this.2.1, this.2.2⟩) (fun g hg hg' => heap_other3 _ _ _ _ _ _ (hng g hg).2.2)
            have hpl : wr.heap.size ≤ p := by rw [hpe]; exact hp
            rw [hWf, ← hpe]
            clear hWf hpe hout hng hcur p0 p1 p2 fp0 fp1 fp2 zP hp
            rotate_left 1
            obtain ⟨Wf, hWf⟩ : ∃ Wf, ((w2.setCell ⟨wr.heap.size, 0, none⟩ (.int .i64 k3)).setCell ⟨wr.heap.size, 1, none⟩ (.int .i64 h3)).setCell ⟨wr.heap.size, 2, none⟩ (.slice A3 n3 c3) = Wf := ⟨_, rfl⟩
            obtain ⟨p, hpe⟩ : ∃ p, p = wr.heap.size := ⟨_, rfl⟩
            have xP : Box Wf p 24 #[.int .i64 k3, .int .i64 h3, .slice A3 n3 c3] := by rw [hpe, ← hWf]; exact zP.set3 _ _ _
            have hbF : Below wr.heap.size wr Wf := by rw [← hWf]; exact below_set3 hcur hp _ _ _
            have hoF : DOut (rn (rgo vs x) t (wrap64 (f + bd k n j))) (fun g => wr.heap.size ≤ g ∧ g < Wf.heap.size ∧ g ≠ p) Wf (.agg #[.int .i64 k3, .int .i64 h3, .slice A3 n3 c3]) bo := by
              rw [hpe, ← hWf]; exact hout.move (fun g hg => by have := hng g hg; exact ⟨this.1, by simp; exact this.2.1, this.2.2⟩) (fun g hg hg' => heap_other3 _ _ _ _ _ _ (hng g hg).2.2)
            have hpl : wr.heap.size ≤ p := by rw [hpe]; exact hp
            rw [hWf, ← hpe]
            clear hWf hpe hout hng hcur p0 p1 p2 fp0 fp1 fp2 zP hp
            rotate_left 1
            all_goals
              have z1 := y1.keep hbF y1.lt
              have z2 := y2.keep hbF y2.lt
              have z3 := y3.keep hbF y3.lt
              have sF := hbF.size
              have lp := xP.lt
              have HOF := Lib.hid hoF; clear hoF
              clear HKS HBI HDC
              cases bo
              · have hnone : rn (rgo vs x) t (wrap64 (f + bd k n j)) = none := by
                  rcases HOF.out with ⟨_, _, h, _⟩ | ⟨h, _, _⟩
                  · cases h
                  · exact h
                have HNO := Lib.hid hnone; clear hnone HOF
                obtain ⟨d0, d1, d2⟩ := z2.three
                have f0 := z2.frozen 0
                have f1 := z2.frozen 1
                have f2 := z2.frozen 2
                go_wp2_with fail
                refine bodyPost_ret (v := .tuple #[.agg #[.int .i64 0, .int .i64 0, .slice none 0 0], .bool false]) (by simp [results, Tryz.results64, go_sem, d0, d1, d2]) rfl ?_
                refine ⟨0, 0, none, 0, 0, false, rfl, .inr ⟨?_, rfl, rfl⟩, below_set3 (hbr.trans (hbF.mono hbr.size)) (by omega) _ _ _⟩
                rw [HU.out, HP.out.2, drop_at HT.out, HN.out, rnL_none HNO.out]
                rfl
              · obtain ⟨t', ht', hrf⟩ : ∃ t', rn (rgo vs x) t (wrap64 (f + bd k n j)) = some t' ∧ RdF (fun g => wr.heap.size ≤ g ∧ g < Wf.heap.size ∧ g ≠ p) Wf t' (.agg #[.int .i64 k3, .int .i64 h3, .slice A3 n3 c3]) := by
                  rcases HOF.out with ⟨t', h1, _, h3⟩ | ⟨_, h, _⟩
                  · exact ⟨t', h1, h3⟩
                  · cases h
                have HT' := Lib.hid ht'; clear ht' HOF
                have HRF := Lib.hid hrf; clear hrf
                obtain ⟨q0, q1, q2⟩ := z3.three
                obtain ⟨x0, x1, x2⟩ := xP.three
                have l3' := z3.lt
                have hbD : Below wr.heap.size wr (Wf.alloc (.cells #[.int .i64 k3, .int .i64 h3, .slice A3 n3 c3] 24)) := hbF.alloc hbF.size _
                obtain ⟨i0, hi, hz0, hz1, hz2⟩ := info_parts infoTerm
                have HI := Lib.hid hi; clear hi
                have HZ0 := Lib.hid hz0; clear hz0
                go_wp2_with (
                  at_builtin
                  refine wpList_append_lies (Wf.alloc (.cells #[.int .i64 k3, .int .i64 h3, .slice A3 n3 c3] 24)) rfl (.tmp 70) (.tmp 72) 22 rfl (w.heap.size + 1 + 1 + 1) 24 i0 _ 3 40 Tryz.underlying22 HI.out HZ0.out hz1 hz2 rfl (by omega) (.slice Av j cv) j cs rfl (HOW.out.kept (grown_of_below hbD) (own_none _)) ⟨Wf.heap.size, 0, none⟩ 1 1 [.int .i64 k3, .int .i64 h3, .slice A3 n3 c3] rfl rfl (World.news_of_block (heap_alloc_new Wf _)) (by intro u hu; simp at hu; rcases hu with rfl | rfl | rfl <;> rfl) (by omega) (by unfold maxLen; omega) (by omega) (by simp; omega) _ rfl ?_
                  intro g cap w4 how4 hgr hg4 hlt4
                  have hw4 : ∀ g', g' < wr.heap.size → some g' ≠ Value.ownBlock (.slice Av j cv) → w4.heap[g']? = wr.heap[g']? := fun g' hg' hne => (hgr.block g' (Nat.lt_of_lt_of_le hg' hbD.size) hne).trans (hbD.block g' hg')
                  have nb : ∀ g, g < w.heap.size + 1 + 1 + 1 → some g ≠ Value.ownBlock (.slice Av j cv) := fun g hg e => by
                    have := HOW.out.lt g e.symm
                    omega
                  have u1 : Box w4 w.heap.size _ _ := (hw4 _ y1.lt (nb _ (by omega))).trans y1
                  have u2 : Box w4 (w.heap.size + 1) _ _ := (hw4 _ y2.lt (nb _ (by omega))).trans y2
                  have u3 : Box w4 (w.heap.size + 1 + 1) _ _ := (hw4 _ y3.lt (nb _ (by omega))).trans y3
                  have s4 : Wf.heap.size + 1 ≤ w4.heap.size := by have := hgr.size; simpa using this
                  have hgo : ∀ g', g' < Wf.heap.size → some g' ≠ Value.ownBlock (.slice Av j cv) → w4.heap[g']? = Wf.heap[g']? := fun g' hg' hne => (hgr.block g' (by simp; omega) hne).trans (Below.heap_alloc _ _ _ hg')
                  have hg5 : ∀ g', g' < Wf.heap.size → some g' ≠ Value.ownBlock (.slice Av j cv) → g' ≠ g := fun g' hg' hne e => by
                    rcases hg4 with h4 | h4
                    · rw [h4] at hne; exact hne (by rw [e])
                    · have h5 : g = Wf.heap.size + 1 := by simpa using h4
                      omega
                  have hob : ∀ g', wr.heap.size ≤ g' → some g' ≠ Value.ownBlock (.slice Av j cv) := fun g' hg' e => by
                    have := HOW.out.lt g' e.symm
                    omega
                  have hg6 : w.heap.size + 1 + 1 + 1 ≤ g := by
                    rcases hg4 with h4 | h4
                    · exact (HOW.out.lt g h4).1
                    · have h5 : g = Wf.heap.size + 1 := by simpa using h4
                      omega
                  have hb4 : Below w.heap.size w w4 := below_grown (hbr.trans (hbD.mono hbr.size)) hgr (fun r hr => by have := HOW.out.lt r hr; omega) (by simp; omega)
                  have HH4 := Lib.hid how4; clear how4
                  have HGO := Lib.hid hgo; clear hgo hw4 hgr hg4
                  obtain ⟨v0, v1, v2⟩ := u3.three
                  have fv := u3.frozen 2)
                go_roundw
                case rel =>
                  have hset : ∀ g', g' ≠ w.heap.size + 1 + 1 → (w4.setCell ⟨w.heap.size + 1 + 1, 2, none⟩ (.slice (some ⟨g, 0, none⟩) (j + 1) cap)).heap[g']? = w4.heap[g']? := fun g' hne => Below.heap_setCell _ _ _ _ hne
                  refine ⟨j + 1, some ⟨g, 0, none⟩, cap, _, ys ++ [t'], by omega, by go_num, u1.other (by dsimp only; omega) _, u2.other (by dsimp only; omega) _, by simpa using u3.setAt 2 (.slice (some ⟨g, 0, none⟩) (j + 1) cap), Lib.hid (HH4.out.kept (grown_set w4 ⟨w.heap.size + 1 + 1, 2, none⟩ _) (.inr (by simp [Value.ownBlock]; omega))), Lib.hid ⟨by simp [HP.out.1], ?_⟩, Lib.hid ?_, ?_⟩
                  · rw [HP.out.2, drop_at HT.out, HN.out, rnL_some HT'.out, Option.map_map]
                    congr 1
                    funext l
                    simp
                  · refine KidL.snoc (KidL.move HK.out (fun g' hg' => ?_) (fun g' hg' hg'' => ?_)) (by rw [HOW.out.1, HP.out.1]) (RdF.move (fun g' hg' => ?_) (fun g' hg' hg'' => ?_) _ _ HRF.out)
                    · exact ⟨hg'.1, by simp; omega, fun e => hg5 g' (by omega) hg'.2.2 (by simpa [Value.ownBlock] using e)⟩
                    · rw [hset g' (by omega), HGO.out g' (by omega) hg'.2.2]; exact hbF.block g' hg''
                    · exact ⟨by omega, by simp; omega, fun e => hg5 g' hg'.2.1 (hob g' hg'.1) (by simpa [Value.ownBlock] using e)⟩
                    · rw [hset g' (by omega), HGO.out g' hg'.2.1 (hob g' hg'.1)]
                  · exact hb4.setCell (by dsimp only; omega) _
                case measure => simp [Go.RowKit.intOf]; omega
          · obtain rfl : j = n := by omega
            have hys : D = some (.node k h' ys) := by rw [HU.out, HP.out.2, drop_all HN.out (Nat.le_refl _), rnL]; simp
            have HYS := Lib.hid hys; clear hys
            obtain ⟨d0, d1, d2⟩ := y2.three
            have f0 := y2.frozen 0
            have f1 := y2.frozen 1
            have f2 := y2.frozen 2
            obtain ⟨q0, q1, q2⟩ := y3.three
            have l3 := y3.lt
            go_wp2_with fail
            refine bodyPost_ret (v := .tuple #[.agg #[.int .i64 k, .int .i64 h', .slice Av j cv], .bool true]) (by simp [results, Tryz.results64, go_sem, d0, d1, d2]) rfl ?_
            refine ⟨_, _, _, _, _, true, rfl, .inl ⟨_, HYS.out, rfl, ?_⟩, below_set3 hbr (by omega) _ _ _⟩
            have hset := heap_other3 wr (w.heap.size + 1) (.int .i64 k) (.int .i64 h') (.slice Av j cv)
            refine rdF_row (HOW.out.kept (grown_set3 wr (w.heap.size + 1) (.int .i64 k) (.int .i64 h') (.slice Av j cv)) (.inr fun e => by have := HOW.out.lt _ e; omega)) (KidL.move HK.out (fun _ h => h) fun g hg _ => hset g (by omega)) HP.out.1 (fun g hg => ⟨by omega, by simpa using hg.2.1⟩) (fun g hg => ?_) hk hwf2
            have := HOW.out.lt g hg
            exact ⟨by omega, by simpa using this.2⟩
end Go.Proofs.YtnnmnkgogiabiaaGreat

/-
  Contracts of the document's own may and Invert. No statement is proved here.
-/
namespace Go.Proofs.YtnnmnkgogiabiaaGreat
open Go.ChangeShapes Go.WideShapes Go.ChangeAt Go.RowKit
set_option linter.unusedVariables false

set_option maxRecDepth 100000 in
set_option maxHeartbeats 4000000 in
theorem rmaysC (vs : List Int) (V0 : Option Addr) (nv c0v : Nat) (x : Int) (w : World) (hnv : vs.length = nv) (hnc : nv ≤ c0v) (hnm : c0v ≤ maxLen) (hx : ∀ i z, vs[i]? = some z → ∃ b o, V0 = some ⟨b, o, none⟩ ∧ w.cell? ⟨b, o + i, none⟩ = some (.int .i64 z)) :
    Calls Tryz.prog 63 #[.slice V0 nv c0v, .int .i64 x] w fun e w' => e = .returned (.bool (decide (0 ≤ x) && decide (x ≤ 1000) && vB x [] vs)) ∧ Below w.heap.size w w' := by
  have HX := Lib.hid hx; clear hx
  have HN := Lib.hid hnv; clear hnv
  unfold maxLen at hnm
  by_cases h0 : x < 0
  · have d0 : decide (x < 0) = true := by simpa using h0
    have e : (decide (0 ≤ x) && decide (x ≤ 1000) && vB x [] vs) = false := by rw [decide_eq_false (by omega)]; rfl
    rw [e]
    clear h0 e
    go_enter Tryz.func63, Tryz.ntmps63
    go_wp2_with fail
    go_ret
    exact ⟨rfl, Below.refl _ _⟩
  have d0 : decide (x < 0) = false := by simpa using h0
  by_cases h1 : 1000 < x
  · have d1 : decide (1000 < x) = true := by simpa using h1
    have e : (decide (0 ≤ x) && decide (x ≤ 1000) && vB x [] vs) = false := by rw [decide_eq_false (p := x ≤ 1000) (by omega), Bool.and_false]; rfl
    rw [e]
    clear h0 h1 e
    go_enter Tryz.func63, Tryz.ntmps63
    go_wp2_with fail
    go_ret
    exact ⟨rfl, Below.refl _ _⟩
  have d1 : decide (1000 < x) = false := by simpa using h1
  have e : (decide (0 ≤ x) && decide (x ≤ 1000) && vB x [] vs) = vB x [] vs := by rw [decide_eq_true (p := 0 ≤ x) (by omega), decide_eq_true (p := x ≤ 1000) (by omega)]; rfl
  rw [e]
  obtain ⟨V, hV⟩ : ∃ V, V = vB x [] vs := ⟨_, rfl⟩
  rw [← hV]
  have HVV := Lib.hid hV; clear hV
  clear h0 h1 e
  go_enter Tryz.func63, Tryz.ntmps63
  go_wp2_with fail
  go_loopw [5] (fun q wr => ∃ (j : Nat), j ≤ nv ∧ q = .int .i64 j ∧ Below w.heap.size w wr ∧ Hid (V = vB x (vs.take j) (vs.drop j))) (fun q _ => nv - (Go.RowKit.intOf q).toNat)
  case atStart => exact ⟨0, Nat.zero_le _, rfl, Below.refl _ _, Lib.hid (by rw [HVV.out]; simp)⟩
  case round =>
    obtain ⟨j, hj, rfl, hbr, HP⟩ := hrel
    by_cases hlt : j < nv
    · have hi0 : (0 : Int) ≤ j := by omega
      have hi1 : (j : Int) < nv := by omega
      obtain ⟨v, hv⟩ := at_of HN.out hlt
      obtain ⟨b, o, rfl, hc0⟩ := HX.out j v hv
      replace hc0 := (hbr.cell (cell_lt hc0)).trans hc0
      have hstep := HP.out
      rw [drop_at hv, vB] at hstep
      have HST := Lib.hid hstep; clear hstep
      have HV := Lib.hid hv; clear hv
      by_cases hv0 : v < 0
      · have d2 : decide (v < 0) = true := by simpa using hv0
        have hbad : V = false := by rw [HST.out, decide_eq_false (p := 0 ≤ v) (by omega)]; rfl
        subst hbad
        clear hv0
        go_wp2_with fail
        go_ret
        exact ⟨rfl, hbr⟩
      have d2 : decide (v < 0) = false := by simpa using hv0
      by_cases hvx : x ≤ v
      · have d3 : decide (x ≤ v) = true := by simpa using hvx
        have hbad : V = false := by rw [HST.out, decide_eq_false (p := v < x) (by omega), Bool.and_false]; rfl
        subst hbad
        clear hv0 hvx
        go_wp2_with fail
        go_ret
        exact ⟨rfl, hbr⟩
      have d3 : decide (x ≤ v) = false := by simpa using hvx
      have hin : (decide (0 ≤ v) && decide (v < x)) = true := by rw [decide_eq_true (p := 0 ≤ v) (by omega), decide_eq_true (p := v < x) (by omega)]; rfl
      have HIN := Lib.hid hin; clear hin hv0 hvx
      go_wp2_with fail
      obtain ⟨wz, hwz⟩ : ∃ wz, wz = wr := ⟨_, rfl⟩
      rw [← hwz] at hbr hc0 ⊢
      clear hwz wr
      obtain ⟨J, hJ⟩ : ∃ J : Int, (j : Int) = J := ⟨_, rfl⟩
      rw [hJ] at hi0 hi1 ⊢
      have HJ := Lib.hid hJ; clear hJ
      go_loopw [6] (fun q wr => ∃ (m : Nat), m ≤ j ∧ q = .int .i64 m ∧ Below wz.heap.size wz wr ∧ Hid (∀ i u, i < m → vs[i]? = some u → u ≠ v)) (fun q _ => j - (Go.RowKit.intOf q).toNat)
      case atStart => exact ⟨0, Nat.zero_le _, rfl, Below.refl _ _, Lib.hid (fun i u h => by omega)⟩
      case round =>
        obtain ⟨m, hm, rfl, hbm, HQ⟩ := hrel
        by_cases hml : m < j
        · have hm0 : (0 : Int) ≤ m := by omega
          have hm1 : (m : Int) < nv := by have := HJ.out; omega
          have hm2 : decide ((m : Int) < J) = true := by have := HJ.out; simp; omega
          obtain ⟨u, hu⟩ := at_of HN.out (show m < nv by omega)
          have hcu : wr.cell? ⟨b, o + m, none⟩ = some (.int .i64 u) := by
            obtain ⟨b', o', e, h⟩ := HX.out m u hu
            injection e with e; injection e with e1 e2
            subst e1; subst e2
            exact ((hbr.trans (hbm.mono hbr.size)).cell (cell_lt h)).trans h
          have hcv : wr.cell? ⟨b, o + J.toNat, none⟩ = some (.int .i64 v) := by
            rw [← HJ.out, Int.toNat_natCast]
            exact (hbm.cell (cell_lt hc0)).trans hc0
          have HU := Lib.hid hu; clear hu
          go_wp2_with fail
          have p0 := Past.cell hcu
          have p1 := Past.cell hcv
          refine wp_region_past (by kernel_rfl) (by kernel_rfl) ?_
          repeat (go_big_quiet_step (fail))
          refine wpQuiet_nil ?_
          rintro _ ⟨q, rfl⟩
          clear p0 p1 hcu hcv
          obtain ⟨w7, hb1⟩ := q
          dsimp only
          by_cases huv : u = v
          · have e1 : (u == v) = true := by simpa using huv
            have hmem : v ∈ vs.take j := by
              have hu := HU.out
              rw [huv] at hu
              rw [List.mem_take_iff_getElem]
              obtain ⟨h1, h2⟩ := List.getElem?_eq_some_iff.1 hu
              exact ⟨m, by omega, h2⟩
            have hbad : V = false := by rw [HST.out, HIN.out]; simp [hmem]
            subst hbad
            clear huv hmem
            go_wp2_with fail
            go_ret
            exact ⟨rfl, hbr.trans ((hbm.trans (hb1.mono hbm.size)).mono hbr.size)⟩
          · have e1 : (u == v) = false := by simpa using huv
            have HUV := Lib.hid huv; clear huv
            go_wp2_with fail
            go_roundw
            case rel => exact ⟨m + 1, by omega, by go_num, hbm.trans (hb1.mono hbm.size), Lib.hid (fun i u' hi hu' => by
              by_cases him : i < m
              · exact HQ.out i u' him hu'
              · have : i = m := by omega
                subst this
                have e := HU.out.symm.trans hu'
                cases e
                exact HUV.out)⟩
            case measure => simp [Go.RowKit.intOf]; omega
        · obtain rfl : m = j := by omega
          have hm2 : decide ((m : Int) < J) = false := by have := HJ.out; simp; omega
          have hnm : v ∉ vs.take m := fun hm => by
            rw [List.mem_take_iff_getElem] at hm
            obtain ⟨i, hi, e⟩ := hm
            exact HQ.out i v (by omega) (by rw [← e]; exact List.getElem?_eq_getElem (by omega)) rfl
          have hnext : V = vB x (vs.take (m + 1)) (vs.drop (m + 1)) := by
            rw [HST.out, HIN.out]
            have hjl := (List.getElem?_eq_some_iff.1 HV.out).1
            have ev := (List.getElem?_eq_some_iff.1 HV.out).2
            rw [List.take_succ_eq_append_getElem hjl, ev]
            simp [hnm]
          have HNX := Lib.hid hnext; clear hnext hnm
          have hw1 : IntKind.i64.wrap (J + 1) = J + 1 := by rw [wrapEq]; exact wrap_small (by omega) (by omega)
          go_wp2_with fail
          go_roundw
          case rel => exact ⟨m + 1, by omega, by rw [← HJ.out]; go_num, hbr.trans (hbm.mono hbr.size), HNX⟩
          case measure => have := HJ.out; simp [Go.RowKit.intOf]; omega
    · obtain rfl : j = nv := by omega
      have hgood : V = true := by rw [HP.out, drop_all HN.out (Nat.le_refl _), vB]
      subst hgood
      go_wp2_with fail
      go_ret
      exact ⟨rfl, hbr⟩

/-- what the document's Invert tells -/
def rvR (t : T) (vs : List Int) (n : Int) : Except Int T := if (mayB t && (decide (0 ≤ n) && decide (n ≤ 1000) && vB n [] vs)) = true then ivO (rn (rgo vs n) t 0) else .error 1
set_option maxRecDepth 100000 in
set_option maxHeartbeats 4000000 in
theorem rInvertC (t : T) (vs : List Int) (V0 : Option Addr) (nv c0v : Nat) (x : Int) (v : Value) (w : World) (hvt : Rd w t v) (hs : nd t ≤ 1048576) (hnv : vs.length = nv) (hnc : nv ≤ c0v) (hnm : c0v ≤ maxLen) (hx : ∀ i z, vs[i]? = some z → ∃ b o, V0 = some ⟨b, o, none⟩ ∧ w.cell? ⟨b, o + i, none⟩ = some (.int .i64 z)) :
    Calls Tryz.prog 46 #[v, .slice V0 nv c0v, .int .i64 x] w (IEnd (rvR t vs x) w) := by
  obtain ⟨k, h, At, nt, ct, rfl⟩ := hvt.full
  have HX := Lib.hid hx; clear hx
  have HN := Lib.hid hnv; clear hnv
  have HM := Lib.hid hnm; clear hnm
  have HC := Lib.hid hnc; clear hnc
  have HV := Lib.hid hvt; clear hvt
  have HS := Lib.hid hs; clear hs
  obtain ⟨W, hW⟩ : ∃ W, (w.alloc (.cells #[.int .i64 k, .int .i64 h, .slice At nt ct] 24)).alloc (.cells #[.int .i64 0, .int .i64 0, .slice none 0 0] 24) = W := ⟨_, rfl⟩
  have hb : Below w.heap.size w W := by rw [← hW]; exact ((Below.refl _ _).alloc (Nat.le_refl _) _).alloc (by simp) _
  have xT : Box W w.heap.size 24 #[.int .i64 k, .int .i64 h, .slice At nt ct] := by rw [← hW]; exact (Box.new _ _ _).alloc _
  have xR : Box W (w.heap.size + 1) 24 #[.int .i64 0, .int .i64 0, .slice none 0 0] := by rw [← hW]; exact (Box.new (w.alloc _) _ _).at (by simp)
  have HWW := Lib.hid hW; clear hW
  have HMY : Hid (Calls Tryz.prog 17 #[.agg #[.int .i64 k, .int .i64 h, .slice At nt ct]] W fun e w' => e = .returned (.bool (mayB t)) ∧ Below W.heap.size W w') := Lib.hid (refMay t _ _ (Rd.keep hb _ _ HV.out))
  obtain ⟨R, hR⟩ : ∃ R, R = rvR t vs x := ⟨_, rfl⟩
  rw [← hR]
  have HR := Lib.hid hR; clear hR
  go_enter Tryz.func46, Tryz.ntmps46
  go_wp2_with fail
  rw [HWW.out]
  clear HWW
  refine HMY.out.mono ?_
  generalize hq : mayB t = M at *
  rintro e w1 ⟨rfl, hb1⟩
  have HMB := Lib.hid hq; clear hq
  replace xT := xT.keep hb1 xT.lt
  replace xR := xR.keep hb1 xR.lt
  replace hb := hb.trans (hb1.mono hb.size)
  clear hb1 HMY
  go_wp2_with fail
  refine (rmaysC vs V0 nv c0v x w1 HN.out HC.out HM.out (fun i z hz => by obtain ⟨b, o, e, h⟩ := HX.out i z hz; exact ⟨b, o, e, (hb.cell (cell_lt h)).trans h⟩)).mono ?_
  generalize hq : (decide (0 ≤ x) && decide (x ≤ 1000) && vB x [] vs) = Q at *
  rintro e w2 ⟨rfl, hb1⟩
  have HQB := Lib.hid hq; clear hq
  replace xT := xT.keep hb1 xT.lt
  replace xR := xR.keep hb1 xR.lt
  replace hb := hb.trans (hb1.mono hb.size)
  clear hb1
  have lR := xR.lt
  have lT := xT.lt
  obtain ⟨c0, c1, c2⟩ := xT.three
  cases M
  · have hbad : R = .error 1 := by rw [HR.out, rvR, HMB.out]; rfl
    have HB := Lib.hid hbad; clear hbad
    obtain ⟨r0, r1, r2⟩ := xR.three
    have f0 := xR.frozen 0
    have f1 := xR.frozen 1
    have f2 := xR.frozen 2
    go_wp2_with fail
    refine bodyPost_ret (v := .tuple #[.agg #[.int .i64 0, .int .i64 0, .slice none 0 0], .int .i64 1]) (by simp [results, Tryz.results46, go_sem, r0, r1, r2]) rfl ?_
    exact .bad HB.out (below_set3 hb (by omega) _ _ _)
  cases Q
  · have hbad : R = .error 1 := by rw [HR.out, rvR, HQB.out, Bool.and_false]; rfl
    have HB := Lib.hid hbad; clear hbad
    obtain ⟨r0, r1, r2⟩ := xR.three
    have f0 := xR.frozen 0
    have f1 := xR.frozen 1
    have f2 := xR.frozen 2
    go_wp2_with fail
    refine bodyPost_ret (v := .tuple #[.agg #[.int .i64 0, .int .i64 0, .slice none 0 0], .int .i64 1]) (by simp [results, Tryz.results46, go_sem, r0, r1, r2]) rfl ?_
    exact .bad HB.out (below_set3 hb (by omega) _ _ _)
  have hgood : R = ivO (rn (rgo vs x) t 0) := by rw [HR.out, rvR, HMB.out, HQB.out]; rfl
  have HG := Lib.hid hgood; clear hgood
  have HRI := Lib.hid (rinvertC vs V0 nv c0v x HN.out HC.out HM.out t 0 _ w2 (fun i z hz => by obtain ⟨b, o, e, h⟩ := HX.out i z hz; exact ⟨b, o, e, (hb.cell (cell_lt h)).trans h⟩) (Rd.keep hb _ _ HV.out) HS.out)
  generalize rn (rgo vs x) t 0 = O at *
  go_wp2_with fail
  refine HRI.out.mono ?_
  rintro e w3 ⟨k3, h3, A3, n3, c3, bo, rfl, hout, hb1⟩
  have s2 : w.heap.size + 2 ≤ w2.heap.size := by omega
  replace xR := xR.keep hb1 lR
  replace hb := hb.trans (hb1.mono hb.size)
  have s3 := hb1.size
  have HOUT := Lib.hid hout; clear hout HRI hb1 c0 c1 c2 lT lR xT
  have lR := xR.lt
  obtain ⟨r0, r1, r2⟩ := xR.three
  have f0 := xR.frozen 0
  have f1 := xR.frozen 1
  have f2 := xR.frozen 2
  cases bo
  · have hno : O = none := by
      rcases HOUT.out with ⟨_, _, h, _⟩ | ⟨h, _, _⟩
      · cases h
      · exact h
    subst hno
    go_wp2_with fail
    refine bodyPost_ret (v := .tuple #[.agg #[.int .i64 0, .int .i64 0, .slice none 0 0], .int .i64 7]) (by simp [results, Tryz.results46, go_sem, r0, r1, r2, lR]) rfl ?_
    exact .bad HG.out ((below_set3 hb (by omega) _ _ _).alloc (by simp; omega) _)
  · obtain ⟨u, hu, hown⟩ : ∃ u, O = some u ∧ RdF (fun g => w2.heap.size ≤ g ∧ g < w3.heap.size) w3 u (.agg #[.int .i64 k3, .int .i64 h3, .slice A3 n3 c3]) := by
      rcases HOUT.out with ⟨u, h1, _, h3⟩ | ⟨_, h, _⟩
      · exact ⟨u, h1, h3⟩
      · cases h
    subst hu
    have HOW := Lib.hid hown; clear hown HOUT
    go_wp2_with fail
    refine bodyPost_ret (v := .tuple #[.agg #[.int .i64 k3, .int .i64 h3, .slice A3 n3 c3], .int .i64 0]) (by simp [results, Tryz.results46, go_sem, r0, r1, r2, lR]) rfl ?_
    have hR : R = .ok u := HG.out
    refine ⟨k3, h3, A3, n3, c3, by rw [hR]; rfl, ?_, (below_set3 hb (by omega) _ _ _).alloc (by simp; omega) _⟩
    rw [hR]
    have hr := RdF.move (ok' := fun b => w.heap.size ≤ b) (w' := (((w3.setCell ⟨w.heap.size + 1, 0, none⟩ (.int .i64 k3)).setCell ⟨w.heap.size + 1, 1, none⟩ (.int .i64 h3)).setCell ⟨w.heap.size + 1, 2, none⟩ (.slice A3 n3 c3)).alloc (.cells #[.int .i64 k3, .int .i64 h3, .slice A3 n3 c3] 24)) (fun g hg => (show w.heap.size ≤ g by omega)) (fun g hg hg' => (Below.heap_alloc _ _ _ (by simpa using hg')).trans (heap_other3 _ _ _ _ _ _ (by omega))) _ _ HOW.out
    exact hr
/-- the program and the document tell the same of a term with low Heads -/
theorem rv_iv {t : T} {vs : List Int} {n : Int} (hs : nd t ≤ 1048576) (hlow : lowB t = true) (hl : (vs.length : Int) ≤ 1000) : rvR t vs n = ivR t vs n := by
  unfold rvR ivR
  by_cases h1 : (decide (0 ≤ n) && decide (n ≤ 1000) && mayB t && vB n [] vs) = true
  · have h2 := h1
    simp only [Bool.and_eq_true, decide_eq_true_eq] at h2
    have ho := okT_of t ((mayB_iff hs).1 h2.1.2).1 hlow
    rw [if_pos (by simp [h2]), if_pos h1, rn_iv (M := 1099511627776) (g := igo vs n) (by omega) (fun x h0 hx => ⟨rgo_eq h0 (by omega) h2.1.1 (by omega), fun y hy => by have := igo_bd (M := 1099511627776) (by omega) hx h2.1.1.1 hy; omega⟩) t 0 ho (by omega) (by omega),
      rn_iv (M := 1099511627776) (g := igo vs n) (by omega) (fun x h0 hx => ⟨igW_eq h0 (by omega) h2.1.1 (by omega), fun y hy => by have := igo_bd (M := 1099511627776) (by omega) hx h2.1.1.1 hy; omega⟩) t 0 ho (by omega) (by omega)]
  · rw [if_neg h1, if_neg (fun h => h1 (by simp only [Bool.and_eq_true] at h ⊢; exact ⟨⟨h.2.1, h.1⟩, h.2.2⟩))]
end Go.Proofs.YtnnmnkgogiabiaaGreat

/-
  The document's own Ints, the laws' own in: contracts; the chapter's example of layer 5. No statement is proved here.
-/
namespace Go.Proofs.YtnnmnkgogiabiaaGreat
open Go.ChangeShapes Go.WideShapes Go.ChangeAt Go.RowKit
set_option linter.unusedVariables false

theorem Ns.cell {w : World} {A : Option Addr} {n c : Nat} {zs : List Int} (h : Ns w (.slice A n c) zs) {j : Nat} (hj : j < n) : ∃ b o z, A = some ⟨b, o, none⟩ ∧ zs[j]? = some z ∧ w.cell? ⟨b, o + j, none⟩ = some (.int .i64 z) := by
  obtain ⟨A', c', e, h2, h3, h4⟩ := h
  have e' : A = A' ∧ n = zs.length ∧ c = c' := by simpa using e
  obtain ⟨rfl, rfl, rfl⟩ := e'
  have hz : zs[j]? = some zs[j] := List.getElem?_eq_getElem hj
  obtain ⟨b, o, rfl, hc⟩ := h4 j _ hz
  exact ⟨b, o, _, rfl, hz, hc⟩
theorem Ns.full {w : World} {v : Value} {zs : List Int} (h : Ns w v zs) : ∃ A n c, v = .slice A n c ∧ zs.length = n ∧ n ≤ c ∧ c ≤ maxLen := by
  obtain ⟨A, c, rfl, h2, h3, _⟩ := h
  exact ⟨A, _, c, rfl, rfl, h2, h3⟩
theorem take_snoc {α : Type} {l : List α} {j : Nat} {x : α} (h : l[j]? = some x) : l.take (j + 1) = l.take j ++ [x] := by
  rw [List.take_add_one, h]; rfl


end Go.Proofs.YtnnmnkgogiabiaaGreat

/-
  The document's own add: a number in its place of rising ones. No statement is proved here.
-/
namespace Go.Proofs.YtnnmnkgogiabiaaGreat
open Go.ChangeShapes Go.WideShapes Go.ChangeAt Go.RowKit Go.Maps
set_option linter.unusedVariables false

/-- a round of add -/
def adS (x : Int) (s : Bool × List Int) (y : Int) : Bool × List Int :=
  if s.1 = false ∧ x ≤ y then (true, if y = x then s.2 ++ [x] else s.2 ++ [x] ++ [y]) else (s.1, if y = x then s.2 else s.2 ++ [y])
def adL (x : Int) (zs : List Int) : Bool × List Int := zs.foldl (adS x) (false, [])
def adF (x : Int) (zs : List Int) : List Int := if (adL x zs).1 then (adL x zs).2 else (adL x zs).2 ++ [x]

theorem adL_snoc (x : Int) (zs : List Int) (y : Int) : adL x (zs ++ [y]) = adS x (adL x zs) y := by simp [adL]
theorem adS_len (x : Int) (s : Bool × List Int) (y : Int) : (adS x s y).2.length ≤ s.2.length + 2 := by unfold adS; split <;> dsimp only <;> split <;> simp
theorem adL_len (x : Int) : ∀ (zs : List Int) (s : Bool × List Int), (zs.foldl (adS x) s).2.length ≤ s.2.length + 2 * zs.length
  | [], s => by simp
  | y :: zs, s => by rw [List.foldl_cons, List.length_cons]; have := adL_len x zs (adS x s y); have := adS_len x s y; omega
/-- behind the place nothing comes in between -/
theorem ad_done (x : Int) : ∀ (zs acc : List Int), (∀ y ∈ zs, x < y) → zs.foldl (adS x) (true, acc) = (true, acc ++ zs)
  | [], acc, _ => by simp
  | y :: zs, acc, h => by
    have hy := h y (List.mem_cons_self ..)
    have e : adS x (true, acc) y = (true, acc ++ [y]) := by simp [adS, show ¬ y = x by omega]
    rw [List.foldl_cons, e, ad_done x zs _ fun z hz => h z (List.mem_cons_of_mem _ hz)]; simp
theorem ad_ins (x : Int) : ∀ (zs acc : List Int), Asc zs → (let s := zs.foldl (adS x) (false, acc); if s.1 then s.2 else s.2 ++ [x]) = acc ++ ins x zs
  | [], acc, _ => by simp [ins]
  | y :: zs, acc, h => by
    obtain ⟨h1, h2⟩ := List.pairwise_cons.1 h
    rw [List.foldl_cons]
    unfold ins
    by_cases hlt : x < y
    · have e : adS x (false, acc) y = (true, acc ++ [x] ++ [y]) := by simp [adS, show x ≤ y by omega, show ¬ y = x by omega]
      rw [e, if_pos hlt, ad_done x zs _ fun z hz => by have := h1 z hz; omega]
      simp
    · by_cases he : x = y
      · subst he
        have e : adS x (false, acc) x = (true, acc ++ [x]) := by simp [adS]
        rw [e, if_neg hlt, if_pos rfl, ad_done x zs _ h1]
        simp
      · have e : adS x (false, acc) y = (false, acc ++ [y]) := by simp [adS, show ¬ x ≤ y by omega, show ¬ y = x by omega]
        rw [e, if_neg hlt, if_neg he]
        have := ad_ins x zs (acc ++ [y]) h2
        dsimp only at this ⊢
        rw [this]; simp
theorem adF_eq {x : Int} {zs : List Int} (h : Asc zs) : adF x zs = ins x zs := by
  have := ad_ins x zs [] h
  rw [List.nil_append] at this
  exact this
theorem ins_len (x : Int) : ∀ zs : List Int, (ins x zs).length ≤ zs.length + 1
  | [] => by simp [ins]
  | y :: zs => by
    unfold ins
    have := ins_len x zs
    split
    · simp
    · split <;> simp; omega

theorem ad_below {w wr w4 : World} {o : Obj} {e : TypeId} {size : Nat} {v : Value} {n : Nat} {xs : List Value} (hb : Below w.heap.size w wr) (hg : (wr.alloc o).grownBy w4 v.ownBlock) (hr : wr.ownsRow w.heap.size e size v n xs) : Below w.heap.size w w4 :=
  (hb.alloc hb.size o).grown hg (by have := hb.size; simp; omega) (fun i hi => (hr.lt i hi).1)

/-- the row that add makes, after so many rounds -/
def AdR (w : World) (lo : Nat) (v : Value) (os : List Int) : Prop := w.ownsRow lo 3 1 v os.length (os.map (Value.int .i64))

set_option maxRecDepth 100000 in
set_option maxHeartbeats 4000000 in
theorem rfAddC (zs : List Int) (x : Int) (v : Value) (w : World) (h1 : Ns w v zs) (hx : (Lit.int .i64 x).wf = true) (hl : zs.length ≤ 4194304) :
    Calls Tryz.prog 83 #[v, .int .i64 x] w fun e w' => ∃ u, e = .returned u ∧ Ns w' u (adF x zs) ∧ Below w.heap.size w w' := by
  obtain ⟨A, n, c, rfl, hn, hc, hm⟩ := h1.full
  obtain ⟨i0, hi, hz0, hz1, hz2⟩ := info_parts infoI
  unfold maxLen at hm
  have HN := Lib.hid hn; rw [hn] at hl; clear hn
  have H1 := Lib.hid h1; clear h1
  go_enter Tryz.func83, Tryz.ntmps83
  go_wp2_with fail
  go_loopw [5, 6, 7] (fun o d i wr => ∃ (j : Nat) (dn : Bool) (os : List Int), j ≤ n ∧ i = .int .i64 j ∧ d = .bool dn ∧ AdR wr w.heap.size o os ∧ os.length ≤ 2 * j ∧ Hid (adL x (zs.take j) = (dn, os)) ∧ Below w.heap.size w wr) (fun _ _ i _ => n - (intOf i).toNat)
  case atStart => exact ⟨0, false, [], Nat.zero_le _, rfl, rfl, World.ownsRow_nil _ _ _ _, by simp, Lib.hid rfl, Below.refl _ _⟩
  case round =>
    obtain ⟨j, dn, os, hj, rfl, rfl, hrow, hos, HE, hb⟩ := hrel
    have hws := hb.size
    by_cases hlt : j < n
    · obtain ⟨b, o, y, rfl, hz, c00⟩ := H1.out.cell hlt
      have c0 := (hb.cell (cell_lt c00)).trans c00
      have HZ := Lib.hid hz; clear hz
      have hE : adL x (zs.take (j + 1)) = adS x (dn, os) y := by rw [take_snoc HZ.out, adL_snoc, HE.out]
      have HE1 := Lib.hid hE; clear hE HE
      have HC := Lib.hid c00; clear c00
      have hi0 : (0 : Int) ≤ j := by omega
      have hi1 : (j : Int) < n := by omega
      have hrA : wr.ownsRow w.heap.size 3 1 u5 os.length (os.map (Value.int .i64)) := hrow
      clear hrow
      cases dn
      · by_cases hxy : x ≤ y
        · have d1 : decide (x ≤ y) = true := by simpa using hxy
          by_cases hyx : y = x
          · subst hyx
            clear hxy
            go_wp2_with (first
              | (at_builtin; refine wpList_append_own _ rfl _ _ 25 rfl w.heap.size 3 i0 (.int .i64 0) 1 8 Tryz.underlying25 hi hz0 hz1 hz2 rfl (by decide) _ _ _ rfl (hrA.alloc _) ⟨wr.heap.size, 0, none⟩ 1 1 [.int .i64 y] rfl rfl (cell_one_new _ _ _) (ints_oneCell .i64 [y]) (by unfold maxLen; omega) (by omega) (by simp; omega) ?_; intro v4 w4 hown4 hg4 hnil4; have hb4 := (ad_below hb hg4 hrA); have c0 := (hb4.cell (cell_lt HC.out)).trans HC.out; have hs4 := hb4.size; clear hnil4)
              | go_in)
            go_roundw
            case rel => exact ⟨j + 1, _, os ++ [y], by omega, by go_num, rfl, by simpa [AdR] using hown4, by first | omega | (simp; omega), Lib.hid (by rw [HE1.out]; simp [adS]), (ad_below hb hg4 hrA)⟩
            case measure => simp [intOf]; omega
          · have e1 : (y == x) = false := by simpa using hyx
            have HX := Lib.hid hyx; clear hyx
            have HXY := Lib.hid hxy; clear hxy
            have tok : True := trivial
            go_wp2_with (first
              | (at_builtin; have _t := tok; (at_builtin; refine wpList_append_own _ rfl _ _ 25 rfl w.heap.size 3 i0 (.int .i64 0) 1 8 Tryz.underlying25 hi hz0 hz1 hz2 rfl (by decide) _ _ _ rfl (hrA.alloc _) ⟨wr.heap.size, 0, none⟩ 1 1 [.int .i64 x] rfl rfl (cell_one_new _ _ _) (ints_oneCell .i64 [x]) (by unfold maxLen; omega) (by omega) (by simp; omega) ?_; intro v4 w4 hown4 hg4 hnil4; have hb4 := (ad_below hb hg4 hrA); have c0 := (hb4.cell (cell_lt HC.out)).trans HC.out; have hs4 := hb4.size; clear hnil4); clear tok)
              | (at_builtin; refine wpList_append_own _ rfl _ _ 25 rfl w.heap.size 3 i0 (.int .i64 0) 1 8 Tryz.underlying25 hi hz0 hz1 hz2 rfl (by decide) _ _ _ rfl (hown4.alloc _) ⟨w4.heap.size, 0, none⟩ 1 1 [.int .i64 y] rfl rfl (cell_one_new _ _ _) (ints_oneCell .i64 [y]) (by unfold maxLen; omega) (by omega) (by simp; omega) ?_; intro v5 w5 hown5 hg5 hnil5; go_frame)
              | go_in)
            go_roundw
            case rel => exact ⟨j + 1, _, os ++ [x] ++ [y], by omega, by go_num, rfl, by simpa [AdR] using hown5, by first | omega | (simp; omega), Lib.hid (by rw [HE1.out]; have h1 := HX.out; have h2 := HXY.out; simp [adS, h1, h2]), (ad_below hb4 hg5 hown4)⟩
            case measure => simp [intOf]; omega
        · have d1 : decide (x ≤ y) = false := by simpa using hxy
          have e1 : (y == x) = false := by rw [beq_eq_false_iff_ne]; omega
          have HXY := Lib.hid hxy; clear hxy
          go_wp2_with (first
            | (at_builtin; refine wpList_append_own _ rfl _ _ 25 rfl w.heap.size 3 i0 (.int .i64 0) 1 8 Tryz.underlying25 hi hz0 hz1 hz2 rfl (by decide) _ _ _ rfl (hrA.alloc _) ⟨wr.heap.size, 0, none⟩ 1 1 [.int .i64 y] rfl rfl (cell_one_new _ _ _) (ints_oneCell .i64 [y]) (by unfold maxLen; omega) (by omega) (by simp; omega) ?_; intro v4 w4 hown4 hg4 hnil4; go_frame)
            | go_in)
          go_roundw
          case rel => exact ⟨j + 1, _, os ++ [y], by omega, by go_num, rfl, by simpa [AdR] using hown4, by first | omega | (simp; omega), Lib.hid (by rw [HE1.out]; have h2 := HXY.out; simp [adS, show ¬ x ≤ y from h2, show ¬ y = x by omega]), (ad_below hb hg4 hrA)⟩
          case measure => simp [intOf]; omega
      · by_cases hyx : y = x
        · subst hyx
          go_wp2_with fail
          go_roundw
          case rel => exact ⟨j + 1, _, os, by omega, by go_num, rfl, hrA, by first | omega | (simp; omega), Lib.hid (by rw [HE1.out]; simp [adS]), hb⟩
          case measure => simp [intOf]; omega
        · have e1 : (y == x) = false := by simpa using hyx
          have HX := Lib.hid hyx; clear hyx
          go_wp2_with (first
            | (at_builtin; refine wpList_append_own _ rfl _ _ 25 rfl w.heap.size 3 i0 (.int .i64 0) 1 8 Tryz.underlying25 hi hz0 hz1 hz2 rfl (by decide) _ _ _ rfl (hrA.alloc _) ⟨wr.heap.size, 0, none⟩ 1 1 [.int .i64 y] rfl rfl (cell_one_new _ _ _) (ints_oneCell .i64 [y]) (by unfold maxLen; omega) (by omega) (by simp; omega) ?_; intro v4 w4 hown4 hg4 hnil4; go_frame)
            | go_in)
          go_roundw
          case rel => exact ⟨j + 1, _, os ++ [y], by omega, by go_num, rfl, by simpa [AdR] using hown4, by first | omega | (simp; omega), Lib.hid (by rw [HE1.out]; have h1 := HX.out; simp [adS, h1]), (ad_below hb hg4 hrA)⟩
          case measure => simp [intOf]; omega
    · have hE := HE.out
      rw [List.take_of_length_le (by have := HN.out; omega)] at hE
      have HE := Lib.hid hE; clear hE
      have hrA : wr.ownsRow w.heap.size 3 1 u5 os.length (os.map (Value.int .i64)) := hrow
      clear hrow
      cases dn
      · go_wp2_with (first
          | (at_builtin; refine wpList_append_own _ rfl _ _ 25 rfl w.heap.size 3 i0 (.int .i64 0) 1 8 Tryz.underlying25 hi hz0 hz1 hz2 rfl (by decide) _ _ _ rfl (hrA.alloc _) ⟨wr.heap.size, 0, none⟩ 1 1 [.int .i64 x] rfl rfl (cell_one_new _ _ _) (ints_oneCell .i64 [x]) (by unfold maxLen; omega) (by omega) (by simp; omega) ?_; intro v4 w4 hown4 hg4 hnil4; go_frame)
          | go_in)
        go_ret
        refine ⟨_, rfl, Ns.of_row (base := w.heap.size) (e := 3) (zs := adF x zs) ?_, (ad_below hb hg4 hrA)⟩
        have e : adF x zs = os ++ [x] := by unfold adF; rw [HE.out]; rfl
        rw [e]
        simpa using hown4
      · go_wp2_with fail
        go_ret
        refine ⟨_, rfl, Ns.of_row (base := w.heap.size) (e := 3) (zs := adF x zs) ?_, hb⟩
        have e : adF x zs = os := by unfold adF; rw [HE.out]; rfl
        rw [e]
        exact hrA
end Go.Proofs.YtnnmnkgogiabiaaGreat

/-
  The document's own Vars and Metas of layer 5. No statement is proved here.
-/
namespace Go.Proofs.YtnnmnkgogiabiaaGreat
open Go.ChangeShapes Go.WideShapes Go.ChangeAt Go.RowKit Go.Maps
set_option linter.unusedVariables false

attribute [local go_sem] Oper.semAt_some

def insF (zs l : List Int) : List Int := l.foldl (fun s n => ins n s) zs
theorem insF_app (zs l m : List Int) : insF zs (l ++ m) = insF (insF zs l) m := by simp [insF]
theorem insF_len : ∀ (l zs : List Int), (insF zs l).length ≤ zs.length + l.length
  | [], zs => by simp [insF]
  | n :: l, zs => by
    have h1 := insF_len l (ins n zs)
    have h2 := ins_len n zs
    show (insF (ins n zs) l).length ≤ _
    rw [List.length_cons]; omega
theorem insF_asc {zs l : List Int} (h : Asc zs) : Asc (insF zs l) := (fold_ins l zs h).1
theorem fv_flat_le (l : List (Int × T)) : (l.flatMap fv1).length ≤ l.length := flat1_le fv1 fv1_le l
theorem mt_flat_le (l : List (Int × T)) : (l.flatMap mt1).length ≤ l.length := flat1_le mt1 mt1_le l
/-- one more number -/
theorem rfAddI (zs : List Int) (x : Int) (v : Value) (w : World) (h1 : Ns w v zs) (ha : Asc zs) (hx : (Lit.int .i64 x).wf = true) (hl : zs.length ≤ 4194304) :
    Calls Tryz.prog 83 #[v, .int .i64 x] w fun e w' => ∃ u, e = .returned u ∧ Ns w' u (insF zs [x]) ∧ Below w.heap.size w w' := by
  have := rfAddC zs x v w h1 hx hl
  rw [adF_eq ha] at this
  exact this

theorem fv_node (k h b : Int) (xs : List T) : ((nds (.node k h xs) b).flatMap fv1) = (if k = 4 ∧ b ≤ h then [wrap64 (h - b)] else []) ++ (ndsL k xs.length xs 0 b).flatMap fv1 := by rw [nds, List.flatMap_cons]; rfl
theorem mt_node (k h b : Int) (xs : List T) : ((nds (.node k h xs) b).flatMap mt1) = (if k = 6 then [h] else []) ++ (ndsL k xs.length xs 0 b).flatMap mt1 := by rw [nds, List.flatMap_cons]; rfl

end Go.Proofs.YtnnmnkgogiabiaaGreat

/-
  The document's own Metas of layer 5, and its Vars. No statement is proved here.
-/
namespace Go.Proofs.YtnnmnkgogiabiaaGreat
open Go.ChangeShapes Go.WideShapes Go.ChangeAt Go.RowKit Go.Maps
set_option linter.unusedVariables false

mutual
theorem mt_any : ∀ (t : T) (b d : Int), (nds t b).flatMap mt1 = (nds t d).flatMap mt1
  | .node k h xs, b, d => by rw [mt_node, mt_node, mt_anyL k xs.length xs 0 b d]
theorem mt_anyL (k : Int) (n : Nat) : ∀ (xs : List T) (i : Nat) (b d : Int), (ndsL k n xs i b).flatMap mt1 = (ndsL k n xs i d).flatMap mt1
  | [], _, _, _ => by rw [ndsL, ndsL]
  | t :: ts, i, b, d => by rw [ndsL, ndsL, List.flatMap_append, List.flatMap_append, mt_any t _ (wrap64 (d + bd k n i)), mt_anyL k n ts (i + 1) b d]
end

set_option maxRecDepth 100000 in
set_option maxHeartbeats 4000000 in
theorem rfHeadsC (t : T) : ∀ (v vo : Value) (zs : List Int) (w : World), Rd w t v → Ns w vo zs → Asc zs → zs.length + nd t ≤ 4194304 →
    Calls Tryz.prog 62 #[v, vo] w fun e w' => ∃ u, e = .returned u ∧ Ns w' u (insF zs ((nds t 0).flatMap mt1)) ∧ Below w.heap.size w w' := by
  induction t using T.ind with
  | step k h xs ih =>
    intro v vo zs w hv hzs hasc hlen
    obtain ⟨A, n, c, rfl, hk, hh, hn, hc, hm, hx⟩ := Rd_node.1 hv
    clear hv
    have HM := Lib.hid hm
    unfold maxLen at hm
    have HN := Lib.hid hn; clear hn
    have HX := Lib.hid hx; clear hx
    have IH := Lib.hid ih; clear ih
    have HH := Lib.hid hh; clear hh
    have hwA : Below w.heap.size w (w.alloc (.cells #[.int .i64 k, .int .i64 h, .slice A n c] 24)) := (Below.refl _ _).alloc (Nat.le_refl _) _
    have x0 := Box.new w 24 #[.int .i64 k, .int .i64 h, .slice A n c]
    have hzA := hzs.keep hwA
    obtain ⟨zs1, hz1⟩ : ∃ zs1, zs1 = insF zs (if k = 6 then [h] else []) := ⟨_, rfl⟩
    have ha1 : Asc zs1 := by rw [hz1]; exact insF_asc hasc
    have hl1 : zs1.length + ndL xs ≤ 4194304 := by
      have h1 := insF_len (if k = 6 then [h] else []) zs
      rw [← hz1] at h1
      rw [nd] at hlen
      have h2 : (if k = 6 then [h] else []).length ≤ 1 := by split <;> simp
      omega
    have E : insF zs ((nds (.node k h xs) 0).flatMap mt1) = insF zs1 ((ndsL k n xs 0 0).flatMap mt1) := by rw [mt_node, insF_app, ← hz1, HN.out]
    have HL0 := Lib.hid hlen; clear hlen
    rw [E]
    have HA0 := Lib.hid hasc; clear hasc
    clear E hzs
    have HL1 := Lib.hid hl1; clear hl1
    have HA1 := Lib.hid ha1; clear ha1
    have HZA := Lib.hid hzA; clear hzA
    have HWA := Lib.hid hwA; clear hwA
    have X0 := Lib.hid x0; clear x0
    by_cases t1 : k = 6
    · subst t1
      have hz1 : zs1 = insF zs [h] := by rw [hz1, if_pos rfl]
      have HAD := Lib.hid (rfAddI zs h vo _ HZA.out HA0.out HH.out (by have := HL0.out; omega))
      rw [← hz1] at HAD
      clear hz1
      go_enter Tryz.func62, Tryz.ntmps62
      go_wp2_with (go_at_call 83; refine HAD.out.mono ?_; rintro e w1 ⟨vo1, rfl, hzB, hb1⟩; have x1 := X0.out.keep hb1 X0.out.lt; obtain ⟨q0, q1, q2⟩ := x1.three; have hwB := HWA.out.trans (hb1.mono HWA.out.size); clear hb1 HAD)
      clear q0 q1 q2
      go_loopw [1, 5] (fun o i wr => ∃ (j : Nat) (ys : List Int), j ≤ n ∧ i = .int .i64 j ∧ Ns wr o ys ∧ Asc ys ∧ Hid (ys.length + ndL (xs.drop j) ≤ 4194304) ∧ Hid (insF ys ((ndsL 6 n (xs.drop j) j 0).flatMap mt1) = insF zs1 ((ndsL 6 n xs 0 0).flatMap mt1)) ∧
          Box wr w.heap.size 24 #[.int .i64 6, .int .i64 h, .slice A n c] ∧ Below w.heap.size w wr) (fun _ i _ => n - (intOf i).toNat)
      case atStart => exact ⟨0, zs1, Nat.zero_le _, rfl, hzB, HA1.out, HL1, Lib.hid rfl, x1, hwB⟩
      case round =>
        clear hzB hwB x1
        obtain ⟨j, ys, hj, rfl, hys, hya, HYL, HS, hbox, hb⟩ := hrel
        obtain ⟨b0, b1, b2⟩ := hbox.three
        by_cases hlt : j < n
        · obtain ⟨t, ht⟩ := at_of HN.out hlt
          obtain ⟨b', o, k2, h2, A2, n2, c2', rfl, c0, c1, c2, hr⟩ := (RdAt.keep hb (HX.out j t ht)).full
          have HS' := HS.out
          rw [drop_at ht, ndsL, List.flatMap_append, insF_app, mt_any t _ 0] at HS'
          have HS := Lib.hid HS'; clear HS'
          have HYL' := HYL.out
          rw [drop_at ht, ndL] at HYL'
          have HYL := Lib.hid HYL'; clear HYL'
          have HV := Lib.hid (IH.out t (List.mem_of_getElem? ht) _ _ ys wr hr hys hya (by have := HYL.out; omega))
          have HT := Lib.hid ht; clear ht
          have hi0 : (0 : Int) ≤ j := by omega
          have hi1 : (j : Int) < n := by omega
          go_wp2_with (go_at_call 62; refine HV.out.mono ?_; rintro e w2 ⟨u, rfl, hu, hb2⟩)
          go_roundw
          case rel =>
            refine ⟨j + 1, _, by omega, by go_num, hu, insF_asc hya, Lib.hid ?_, HS, hbox.keep hb2 hbox.lt, hb.trans (hb2.mono hb.size)⟩
            have h1 := insF_len ((nds t 0).flatMap mt1) ys
            have h2 := mt_flat_le (nds t 0)
            rw [nds_len] at h2
            have := HYL.out
            omega
          case measure => simp [intOf]; omega
        · have HS' := HS.out
          rw [drop_all HN.out (by omega), ndsL] at HS'
          have HS := Lib.hid HS'; clear HS'
          go_wp2_with fail
          go_ret
          exact ⟨_, rfl, by rw [← HS.out]; exact hys, hb⟩
    · have e1 : (k == 6) = false := by simpa using t1
      have hz1 : zs1 = zs := by rw [hz1, if_neg t1]; rfl
      have HT2 := Lib.hid t1; clear t1
      rw [← hz1] at HZA
      clear hz1
      go_enter Tryz.func62, Tryz.ntmps62
      go_wp2_with fail
      have hzB := HZA.out
      have hwB := HWA.out
      have x1 := X0.out
      go_loopw [1, 5] (fun o i wr => ∃ (j : Nat) (ys : List Int), j ≤ n ∧ i = .int .i64 j ∧ Ns wr o ys ∧ Asc ys ∧ Hid (ys.length + ndL (xs.drop j) ≤ 4194304) ∧ Hid (insF ys ((ndsL k n (xs.drop j) j 0).flatMap mt1) = insF zs1 ((ndsL k n xs 0 0).flatMap mt1)) ∧
          Box wr w.heap.size 24 #[.int .i64 k, .int .i64 h, .slice A n c] ∧ Below w.heap.size w wr) (fun _ i _ => n - (intOf i).toNat)
      case atStart => exact ⟨0, zs1, Nat.zero_le _, rfl, hzB, HA1.out, HL1, Lib.hid rfl, x1, hwB⟩
      case round =>
        clear hzB hwB x1
        obtain ⟨j, ys, hj, rfl, hys, hya, HYL, HS, hbox, hb⟩ := hrel
        obtain ⟨b0, b1, b2⟩ := hbox.three
        by_cases hlt : j < n
        · obtain ⟨t, ht⟩ := at_of HN.out hlt
          obtain ⟨b', o, k2, h2, A2, n2, c2', rfl, c0, c1, c2, hr⟩ := (RdAt.keep hb (HX.out j t ht)).full
          have HS' := HS.out
          rw [drop_at ht, ndsL, List.flatMap_append, insF_app, mt_any t _ 0] at HS'
          have HS := Lib.hid HS'; clear HS'
          have HYL' := HYL.out
          rw [drop_at ht, ndL] at HYL'
          have HYL := Lib.hid HYL'; clear HYL'
          have HV := Lib.hid (IH.out t (List.mem_of_getElem? ht) _ _ ys wr hr hys hya (by have := HYL.out; omega))
          have HT := Lib.hid ht; clear ht
          have hi0 : (0 : Int) ≤ j := by omega
          have hi1 : (j : Int) < n := by omega
          go_wp2_with (go_at_call 62; refine HV.out.mono ?_; rintro e w2 ⟨u, rfl, hu, hb2⟩)
          go_roundw
          case rel =>
            refine ⟨j + 1, _, by omega, by go_num, hu, insF_asc hya, Lib.hid ?_, HS, hbox.keep hb2 hbox.lt, hb.trans (hb2.mono hb.size)⟩
            have h1 := insF_len ((nds t 0).flatMap mt1) ys
            have h2 := mt_flat_le (nds t 0)
            rw [nds_len] at h2
            have := HYL.out
            omega
          case measure => simp [intOf]; omega
        · have HS' := HS.out
          rw [drop_all HN.out (by omega), ndsL] at HS'
          have HS := Lib.hid HS'; clear HS'
          go_wp2_with fail
          go_ret
          exact ⟨_, rfl, by rw [← HS.out]; exact hys, hb⟩


set_option maxHeartbeats 1000000 in
theorem rfMetas (t : T) (v : Value) (w : World) (hv : Rd w t v) (hs : nd t ≤ 1048576) :
    Calls Tryz.prog 44 #[v] w fun e w' => ∃ u, e = .returned u ∧ Ns w' u (rs ((nds t 0).flatMap mt1)) ∧ Below w.heap.size w w' := by
  obtain ⟨k, h, A, n, c, rfl⟩ := hv.full
  have hwA : Below w.heap.size w (w.alloc (.cells #[.int .i64 k, .int .i64 h, .slice A n c] 24)) := (Below.refl _ _).alloc (Nat.le_refl _) _
  have HR := Lib.hid (rfHeadsC t _ (.slice none 0 0) [] _ (Rd.keep hwA _ _ hv) (Ns.nil _) List.Pairwise.nil (by simp; omega))
  clear hv
  go_enter Tryz.func44, Tryz.ntmps44
  go_wp2_with (go_at_call 62; refine HR.out.mono ?_; rintro e w1 ⟨u, rfl, hn1, hb1⟩)
  go_ret
  exact ⟨_, rfl, hn1, hwA.trans (hb1.mono hwA.size)⟩
end Go.Proofs.YtnnmnkgogiabiaaGreat

/-
  The document's own Pattern. No statement is proved here.
-/
namespace Go.Proofs.YtnnmnkgogiabiaaGreat
open Go.ChangeShapes Go.WideShapes Go.ChangeAt Go.RowKit Go.Maps
set_option linter.unusedVariables false

/-- an entry's head, where it lies -/
theorem head_cell {w : World} {A : Option Addr} {xs : List T} (hx : ∀ i t, xs[i]? = some t → RdAt w A i t) {b o : Nat} (hA : A = some ⟨b, o, none⟩) {m : Nat} {t : T} (ht : xs[m]? = some t) : w.cell? ⟨b, o + m * 3 + 1, none⟩ = some (.int .i64 (hd t)) := by
  obtain ⟨b', o', k, h, A', n', c', e, _, c1, _, hr⟩ := (hx m t ht).full
  rw [hA] at e
  have e' : b = b' ∧ o = o' := by simpa using e
  obtain ⟨rfl, rfl⟩ := e'
  obtain ⟨k3, h3, ys⟩ := t
  obtain ⟨A3, n3, c3, e3, _⟩ := Rd_node.1 hr
  have e4 : k = k3 ∧ h = h3 ∧ A' = A3 ∧ n' = n3 ∧ c' = c3 := by simpa using e3
  obtain ⟨_, rfl, _⟩ := e4
  exact c1

set_option maxRecDepth 100000 in
set_option maxHeartbeats 4000000 in
theorem rfPatternC (xs : List T) (A : Option Addr) (n c : Nat) (below : Int) (w : World) (hn : xs.length = n) (hc : n ≤ c) (hm : c ≤ maxLen) (hb : n ≤ 3518437208780) (hx : ∀ i t, xs[i]? = some t → RdAt w A i t) :
    Calls Tryz.prog 43 #[.slice A n c, .int .i64 below] w (PtEnd (ptn below [] xs) w) := by
  obtain ⟨i0, hi, hz0, hz1, hz2⟩ := info_parts infoI
  have HX := Lib.hid hx; clear hx
  have HN := Lib.hid hn; clear hn
  have HM := Lib.hid hm; clear hm
  go_enter Tryz.func43, Tryz.ntmps43
  go_wp2_with fail
  go_loopw [6, 7] (fun v i wr => ∃ (j : Nat) (seen : List Int), j ≤ n ∧ i = .int .i64 j ∧ wr.ownsRow w.heap.size 3 1 v seen.length (seen.map (Value.int .i64)) ∧ seen.length = j ∧ Below w.heap.size w wr ∧
      Hid (ptn below seen (xs.drop j) = ptn below [] xs) ∧ Hid (seen = (xs.take j).map hd)) (fun _ i _ => n - (intOf i).toNat)
  case atStart => exact ⟨0, [], Nat.zero_le _, rfl, World.ownsRow_nil _ _ _ _, rfl, Below.refl _ _, Lib.hid rfl, Lib.hid rfl⟩
  case round =>
    obtain ⟨j, seen, hj, rfl, hrow, hsl, hbw, HP, HSE⟩ := hrel
    have hws := hbw.size
    by_cases hlt : j < n
    · obtain ⟨t, ht⟩ := at_of HN.out hlt
      obtain ⟨b', o, k2, h2, A2, n2, c2', rfl, c00, c10, c20, hr⟩ := (HX.out j t ht).full
      have c0 := (hbw.cell (cell_lt c00)).trans c00
      have c1 := (hbw.cell (cell_lt c10)).trans c10
      have c2 := (hbw.cell (cell_lt c20)).trans c20
      obtain ⟨k3, h3, ys⟩ := t
      obtain ⟨A3, n3, c3, e3, hk3, hh3, hl3, hc3, hm3, _⟩ := Rd_node.1 hr
      have e3' : k2 = k3 ∧ h2 = h3 ∧ A2 = A3 ∧ n2 = n3 ∧ c2' = c3 := by simpa using e3
      obtain ⟨rfl, rfl, rfl, rfl, rfl⟩ := e3'
      have hc10 := c10
      clear e3 hr hk3 hc3 hm3 c00 c10 c20
      have HP' := HP.out
      rw [drop_at ht] at HP'
      have HL3 := Lib.hid hl3; clear hl3
      have HT := Lib.hid ht; clear ht
      have HC1 := Lib.hid hc10; clear hc10
      have hi0 : (0 : Int) ≤ j := by omega
      have hi1 : (j : Int) < n := by omega
      have stop : pt1 seen below (.node k2 h2 ys) = false → none = ptn below [] xs := fun p1 => by rw [ptn_stop p1] at HP'; exact HP'
      have STOP := Lib.hid stop; clear stop
      by_cases k4 : k2 = 4
      · subst k4
        by_cases hz : n2 = 0
        · subst hz
          by_cases h0 : h2 < 0
          · have d0 : decide (h2 < 0) = true := by simpa using h0
            have hs : none = ptn below [] xs := STOP.out (by simp [pt1, show ¬ 0 ≤ h2 by omega])
            have HS := Lib.hid hs.symm; clear hs
            have HH := Lib.hid h0; clear h0
            go_wp2_with fail
            refine bodyPost_ret (v := .tuple #[.slice none 0 0, .bool false]) (by simp [results, Tryz.results43, go_sem]) rfl (.inr ⟨HS.out, rfl, hbw⟩)
          · have d0 : decide (h2 < 0) = false := by simpa using h0
            by_cases h9 : below ≤ h2
            · have d9 : decide (below ≤ h2) = true := by simpa using h9
              have hs : none = ptn below [] xs := STOP.out (by simp [pt1, show ¬ h2 < below by omega])
              have HS := Lib.hid hs.symm; clear hs
              have HH := Lib.hid h0; clear h0
              have HH9 := Lib.hid h9; clear h9
              go_wp2_with fail
              refine bodyPost_ret (v := .tuple #[.slice none 0 0, .bool false]) (by simp [results, Tryz.results43, go_sem]) rfl (.inr ⟨HS.out, rfl, hbw⟩)
            · have d9 : decide (below ≤ h2) = false := by simpa using h9
              have HH := Lib.hid h0; clear h0
              have HH9 := Lib.hid h9; clear h9
              have HPP := Lib.hid HP'; clear HP'
              go_wp2_with fail
              have HROW := Lib.hid hrow
              have HBW := Lib.hid hbw
              clear c0 c1 c2
              go_loopw [8] (fun i wr => ∃ (m : Nat), m ≤ j ∧ i = .int .i64 m ∧ wr.ownsRow w.heap.size 3 1 u6 seen.length (seen.map (Value.int .i64)) ∧ Below w.heap.size w wr ∧ Hid (h2 ∉ seen.take m)) (fun i _ => j - (intOf i).toNat)
              case atStart => exact ⟨0, Nat.zero_le _, rfl, HROW.out, HBW.out, Lib.hid (by simp)⟩
              case round =>
                clear hrow hbw hws
                obtain ⟨m, hmj, rfl, hrow, hbw, HNM⟩ := hrel
                have hws := hbw.size
                by_cases hmlt : m < j
                · obtain ⟨t9, ht9⟩ := at_of HN.out (show m < n by omega)
                  have hh9 := head_cell HX.out rfl ht9
                  have c1 := (hbw.cell (cell_lt HC1.out)).trans HC1.out
                  have c9 := (hbw.cell (cell_lt hh9)).trans hh9
                  have hsm : seen[m]? = some (hd t9) := by rw [HSE.out, List.getElem?_map, List.getElem?_take_of_lt hmlt, ht9]; rfl
                  have HSM := Lib.hid hsm; clear hsm
                  clear hh9
                  have HT9 := Lib.hid ht9; clear ht9
                  generalize hd t9 = h9 at *
                  have hi0' : (0 : Int) ≤ m := by omega
                  have hi1' : (m : Int) < n := by omega
                  have hi2' : (m : Int) < j := by omega
                  go_wp2_with fail
                  have p0 := Past.cell c1
                  have p1 := Past.cell c9
                  refine wp_region_past (by kernel_rfl) (by kernel_rfl) ?_
                  repeat (go_big_quiet_step (fail))
                  refine wpQuiet_nil ?_
                  rintro _ ⟨q, rfl⟩
                  clear p0 p1 c1 c9
                  obtain ⟨w1, hb1⟩ := q
                  have hbw1 := hbw.trans (hb1.mono hbw.size)
                  dsimp only
                  by_cases he : h9 = h2
                  · subst he
                    have hs : none = ptn below [] xs := STOP.out (by
                      have : seen.contains h9 = true := by simpa using List.mem_of_getElem? HSM.out
                      simp only [pt1, this]; simp)
                    have HS := Lib.hid hs.symm; clear hs
                    go_wp2_with fail
                    refine bodyPost_ret (v := .tuple #[.slice none 0 0, .bool false]) (by simp [results, Tryz.results43, go_sem]) rfl (.inr ⟨HS.out, rfl, hbw1⟩)
                  · have e9 : (h9 == h2) = false := by simpa using he
                    have HE := Lib.hid he; clear he
                    go_wp2_with fail
                    go_roundw
                    case rel => exact ⟨m + 1, by omega, by go_num, row_still hrow hb1, hbw1, Lib.hid (by rw [take_snoc HSM.out]; have h1 := HNM.out; have h2 := HE.out; simp [h1]; exact fun e => h2 e.symm)⟩
                    case measure => simp [intOf]; omega
                · obtain rfl : m = j := by omega
                  have hnot : h2 ∉ seen := by have := HNM.out; rwa [List.take_of_length_le (by omega)] at this
                  have p1 : pt1 seen below (.node 4 h2 ys) = true := by
                    have h1 := HH.out
                    have h3 := HH9.out
                    have hy := HL3.out
                    have q0 : decide (0 ≤ h2) = true := by simp; omega
                    have q9 : decide (h2 < below) = true := by simp; omega
                    have qn : seen.contains h2 = false := by simpa using hnot
                    simp only [pt1, hy, q0, q9, qn]
                    rfl
                  have hp2 := HPP.out
                  rw [ptn_step p1] at hp2
                  have HP2 := Lib.hid hp2; clear hp2
                  clear p1 hnot
                  have c1 := (hbw.cell (cell_lt HC1.out)).trans HC1.out
                  have hgl : (seen.length + 1) * 8 ≤ 140737488355328 := by omega
                  have hgm : seen.length + 1 ≤ maxLen := by unfold maxLen; omega
                  have HSL := Lib.hid hsl
                  go_wp2_with (first
                    | (at_builtin; refine wpList_append_own _ rfl _ _ 25 rfl w.heap.size 3 i0 (.int .i64 0) 1 8 Tryz.underlying25 hi hz0 hz1 hz2 rfl (by decide) _ _ _ rfl (hrow.alloc _) ⟨wr.heap.size, 0, none⟩ 1 1 [.int .i64 h2] rfl rfl (cell_one_new _ _ _) (ints_oneCell .i64 [h2]) hgm hgl (by simp; omega) ?_; intro v' w4 hown' hg4 hnil4; go_frame)
                    | go_in)
                  exact ⟨⟨m + 1, seen ++ [h2], by omega, by go_num, by simpa using hown', by simp; omega, ad_below hbw hg4 hrow, HP2, Lib.hid (by rw [take_snoc HT.out, List.map_append, ← HSE.out]; rfl)⟩, by simp [intOf]; omega⟩
        · have d1 : ((n2 : Int) == 0) = false := by rw [beq_eq_false_iff_ne]; omega
          have hs : none = ptn below [] xs := STOP.out (by have hy := HL3.out; simp [pt1]; intro h; exact absurd (by rw [← hy, h]; rfl) hz)
          have HS := Lib.hid hs.symm; clear hs
          go_wp2_with fail
          refine bodyPost_ret (v := .tuple #[.slice none 0 0, .bool false]) (by simp [results, Tryz.results43, go_sem]) rfl (.inr ⟨HS.out, rfl, hbw⟩)
      · have e4 : (k2 == 4) = false := by simpa using k4
        have hs : none = ptn below [] xs := STOP.out (by simp [pt1, k4])
        have HS := Lib.hid hs.symm; clear hs
        have HH := Lib.hid k4; clear k4
        go_wp2_with fail
        refine bodyPost_ret (v := .tuple #[.slice none 0 0, .bool false]) (by simp [results, Tryz.results43, go_sem]) rfl (.inr ⟨HS.out, rfl, hbw⟩)
    · have HP' := HP.out
      rw [drop_all HN.out (by omega), ptn] at HP'
      have HP := Lib.hid HP'.symm; clear HP'
      go_wp2_with fail
      refine bodyPost_ret (v := .tuple #[u6, .bool true]) (by simp [results, Tryz.results43, go_sem]) rfl (.inl ⟨seen, _, HP.out, rfl, Ns.of_row hrow, hbw⟩)
end Go.Proofs.YtnnmnkgogiabiaaGreat
