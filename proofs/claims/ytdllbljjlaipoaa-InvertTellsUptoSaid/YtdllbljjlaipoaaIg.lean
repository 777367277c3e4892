/-
  Contracts of the document's own goes and invert. No statement is proved here.
-/
import Derived.Test.YtdllbljjlaipoaaIa
import Derived.Test.YtdllbljjlaipoaaRr
namespace Go.Proofs.Ytdllbljjlaipoaa
open Go.ChangeShapes Go.WideShapes Go.ChangeAt Go.RowKit
set_option linter.unusedVariables false

/-- what the document's goes tells -/
def rgV (vs : List Int) (n x : Int) : Int := if n ≤ x then wrap64 (wrap64 (x - n) + vs.length) else (pls x vs).getD (-1)
def rgo (vs : List Int) (n x : Int) : Option Int := if rgV vs n x < 0 then none else some (rgV vs n x)
theorem rgo_eq {vs : List Int} {n x : Int} (h0 : 0 ≤ x) (hx : x ≤ 1125899906842624) (hn : 0 ≤ n ∧ n ≤ 1000) (hl : (vs.length : Int) ≤ 1099511627776) : rgo vs n x = igo vs n x := by
  unfold rgo rgV igo
  by_cases h : n ≤ x
  · rw [if_pos h, if_pos h, wrap_small (x := x - n) (by omega) (by omega), wrap_small (by omega) (by omega), if_neg (by omega)]
  · rw [if_neg h, if_neg h]
    cases hp : pls x vs with
    | none => rfl
    | some p =>
      have := pls_lt hp
      rw [Option.getD_some, if_neg (by omega)]
theorem pls_drop {x : Int} : ∀ {l : List Int} {j : Nat} {v : Int}, l[j]? = some v → (∀ i u, i < j → l[i]? = some u → u ≠ x) → pls x l = pls x (l.drop j)
  | l, 0, v, _, _ => by rw [List.drop_zero]
  | y :: ys, j + 1, v, h, hn => by
    rw [List.getElem?_cons_succ] at h
    rw [List.drop_succ_cons, pls, if_neg (hn 0 y (by omega) rfl)]
    exact pls_drop h fun i u hi hu => hn (i + 1) u (by omega) (by simpa using hu)
theorem rnL_none {tf : Int → Option Int} {k : Int} {n : Nat} {t : T} {ts : List T} {i : Nat} {f : Int} (h : rn tf t (wrap64 (f + bd k n i)) = none) : rnL tf k n (t :: ts) i f = none := by rw [rnL, h]; rfl
theorem rnL_some {tf : Int → Option Int} {k : Int} {n : Nat} {t u : T} {ts : List T} {i : Nat} {f : Int} (h : rn tf t (wrap64 (f + bd k n i)) = some u) : rnL tf k n (t :: ts) i f = (rnL tf k n ts (i + 1) f).map (u :: ·) := by rw [rnL, h]; rfl

set_option maxRecDepth 100000 in
set_option maxHeartbeats 4000000 in
theorem rgoesC (vs : List Int) (V0 : Option Addr) (nv c0v : Nat) (x i : Int) (w : World) (hnv : vs.length = nv) (hnc : nv ≤ c0v) (hnm : c0v ≤ maxLen) (hx : ∀ i z, vs[i]? = some z → ∃ b o, V0 = some ⟨b, o, none⟩ ∧ w.cell? ⟨b, o + i, none⟩ = some (.int .i64 z)) :
    Calls Try.prog 49 #[.int .i64 i, .slice V0 nv c0v, .int .i64 x] w fun e w' => e = .returned (.int .i64 (rgV vs x i)) ∧ Below w.heap.size w w' := by
  have HX := Lib.hid hx; clear hx
  have HN := Lib.hid hnv; clear hnv
  unfold maxLen at hnm
  by_cases hle : x ≤ i
  · have d1 : decide (x ≤ i) = true := by simpa using hle
    have e : rgV vs x i = wrap64 (wrap64 (i - x) + nv) := by rw [rgV, if_pos hle, HN.out]
    rw [e]
    clear hle
    go_enter Try.func49, Try.ntmps49
    go_wp2_with fail
    go_ret
    exact ⟨rfl, Below.refl _ _⟩
  · have d1 : decide (x ≤ i) = false := by simpa using hle
    have e : rgV vs x i = (pls i vs).getD (-1) := by rw [rgV, if_neg hle]
    rw [e]
    clear hle e
    go_enter Try.func49, Try.ntmps49
    go_wp2_with fail
    go_loopw [7] (fun q wr => ∃ (j : Nat), j ≤ nv ∧ q = .int .i64 j ∧ wr = w ∧ Hid (∀ m u, m < j → vs[m]? = some u → u ≠ i)) (fun q _ => nv - (Go.RowKit.intOf q).toNat)
    case atStart => exact ⟨0, Nat.zero_le _, rfl, rfl, Lib.hid (fun m u h => by omega)⟩
    case round =>
      obtain ⟨j, hj, rfl, rfl, HP⟩ := hrel
      by_cases hlt : j < nv
      · have hi0 : (0 : Int) ≤ j := by omega
        have hi1 : (j : Int) < nv := by omega
        obtain ⟨v, hv⟩ := at_of HN.out hlt
        obtain ⟨b, o, rfl, hc0⟩ := HX.out j v hv
        have HV := Lib.hid hv; clear hv
        have hw1 : IntKind.i64.wrap ((nv : Int) - 1) = (nv : Int) - 1 := by rw [wrapEq]; exact wrap_small (by omega) (by omega)
        have hw2 : IntKind.i64.wrap ((nv : Int) - 1 - j) = (nv : Int) - 1 - j := by rw [wrapEq]; exact wrap_small (by omega) (by omega)
        by_cases hvi : v = i
        · have e1 : (v == i) = true := by simpa using hvi
          have HVI := Lib.hid hvi; clear hvi
          go_wp2_with fail
          go_ret
          refine ⟨?_, Below.refl _ _⟩
          have h := pls_drop HV.out HP.out
          rw [← HVI.out]
          rw [← HVI.out] at h
          rw [h, drop_at HV.out, pls, if_pos rfl, Option.getD_some, List.length_drop, HN.out]
          refine congrArg (fun z => Ending.returned (Value.int .i64 z)) ?_
          omega
        · have e1 : (v == i) = false := by simpa using hvi
          have HVI := Lib.hid hvi; clear hvi
          go_wp2_with fail
          go_roundw
          case rel => exact ⟨j + 1, by omega, by go_num, by first | rfl | trivial, Lib.hid (fun m u hm hu => by
            by_cases hmj : m < j
            · exact HP.out m u hmj hu
            · have : m = j := by omega
              subst this
              have e := HV.out.symm.trans hu
              cases e
              exact HVI.out)⟩
          case measure => simp [Go.RowKit.intOf]; omega
      · obtain rfl : j = nv := by omega
        have hn : pls i vs = none := pls_none.2 fun hm => by
          obtain ⟨m, hm⟩ := List.getElem?_of_mem hm
          exact HP.out m i (by have := (List.getElem?_eq_some_iff.1 hm).1; have := HN.out; omega) hm rfl
        have HNO := Lib.hid hn; clear hn
        go_wp2_with fail
        go_ret
        exact ⟨by rw [HNO.out]; rfl, Below.refl _ _⟩

set_option maxRecDepth 100000 in
set_option maxHeartbeats 16000000 in
theorem rinvertC (vs : List Int) (V0 : Option Addr) (nv c0v : Nat) (x : Int) (hnv : vs.length = nv) (hnc : nv ≤ c0v) (hnm : c0v ≤ maxLen) (t : T) : ∀ (f : Int) (v : Value) (w : World), (∀ i z, vs[i]? = some z → ∃ b o, V0 = some ⟨b, o, none⟩ ∧ w.cell? ⟨b, o + i, none⟩ = some (.int .i64 z)) → Rd w t v → nd t ≤ 1048576 → Calls Try.prog 32 #[v, .slice V0 nv c0v, .int .i64 x, .int .i64 f] w (DEnd (rn (rgo vs x) t f) w) := by
  have HNV := Lib.hid hnv; clear hnv
  have HNC := Lib.hid hnc; clear hnc
  have HNM := Lib.hid hnm; clear hnm
  induction t using T.ind with
  | step k h xs ih =>
    intro f v w hnum hv hnd
    have HNUM := Lib.hid hnum; clear hnum
    obtain ⟨A, n, c, rfl, hk, hh, hn, hc, hm, hx⟩ := Rd_node.1 hv
    clear hv
    have HMM := Lib.hid hm
    unfold maxLen at hm
    have hnd' : n ≤ 1048576 ∧ ∀ t ∈ xs, nd t ≤ 1048576 := by
      rw [nd] at hnd
      have := (wdL_nd xs).2
      exact ⟨by omega, fun t ht => by have := nd_mem ht; omega⟩
    obtain ⟨hn20, hnds⟩ := hnd'
    clear hnd
    have HND := Lib.hid hnds; clear hnds
    have HN := Lib.hid hn; clear hn
    have HX := Lib.hid hx; clear hx
    have IH := Lib.hid ih; clear ih
    by_cases hvar : k = 4 ∧ f ≤ h
    · obtain ⟨hk4, hf⟩ := hvar
      have hD : rn (rgo vs x) (.node k h xs) f = ((rgo vs x (wrap64 (h - f))).map (fun y => wrap64 (y + f))).bind fun h' => (rnL (rgo vs x) k xs.length xs 0 f).map (.node k h') := by rw [rn, rnH, if_pos ⟨hk4, hf⟩]
      have HU0 := Lib.hid hD; clear hD
      generalize rn (rgo vs x) (.node k h xs) f = D at *
      have e1 : (k == 4) = true := by simpa using hk4
      have d1 : decide (f ≤ h) = true := by simpa using hf
      have hsub : IntKind.i64.wrap (h - f) = wrap64 (h - f) := wrapEq _
      have HK4 := Lib.hid hk4
      clear hk4 hf
      obtain ⟨W, hW⟩ : ∃ W, ((w.alloc (.cells #[.int .i64 k, .int .i64 h, .slice A n c] 24)).alloc (.cells #[.int .i64 0, .int .i64 0, .slice none 0 0] 24)).alloc (.cells #[.int .i64 k, .int .i64 h, .slice none 0 0] 24) = W := ⟨_, rfl⟩
      have hb : Below w.heap.size w W := by rw [← hW]; exact (((Below.refl _ _).alloc (Nat.le_refl _) _).alloc (by simp) _).alloc (by simp; omega) _
      have x1 : Box W w.heap.size 24 #[.int .i64 k, .int .i64 h, .slice A n c] := by rw [← hW]; exact ((Box.new _ _ _).alloc _).alloc _
      have x2 : Box W (w.heap.size + 1) 24 #[.int .i64 0, .int .i64 0, .slice none 0 0] := by rw [← hW]; exact ((Box.new (w.alloc _) _ _).at (by simp)).alloc _
      have x3 : Box W (w.heap.size + 1 + 1) 24 #[.int .i64 k, .int .i64 h, .slice none 0 0] := by rw [← hW]; exact (Box.new ((w.alloc _).alloc _) _ _).at (by simp)
      have HWW := Lib.hid hW; clear hW
      have HG := Lib.hid (rgoesC vs V0 nv c0v x (wrap64 (h - f)) W HNV.out HNC.out HNM.out (fun i z hz => by obtain ⟨b, o, e, h⟩ := HNUM.out i z hz; exact ⟨b, o, e, (hb.cell (cell_lt h)).trans h⟩))
      have HRG : Hid (rgo vs x (wrap64 (h - f)) = if rgV vs x (wrap64 (h - f)) < 0 then none else some (rgV vs x (wrap64 (h - f)))) := Lib.hid rfl
      generalize rgV vs x (wrap64 (h - f)) = Y at *
      generalize rgo vs x (wrap64 (h - f)) = O at *
      by_cases hy : Y < 0
      · have HU : Hid (D = none) := Lib.hid (by rw [HU0.out, HRG.out, if_pos hy]; rfl)
        have d2 : decide (Y < 0) = true := by simpa using hy
        clear hy HU0 HRG
        go_enter Try.func32, Try.ntmps32
        go_wp2_with fail
        rw [HWW.out]
        clear HWW
        refine HG.out.mono ?_
        rintro e w1 ⟨rfl, hb1⟩
        have z2 := x2.keep hb1 x2.lt
        replace hb := hb.trans (hb1.mono hb.size)
        clear hb1 x1 x2 x3
        obtain ⟨r0, r1, r2⟩ := z2.three
        have f0 := z2.frozen 0
        have f1 := z2.frozen 1
        have f2 := z2.frozen 2
        go_wp2_with fail
        refine bodyPost_ret (v := .tuple #[.agg #[.int .i64 0, .int .i64 0, .slice none 0 0], .bool false]) (by simp [results, Try.results32, go_sem, r0, r1, r2]) rfl ?_
        exact ⟨0, 0, none, 0, 0, false, rfl, .inr ⟨HU.out, rfl, rfl⟩, below_set3 hb (by omega) _ _ _⟩
      obtain ⟨h', hh0⟩ : ∃ h', h' = wrap64 (Y + f) := ⟨_, rfl⟩
      have HU : Hid (D = (rnL (rgo vs x) k xs.length xs 0 f).map (.node k h')) := Lib.hid (by rw [HU0.out, HRG.out, if_neg hy, hh0]; rfl)
      have hsum : IntKind.i64.wrap (Y + f) = h' := by rw [hh0]; exact wrapEq _
      have hwf2 : (Lit.int .i64 h').wf = true := by rw [hh0]; exact wf_wrap64 _
      have d2 : decide (Y < 0) = false := by simpa using hy
      clear hy HU0 HRG hh0
      go_enter Try.func32, Try.ntmps32
      go_wp2_with fail
      rw [HWW.out]
      clear HWW
      refine HG.out.mono ?_
      rintro e w1 ⟨rfl, hb1⟩
      replace x1 := x1.keep hb1 x1.lt
      replace x2 := x2.keep hb1 x2.lt
      replace x3 := x3.keep hb1 x3.lt
      replace hb := hb.trans (hb1.mono hb.size)
      clear hb1 HG
      obtain ⟨c0, c1, c2⟩ := x1.three
      obtain ⟨o0, o1, o2⟩ := x3.three
      have fo1 := x3.frozen 1
      have lo := x3.lt
      go_wp2_with fail
      obtain ⟨W2, hW2⟩ : ∃ W2, w1.setCell ⟨w.heap.size + 1 + 1, 1, none⟩ (.int .i64 h') = W2 := ⟨_, rfl⟩
      rw [hW2]
      replace x1 : Box W2 w.heap.size 24 #[.int .i64 k, .int .i64 h, .slice A n c] := by rw [← hW2]; exact x1.other (by dsimp only; omega) _
      replace x2 : Box W2 (w.heap.size + 1) 24 #[.int .i64 0, .int .i64 0, .slice none 0 0] := by rw [← hW2]; exact x2.other (by dsimp only; omega) _
      replace x3 : Box W2 (w.heap.size + 1 + 1) 24 #[.int .i64 k, .int .i64 h', .slice none 0 0] := by rw [← hW2]; simpa using x3.setAt 1 (.int .i64 h')
      replace hb : Below w.heap.size w W2 := by rw [← hW2]; exact hb.setCell (by dsimp only; omega) _
      clear hW2 c0 c1 c2 o0 o1 o2 fo1 lo e1 d1 d2 hsub hsum HK4
      go_loopw [12] (fun i wr => ∃ (j : Nat) (Av : Option Addr) (cv : Nat) (cs : List Value) (ys : List T), j ≤ n ∧ i = .int .i64 j ∧ Box wr w.heap.size 24 #[.int .i64 k, .int .i64 h, .slice A n c] ∧
        Box wr (w.heap.size + 1) 24 #[.int .i64 0, .int .i64 0, .slice none 0 0] ∧ Box wr (w.heap.size + 1 + 1) 24 #[.int .i64 k, .int .i64 h', .slice Av j cv] ∧
        Hid (wr.ownsRow (w.heap.size + 1 + 1 + 1) 24 3 (.slice Av j cv) j cs) ∧ Hid (ys.length = j ∧ rnL (rgo vs x) k xs.length xs 0 f = (rnL (rgo vs x) k xs.length (xs.drop j) j f).map (ys ++ ·)) ∧
        Hid (KidL wr (fun g => w.heap.size + 1 + 1 + 1 ≤ g ∧ g < wr.heap.size ∧ some g ≠ Value.ownBlock (.slice Av j cv)) cs ys) ∧ Below w.heap.size w wr) (fun i _ => n - (Go.RowKit.intOf i).toNat)
      case atStart => exact ⟨0, none, 0, [], [], Nat.zero_le _, rfl, x1, x2, x3, Lib.hid (World.ownsRow_nil _ _ _ _), Lib.hid ⟨rfl, by simp⟩, Lib.hid (fun i t ht => by simp at ht), hb⟩
      case round =>
        obtain ⟨j, Av, cv, cs, ys, hj, rfl, y1, y2, y3, HOW, HP, HK, hbr⟩ := hrel
        clear x1 x2 x3 hb
        obtain ⟨a0, a1, a2⟩ := y1.three
        by_cases hlt : j < n
        · obtain ⟨t, ht⟩ := at_of HN.out hlt
          obtain ⟨bA, oA, k2, h2, A2, n2, c2', rfl, c0, c1, c2, hr⟩ := (RdAt.keep hbr (HX.out j t ht)).full
          have HT := Lib.hid ht; clear ht
          have HR := Lib.hid hr; clear hr
          have hi0 : (0 : Int) ≤ j := by omega
          have hi1 : (j : Int) < n := by omega
          have l3 := y3.lt
          go_wp2_with fail
          have HKS : Hid (∀ w' : World, Below wr.heap.size wr w' → SDn w.heap.size k h bA oA n c j k2 h2 A2 n2 c2' w') := Lib.hid fun w' hw' => by
            have s1 := y1.keep hw' y1.lt
            exact ⟨s1.three.1, s1.three.2.1, s1.three.2.2, (hw'.cell (cell_lt c0)).trans c0, (hw'.cell (cell_lt c1)).trans c1, (hw'.cell (cell_lt c2)).trans c2⟩
          have hsum : IntKind.i64.wrap (f + bd k n j) = wrap64 (f + bd k n j) := wrapEq _
          have HBI : Hid (∀ W', Calls Try.prog 50 #[.agg #[.int .i64 k, .int .i64 h, .slice (some ⟨bA, oA, none⟩) n c], .int .i64 j] W' fun e w' => e = .returned (.int .i64 (bd k n j)) ∧ Below W'.heap.size W' w') := Lib.hid fun W' => refBinds k h _ n c hc HMM.out j (by unfold maxLen; omega) W'
          have HDC : Hid (∀ W', Below wr.heap.size wr W' → Calls Try.prog 32 #[.agg #[.int .i64 k2, .int .i64 h2, .slice A2 n2 c2'], .slice V0 nv c0v, .int .i64 x, .int .i64 (wrap64 (f + bd k n j))] W' (DEnd (rn (rgo vs x) t (wrap64 (f + bd k n j))) W')) := Lib.hid fun W' hW' => IH.out t (List.mem_of_getElem? HT.out) _ _ W' (fun i z hz => by obtain ⟨b, o, e, h⟩ := HNUM.out i z hz; exact ⟨b, o, e, ((hbr.trans (hW'.mono hbr.size)).cell (cell_lt h)).trans h⟩) (Rd.keep hW' _ _ HR.out) (HND.out t (List.mem_of_getElem? HT.out))
          have hcur : Below wr.heap.size wr wr.drew := (Below.refl _ wr).drew
          clear a0 a1 a2 c0 c1 c2
          go_region_held3 (fun w' => w'.cell? ⟨w.heap.size, 0, none⟩ = some (.int .i64 k) ∧ w'.cell? ⟨w.heap.size, 1, none⟩ = some (.int .i64 h) ∧ w'.cell? ⟨w.heap.size, 2, none⟩ = some (.slice (some ⟨bA, oA, none⟩) n c) ∧ w'.cell? ⟨bA, oA + j * 3, none⟩ = some (.int .i64 k2) ∧ w'.cell? ⟨bA, oA + j * 3 + 1, none⟩ = some (.int .i64 h2) ∧ w'.cell? ⟨bA, oA + j * 3 + 2, none⟩ = some (.slice A2 n2 c2'))
            (first | exact HKS.out _ hcur | exact HKS.out _ (hcur.alloc hcur.size _) | exact HKS.out _ (below_set3 hcur hp _ _ _) | exact HKS.out _ (below_set3 (hcur.alloc hcur.size _) hcur.size _ _ _))
            (first
              | (go_at_call 50
                 with_reducible refine (HBI.out wr.drew).mono ?_
                 rintro e w1 ⟨rfl, hb1⟩
                 replace hcur := hcur.trans hb1
                 clear hb1)
              | (go_at_call 50
                 refine (HBI.out (wr.drew.alloc (.cells #[.int .i64 0, .int .i64 0, .slice none 0 0] 24))).mono ?_
                 rintro e w1 ⟨rfl, hb1⟩
                 have zP : Box w1 wr.heap.size 24 #[.int .i64 0, .int .i64 0, .slice none 0 0] := (Box.new wr.drew 24 #[.int .i64 0, .int .i64 0, .slice none 0 0]).keep hb1 (Box.new _ _ _).lt
                 have hp : wr.heap.size ≤ wr.heap.size := Nat.le_refl _
                 have hcur := (hcur.alloc hcur.size (.cells #[.int .i64 0, .int .i64 0, .slice none 0 0] 24)).trans (hb1.mono (hcur.alloc hcur.size _).size)
                 clear hb1)
              | (go_at_call 32
                 have zP2 := zP
                 refine (HDC.out w1 hcur).mono ?_
                 rintro e w2 ⟨k3, h3, A3, n3, c3, bo, rfl, hout, hb1⟩
                 have zP := zP.keep hb1 zP.lt
                 have hng : ∀ g, w1.heap.size ≤ g ∧ g < w2.heap.size → wr.heap.size ≤ g ∧ g < w2.heap.size ∧ g ≠ wr.heap.size := fun g hg => ⟨Nat.le_trans hcur.size hg.1, hg.2, fun e => by have := zP2.lt; omega⟩
                 have hcur := hcur.trans (hb1.mono hcur.size)
                 clear hb1 zP2
                 obtain ⟨p0, p1, p2⟩ := zP.three
                 have fp0 := zP.frozen 0
                 have fp1 := zP.frozen 1
                 have fp2 := zP.frozen 2)
              | (go_at_call 32
                 refine (HDC.out w1 hcur).mono ?_
                 rintro e w2 ⟨k3, h3, A3, n3, c3, bo, rfl, hout, hb1⟩
                 have hng : ∀ g, w1.heap.size ≤ g ∧ g < w2.heap.size → wr.heap.size ≤ g ∧ g < w2.heap.size ∧ g ≠ w2.heap.size := fun g hg => ⟨Nat.le_trans hcur.size hg.1, hg.2, by omega⟩
                 have hcur := hcur.trans (hb1.mono hcur.size)
                 clear hb1)
              | (go_at_call 32
                 refine (HDC.out (w1.alloc (.cells #[.int .i64 0, .int .i64 0, .slice none 0 0] 24)) (hcur.alloc hcur.size _)).mono ?_
                 rintro e w2 ⟨k3, h3, A3, n3, c3, bo, rfl, hout, hb1⟩
                 have zP := (Box.new w1 24 #[.int .i64 0, .int .i64 0, .slice none 0 0]).keep hb1 (Box.new _ _ _).lt
                 have hp : wr.heap.size ≤ w1.heap.size := hcur.size
                 have hng : ∀ g, (w1.alloc (.cells #[.int .i64 0, .int .i64 0, .slice none 0 0] 24)).heap.size ≤ g ∧ g < w2.heap.size → wr.heap.size ≤ g ∧ g < w2.heap.size ∧ g ≠ w1.heap.size := fun g hg => by
                   have h1 := hg.1
                   simp at h1
                   exact ⟨by omega, hg.2, by omega⟩
                 have hcur := (hcur.alloc hcur.size (.cells #[.int .i64 0, .int .i64 0, .slice none 0 0] 24)).trans (hb1.mono (hcur.alloc hcur.size _).size)
                 clear hb1
                 obtain ⟨p0, p1, p2⟩ := zP.three
                 have fp0 := zP.frozen 0
                 have fp1 := zP.frozen 1
                 have fp2 := zP.frozen 2))
          obtain ⟨Wf, hWf⟩ : ∃ Wf, w2.alloc (.cells #[.int .i64 k3, .int .i64 h3, .slice A3 n3 c3] 24) = Wf := ⟨_, rfl⟩
          obtain ⟨p, hpe⟩ : ∃ p, p = w2.heap.size := ⟨_, rfl⟩
          have xP : Box Wf p 24 #[.int .i64 k3, .int .i64 h3, .slice A3 n3 c3] := by rw [hpe, ← hWf]; exact Box.new _ _ _
          have hbF : Below wr.heap.size wr Wf := by rw [← hWf]; exact hcur.alloc hcur.size _
          have hoF : DOut (rn (rgo vs x) t (wrap64 (f + bd k n j))) (fun g => wr.heap.size ≤ g ∧ g < Wf.heap.size ∧ g ≠ p) Wf (.agg #[.int .i64 k3, .int .i64 h3, .slice A3 n3 c3]) bo := by
            rw [hpe, ← hWf]; exact hout.move (fun g hg => by have := hng g hg; exact ⟨this.1, by simp; omega, this.2.2⟩) (fun g hg hg' => Below.heap_alloc _ _ _ hg')
          have hpl : wr.heap.size ≤ p := by rw [hpe]; exact hcur.size
          rw [hWf, ← hpe]
          clear hWf hpe hout hng hcur
          rotate_left 1
          obtain ⟨Wf, hWf⟩ : ∃ Wf, ((w2.setCell ⟨w1.heap.size, 0, none⟩ (.int .i64 k3)).setCell ⟨w1.heap.size, 1, none⟩ (.int .i64 h3)).setCell ⟨w1.heap.size, 2, none⟩ (.slice A3 n3 c3) = Wf := ⟨_, rfl⟩
          obtain ⟨p, hpe⟩ : ∃ p, p = w1.heap.size := ⟨_, rfl⟩
          have xP : Box Wf p 24 #[.int .i64 k3, .int .i64 h3, .slice A3 n3 c3] := by rw [hpe, ← hWf]; exact zP.set3 _ _ _
          have hbF : Below wr.heap.size wr Wf := by rw [← hWf]; exact below_set3 hcur hp _ _ _
          have hoF : DOut (rn (rgo vs x) t (wrap64 (f + bd k n j))) (fun g => wr.heap.size ≤ g ∧ g < Wf.heap.size ∧ g ≠ p) Wf (.agg #[.int .i64 k3, .int .i64 h3, .slice A3 n3 c3]) bo := by
            rw [hpe, ← hWf]; exact hout.move (fun g hg => by have := hng g hg; exact ⟨this.1, by simp; exact this.2.1, this.2.2⟩) (fun g hg hg' => heap_other3 _ _ _ _ _ _ (hng g hg).2.2)
          have hpl : wr.heap.size ≤ p := by rw [hpe]; exact hp
          rw [hWf, ← hpe]
          clear hWf hpe hout hng hcur p0 p1 p2 fp0 fp1 fp2 zP hp
          rotate_left 1
          obtain ⟨Wf, hWf⟩ : ∃ Wf, ((w2.setCell ⟨wr.heap.size, 0, none⟩ (.int .i64 k3)).setCell ⟨wr.heap.size, 1, none⟩ (.int .i64 h3)).setCell ⟨wr.heap.size, 2, none⟩ (.slice A3 n3 c3) = Wf := ⟨_, rfl⟩
          obtain ⟨p, hpe⟩ : ∃ p, p = wr.heap.size := ⟨_, rfl⟩
          have xP : Box Wf p 24 #[.int .i64 k3, .int .i64 h3, .slice A3 n3 c3] := by rw [hpe, ← hWf]; exact zP.set3 _ _ _
          have hbF : Below wr.heap.size wr Wf := by rw [← hWf]; exact below_set3 hcur hp _ _ _
          have hoF : DOut (rn (rgo vs x) t (wrap64 (f + bd k n j))) (fun g => wr.heap.size ≤ g ∧ g < Wf.heap.size ∧ g ≠ p) Wf (.agg #[.int .i64 k3, .int .i64 h3, .slice A3 n3 c3]) bo := by
            rw [hpe, ← hWf]; exact hout.move (fun g hg => by have := hng g hg; exact ⟨this.1, by simp; exact this.2.1, this.2.2⟩) (fun g hg hg' => heap_other3 _ _ _ _ _ _ (hng g hg).2.2)
          have hpl : wr.heap.size ≤ p := by rw [hpe]; exact hp
          rw [hWf, ← hpe]
          clear hWf hpe hout hng hcur p0 p1 p2 fp0 fp1 fp2 zP hp
          rotate_left 1
          all_goals
            have z1 := y1.keep hbF y1.lt
            have z2 := y2.keep hbF y2.lt
            have z3 := y3.keep hbF y3.lt
            have sF := hbF.size
            have lp := xP.lt
            have HOF := Lib.hid hoF; clear hoF
            clear HKS HBI HDC
            cases bo
            · have hnone : rn (rgo vs x) t (wrap64 (f + bd k n j)) = none := by
                rcases HOF.out with ⟨_, _, h, _⟩ | ⟨h, _, _⟩
                · cases h
                · exact h
              have HNO := Lib.hid hnone; clear hnone HOF
              obtain ⟨d0, d1, d2⟩ := z2.three
              have f0 := z2.frozen 0
              have f1 := z2.frozen 1
              have f2 := z2.frozen 2
              go_wp2_with fail
              refine bodyPost_ret (v := .tuple #[.agg #[.int .i64 0, .int .i64 0, .slice none 0 0], .bool false]) (by simp [results, Try.results32, go_sem, d0, d1, d2]) rfl ?_
              refine ⟨0, 0, none, 0, 0, false, rfl, .inr ⟨?_, rfl, rfl⟩, below_set3 (hbr.trans (hbF.mono hbr.size)) (by omega) _ _ _⟩
              rw [HU.out, HP.out.2, drop_at HT.out, HN.out, rnL_none HNO.out]
              rfl
            · obtain ⟨t', ht', hrf⟩ : ∃ t', rn (rgo vs x) t (wrap64 (f + bd k n j)) = some t' ∧ RdF (fun g => wr.heap.size ≤ g ∧ g < Wf.heap.size ∧ g ≠ p) Wf t' (.agg #[.int .i64 k3, .int .i64 h3, .slice A3 n3 c3]) := by
                rcases HOF.out with ⟨t', h1, _, h3⟩ | ⟨_, h, _⟩
                · exact ⟨t', h1, h3⟩
                · cases h
              have HT' := Lib.hid ht'; clear ht' HOF
              have HRF := Lib.hid hrf; clear hrf
              obtain ⟨q0, q1, q2⟩ := z3.three
              obtain ⟨x0, x1, x2⟩ := xP.three
              have l3' := z3.lt
              have hbD : Below wr.heap.size wr (Wf.alloc (.cells #[.int .i64 k3, .int .i64 h3, .slice A3 n3 c3] 24)) := hbF.alloc hbF.size _
              obtain ⟨i0, hi, hz0, hz1, hz2⟩ := info_parts infoTerm
              have HI := Lib.hid hi; clear hi
              have HZ0 := Lib.hid hz0; clear hz0
              go_wp2_with (
                at_builtin
                refine wpList_append_lies (Wf.alloc (.cells #[.int .i64 k3, .int .i64 h3, .slice A3 n3 c3] 24)) rfl (.tmp 70) (.tmp 72) 22 rfl (w.heap.size + 1 + 1 + 1) 24 i0 _ 3 40 Try.underlying22 HI.out HZ0.out hz1 hz2 rfl (by omega) (.slice Av j cv) j cs rfl (HOW.out.kept (grown_of_below hbD) (own_none _)) ⟨Wf.heap.size, 0, none⟩ 1 1 [.int .i64 k3, .int .i64 h3, .slice A3 n3 c3] rfl rfl (World.news_of_block (heap_alloc_new Wf _)) (by intro u hu; simp at hu; rcases hu with rfl | rfl | rfl <;> rfl) (by omega) (by unfold maxLen; omega) (by omega) (by simp; omega) _ rfl ?_
                intro g cap w4 how4 hgr hg4 hlt4
                have hw4 : ∀ g', g' < wr.heap.size → some g' ≠ Value.ownBlock (.slice Av j cv) → w4.heap[g']? = wr.heap[g']? := fun g' hg' hne => (hgr.block g' (Nat.lt_of_lt_of_le hg' hbD.size) hne).trans (hbD.block g' hg')
                have nb : ∀ g, g < w.heap.size + 1 + 1 + 1 → some g ≠ Value.ownBlock (.slice Av j cv) := fun g hg e => by
                  have := HOW.out.lt g e.symm
                  omega
                have u1 : Box w4 w.heap.size _ _ := (hw4 _ y1.lt (nb _ (by omega))).trans y1
                have u2 : Box w4 (w.heap.size + 1) _ _ := (hw4 _ y2.lt (nb _ (by omega))).trans y2
                have u3 : Box w4 (w.heap.size + 1 + 1) _ _ := (hw4 _ y3.lt (nb _ (by omega))).trans y3
                have s4 : Wf.heap.size + 1 ≤ w4.heap.size := by have := hgr.size; simpa using this
                have hgo : ∀ g', g' < Wf.heap.size → some g' ≠ Value.ownBlock (.slice Av j cv) → w4.heap[g']? = Wf.heap[g']? := fun g' hg' hne => (hgr.block g' (by simp; omega) hne).trans (Below.heap_alloc _ _ _ hg')
                have hg5 : ∀ g', g' < Wf.heap.size → some g' ≠ Value.ownBlock (.slice Av j cv) → g' ≠ g := fun g' hg' hne e => by
                  rcases hg4 with h4 | h4
                  · rw [h4] at hne; exact hne (by rw [e])
                  · have h5 : g = Wf.heap.size + 1 := by simpa using h4
                    omega
                have hob : ∀ g', wr.heap.size ≤ g' → some g' ≠ Value.ownBlock (.slice Av j cv) := fun g' hg' e => by
                  have := HOW.out.lt g' e.symm
                  omega
                have hg6 : w.heap.size + 1 + 1 + 1 ≤ g := by
                  rcases hg4 with h4 | h4
                  · exact (HOW.out.lt g h4).1
                  · have h5 : g = Wf.heap.size + 1 := by simpa using h4
                    omega
                have hb4 : Below w.heap.size w w4 := below_grown (hbr.trans (hbD.mono hbr.size)) hgr (fun r hr => by have := HOW.out.lt r hr; omega) (by simp; omega)
                have HH4 := Lib.hid how4; clear how4
                have HGO := Lib.hid hgo; clear hgo hw4 hgr hg4
                obtain ⟨v0, v1, v2⟩ := u3.three
                have fv := u3.frozen 2)
              go_roundw
              case rel =>
                have hset : ∀ g', g' ≠ w.heap.size + 1 + 1 → (w4.setCell ⟨w.heap.size + 1 + 1, 2, none⟩ (.slice (some ⟨g, 0, none⟩) (j + 1) cap)).heap[g']? = w4.heap[g']? := fun g' hne => Below.heap_setCell _ _ _ _ hne
                refine ⟨j + 1, some ⟨g, 0, none⟩, cap, _, ys ++ [t'], by omega, by go_num, u1.other (by dsimp only; omega) _, u2.other (by dsimp only; omega) _, by simpa using u3.setAt 2 (.slice (some ⟨g, 0, none⟩) (j + 1) cap), Lib.hid (HH4.out.kept (grown_set w4 ⟨w.heap.size + 1 + 1, 2, none⟩ _) (.inr (by simp [Value.ownBlock]; omega))), Lib.hid ⟨by simp [HP.out.1], ?_⟩, Lib.hid ?_, ?_⟩
                · rw [HP.out.2, drop_at HT.out, HN.out, rnL_some HT'.out, Option.map_map]
                  congr 1
                  funext l
                  simp
                · refine KidL.snoc (KidL.move HK.out (fun g' hg' => ?_) (fun g' hg' hg'' => ?_)) (by rw [HOW.out.1, HP.out.1]) (RdF.move (fun g' hg' => ?_) (fun g' hg' hg'' => ?_) _ _ HRF.out)
                  · exact ⟨hg'.1, by simp; omega, fun e => hg5 g' (by omega) hg'.2.2 (by simpa [Value.ownBlock] using e)⟩
                  · rw [hset g' (by omega), HGO.out g' (by omega) hg'.2.2]; exact hbF.block g' hg''
                  · exact ⟨by omega, by simp; omega, fun e => hg5 g' hg'.2.1 (hob g' hg'.1) (by simpa [Value.ownBlock] using e)⟩
                  · rw [hset g' (by omega), HGO.out g' hg'.2.1 (hob g' hg'.1)]
                · exact hb4.setCell (by dsimp only; omega) _
              case measure => simp [Go.RowKit.intOf]; omega
        · obtain rfl : j = n := by omega
          have hys : D = some (.node k h' ys) := by rw [HU.out, HP.out.2, drop_all HN.out (Nat.le_refl _), rnL]; simp
          have HYS := Lib.hid hys; clear hys
          obtain ⟨d0, d1, d2⟩ := y2.three
          have f0 := y2.frozen 0
          have f1 := y2.frozen 1
          have f2 := y2.frozen 2
          obtain ⟨q0, q1, q2⟩ := y3.three
          have l3 := y3.lt
          go_wp2_with fail
          refine bodyPost_ret (v := .tuple #[.agg #[.int .i64 k, .int .i64 h', .slice Av j cv], .bool true]) (by simp [results, Try.results32, go_sem, d0, d1, d2]) rfl ?_
          refine ⟨_, _, _, _, _, true, rfl, .inl ⟨_, HYS.out, rfl, ?_⟩, below_set3 hbr (by omega) _ _ _⟩
          have hset := heap_other3 wr (w.heap.size + 1) (.int .i64 k) (.int .i64 h') (.slice Av j cv)
          refine rdF_row (HOW.out.kept (grown_set3 wr (w.heap.size + 1) (.int .i64 k) (.int .i64 h') (.slice Av j cv)) (.inr fun e => by have := HOW.out.lt _ e; omega)) (KidL.move HK.out (fun _ h => h) fun g hg _ => hset g (by omega)) HP.out.1 (fun g hg => ⟨by omega, by simpa using hg.2.1⟩) (fun g hg => ?_) hk hwf2
          have := HOW.out.lt g hg
          exact ⟨by omega, by simpa using this.2⟩
    · obtain ⟨h', hh', hwf⟩ : ∃ h', rn (rgo vs x) (.node k h xs) f = (rnL (rgo vs x) k xs.length xs 0 f).map (.node k h') ∧ h' = h := ⟨h, by rw [rn, rnH, if_neg hvar]; rfl, rfl⟩
      have HU := Lib.hid hh'; clear hh'
      have hwf2 : (Lit.int .i64 h').wf = true := by rw [hwf]; exact hh
      have HH0 := Lib.hid hwf; clear hwf
      generalize rn (rgo vs x) (.node k h xs) f = D at *
      obtain ⟨W, hW⟩ : ∃ W, ((w.alloc (.cells #[.int .i64 k, .int .i64 h, .slice A n c] 24)).alloc (.cells #[.int .i64 0, .int .i64 0, .slice none 0 0] 24)).alloc (.cells #[.int .i64 k, .int .i64 h, .slice none 0 0] 24) = W := ⟨_, rfl⟩
      have hb : Below w.heap.size w W := by rw [← hW]; exact (((Below.refl _ _).alloc (Nat.le_refl _) _).alloc (by simp) _).alloc (by simp; omega) _
      have x1 : Box W w.heap.size 24 #[.int .i64 k, .int .i64 h, .slice A n c] := by rw [← hW]; exact ((Box.new _ _ _).alloc _).alloc _
      have x2 : Box W (w.heap.size + 1) 24 #[.int .i64 0, .int .i64 0, .slice none 0 0] := by rw [← hW]; exact ((Box.new (w.alloc _) _ _).at (by simp)).alloc _
      have x3 : Box W (w.heap.size + 1 + 1) 24 #[.int .i64 k, .int .i64 h', .slice none 0 0] := by rw [HH0.out]; rw [← hW]; exact (Box.new ((w.alloc _).alloc _) _ _).at (by simp)
      have HWW := Lib.hid hW; clear hW
      have hcase : k ≠ 4 ∨ (k = 4 ∧ h < f) := by omega
      clear hvar HH0
      rcases hcase with hk4 | ⟨hk4, hf⟩
      · have e1 : (k == 4) = false := by simpa using hk4
        clear hk4
        go_enter Try.func32, Try.ntmps32
        go_wp2_with fail
        rw [HWW.out]
        clear HWW e1
        go_loopw [12] (fun i wr => ∃ (j : Nat) (Av : Option Addr) (cv : Nat) (cs : List Value) (ys : List T), j ≤ n ∧ i = .int .i64 j ∧ Box wr w.heap.size 24 #[.int .i64 k, .int .i64 h, .slice A n c] ∧
          Box wr (w.heap.size + 1) 24 #[.int .i64 0, .int .i64 0, .slice none 0 0] ∧ Box wr (w.heap.size + 1 + 1) 24 #[.int .i64 k, .int .i64 h', .slice Av j cv] ∧
          Hid (wr.ownsRow (w.heap.size + 1 + 1 + 1) 24 3 (.slice Av j cv) j cs) ∧ Hid (ys.length = j ∧ rnL (rgo vs x) k xs.length xs 0 f = (rnL (rgo vs x) k xs.length (xs.drop j) j f).map (ys ++ ·)) ∧
          Hid (KidL wr (fun g => w.heap.size + 1 + 1 + 1 ≤ g ∧ g < wr.heap.size ∧ some g ≠ Value.ownBlock (.slice Av j cv)) cs ys) ∧ Below w.heap.size w wr) (fun i _ => n - (Go.RowKit.intOf i).toNat)
        case atStart => exact ⟨0, none, 0, [], [], Nat.zero_le _, rfl, x1, x2, x3, Lib.hid (World.ownsRow_nil _ _ _ _), Lib.hid ⟨rfl, by simp⟩, Lib.hid (fun i t ht => by simp at ht), hb⟩
        case round =>
          obtain ⟨j, Av, cv, cs, ys, hj, rfl, y1, y2, y3, HOW, HP, HK, hbr⟩ := hrel
          clear x1 x2 x3 hb
          obtain ⟨a0, a1, a2⟩ := y1.three
          by_cases hlt : j < n
          · obtain ⟨t, ht⟩ := at_of HN.out hlt
            obtain ⟨bA, oA, k2, h2, A2, n2, c2', rfl, c0, c1, c2, hr⟩ := (RdAt.keep hbr (HX.out j t ht)).full
            have HT := Lib.hid ht; clear ht
            have HR := Lib.hid hr; clear hr
            have hi0 : (0 : Int) ≤ j := by omega
            have hi1 : (j : Int) < n := by omega
            have l3 := y3.lt
            go_wp2_with fail
            have HKS : Hid (∀ w' : World, Below wr.heap.size wr w' → SDn w.heap.size k h bA oA n c j k2 h2 A2 n2 c2' w') := Lib.hid fun w' hw' => by
              have s1 := y1.keep hw' y1.lt
              exact ⟨s1.three.1, s1.three.2.1, s1.three.2.2, (hw'.cell (cell_lt c0)).trans c0, (hw'.cell (cell_lt c1)).trans c1, (hw'.cell (cell_lt c2)).trans c2⟩
            have hsum : IntKind.i64.wrap (f + bd k n j) = wrap64 (f + bd k n j) := wrapEq _
            have HBI : Hid (∀ W', Calls Try.prog 50 #[.agg #[.int .i64 k, .int .i64 h, .slice (some ⟨bA, oA, none⟩) n c], .int .i64 j] W' fun e w' => e = .returned (.int .i64 (bd k n j)) ∧ Below W'.heap.size W' w') := Lib.hid fun W' => refBinds k h _ n c hc HMM.out j (by unfold maxLen; omega) W'
            have HDC : Hid (∀ W', Below wr.heap.size wr W' → Calls Try.prog 32 #[.agg #[.int .i64 k2, .int .i64 h2, .slice A2 n2 c2'], .slice V0 nv c0v, .int .i64 x, .int .i64 (wrap64 (f + bd k n j))] W' (DEnd (rn (rgo vs x) t (wrap64 (f + bd k n j))) W')) := Lib.hid fun W' hW' => IH.out t (List.mem_of_getElem? HT.out) _ _ W' (fun i z hz => by obtain ⟨b, o, e, h⟩ := HNUM.out i z hz; exact ⟨b, o, e, ((hbr.trans (hW'.mono hbr.size)).cell (cell_lt h)).trans h⟩) (Rd.keep hW' _ _ HR.out) (HND.out t (List.mem_of_getElem? HT.out))
            have hcur : Below wr.heap.size wr wr.drew := (Below.refl _ wr).drew
            clear a0 a1 a2 c0 c1 c2
            go_region_held3 (fun w' => w'.cell? ⟨w.heap.size, 0, none⟩ = some (.int .i64 k) ∧ w'.cell? ⟨w.heap.size, 1, none⟩ = some (.int .i64 h) ∧ w'.cell? ⟨w.heap.size, 2, none⟩ = some (.slice (some ⟨bA, oA, none⟩) n c) ∧ w'.cell? ⟨bA, oA + j * 3, none⟩ = some (.int .i64 k2) ∧ w'.cell? ⟨bA, oA + j * 3 + 1, none⟩ = some (.int .i64 h2) ∧ w'.cell? ⟨bA, oA + j * 3 + 2, none⟩ = some (.slice A2 n2 c2'))
              (first | exact HKS.out _ hcur | exact HKS.out _ (hcur.alloc hcur.size _) | exact HKS.out _ (below_set3 hcur hp _ _ _) | exact HKS.out _ (below_set3 (hcur.alloc hcur.size _) hcur.size _ _ _))
              (first
                | (go_at_call 50
                   with_reducible refine (HBI.out wr.drew).mono ?_
                   rintro e w1 ⟨rfl, hb1⟩
                   replace hcur := hcur.trans hb1
                   clear hb1)
                | (go_at_call 50
                   refine (HBI.out (wr.drew.alloc (.cells #[.int .i64 0, .int .i64 0, .slice none 0 0] 24))).mono ?_
                   rintro e w1 ⟨rfl, hb1⟩
                   have zP : Box w1 wr.heap.size 24 #[.int .i64 0, .int .i64 0, .slice none 0 0] := (Box.new wr.drew 24 #[.int .i64 0, .int .i64 0, .slice none 0 0]).keep hb1 (Box.new _ _ _).lt
                   have hp : wr.heap.size ≤ wr.heap.size := Nat.le_refl _
                   have hcur := (hcur.alloc hcur.size (.cells #[.int .i64 0, .int .i64 0, .slice none 0 0] 24)).trans (hb1.mono (hcur.alloc hcur.size _).size)
                   clear hb1)
                | (go_at_call 32
                   have zP2 := zP
                   refine (HDC.out w1 hcur).mono ?_
                   rintro e w2 ⟨k3, h3, A3, n3, c3, bo, rfl, hout, hb1⟩
                   have zP := zP.keep hb1 zP.lt
                   have hng : ∀ g, w1.heap.size ≤ g ∧ g < w2.heap.size → wr.heap.size ≤ g ∧ g < w2.heap.size ∧ g ≠ wr.heap.size := fun g hg => ⟨Nat.le_trans hcur.size hg.1, hg.2, fun e => by have := zP2.lt; omega⟩
                   have hcur := hcur.trans (hb1.mono hcur.size)
                   clear hb1 zP2
                   obtain ⟨p0, p1, p2⟩ := zP.three
                   have fp0 := zP.frozen 0
                   have fp1 := zP.frozen 1
                   have fp2 := zP.frozen 2)
                | (go_at_call 32
                   refine (HDC.out w1 hcur).mono ?_
                   rintro e w2 ⟨k3, h3, A3, n3, c3, bo, rfl, hout, hb1⟩
                   have hng : ∀ g, w1.heap.size ≤ g ∧ g < w2.heap.size → wr.heap.size ≤ g ∧ g < w2.heap.size ∧ g ≠ w2.heap.size := fun g hg => ⟨Nat.le_trans hcur.size hg.1, hg.2, by omega⟩
                   have hcur := hcur.trans (hb1.mono hcur.size)
                   clear hb1)
                | (go_at_call 32
                   refine (HDC.out (w1.alloc (.cells #[.int .i64 0, .int .i64 0, .slice none 0 0] 24)) (hcur.alloc hcur.size _)).mono ?_
                   rintro e w2 ⟨k3, h3, A3, n3, c3, bo, rfl, hout, hb1⟩
                   have zP := (Box.new w1 24 #[.int .i64 0, .int .i64 0, .slice none 0 0]).keep hb1 (Box.new _ _ _).lt
                   have hp : wr.heap.size ≤ w1.heap.size := hcur.size
                   have hng : ∀ g, (w1.alloc (.cells #[.int .i64 0, .int .i64 0, .slice none 0 0] 24)).heap.size ≤ g ∧ g < w2.heap.size → wr.heap.size ≤ g ∧ g < w2.heap.size ∧ g ≠ w1.heap.size := fun g hg => by
                     have h1 := hg.1
                     simp at h1
                     exact ⟨by omega, hg.2, by omega⟩
                   have hcur := (hcur.alloc hcur.size (.cells #[.int .i64 0, .int .i64 0, .slice none 0 0] 24)).trans (hb1.mono (hcur.alloc hcur.size _).size)
                   clear hb1
                   obtain ⟨p0, p1, p2⟩ := zP.three
                   have fp0 := zP.frozen 0
                   have fp1 := zP.frozen 1
                   have fp2 := zP.frozen 2))
            obtain ⟨Wf, hWf⟩ : ∃ Wf, w2.alloc (.cells #[.int .i64 k3, .int .i64 h3, .slice A3 n3 c3] 24) = Wf := ⟨_, rfl⟩
            obtain ⟨p, hpe⟩ : ∃ p, p = w2.heap.size := ⟨_, rfl⟩
            have xP : Box Wf p 24 #[.int .i64 k3, .int .i64 h3, .slice A3 n3 c3] := by rw [hpe, ← hWf]; exact Box.new _ _ _
            have hbF : Below wr.heap.size wr Wf := by rw [← hWf]; exact hcur.alloc hcur.size _
            have hoF : DOut (rn (rgo vs x) t (wrap64 (f + bd k n j))) (fun g => wr.heap.size ≤ g ∧ g < Wf.heap.size ∧ g ≠ p) Wf (.agg #[.int .i64 k3, .int .i64 h3, .slice A3 n3 c3]) bo := by
              rw [hpe, ← hWf]; exact hout.move (fun g hg => by have := hng g hg; exact ⟨this.1, by simp; omega, this.2.2⟩) (fun g hg hg' => Below.heap_alloc _ _ _ hg')
            have hpl : wr.heap.size ≤ p := by rw [hpe]; exact hcur.size
            rw [hWf, ← hpe]
            clear hWf hpe hout hng hcur
            rotate_left 1
            obtain ⟨Wf, hWf⟩ : ∃ Wf, ((w2.setCell ⟨w1.heap.size, 0, none⟩ (.int .i64 k3)).setCell ⟨w1.heap.size, 1, none⟩ (.int .i64 h3)).setCell ⟨w1.heap.size, 2, none⟩ (.slice A3 n3 c3) = Wf := ⟨_, rfl⟩
            obtain ⟨p, hpe⟩ : ∃ p, p = w1.heap.size := ⟨_, rfl⟩
            have xP : Box Wf p 24 #[.int .i64 k3, .int .i64 h3, .slice A3 n3 c3] := by rw [hpe, ← hWf]; exact zP.set3 _ _ _
            have hbF : Below wr.heap.size wr Wf := by rw [← hWf]; exact below_set3 hcur hp _ _ _
            have hoF : DOut (rn (rgo vs x) t (wrap64 (f + bd k n j))) (fun g => wr.heap.size ≤ g ∧ g < Wf.heap.size ∧ g ≠ p) Wf (.agg #[.int .i64 k3, .int .i64 h3, .slice A3 n3 c3]) bo := by
              rw [hpe, ← hWf]; exact hout.move (fun g hg => by have := hng g hg; exact ⟨this.1, by simp; exact this.2.1, this.2.2⟩) (fun g hg hg' => heap_other3 _ _ _ _ _ _ (hng g hg).2.2)
            have hpl : wr.heap.size ≤ p := by rw [hpe]; exact hp
            rw [hWf, ← hpe]
            clear hWf hpe hout hng hcur p0 p1 p2 fp0 fp1 fp2 zP hp
            rotate_left 1
            obtain ⟨Wf, hWf⟩ : ∃ Wf, ((w2.setCell ⟨wr.heap.size, 0, none⟩ (.int .i64 k3)).setCell ⟨wr.heap.size, 1, none⟩ (.int .i64 h3)).setCell ⟨wr.heap.size, 2, none⟩ (.slice A3 n3 c3) = Wf := ⟨_, rfl⟩
            obtain ⟨p, hpe⟩ : ∃ p, p = wr.heap.size := ⟨_, rfl⟩
            have xP : Box Wf p 24 #[.int .i64 k3, .int .i64 h3, .slice A3 n3 c3] := by rw [hpe, ← hWf]; exact zP.set3 _ _ _
            have hbF : Below wr.heap.size wr Wf := by rw [← hWf]; exact below_set3 hcur hp _ _ _
            have hoF : DOut (rn (rgo vs x) t (wrap64 (f + bd k n j))) (fun g => wr.heap.size ≤ g ∧ g < Wf.heap.size ∧ g ≠ p) Wf (.agg #[.int .i64 k3, .int .i64 h3, .slice A3 n3 c3]) bo := by
              rw [hpe, ← hWf]; exact hout.move (fun g hg => by have := hng g hg; exact ⟨this.1, by simp; exact this.2.1, this.2.2⟩) (fun g hg hg' => heap_other3 _ _ _ _ _ _ (hng g hg).2.2)
            have hpl : wr.heap.size ≤ p := by rw [hpe]; exact hp
            rw [hWf, ← hpe]
            clear hWf hpe hout hng hcur p0 p1 p2 fp0 fp1 fp2 zP hp
            rotate_left 1
            all_goals
              have z1 := y1.keep hbF y1.lt
              have z2 := y2.keep hbF y2.lt
              have z3 := y3.keep hbF y3.lt
              have sF := hbF.size
              have lp := xP.lt
              have HOF := Lib.hid hoF; clear hoF
              clear HKS HBI HDC
              cases bo
              · have hnone : rn (rgo vs x) t (wrap64 (f + bd k n j)) = none := by
                  rcases HOF.out with ⟨_, _, h, _⟩ | ⟨h, _, _⟩
                  · cases h
                  · exact h
                have HNO := Lib.hid hnone; clear hnone HOF
                obtain ⟨d0, d1, d2⟩ := z2.three
                have f0 := z2.frozen 0
                have f1 := z2.frozen 1
                have f2 := z2.frozen 2
                go_wp2_with fail
                refine bodyPost_ret (v := .tuple #[.agg #[.int .i64 0, .int .i64 0, .slice none 0 0], .bool false]) (by simp [results, Try.results32, go_sem, d0, d1, d2]) rfl ?_
                refine ⟨0, 0, none, 0, 0, false, rfl, .inr ⟨?_, rfl, rfl⟩, below_set3 (hbr.trans (hbF.mono hbr.size)) (by omega) _ _ _⟩
                rw [HU.out, HP.out.2, drop_at HT.out, HN.out, rnL_none HNO.out]
                rfl
              · obtain ⟨t', ht', hrf⟩ : ∃ t', rn (rgo vs x) t (wrap64 (f + bd k n j)) = some t' ∧ RdF (fun g => wr.heap.size ≤ g ∧ g < Wf.heap.size ∧ g ≠ p) Wf t' (.agg #[.int .i64 k3, .int .i64 h3, .slice A3 n3 c3]) := by
                  rcases HOF.out with ⟨t', h1, _, h3⟩ | ⟨_, h, _⟩
                  · exact ⟨t', h1, h3⟩
                  · cases h
                have HT' := Lib.hid ht'; clear ht' HOF
                have HRF := Lib.hid hrf; clear hrf
                obtain ⟨q0, q1, q2⟩ := z3.three
                obtain ⟨x0, x1, x2⟩ := xP.three
                have l3' := z3.lt
                have hbD : Below wr.heap.size wr (Wf.alloc (.cells #[.int .i64 k3, .int .i64 h3, .slice A3 n3 c3] 24)) := hbF.alloc hbF.size _
                obtain ⟨i0, hi, hz0, hz1, hz2⟩ := info_parts infoTerm
                have HI := Lib.hid hi; clear hi
                have HZ0 := Lib.hid hz0; clear hz0
                go_wp2_with (
                  at_builtin
                  refine wpList_append_lies (Wf.alloc (.cells #[.int .i64 k3, .int .i64 h3, .slice A3 n3 c3] 24)) rfl (.tmp 70) (.tmp 72) 22 rfl (w.heap.size + 1 + 1 + 1) 24 i0 _ 3 40 Try.underlying22 HI.out HZ0.out hz1 hz2 rfl (by omega) (.slice Av j cv) j cs rfl (HOW.out.kept (grown_of_below hbD) (own_none _)) ⟨Wf.heap.size, 0, none⟩ 1 1 [.int .i64 k3, .int .i64 h3, .slice A3 n3 c3] rfl rfl (World.news_of_block (heap_alloc_new Wf _)) (by intro u hu; simp at hu; rcases hu with rfl | rfl | rfl <;> rfl) (by omega) (by unfold maxLen; omega) (by omega) (by simp; omega) _ rfl ?_
                  intro g cap w4 how4 hgr hg4 hlt4
                  have hw4 : ∀ g', g' < wr.heap.size → some g' ≠ Value.ownBlock (.slice Av j cv) → w4.heap[g']? = wr.heap[g']? := fun g' hg' hne => (hgr.block g' (Nat.lt_of_lt_of_le hg' hbD.size) hne).trans (hbD.block g' hg')
                  have nb : ∀ g, g < w.heap.size + 1 + 1 + 1 → some g ≠ Value.ownBlock (.slice Av j cv) := fun g hg e => by
                    have := HOW.out.lt g e.symm
                    omega
                  have u1 : Box w4 w.heap.size _ _ := (hw4 _ y1.lt (nb _ (by omega))).trans y1
                  have u2 : Box w4 (w.heap.size + 1) _ _ := (hw4 _ y2.lt (nb _ (by omega))).trans y2
                  have u3 : Box w4 (w.heap.size + 1 + 1) _ _ := (hw4 _ y3.lt (nb _ (by omega))).trans y3
                  have s4 : Wf.heap.size + 1 ≤ w4.heap.size := by have := hgr.size; simpa using this
                  have hgo : ∀ g', g' < Wf.heap.size → some g' ≠ Value.ownBlock (.slice Av j cv) → w4.heap[g']? = Wf.heap[g']? := fun g' hg' hne => (hgr.block g' (by simp; omega) hne).trans (Below.heap_alloc _ _ _ hg')
                  have hg5 : ∀ g', g' < Wf.heap.size → some g' ≠ Value.ownBlock (.slice Av j cv) → g' ≠ g := fun g' hg' hne e => by
                    rcases hg4 with h4 | h4
                    · rw [h4] at hne; exact hne (by rw [e])
                    · have h5 : g = Wf.heap.size + 1 := by simpa using h4
                      omega
                  have hob : ∀ g', wr.heap.size ≤ g' → some g' ≠ Value.ownBlock (.slice Av j cv) := fun g' hg' e => by
                    have := HOW.out.lt g' e.symm
                    omega
                  have hg6 : w.heap.size + 1 + 1 + 1 ≤ g := by
                    rcases hg4 with h4 | h4
                    · exact (HOW.out.lt g h4).1
                    · have h5 : g = Wf.heap.size + 1 := by simpa using h4
                      omega
                  have hb4 : Below w.heap.size w w4 := below_grown (hbr.trans (hbD.mono hbr.size)) hgr (fun r hr => by have := HOW.out.lt r hr; omega) (by simp; omega)
                  have HH4 := Lib.hid how4; clear how4
                  have HGO := Lib.hid hgo; clear hgo hw4 hgr hg4
                  obtain ⟨v0, v1, v2⟩ := u3.three
                  have fv := u3.frozen 2)
                go_roundw
                case rel =>
                  have hset : ∀ g', g' ≠ w.heap.size + 1 + 1 → (w4.setCell ⟨w.heap.size + 1 + 1, 2, none⟩ (.slice (some ⟨g, 0, none⟩) (j + 1) cap)).heap[g']? = w4.heap[g']? := fun g' hne => Below.heap_setCell _ _ _ _ hne
                  refine ⟨j + 1, some ⟨g, 0, none⟩, cap, _, ys ++ [t'], by omega, by go_num, u1.other (by dsimp only; omega) _, u2.other (by dsimp only; omega) _, by simpa using u3.setAt 2 (.slice (some ⟨g, 0, none⟩) (j + 1) cap), Lib.hid (HH4.out.kept (grown_set w4 ⟨w.heap.size + 1 + 1, 2, none⟩ _) (.inr (by simp [Value.ownBlock]; omega))), Lib.hid ⟨by simp [HP.out.1], ?_⟩, Lib.hid ?_, ?_⟩
                  · rw [HP.out.2, drop_at HT.out, HN.out, rnL_some HT'.out, Option.map_map]
                    congr 1
                    funext l
                    simp
                  · refine KidL.snoc (KidL.move HK.out (fun g' hg' => ?_) (fun g' hg' hg'' => ?_)) (by rw [HOW.out.1, HP.out.1]) (RdF.move (fun g' hg' => ?_) (fun g' hg' hg'' => ?_) _ _ HRF.out)
                    · exact ⟨hg'.1, by simp; omega, fun e => hg5 g' (by omega) hg'.2.2 (by simpa [Value.ownBlock] using e)⟩
                    · rw [hset g' (by omega), HGO.out g' (by omega) hg'.2.2]; exact hbF.block g' hg''
                    · exact ⟨by omega, by simp; omega, fun e => hg5 g' hg'.2.1 (hob g' hg'.1) (by simpa [Value.ownBlock] using e)⟩
                    · rw [hset g' (by omega), HGO.out g' hg'.2.1 (hob g' hg'.1)]
                  · exact hb4.setCell (by dsimp only; omega) _
                case measure => simp [Go.RowKit.intOf]; omega
          · obtain rfl : j = n := by omega
            have hys : D = some (.node k h' ys) := by rw [HU.out, HP.out.2, drop_all HN.out (Nat.le_refl _), rnL]; simp
            have HYS := Lib.hid hys; clear hys
            obtain ⟨d0, d1, d2⟩ := y2.three
            have f0 := y2.frozen 0
            have f1 := y2.frozen 1
            have f2 := y2.frozen 2
            obtain ⟨q0, q1, q2⟩ := y3.three
            have l3 := y3.lt
            go_wp2_with fail
            refine bodyPost_ret (v := .tuple #[.agg #[.int .i64 k, .int .i64 h', .slice Av j cv], .bool true]) (by simp [results, Try.results32, go_sem, d0, d1, d2]) rfl ?_
            refine ⟨_, _, _, _, _, true, rfl, .inl ⟨_, HYS.out, rfl, ?_⟩, below_set3 hbr (by omega) _ _ _⟩
            have hset := heap_other3 wr (w.heap.size + 1) (.int .i64 k) (.int .i64 h') (.slice Av j cv)
            refine rdF_row (HOW.out.kept (grown_set3 wr (w.heap.size + 1) (.int .i64 k) (.int .i64 h') (.slice Av j cv)) (.inr fun e => by have := HOW.out.lt _ e; omega)) (KidL.move HK.out (fun _ h => h) fun g hg _ => hset g (by omega)) HP.out.1 (fun g hg => ⟨by omega, by simpa using hg.2.1⟩) (fun g hg => ?_) hk hwf2
            have := HOW.out.lt g hg
            exact ⟨by omega, by simpa using this.2⟩
      · have e1 : (k == 4) = true := by simpa using hk4
        have d1 : decide (f ≤ h) = false := by simpa using hf
        clear hk4 hf
        go_enter Try.func32, Try.ntmps32
        go_wp2_with fail
        rw [HWW.out]
        clear HWW e1 d1
        go_loopw [12] (fun i wr => ∃ (j : Nat) (Av : Option Addr) (cv : Nat) (cs : List Value) (ys : List T), j ≤ n ∧ i = .int .i64 j ∧ Box wr w.heap.size 24 #[.int .i64 k, .int .i64 h, .slice A n c] ∧
          Box wr (w.heap.size + 1) 24 #[.int .i64 0, .int .i64 0, .slice none 0 0] ∧ Box wr (w.heap.size + 1 + 1) 24 #[.int .i64 k, .int .i64 h', .slice Av j cv] ∧
          Hid (wr.ownsRow (w.heap.size + 1 + 1 + 1) 24 3 (.slice Av j cv) j cs) ∧ Hid (ys.length = j ∧ rnL (rgo vs x) k xs.length xs 0 f = (rnL (rgo vs x) k xs.length (xs.drop j) j f).map (ys ++ ·)) ∧
          Hid (KidL wr (fun g => w.heap.size + 1 + 1 + 1 ≤ g ∧ g < wr.heap.size ∧ some g ≠ Value.ownBlock (.slice Av j cv)) cs ys) ∧ Below w.heap.size w wr) (fun i _ => n - (Go.RowKit.intOf i).toNat)
        case atStart => exact ⟨0, none, 0, [], [], Nat.zero_le _, rfl, x1, x2, x3, Lib.hid (World.ownsRow_nil _ _ _ _), Lib.hid ⟨rfl, by simp⟩, Lib.hid (fun i t ht => by simp at ht), hb⟩
        case round =>
          obtain ⟨j, Av, cv, cs, ys, hj, rfl, y1, y2, y3, HOW, HP, HK, hbr⟩ := hrel
          clear x1 x2 x3 hb
          obtain ⟨a0, a1, a2⟩ := y1.three
          by_cases hlt : j < n
          · obtain ⟨t, ht⟩ := at_of HN.out hlt
            obtain ⟨bA, oA, k2, h2, A2, n2, c2', rfl, c0, c1, c2, hr⟩ := (RdAt.keep hbr (HX.out j t ht)).full
            have HT := Lib.hid ht; clear ht
            have HR := Lib.hid hr; clear hr
            have hi0 : (0 : Int) ≤ j := by omega
            have hi1 : (j : Int) < n := by omega
            have l3 := y3.lt
            go_wp2_with fail
            have HKS : Hid (∀ w' : World, Below wr.heap.size wr w' → SDn w.heap.size k h bA oA n c j k2 h2 A2 n2 c2' w') := Lib.hid fun w' hw' => by
              have s1 := y1.keep hw' y1.lt
              exact ⟨s1.three.1, s1.three.2.1, s1.three.2.2, (hw'.cell (cell_lt c0)).trans c0, (hw'.cell (cell_lt c1)).trans c1, (hw'.cell (cell_lt c2)).trans c2⟩
            have hsum : IntKind.i64.wrap (f + bd k n j) = wrap64 (f + bd k n j) := wrapEq _
            have HBI : Hid (∀ W', Calls Try.prog 50 #[.agg #[.int .i64 k, .int .i64 h, .slice (some ⟨bA, oA, none⟩) n c], .int .i64 j] W' fun e w' => e = .returned (.int .i64 (bd k n j)) ∧ Below W'.heap.size W' w') := Lib.hid fun W' => refBinds k h _ n c hc HMM.out j (by unfold maxLen; omega) W'
            have HDC : Hid (∀ W', Below wr.heap.size wr W' → Calls Try.prog 32 #[.agg #[.int .i64 k2, .int .i64 h2, .slice A2 n2 c2'], .slice V0 nv c0v, .int .i64 x, .int .i64 (wrap64 (f + bd k n j))] W' (DEnd (rn (rgo vs x) t (wrap64 (f + bd k n j))) W')) := Lib.hid fun W' hW' => IH.out t (List.mem_of_getElem? HT.out) _ _ W' (fun i z hz => by obtain ⟨b, o, e, h⟩ := HNUM.out i z hz; exact ⟨b, o, e, ((hbr.trans (hW'.mono hbr.size)).cell (cell_lt h)).trans h⟩) (Rd.keep hW' _ _ HR.out) (HND.out t (List.mem_of_getElem? HT.out))
            have hcur : Below wr.heap.size wr wr.drew := (Below.refl _ wr).drew
            clear a0 a1 a2 c0 c1 c2
            go_region_held3 (fun w' => w'.cell? ⟨w.heap.size, 0, none⟩ = some (.int .i64 k) ∧ w'.cell? ⟨w.heap.size, 1, none⟩ = some (.int .i64 h) ∧ w'.cell? ⟨w.heap.size, 2, none⟩ = some (.slice (some ⟨bA, oA, none⟩) n c) ∧ w'.cell? ⟨bA, oA + j * 3, none⟩ = some (.int .i64 k2) ∧ w'.cell? ⟨bA, oA + j * 3 + 1, none⟩ = some (.int .i64 h2) ∧ w'.cell? ⟨bA, oA + j * 3 + 2, none⟩ = some (.slice A2 n2 c2'))
              (first | exact HKS.out _ hcur | exact HKS.out _ (hcur.alloc hcur.size _) | exact HKS.out _ (below_set3 hcur hp _ _ _) | exact HKS.out _ (below_set3 (hcur.alloc hcur.size _) hcur.size _ _ _))
              (first
                | (go_at_call 50
                   with_reducible refine (HBI.out wr.drew).mono ?_
                   rintro e w1 ⟨rfl, hb1⟩
                   replace hcur := hcur.trans hb1
                   clear hb1)
                | (go_at_call 50
                   refine (HBI.out (wr.drew.alloc (.cells #[.int .i64 0, .int .i64 0, .slice none 0 0] 24))).mono ?_
                   rintro e w1 ⟨rfl, hb1⟩
                   have zP : Box w1 wr.heap.size 24 #[.int .i64 0, .int .i64 0, .slice none 0 0] := (Box.new wr.drew 24 #[.int .i64 0, .int .i64 0, .slice none 0 0]).keep hb1 (Box.new _ _ _).lt
                   have hp : wr.heap.size ≤ wr.heap.size := Nat.le_refl _
                   have hcur := (hcur.alloc hcur.size (.cells #[.int .i64 0, .int .i64 0, .slice none 0 0] 24)).trans (hb1.mono (hcur.alloc hcur.size _).size)
                   clear hb1)
                | (go_at_call 32
                   have zP2 := zP
                   refine (HDC.out w1 hcur).mono ?_
                   rintro e w2 ⟨k3, h3, A3, n3, c3, bo, rfl, hout, hb1⟩
                   have zP := zP.keep hb1 zP.lt
                   have hng : ∀ g, w1.heap.size ≤ g ∧ g < w2.heap.size → wr.heap.size ≤ g ∧ g < w2.heap.size ∧ g ≠ wr.heap.size := fun g hg => ⟨Nat.le_trans hcur.size hg.1, hg.2, fun e => by have := zP2.lt; omega⟩
                   have hcur := hcur.trans (hb1.mono hcur.size)
                   clear hb1 zP2
                   obtain ⟨p0, p1, p2⟩ := zP.three
                   have fp0 := zP.frozen 0
                   have fp1 := zP.frozen 1
                   have fp2 := zP.frozen 2)
                | (go_at_call 32
                   refine (HDC.out w1 hcur).mono ?_
                   rintro e w2 ⟨k3, h3, A3, n3, c3, bo, rfl, hout, hb1⟩
                   have hng : ∀ g, w1.heap.size ≤ g ∧ g < w2.heap.size → wr.heap.size ≤ g ∧ g < w2.heap.size ∧ g ≠ w2.heap.size := fun g hg => ⟨Nat.le_trans hcur.size hg.1, hg.2, by omega⟩
                   have hcur := hcur.trans (hb1.mono hcur.size)
                   clear hb1)
                | (go_at_call 32
                   refine (HDC.out (w1.alloc (.cells #[.int .i64 0, .int .i64 0, .slice none 0 0] 24)) (hcur.alloc hcur.size _)).mono ?_
                   rintro e w2 ⟨k3, h3, A3, n3, c3, bo, rfl, hout, hb1⟩
                   have zP := (Box.new w1 24 #[.int .i64 0, .int .i64 0, .slice none 0 0]).keep hb1 (Box.new _ _ _).lt
                   have hp : wr.heap.size ≤ w1.heap.size := hcur.size
                   have hng : ∀ g, (w1.alloc (.cells #[.int .i64 0, .int .i64 0, .slice none 0 0] 24)).heap.size ≤ g ∧ g < w2.heap.size → wr.heap.size ≤ g ∧ g < w2.heap.size ∧ g ≠ w1.heap.size := fun g hg => by
                     have h1 := hg.1
                     simp at h1
                     exact ⟨by omega, hg.2, by omega⟩
                   have hcur := (hcur.alloc hcur.size (.cells #[.int .i64 0, .int .i64 0, .slice none 0 0] 24)).trans (hb1.mono (hcur.alloc hcur.size _).size)
                   clear hb1
                   obtain ⟨p0, p1, p2⟩ := zP.three
                   have fp0 := zP.frozen 0
                   have fp1 := zP.frozen 1
                   have fp2 := zP.frozen 2))
            obtain ⟨Wf, hWf⟩ : ∃ Wf, w2.alloc (.cells #[.int .i64 k3, .int .i64 h3, .slice A3 n3 c3] 24) = Wf := ⟨_, rfl⟩
            obtain ⟨p, hpe⟩ : ∃ p, p = w2.heap.size := ⟨_, rfl⟩
            have xP : Box Wf p 24 #[.int .i64 k3, .int .i64 h3, .slice A3 n3 c3] := by rw [hpe, ← hWf]; exact Box.new _ _ _
            have hbF : Below wr.heap.size wr Wf := by rw [← hWf]; exact hcur.alloc hcur.size _
            have hoF : DOut (rn (rgo vs x) t (wrap64 (f + bd k n j))) (fun g => wr.heap.size ≤ g ∧ g < Wf.heap.size ∧ g ≠ p) Wf (.agg #[.int .i64 k3, .int .i64 h3, .slice A3 n3 c3]) bo := by
              rw [hpe, ← hWf]; exact hout.move (fun g hg => by have := hng g hg; exact ⟨this.1, by simp; omega, this.2.2⟩) (fun g hg hg' => Below.heap_alloc _ _ _ hg')
            have hpl : wr.heap.size ≤ p := by rw [hpe]; exact hcur.size
            rw [hWf, ← hpe]
            clear hWf hpe hout hng hcur
            rotate_left 1
            obtain ⟨Wf, hWf⟩ : ∃ Wf, ((w2.setCell ⟨w1.heap.size, 0, none⟩ (.int .i64 k3)).setCell ⟨w1.heap.size, 1, none⟩ (.int .i64 h3)).setCell ⟨w1.heap.size, 2, none⟩ (.slice A3 n3 c3) = Wf := ⟨_, rfl⟩
            obtain ⟨p, hpe⟩ : ∃ p, p = w1.heap.size := ⟨_, rfl⟩
            have xP : Box Wf p 24 #[.int .i64 k3, .int .i64 h3, .slice A3 n3 c3] := by rw [hpe, ← hWf]; exact zP.set3 _ _ _
            have hbF : Below wr.heap.size wr Wf := by rw [← hWf]; exact below_set3 hcur hp _ _ _
            have hoF : DOut (rn (rgo vs x) t (wrap64 (f + bd k n j))) (fun g => wr.heap.size ≤ g ∧ g < Wf.heap.size ∧ g ≠ p) Wf (.agg #[.int .i64 k3, .int .i64 h3, .slice A3 n3 c3]) bo := by
              rw [hpe, ← hWf]; exact hout.move (fun g hg => by have := hng g hg; exact ⟨this.1, by simp; exact this.2.1, this.2.2⟩) (fun g hg hg' => heap_other3 _ _ _ _ _ _ (hng g hg).2.2)
            have hpl : wr.heap.size ≤ p := by rw [hpe]; exact hp
            rw [hWf, ← hpe]
            clear hWf hpe hout hng hcur p0 p1 p2 fp0 fp1 fp2 zP hp
            rotate_left 1
            obtain ⟨Wf, hWf⟩ : ∃ Wf, ((w2.setCell ⟨wr.heap.size, 0, none⟩ (.int .i64 k3)).setCell ⟨wr.heap.size, 1, none⟩ (.int .i64 h3)).setCell ⟨wr.heap.size, 2, none⟩ (.slice A3 n3 c3) = Wf := ⟨_, rfl⟩
            obtain ⟨p, hpe⟩ : ∃ p, p = wr.heap.size := ⟨_, rfl⟩
            have xP : Box Wf p 24 #[.int .i64 k3, .int .i64 h3, .slice A3 n3 c3] := by rw [hpe, ← hWf]; exact zP.set3 _ _ _
            have hbF : Below wr.heap.size wr Wf := by rw [← hWf]; exact below_set3 hcur hp _ _ _
            have hoF : DOut (rn (rgo vs x) t (wrap64 (f + bd k n j))) (fun g => wr.heap.size ≤ g ∧ g < Wf.heap.size ∧ g ≠ p) Wf (.agg #[.int .i64 k3, .int .i64 h3, .slice A3 n3 c3]) bo := by
              rw [hpe, ← hWf]; exact hout.move (fun g hg => by have := hng g hg; exact ⟨this.1, by simp; exact this.2.1, this.2.2⟩) (fun g hg hg' => heap_other3 _ _ _ _ _ _ (hng g hg).2.2)
            have hpl : wr.heap.size ≤ p := by rw [hpe]; exact hp
            rw [hWf, ← hpe]
            clear hWf hpe hout hng hcur p0 p1 p2 fp0 fp1 fp2 zP hp
            rotate_left 1
            all_goals
              have z1 := y1.keep hbF y1.lt
              have z2 := y2.keep hbF y2.lt
              have z3 := y3.keep hbF y3.lt
              have sF := hbF.size
              have lp := xP.lt
              have HOF := Lib.hid hoF; clear hoF
              clear HKS HBI HDC
              cases bo
              · have hnone : rn (rgo vs x) t (wrap64 (f + bd k n j)) = none := by
                  rcases HOF.out with ⟨_, _, h, _⟩ | ⟨h, _, _⟩
                  · cases h
                  · exact h
                have HNO := Lib.hid hnone; clear hnone HOF
                obtain ⟨d0, d1, d2⟩ := z2.three
                have f0 := z2.frozen 0
                have f1 := z2.frozen 1
                have f2 := z2.frozen 2
                go_wp2_with fail
                refine bodyPost_ret (v := .tuple #[.agg #[.int .i64 0, .int .i64 0, .slice none 0 0], .bool false]) (by simp [results, Try.results32, go_sem, d0, d1, d2]) rfl ?_
                refine ⟨0, 0, none, 0, 0, false, rfl, .inr ⟨?_, rfl, rfl⟩, below_set3 (hbr.trans (hbF.mono hbr.size)) (by omega) _ _ _⟩
                rw [HU.out, HP.out.2, drop_at HT.out, HN.out, rnL_none HNO.out]
                rfl
              · obtain ⟨t', ht', hrf⟩ : ∃ t', rn (rgo vs x) t (wrap64 (f + bd k n j)) = some t' ∧ RdF (fun g => wr.heap.size ≤ g ∧ g < Wf.heap.size ∧ g ≠ p) Wf t' (.agg #[.int .i64 k3, .int .i64 h3, .slice A3 n3 c3]) := by
                  rcases HOF.out with ⟨t', h1, _, h3⟩ | ⟨_, h, _⟩
                  · exact ⟨t', h1, h3⟩
                  · cases h
                have HT' := Lib.hid ht'; clear ht' HOF
                have HRF := Lib.hid hrf; clear hrf
                obtain ⟨q0, q1, q2⟩ := z3.three
                obtain ⟨x0, x1, x2⟩ := xP.three
                have l3' := z3.lt
                have hbD : Below wr.heap.size wr (Wf.alloc (.cells #[.int .i64 k3, .int .i64 h3, .slice A3 n3 c3] 24)) := hbF.alloc hbF.size _
                obtain ⟨i0, hi, hz0, hz1, hz2⟩ := info_parts infoTerm
                have HI := Lib.hid hi; clear hi
                have HZ0 := Lib.hid hz0; clear hz0
                go_wp2_with (
                  at_builtin
                  refine wpList_append_lies (Wf.alloc (.cells #[.int .i64 k3, .int .i64 h3, .slice A3 n3 c3] 24)) rfl (.tmp 70) (.tmp 72) 22 rfl (w.heap.size + 1 + 1 + 1) 24 i0 _ 3 40 Try.underlying22 HI.out HZ0.out hz1 hz2 rfl (by omega) (.slice Av j cv) j cs rfl (HOW.out.kept (grown_of_below hbD) (own_none _)) ⟨Wf.heap.size, 0, none⟩ 1 1 [.int .i64 k3, .int .i64 h3, .slice A3 n3 c3] rfl rfl (World.news_of_block (heap_alloc_new Wf _)) (by intro u hu; simp at hu; rcases hu with rfl | rfl | rfl <;> rfl) (by omega) (by unfold maxLen; omega) (by omega) (by simp; omega) _ rfl ?_
                  intro g cap w4 how4 hgr hg4 hlt4
                  have hw4 : ∀ g', g' < wr.heap.size → some g' ≠ Value.ownBlock (.slice Av j cv) → w4.heap[g']? = wr.heap[g']? := fun g' hg' hne => (hgr.block g' (Nat.lt_of_lt_of_le hg' hbD.size) hne).trans (hbD.block g' hg')
                  have nb : ∀ g, g < w.heap.size + 1 + 1 + 1 → some g ≠ Value.ownBlock (.slice Av j cv) := fun g hg e => by
                    have := HOW.out.lt g e.symm
                    omega
                  have u1 : Box w4 w.heap.size _ _ := (hw4 _ y1.lt (nb _ (by omega))).trans y1
                  have u2 : Box w4 (w.heap.size + 1) _ _ := (hw4 _ y2.lt (nb _ (by omega))).trans y2
                  have u3 : Box w4 (w.heap.size + 1 + 1) _ _ := (hw4 _ y3.lt (nb _ (by omega))).trans y3
                  have s4 : Wf.heap.size + 1 ≤ w4.heap.size := by have := hgr.size; simpa using this
                  have hgo : ∀ g', g' < Wf.heap.size → some g' ≠ Value.ownBlock (.slice Av j cv) → w4.heap[g']? = Wf.heap[g']? := fun g' hg' hne => (hgr.block g' (by simp; omega) hne).trans (Below.heap_alloc _ _ _ hg')
                  have hg5 : ∀ g', g' < Wf.heap.size → some g' ≠ Value.ownBlock (.slice Av j cv) → g' ≠ g := fun g' hg' hne e => by
                    rcases hg4 with h4 | h4
                    · rw [h4] at hne; exact hne (by rw [e])
                    · have h5 : g = Wf.heap.size + 1 := by simpa using h4
                      omega
                  have hob : ∀ g', wr.heap.size ≤ g' → some g' ≠ Value.ownBlock (.slice Av j cv) := fun g' hg' e => by
                    have := HOW.out.lt g' e.symm
                    omega
                  have hg6 : w.heap.size + 1 + 1 + 1 ≤ g := by
                    rcases hg4 with h4 | h4
                    · exact (HOW.out.lt g h4).1
                    · have h5 : g = Wf.heap.size + 1 := by simpa using h4
                      omega
                  have hb4 : Below w.heap.size w w4 := below_grown (hbr.trans (hbD.mono hbr.size)) hgr (fun r hr => by have := HOW.out.lt r hr; omega) (by simp; omega)
                  have HH4 := Lib.hid how4; clear how4
                  have HGO := Lib.hid hgo; clear hgo hw4 hgr hg4
                  obtain ⟨v0, v1, v2⟩ := u3.three
                  have fv := u3.frozen 2)
                go_roundw
                case rel =>
                  have hset : ∀ g', g' ≠ w.heap.size + 1 + 1 → (w4.setCell ⟨w.heap.size + 1 + 1, 2, none⟩ (.slice (some ⟨g, 0, none⟩) (j + 1) cap)).heap[g']? = w4.heap[g']? := fun g' hne => Below.heap_setCell _ _ _ _ hne
                  refine ⟨j + 1, some ⟨g, 0, none⟩, cap, _, ys ++ [t'], by omega, by go_num, u1.other (by dsimp only; omega) _, u2.other (by dsimp only; omega) _, by simpa using u3.setAt 2 (.slice (some ⟨g, 0, none⟩) (j + 1) cap), Lib.hid (HH4.out.kept (grown_set w4 ⟨w.heap.size + 1 + 1, 2, none⟩ _) (.inr (by simp [Value.ownBlock]; omega))), Lib.hid ⟨by simp [HP.out.1], ?_⟩, Lib.hid ?_, ?_⟩
                  · rw [HP.out.2, drop_at HT.out, HN.out, rnL_some HT'.out, Option.map_map]
                    congr 1
                    funext l
                    simp
                  · refine KidL.snoc (KidL.move HK.out (fun g' hg' => ?_) (fun g' hg' hg'' => ?_)) (by rw [HOW.out.1, HP.out.1]) (RdF.move (fun g' hg' => ?_) (fun g' hg' hg'' => ?_) _ _ HRF.out)
                    · exact ⟨hg'.1, by simp; omega, fun e => hg5 g' (by omega) hg'.2.2 (by simpa [Value.ownBlock] using e)⟩
                    · rw [hset g' (by omega), HGO.out g' (by omega) hg'.2.2]; exact hbF.block g' hg''
                    · exact ⟨by omega, by simp; omega, fun e => hg5 g' hg'.2.1 (hob g' hg'.1) (by simpa [Value.ownBlock] using e)⟩
                    · rw [hset g' (by omega), HGO.out g' hg'.2.1 (hob g' hg'.1)]
                  · exact hb4.setCell (by dsimp only; omega) _
                case measure => simp [Go.RowKit.intOf]; omega
          · obtain rfl : j = n := by omega
            have hys : D = some (.node k h' ys) := by rw [HU.out, HP.out.2, drop_all HN.out (Nat.le_refl _), rnL]; simp
            have HYS := Lib.hid hys; clear hys
            obtain ⟨d0, d1, d2⟩ := y2.three
            have f0 := y2.frozen 0
            have f1 := y2.frozen 1
            have f2 := y2.frozen 2
            obtain ⟨q0, q1, q2⟩ := y3.three
            have l3 := y3.lt
            go_wp2_with fail
            refine bodyPost_ret (v := .tuple #[.agg #[.int .i64 k, .int .i64 h', .slice Av j cv], .bool true]) (by simp [results, Try.results32, go_sem, d0, d1, d2]) rfl ?_
            refine ⟨_, _, _, _, _, true, rfl, .inl ⟨_, HYS.out, rfl, ?_⟩, below_set3 hbr (by omega) _ _ _⟩
            have hset := heap_other3 wr (w.heap.size + 1) (.int .i64 k) (.int .i64 h') (.slice Av j cv)
            refine rdF_row (HOW.out.kept (grown_set3 wr (w.heap.size + 1) (.int .i64 k) (.int .i64 h') (.slice Av j cv)) (.inr fun e => by have := HOW.out.lt _ e; omega)) (KidL.move HK.out (fun _ h => h) fun g hg _ => hset g (by omega)) HP.out.1 (fun g hg => ⟨by omega, by simpa using hg.2.1⟩) (fun g hg => ?_) hk hwf2
            have := HOW.out.lt g hg
            exact ⟨by omega, by simpa using this.2⟩
end Go.Proofs.Ytdllbljjlaipoaa
