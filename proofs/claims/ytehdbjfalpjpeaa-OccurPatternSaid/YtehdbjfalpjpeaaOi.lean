/-
  The document's own add: a number in its place of rising ones. No statement is proved here.
-/
import Derived.Test.YtehdbjfalpjpeaaOh
namespace Go.Proofs.Ytehdbjfalpjpeaa
open Go.ChangeShapes Go.WideShapes Go.ChangeAt Go.RowKit Go.Maps
set_option linter.unusedVariables false

/-- a round of add -/
def adS (x : Int) (s : Bool × List Int) (y : Int) : Bool × List Int :=
  if s.1 = false ∧ x ≤ y then (true, if y = x then s.2 ++ [x] else s.2 ++ [x] ++ [y]) else (s.1, if y = x then s.2 else s.2 ++ [y])
def adL (x : Int) (zs : List Int) : Bool × List Int := zs.foldl (adS x) (false, [])
def adF (x : Int) (zs : List Int) : List Int := if (adL x zs).1 then (adL x zs).2 else (adL x zs).2 ++ [x]

theorem adL_snoc (x : Int) (zs : List Int) (y : Int) : adL x (zs ++ [y]) = adS x (adL x zs) y := by simp [adL]
theorem adS_len (x : Int) (s : Bool × List Int) (y : Int) : (adS x s y).2.length ≤ s.2.length + 2 := by unfold adS; split <;> dsimp only <;> split <;> simp
theorem adL_len (x : Int) : ∀ (zs : List Int) (s : Bool × List Int), (zs.foldl (adS x) s).2.length ≤ s.2.length + 2 * zs.length
  | [], s => by simp
  | y :: zs, s => by rw [List.foldl_cons, List.length_cons]; have := adL_len x zs (adS x s y); have := adS_len x s y; omega
/-- behind the place nothing comes in between -/
theorem ad_done (x : Int) : ∀ (zs acc : List Int), (∀ y ∈ zs, x < y) → zs.foldl (adS x) (true, acc) = (true, acc ++ zs)
  | [], acc, _ => by simp
  | y :: zs, acc, h => by
    have hy := h y (List.mem_cons_self ..)
    have e : adS x (true, acc) y = (true, acc ++ [y]) := by simp [adS, show ¬ y = x by omega]
    rw [List.foldl_cons, e, ad_done x zs _ fun z hz => h z (List.mem_cons_of_mem _ hz)]; simp
theorem ad_ins (x : Int) : ∀ (zs acc : List Int), Asc zs → (let s := zs.foldl (adS x) (false, acc); if s.1 then s.2 else s.2 ++ [x]) = acc ++ ins x zs
  | [], acc, _ => by simp [ins]
  | y :: zs, acc, h => by
    obtain ⟨h1, h2⟩ := List.pairwise_cons.1 h
    rw [List.foldl_cons]
    unfold ins
    by_cases hlt : x < y
    · have e : adS x (false, acc) y = (true, acc ++ [x] ++ [y]) := by simp [adS, show x ≤ y by omega, show ¬ y = x by omega]
      rw [e, if_pos hlt, ad_done x zs _ fun z hz => by have := h1 z hz; omega]
      simp
    · by_cases he : x = y
      · subst he
        have e : adS x (false, acc) x = (true, acc ++ [x]) := by simp [adS]
        rw [e, if_neg hlt, if_pos rfl, ad_done x zs _ h1]
        simp
      · have e : adS x (false, acc) y = (false, acc ++ [y]) := by simp [adS, show ¬ x ≤ y by omega, show ¬ y = x by omega]
        rw [e, if_neg hlt, if_neg he]
        have := ad_ins x zs (acc ++ [y]) h2
        dsimp only at this ⊢
        rw [this]; simp
theorem adF_eq {x : Int} {zs : List Int} (h : Asc zs) : adF x zs = ins x zs := by
  have := ad_ins x zs [] h
  rw [List.nil_append] at this
  exact this
theorem ins_len (x : Int) : ∀ zs : List Int, (ins x zs).length ≤ zs.length + 1
  | [] => by simp [ins]
  | y :: zs => by
    unfold ins
    have := ins_len x zs
    split
    · simp
    · split <;> simp; omega

theorem ad_below {w wr w4 : World} {o : Obj} {e : TypeId} {size : Nat} {v : Value} {n : Nat} {xs : List Value} (hb : Below w.heap.size w wr) (hg : (wr.alloc o).grownBy w4 v.ownBlock) (hr : wr.ownsRow w.heap.size e size v n xs) : Below w.heap.size w w4 :=
  (hb.alloc hb.size o).grown hg (by have := hb.size; simp; omega) (fun i hi => (hr.lt i hi).1)

/-- the row that add makes, after so many rounds -/
def AdR (w : World) (lo : Nat) (v : Value) (os : List Int) : Prop := w.ownsRow lo 3 1 v os.length (os.map (Value.int .i64))

set_option maxRecDepth 100000 in
set_option maxHeartbeats 4000000 in
theorem rfAddC (zs : List Int) (x : Int) (v : Value) (w : World) (h1 : Ns w v zs) (hx : (Lit.int .i64 x).wf = true) (hl : zs.length ≤ 4194304) :
    Calls Try.prog 47 #[v, .int .i64 x] w fun e w' => ∃ u, e = .returned u ∧ Ns w' u (adF x zs) ∧ Below w.heap.size w w' := by
  obtain ⟨A, n, c, rfl, hn, hc, hm⟩ := h1.full
  obtain ⟨i0, hi, hz0, hz1, hz2⟩ := info_parts infoI
  unfold maxLen at hm
  have HN := Lib.hid hn; rw [hn] at hl; clear hn
  have H1 := Lib.hid h1; clear h1
  go_enter Try.func47, Try.ntmps47
  go_wp2_with fail
  go_loopw [5, 6, 7] (fun o d i wr => ∃ (j : Nat) (dn : Bool) (os : List Int), j ≤ n ∧ i = .int .i64 j ∧ d = .bool dn ∧ AdR wr w.heap.size o os ∧ os.length ≤ 2 * j ∧ Hid (adL x (zs.take j) = (dn, os)) ∧ Below w.heap.size w wr) (fun _ _ i _ => n - (intOf i).toNat)
  case atStart => exact ⟨0, false, [], Nat.zero_le _, rfl, rfl, World.ownsRow_nil _ _ _ _, by simp, Lib.hid rfl, Below.refl _ _⟩
  case round =>
    obtain ⟨j, dn, os, hj, rfl, rfl, hrow, hos, HE, hb⟩ := hrel
    have hws := hb.size
    by_cases hlt : j < n
    · obtain ⟨b, o, y, rfl, hz, c00⟩ := H1.out.cell hlt
      have c0 := (hb.cell (cell_lt c00)).trans c00
      have HZ := Lib.hid hz; clear hz
      have hE : adL x (zs.take (j + 1)) = adS x (dn, os) y := by rw [take_snoc HZ.out, adL_snoc, HE.out]
      have HE1 := Lib.hid hE; clear hE HE
      have HC := Lib.hid c00; clear c00
      have hi0 : (0 : Int) ≤ j := by omega
      have hi1 : (j : Int) < n := by omega
      have hrA : wr.ownsRow w.heap.size 3 1 u5 os.length (os.map (Value.int .i64)) := hrow
      clear hrow
      cases dn
      · by_cases hxy : x ≤ y
        · have d1 : decide (x ≤ y) = true := by simpa using hxy
          by_cases hyx : y = x
          · subst hyx
            clear hxy
            go_wp2_with (first
              | (at_builtin; refine wpList_append_own _ rfl _ _ 28 rfl w.heap.size 3 i0 (.int .i64 0) 1 8 Try.underlying28 hi hz0 hz1 hz2 rfl (by decide) _ _ _ rfl (hrA.alloc _) ⟨wr.heap.size, 0, none⟩ 1 1 [.int .i64 y] rfl rfl (cell_one_new _ _ _) (ints_oneCell .i64 [y]) (by unfold maxLen; omega) (by omega) (by simp; omega) ?_; intro v4 w4 hown4 hg4 hnil4; have hb4 := (ad_below hb hg4 hrA); have c0 := (hb4.cell (cell_lt HC.out)).trans HC.out; have hs4 := hb4.size; clear hnil4)
              | go_in)
            go_roundw
            case rel => exact ⟨j + 1, _, os ++ [y], by omega, by go_num, rfl, by simpa [AdR] using hown4, by first | omega | (simp; omega), Lib.hid (by rw [HE1.out]; simp [adS]), (ad_below hb hg4 hrA)⟩
            case measure => simp [intOf]; omega
          · have e1 : (y == x) = false := by simpa using hyx
            have HX := Lib.hid hyx; clear hyx
            have HXY := Lib.hid hxy; clear hxy
            have tok : True := trivial
            go_wp2_with (first
              | (at_builtin; have _t := tok; (at_builtin; refine wpList_append_own _ rfl _ _ 28 rfl w.heap.size 3 i0 (.int .i64 0) 1 8 Try.underlying28 hi hz0 hz1 hz2 rfl (by decide) _ _ _ rfl (hrA.alloc _) ⟨wr.heap.size, 0, none⟩ 1 1 [.int .i64 x] rfl rfl (cell_one_new _ _ _) (ints_oneCell .i64 [x]) (by unfold maxLen; omega) (by omega) (by simp; omega) ?_; intro v4 w4 hown4 hg4 hnil4; have hb4 := (ad_below hb hg4 hrA); have c0 := (hb4.cell (cell_lt HC.out)).trans HC.out; have hs4 := hb4.size; clear hnil4); clear tok)
              | (at_builtin; refine wpList_append_own _ rfl _ _ 28 rfl w.heap.size 3 i0 (.int .i64 0) 1 8 Try.underlying28 hi hz0 hz1 hz2 rfl (by decide) _ _ _ rfl (hown4.alloc _) ⟨w4.heap.size, 0, none⟩ 1 1 [.int .i64 y] rfl rfl (cell_one_new _ _ _) (ints_oneCell .i64 [y]) (by unfold maxLen; omega) (by omega) (by simp; omega) ?_; intro v5 w5 hown5 hg5 hnil5; go_frame)
              | go_in)
            go_roundw
            case rel => exact ⟨j + 1, _, os ++ [x] ++ [y], by omega, by go_num, rfl, by simpa [AdR] using hown5, by first | omega | (simp; omega), Lib.hid (by rw [HE1.out]; have h1 := HX.out; have h2 := HXY.out; simp [adS, h1, h2]), (ad_below hb4 hg5 hown4)⟩
            case measure => simp [intOf]; omega
        · have d1 : decide (x ≤ y) = false := by simpa using hxy
          have e1 : (y == x) = false := by rw [beq_eq_false_iff_ne]; omega
          have HXY := Lib.hid hxy; clear hxy
          go_wp2_with (first
            | (at_builtin; refine wpList_append_own _ rfl _ _ 28 rfl w.heap.size 3 i0 (.int .i64 0) 1 8 Try.underlying28 hi hz0 hz1 hz2 rfl (by decide) _ _ _ rfl (hrA.alloc _) ⟨wr.heap.size, 0, none⟩ 1 1 [.int .i64 y] rfl rfl (cell_one_new _ _ _) (ints_oneCell .i64 [y]) (by unfold maxLen; omega) (by omega) (by simp; omega) ?_; intro v4 w4 hown4 hg4 hnil4; go_frame)
            | go_in)
          go_roundw
          case rel => exact ⟨j + 1, _, os ++ [y], by omega, by go_num, rfl, by simpa [AdR] using hown4, by first | omega | (simp; omega), Lib.hid (by rw [HE1.out]; have h2 := HXY.out; simp [adS, show ¬ x ≤ y from h2, show ¬ y = x by omega]), (ad_below hb hg4 hrA)⟩
          case measure => simp [intOf]; omega
      · by_cases hyx : y = x
        · subst hyx
          go_wp2_with fail
          go_roundw
          case rel => exact ⟨j + 1, _, os, by omega, by go_num, rfl, hrA, by first | omega | (simp; omega), Lib.hid (by rw [HE1.out]; simp [adS]), hb⟩
          case measure => simp [intOf]; omega
        · have e1 : (y == x) = false := by simpa using hyx
          have HX := Lib.hid hyx; clear hyx
          go_wp2_with (first
            | (at_builtin; refine wpList_append_own _ rfl _ _ 28 rfl w.heap.size 3 i0 (.int .i64 0) 1 8 Try.underlying28 hi hz0 hz1 hz2 rfl (by decide) _ _ _ rfl (hrA.alloc _) ⟨wr.heap.size, 0, none⟩ 1 1 [.int .i64 y] rfl rfl (cell_one_new _ _ _) (ints_oneCell .i64 [y]) (by unfold maxLen; omega) (by omega) (by simp; omega) ?_; intro v4 w4 hown4 hg4 hnil4; go_frame)
            | go_in)
          go_roundw
          case rel => exact ⟨j + 1, _, os ++ [y], by omega, by go_num, rfl, by simpa [AdR] using hown4, by first | omega | (simp; omega), Lib.hid (by rw [HE1.out]; have h1 := HX.out; simp [adS, h1]), (ad_below hb hg4 hrA)⟩
          case measure => simp [intOf]; omega
    · have hE := HE.out
      rw [List.take_of_length_le (by have := HN.out; omega)] at hE
      have HE := Lib.hid hE; clear hE
      have hrA : wr.ownsRow w.heap.size 3 1 u5 os.length (os.map (Value.int .i64)) := hrow
      clear hrow
      cases dn
      · go_wp2_with (first
          | (at_builtin; refine wpList_append_own _ rfl _ _ 28 rfl w.heap.size 3 i0 (.int .i64 0) 1 8 Try.underlying28 hi hz0 hz1 hz2 rfl (by decide) _ _ _ rfl (hrA.alloc _) ⟨wr.heap.size, 0, none⟩ 1 1 [.int .i64 x] rfl rfl (cell_one_new _ _ _) (ints_oneCell .i64 [x]) (by unfold maxLen; omega) (by omega) (by simp; omega) ?_; intro v4 w4 hown4 hg4 hnil4; go_frame)
          | go_in)
        go_ret
        refine ⟨_, rfl, Ns.of_row (base := w.heap.size) (e := 3) (zs := adF x zs) ?_, (ad_below hb hg4 hrA)⟩
        have e : adF x zs = os ++ [x] := by unfold adF; rw [HE.out]; rfl
        rw [e]
        simpa using hown4
      · go_wp2_with fail
        go_ret
        refine ⟨_, rfl, Ns.of_row (base := w.heap.size) (e := 3) (zs := adF x zs) ?_, hb⟩
        have e : adF x zs = os := by unfold adF; rw [HE.out]; rfl
        rw [e]
        exact hrA
end Go.Proofs.Ytehdbjfalpjpeaa
