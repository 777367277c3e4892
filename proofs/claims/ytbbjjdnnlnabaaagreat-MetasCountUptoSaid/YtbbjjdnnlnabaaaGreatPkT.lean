/- Texts of one proof, put together. No statement is proved here. -/
import Derived.Test.YtbbjjdnnlnabaaaGreatPkP
import Derived.Test.YtbbjjdnnlnabaaaGreatPkC
import Derived.Test.YtbbjjdnnlnabaaaGreatPkR
import Derived.Test.YtbbjjdnnlnabaaaGreatPkWg
import Derived.Test.YtbbjjdnnlnabaaaGreatZt
namespace Go.Proofs.YtbbjjdnnlnabaaaGreat
open Go.ChangeShapes Go.WideShapes Go.ChangeAt Go.RowKit
set_option linter.unusedVariables false
set_option linter.unusedSimpArgs false
theorem getD_app_l {l1 l2 : List T} {i : Nat} (d : T) (h : i < l1.length) : (l1 ++ l2).getD i d = l1.getD i d := by
  rw [List.getD_eq_getElem?_getD, List.getD_eq_getElem?_getD, List.getElem?_append_left h]
theorem getD_map {l : List T} {i : Nat} (g : T → T) (d : T) (h : i < l.length) : (l.map g).getD i d = g (l.getD i d) := by
  rw [List.getD_eq_getElem?_getD, List.getD_eq_getElem?_getD, List.getElem?_map, List.getElem?_eq_getElem h]
  rfl
end Go.Proofs.YtbbjjdnnlnabaaaGreat
namespace Go.Proofs.YtbbjjdnnlnabaaaGreat
open Go.ChangeShapes Go.WideShapes Go.ChangeAt Go.RowKit
set_option linter.unusedVariables false
set_option linter.unusedSimpArgs false
/-! ### Greater terms -/
mutual
theorem dpW_big : ∀ t : T, nd t ≤ 1099511627776 → dpW t = dp t
  | .node k h xs, hs => by
    rw [nd] at hs
    have := dpL_le xs
    rw [dpW, dpWL_big xs 0 (by omega) (by omega), dp, wrap_small (by omega) (by omega)]
    omega
theorem dpWL_big : ∀ (xs : List T) (m : Int), ndL xs ≤ 1099511627776 → 0 ≤ m → dpWL xs m = max m (dpL xs)
  | [], m, _, hm => by rw [dpWL, dpL]; omega
  | t :: ts, m, hs, hm => by
    rw [ndL] at hs
    rw [dpWL, dpW_big t (by omega), dpL]
    split
    · rw [dpWL_big ts _ (by omega) (by omega)]; omega
    · rw [dpWL_big ts _ (by omega) hm]; omega
end
theorem mayB_big {t : T} (h : nd t ≤ 1099511627776) : mayB t = myB t := by
  rw [Bool.eq_iff_iff, myB_iff, mayB, szW_eq, wrap_small (by omega) (by omega), dpW_big t h]
  simp only [Bool.and_eq_true, decide_eq_true_eq]
  exact ⟨fun ⟨⟨h1, h2⟩, h3⟩ => ⟨h1, by omega, by omega⟩, fun ⟨h1, h2, h3⟩ => ⟨⟨h1, by omega⟩, by omega⟩⟩
/-! ### Below so many nodes that bind -/
def unN (u : Nat) (L : List T) : List T := L.map (fun t => upT u t 0) ++ vsL u
theorem unN_zero (L : List T) : unN 0 L = L := by
  have : (fun t : T => upT ((0 : Nat) : Int) t 0) = id := funext fun t => up_zero t 0
  rw [unN, this]
  simp [vsL]
theorem unN_len (u : Nat) (L : List T) : (unN u L).length = L.length + u := by rw [unN, List.length_append, List.length_map, vsL_len]
theorem vs_up (u : Nat) : (vsL u).map (fun t => upT 1 t 0) ++ [T.node 4 0 []] = vsL (u + 1) := by
  unfold vsL
  rw [List.range_succ, List.map_append, List.map_map]
  congr 1
  · refine List.map_congr_left fun i hi => ?_
    have := List.mem_range.1 hi
    simp only [Function.comp_apply, upT, upL]
    rw [if_pos ⟨trivial, by omega⟩]
    congr 1
    omega
  · simp
theorem unN_succ (u : Nat) (L : List T) : (unN u L).map (fun t => upT 1 t 0) ++ [T.node 4 0 []] = unN (u + 1) L := by
  rw [unN, List.map_append, List.append_assoc, vs_up, List.map_map, unN]
  congr 1
  refine List.map_congr_left fun t _ => ?_
  simp only [Function.comp_apply]
  rw [up_up (by omega)]
  congr 1
def mpd (M : List T) (s i : Int) : T := if i < M.length then M.getD (M.length - 1 - i.toNat) (.node 0 0 []) else .node 4 (i - M.length + s) []
theorem mpd_un {L : List T} {sh h : Int} {u : Nat} (h0 : 0 ≤ h) : mpd (unN u L) (sh + u) h = if (u : Int) ≤ h then mpT L sh (h - u) u else .node 4 h [] := by
  unfold mpd mpT
  rw [unN_len]
  by_cases hu : (u : Int) ≤ h
  · rw [if_pos hu]
    by_cases hl : (L.length : Int) ≤ h - u
    · rw [if_neg (by omega), if_pos hl]
      congr 1
      omega
    · rw [if_pos (by omega), if_neg hl, unN, getD_app_l _ (by rw [List.length_map]; omega), getD_map _ _ (by omega)]
      congr 2
      omega
  · rw [if_neg hu, if_pos (by omega), unN, List.getD_eq_getElem?_getD, List.getElem?_append_right (by rw [List.length_map]; omega), List.length_map]
    have hlt : L.length + u - 1 - h.toNat - L.length < (vsL u).length := by rw [vsL_len]; omega
    have he := List.getElem?_eq_getElem hlt
    obtain ⟨_, e⟩ := vsL_at _ _ _ he
    rw [he, e, Option.getD_some]
    congr 1
    omega
structure SuT (M : List T) : Prop where
  all : ∀ t ∈ M, mayB t = true ∧ okT 1125899906842624 t ∧ nd t ≤ 4000
theorem su_un {n : Nat} {L : List T} {sh : Int} {u : Nat} (hs : Sub (bt n) L sh) (hu : u ≤ n) (hn : n ≤ 40000) : SuT (unN u L) := by
  refine ⟨fun t ht => ?_⟩
  rw [unN] at ht
  rcases List.mem_append.1 ht with ht | ht
  · obtain ⟨x, hx, rfl⟩ := List.mem_map.1 ht
    have hm := hs.may x hx
    have h4 := ((myB_iff x).1 hm).2.1
    have ho := okT_up (b := (u : Int)) (by omega) x 0 (hs.ok x hx)
    refine ⟨by rw [mayB_my (by rw [nd_up]; omega)]; exact my_up (by omega) hm, okT_mono (by have : bt n = 562949953421312 + n * 1048576 := rfl; omega) _ ho, by rw [nd_up]; exact h4⟩
  · obtain ⟨i, hi⟩ := List.getElem?_of_mem ht
    obtain ⟨h1, rfl⟩ := vsL_at _ _ _ hi
    exact ⟨by rw [mayB_my (by simp [nd, ndL])]; exact my_var (by omega), by rw [okT, okL]; exact ⟨fun _ => by omega, trivial⟩, by simp [nd, ndL]⟩
theorem rup_one {t : T} (hm : mayB t = true) (ho : okT 1125899906842624 t) (hn : nd t ≤ 4000) : rupX t 1 0 = upT 1 t 0 := by
  rw [rupX, if_pos (by rw [Bool.and_eq_true, mvB_iff]; exact ⟨by omega, hm⟩), upW_eq (by omega) (by omega) t 0 ho (by omega) (by omega)]
theorem rup_zero {w : World} {t : T} {v : Value} (hv : Rd w t v) : rupX t 0 0 = t := by
  rw [rupX]
  split
  · exact upW_zero t v 0 hv
  · exact upW_zero t v 0 hv
def rndX (M : List T) : List T := M.map (fun t => rupX t 1 0) ++ [T.node 4 0 []]
theorem rnd_un {M : List T} (hM : SuT M) : rndX M = M.map (fun t => upT 1 t 0) ++ [T.node 4 0 []] := by
  rw [rndX]
  congr 1
  refine List.map_congr_left fun t ht => ?_
  obtain ⟨h1, h2, h3⟩ := hM.all t ht
  exact rup_one h1 h2 h3
end Go.Proofs.YtbbjjdnnlnabaaaGreat
namespace Go.Proofs.YtbbjjdnnlnabaaaGreat
open Go.ChangeShapes Go.WideShapes Go.ChangeAt Go.RowKit
set_option linter.unusedVariables false
set_option linter.unusedSimpArgs false
set_option maxHeartbeats 2000000
abbrev wk2 (w : World) (pw n : Nat) (e : Int) : Prop := Box w pw 125 #[.int .i64 (n : Int), .int .i64 e]
theorem Fr.put {X : Nat → Prop} {w w' : World} (h : Fr X w w') {a : Addr} (ha : a.block < w.heap.size → X a.block) (v : Value) : Fr X w (w'.setCell a v) :=
  ⟨h.os, h.tape, h.output, by simpa [World.setCell] using h.size, fun k hk hx => (Below.heap_setCell _ _ _ _ (fun e => by subst e; exact hx (ha hk))).trans (h.block k hk hx)⟩
theorem wk2.put {w : World} {pw n : Nat} {e : Int} (h : wk2 w pw n e) (m : Int) : wk2 (w.setCell ⟨pw, 1, none⟩ (.int .i64 m)) pw n m := by
  have := h.setAt 1 (.int .i64 m)
  simpa using this
theorem wk2.count {w : World} {pw n : Nat} {e : Int} (h : wk2 w pw n e) : wk2 (w.setCell ⟨pw, 0, none⟩ (.int .i64 ((n : Int) + 1))) pw (n + 1) e := by
  have := h.setAt 0 (.int .i64 ((n : Int) + 1))
  rw [wk2, Int.natCast_succ]
  simpa using this
theorem rfailC (pw n : Nat) (ec : Int) (w : World) (hwk : wk2 w pw n 0) :
    Calls Tryz.prog 107 #[.pointer (some ⟨pw, 0, none⟩), .int .i64 ec] w fun e w' => e = .returned zT ∧ Fr (fun k => k = pw) w w' ∧ wk2 w' pw n ec := by
  have lpw := hwk.lt
  obtain ⟨c0, c1⟩ := hwk.two
  have f1 := hwk.frozen 1
  go_enter Tryz.func107, Tryz.ntmps107
  go_wp2_with fail
  refine bodyPost_ret (v := zT) (by simp [results, Tryz.results107, go_sem]) rfl ?_
  refine ⟨rfl, ((Fr.refl (fun k => k = pw) w).put (fun _ => rfl) _).then ((Below.refl _ _).alloc (Nat.le_refl _) _), Box.alloc (hwk.put ec) _⟩
theorem mappedC (M : List T) (A : Option Addr) (n c : Nat) (s i : Int) (w : World) (hn : M.length = n) (hc : n ≤ c) (hm : c ≤ maxLen) (hx : ∀ i t, M[i]? = some t → RdAt w A i t) (hnd : ∀ t ∈ M, nd t ≤ 1048576) (h0 : 0 ≤ i) (h1 : i ≤ 4503599627370496) (h2 : -4503599627370496 ≤ s ∧ s ≤ 4503599627370496) (hn4 : n ≤ 4503599627370496) :
    Calls Tryz.prog 110 #[.agg #[.slice A n c, .int .i64 s], .int .i64 i] w (FEnd (mpd M s i) w) := by
  unfold maxLen at hm
  have HN := Lib.hid hn; clear hn
  have HX := Lib.hid hx; clear hx
  have HND := Lib.hid hnd; clear hnd
  obtain ⟨W, hW⟩ : ∃ W, (w.alloc (.cells #[.slice A n c, .int .i64 s] 105)).alloc (.cells #[.int .i64 0, .int .i64 0, .slice none 0 0] 39) = W := ⟨_, rfl⟩
  have hb : Below w.heap.size w W := by rw [← hW]; exact ((Below.refl _ _).alloc (Nat.le_refl _) _).alloc (by simp) _
  have xS : Box W w.heap.size 105 #[.slice A n c, .int .i64 s] := by rw [← hW]; exact (Box.new _ _ _).alloc _
  have xR : Box W (w.heap.size + 1) 39 #[.int .i64 0, .int .i64 0, .slice none 0 0] := by rw [← hW]; exact (Box.new (w.alloc _) _ _).at (by simp)
  have HW := Lib.hid hW; clear hW
  by_cases hlt : i < n
  · have d1 : decide (i < (n : Int)) = true := by simpa using hlt
    obtain ⟨j, hj⟩ : ∃ j : Nat, (j : Int) = n - 1 - i := ⟨n - 1 - i.toNat, by omega⟩
    have hjn : j < n := by omega
    obtain ⟨t, ht⟩ := at_of HN.out hjn
    obtain ⟨b, o, k2, h2', A2, n2, c2', rfl, c0, c1, c2, hr⟩ := (HX.out j t ht).full
    have lb := cell_lt c0
    dsimp only at lb
    have hmp : mpd M s i = t := by
      have hN := HN.out
      rw [mpd, if_pos (by omega), List.getD_eq_getElem?_getD, show M.length - 1 - i.toNat = j by omega, ht]
      rfl
    have HMP := Lib.hid hmp; clear hmp
    have hnt := HND.out t (List.mem_of_getElem? ht)
    have hjj : ((n : Int) - 1 - i).toNat = j := by omega
    rw [← hjj] at c0 c1 c2
    have hi0 : 0 ≤ (n : Int) - 1 - i := by omega
    have hi1 : (n : Int) - 1 - i < n := by omega
    clear hj hjj
    have HT := Lib.hid ht; clear ht
    have HR := Lib.hid hr; clear hr
    go_enter Tryz.func110, Tryz.ntmps110
    go_wp2_with fail
    rw [HW.out]
    clear HW
    refine (refUpC t 0 0 _ _ (Rd.keep hb _ _ HR.out) hnt).mono ?_
    rw [rup_zero HR.out]
    rintro e w2 ⟨v2, rfl, hrf, hb2⟩
    obtain ⟨k3, h3, A3, n3, c3, rfl⟩ := hrf.full
    have lR := xR.lt
    have zR := xR.keep hb2 lR
    have sz := hb.size
    have HB := Lib.hid (hb.trans (hb2.mono hb.size))
    have HH := Lib.hid hrf; clear hrf hb2 c0 c1 c2 lb
    obtain ⟨r0, r1, r2⟩ := zR.three
    have f0 := zR.frozen 0
    have f1 := zR.frozen 1
    have f2 := zR.frozen 2
    go_wp2_with fail
    refine bodyPost_ret (v := .agg #[.int .i64 k3, .int .i64 h3, .slice A3 n3 c3]) (by simp [results, Tryz.results110, go_sem, r0, r1, r2]) rfl ?_
    refine ⟨_, rfl, ?_, below_set3 HB.out (by omega) _ _ _⟩
    rw [HMP.out]
    exact RdF.move (fun g hg => ⟨by omega, by simpa using hg.2⟩) (fun g hg _ => heap_other3 _ _ _ _ _ _ (by omega)) _ _ HH.out
  · have d1 : decide (i < (n : Int)) = false := by simpa using hlt
    have e1 : IntKind.i64.wrap (i - n) = i - n := by rw [wrapEq]; exact wrap_small (by omega) (by omega)
    have e2 : IntKind.i64.wrap (i - n + s) = i - n + s := by rw [wrapEq]; exact wrap_small (by omega) (by omega)
    have hmp : mpd M s i = .node 4 (i - n + s) [] := by
      have hN := HN.out
      rw [mpd, if_neg (by omega), hN]
    have HMP := Lib.hid hmp; clear hmp
    have hwf : (Lit.int .i64 (i - n + s)).wf = true := by
      have := wf_wrap64 (i - n + s)
      rwa [wrap_small (by omega) (by omega)] at this
    clear xS xR HW hb
    go_enter Tryz.func110, Tryz.ntmps110
    go_wp2_with fail
    refine bodyPost_ret (v := .agg #[.int .i64 4, .int .i64 (i - n + s), .slice none 0 0]) (by simp [results, Tryz.results110, go_sem]) rfl ?_
    refine ⟨_, rfl, ?_, ((Below.refl _ _).alloc (Nat.le_refl _) _).alloc (by simp) _⟩
    rw [HMP.out]
    exact rx_leaf' (by decide) hwf
theorem rmayC (L : List T) (A : Option Addr) (n c : Nat) (sh : Int) (w : World) (hn : L.length = n) (hc : n ≤ c) (hm : c ≤ maxLen) (hx : ∀ i t, L[i]? = some t → RdAt w A i t) (hnd : ∀ t ∈ L, nd t ≤ 1099511627776) :
    Calls Tryz.prog 95 #[.agg #[.slice A n c, .int .i64 sh]] w fun e w' => e = .returned (.bool (sbB L sh)) ∧ Below w.heap.size w w' := by
  have hb0 : Below w.heap.size w (w.alloc (.cells #[.slice A n c, .int .i64 sh] 105)) := (Below.refl _ _).alloc (Nat.le_refl _) _
  have xS : Box (w.alloc (.cells #[.slice A n c, .int .i64 sh] 105)) w.heap.size 105 #[.slice A n c, .int .i64 sh] := Box.new _ _ _
  have E : sbB L sh = (decide (n ≤ 200) && decide (0 ≤ sh) && decide (sh ≤ 1048576) && L.all myB) := by rw [sbB, hn]
  have HN := Lib.hid hn; clear hn
  have HX := Lib.hid hx; clear hx
  have HND := Lib.hid hnd; clear hnd
  unfold maxLen at hm
  by_cases h1 : (200 : Int) < n
  · have d1 : decide ((200 : Int) < n) = true := by simpa using h1
    have HE : Hid (sbB L sh = false) := Lib.hid (by rw [E]; simp; omega)
    clear E
    go_enter Tryz.func95, Tryz.ntmps95
    go_wp2_with fail
    go_ret
    exact ⟨ret_bool HE.out.symm, hb0⟩
  have d1 : decide ((200 : Int) < n) = false := by simpa using h1
  by_cases h2 : sh < 0
  · have d2 : decide (sh < 0) = true := by simpa using h2
    have HE : Hid (sbB L sh = false) := Lib.hid (by rw [E]; simp; omega)
    clear E
    go_enter Tryz.func95, Tryz.ntmps95
    go_wp2_with fail
    go_ret
    exact ⟨ret_bool HE.out.symm, hb0⟩
  have d2 : decide (sh < 0) = false := by simpa using h2
  by_cases h3 : 1048576 < sh
  · have d3 : decide (1048576 < sh) = true := by simpa using h3
    have HE : Hid (sbB L sh = false) := Lib.hid (by rw [E]; simp; omega)
    clear E
    go_enter Tryz.func95, Tryz.ntmps95
    go_wp2_with fail
    go_ret
    exact ⟨ret_bool HE.out.symm, hb0⟩
  have d3 : decide (1048576 < sh) = false := by simpa using h3
  have HE : Hid (sbB L sh = L.all myB) := Lib.hid (by
    rw [E, show decide (n ≤ 200) = true by simp; omega, show decide (0 ≤ sh) = true by simp; omega, show decide (sh ≤ 1048576) = true by simp; omega]
    simp)
  clear E
  go_enter Tryz.func95, Tryz.ntmps95
  go_wp2_with fail
  go_loopw [3] (fun i wr => ∃ (j : Nat), j ≤ n ∧ i = .int .i64 j ∧ Hid ((L.drop j).all myB = sbB L sh) ∧ Box wr w.heap.size 105 #[.slice A n c, .int .i64 sh] ∧ Below w.heap.size w wr) (fun i _ => n - (intOf i).toNat)
  case atStart => exact ⟨0, Nat.zero_le _, rfl, Lib.hid (by rw [HE.out]; simp), xS, hb0⟩
  case round =>
    clear xS hb0
    obtain ⟨j, hj, rfl, HS, xS, hb⟩ := hrel
    obtain ⟨a0, a1⟩ := xS.two
    by_cases hlt : j < n
    · obtain ⟨t, ht⟩ := at_of HN.out hlt
      obtain ⟨b, o, k2, h2, A2, n2, c2', rfl, c0, c1, c2, hr⟩ := (RdAt.keep hb (HX.out j t ht)).full
      have HT := Lib.hid ht; clear ht
      have hi0 : (0 : Int) ≤ j := by omega
      have hi1 : (j : Int) < n := by omega
      go_wp2_with fail
      refine (refMay t _ _ hr).mono ?_
      rw [mayB_big (HND.out t (List.mem_of_getElem? HT.out))]
      have HS' := HS.out
      rw [drop_at HT.out, List.all_cons] at HS'
      have HS := Lib.hid HS'; clear HS'
      generalize myB t = r at *
      rintro e w1 ⟨rfl, hb1⟩
      clear c0 c1 c2 a0 a1
      replace xS := xS.keep hb1 xS.lt
      replace hb := hb.trans (hb1.mono hb.size)
      clear hb1
      cases r
      · go_wp2_with fail
        go_ret
        exact ⟨ret_bool (by simpa using HS.out), hb⟩
      · go_wp2_with fail
        go_roundw
        case rel => exact ⟨j + 1, by omega, by go_num, Lib.hid (by simpa using HS.out), xS, hb⟩
        case measure => simp [intOf]; omega
    · go_wp2_with fail
      go_ret
      exact ⟨ret_bool (by have := HS.out; rw [drop_all HN.out (by omega)] at this; exact this), hb⟩
set_option maxRecDepth 100000
set_option maxHeartbeats 8000000
def SUd (z : Nat) (bA oA n c : Nat) (vs : Value) (j : Nat) (k2 h2 : Int) (A2 : Option Addr) (n2 c2 : Nat) (w' : World) : Prop :=
  w'.cell? ⟨z, 0, none⟩ = some (.slice (some ⟨bA, oA, none⟩) n c) ∧ w'.cell? ⟨z + 1 + 1, 0, none⟩ = some vs ∧ w'.cell? ⟨bA, oA + j * 3, none⟩ = some (.int .i64 k2) ∧
    w'.cell? ⟨bA, oA + j * 3 + 1, none⟩ = some (.int .i64 h2) ∧ w'.cell? ⟨bA, oA + j * 3 + 2, none⟩ = some (.slice A2 n2 c2)
structure RuI (M : List T) (A : Option Addr) (n c : Nat) (s : Int) (w : World) (j : Nat) (wr : World) (Av : Option Addr) (cv : Nat) (cs : List Value) : Prop where
  box : Box wr w.heap.size 105 #[.slice A n c, .int .i64 s]
  res : Box wr (w.heap.size + 1) 105 #[.slice none 0 0, .int .i64 0]
  out : Box wr (w.heap.size + 1 + 1) 105 #[.slice Av j cv, .int .i64 (wrap64 (s + 1))]
  row : GRow (fun b => b < w.heap.size + 3) wr (w.heap.size + 3) (.slice Av j cv) j cs ((M.map fun t => rupX t 1 0).take j)
  below : Below w.heap.size w wr
theorem runderC {M : List T} {A : Option Addr} {n c : Nat} {s : Int} {w : World} (hn : M.length = n) (hc : n ≤ c) (hm : c ≤ maxLen) (hx : ∀ i t, M[i]? = some t → RdAt w A i t) (hnd : ∀ t ∈ M, nd t ≤ 1048576) (hn4 : n ≤ 100000000) :
    Calls Tryz.prog 108 #[.agg #[.slice A n c, .int .i64 s]] w (SEnd (rndX M) (wrap64 (s + 1)) w) := by
  unfold maxLen at hm
  obtain ⟨W, hW⟩ : ∃ W, ((w.alloc (.cells #[.slice A n c, .int .i64 s] 105)).alloc (.cells #[.slice none 0 0, .int .i64 0] 105)).alloc (.cells #[.slice none 0 0, .int .i64 (wrap64 (s + 1))] 105) = W := ⟨_, rfl⟩
  have HI : Hid (RuI M A n c s w 0 W none 0 []) := Lib.hid ⟨by rw [← hW]; exact ((Box.new _ _ _).alloc _).alloc _, by rw [← hW]; exact ((Box.new (w.alloc _) _ _).at (by simp)).alloc _, by rw [← hW]; exact (Box.new ((w.alloc _).alloc _) _ _).at (by simp),
    GRow.nil _ _ _, by rw [← hW]; exact (((Below.refl _ _).alloc (Nat.le_refl _) _).alloc (by simp) _).alloc (by simp; omega) _⟩
  have HW := Lib.hid hW; clear hW
  have HN := Lib.hid hn; clear hn
  have HX := Lib.hid hx; clear hx
  have HND := Lib.hid hnd; clear hnd
  have hw0 : IntKind.i64.wrap (s + 1) = wrap64 (s + 1) := wrapEq _
  go_enter Tryz.func108, Tryz.ntmps108
  go_wp2_with fail
  rw [HW.out]
  clear HW hw0
  go_loopw [4] (fun i wr => ∃ (j : Nat) (Av : Option Addr) (cv : Nat) (cs : List Value), j ≤ n ∧ i = .int .i64 j ∧ Hid (RuI M A n c s w j wr Av cv cs)) (fun i _ => n - (intOf i).toNat)
  case atStart => exact ⟨0, none, 0, [], Nat.zero_le _, rfl, HI⟩
  case round =>
    clear HI
    obtain ⟨j, Av, cv, cs, hj, rfl, HI⟩ := hrel
    obtain ⟨a0, a1⟩ := HI.out.box.two
    have hbr := HI.out.below
    by_cases hlt : j < n
    · obtain ⟨t, ht⟩ := at_of HN.out hlt
      obtain ⟨bA, oA, k2, h2, A2, n2, c2', rfl, c0, c1, c2, hr⟩ := (RdAt.keep hbr (HX.out j t ht)).full
      have HT := Lib.hid ht; clear ht
      have HR := Lib.hid hr; clear hr
      have hi0 : (0 : Int) ≤ j := by omega
      have hi1 : (j : Int) < n := by omega
      go_wp2_with fail
      obtain ⟨r0, r1⟩ := HI.out.out.two
      have HKS : Hid (∀ w' : World, (∀ g, g < wr.heap.size → some g ≠ Value.ownBlock (.slice Av j cv) → w'.heap[g]? = wr.heap[g]?) → SUd w.heap.size bA oA n c (.slice Av j cv) j k2 h2 A2 n2 c2' w') := Lib.hid fun w' hw' => by
        have nb : ∀ g, g < w.heap.size + 3 → some g ≠ Value.ownBlock (.slice Av j cv) := fun g hg e => by
          have := HI.out.row.lt e.symm
          omega
        have lA := cell_lt c0
        have lA' : bA < w.heap.size + 3 := by
          obtain ⟨bA', oA', _, _, _, _, _, e, q0, _⟩ := (HX.out j t HT.out).full
          have := cell_lt q0
          injection e with e; injection e with e1 e2
          dsimp only at this
          omega
        have l1 := HI.out.box.lt
        have l3 := HI.out.out.lt
        have m1 : ∀ q, w'.cell? ⟨w.heap.size, q, none⟩ = wr.cell? ⟨w.heap.size, q, none⟩ := fun q => World.cell?_of_block (hw' w.heap.size l1 (nb w.heap.size (by omega)))
        have m3 : ∀ q, w'.cell? ⟨w.heap.size + 1 + 1, q, none⟩ = wr.cell? ⟨w.heap.size + 1 + 1, q, none⟩ := fun q => World.cell?_of_block (hw' (w.heap.size + 1 + 1) l3 (nb (w.heap.size + 1 + 1) (by omega)))
        have mA : ∀ q, w'.cell? ⟨bA, q, none⟩ = wr.cell? ⟨bA, q, none⟩ := fun q => World.cell?_of_block (hw' bA lA (nb bA lA'))
        exact ⟨(m1 _).trans a0, (m3 _).trans r0, (mA _).trans c0, (mA _).trans c1, (mA _).trans c2⟩
      have hS := HKS.out wr.drew fun g _ _ => rfl
      refine wp_region_cut rfl (by kernel_rfl) (by kernel_rfl) ?_
      refine wpAny_of_held (S := SUd w.heap.size bA oA n c (.slice Av j cv) j k2 h2 A2 n2 c2') _ _ _ _ ?_
      simp only [List.pop_toArray, List.dropLast, List.size_toArray, List.length_cons, List.length_nil, Nat.reduceAdd, Nat.reduceSub]
      refine zzT (i := 0) (v := .pointer (some ⟨w.heap.size + 1 + 1, 0, none⟩)) rfl hS ?_
      simp only [Act.put, List.setIfInBounds_toArray]
      refine zzT (i := 1) (v := .slice Av j cv) rfl hS ?_
      simp only [Act.put]
      refine zzT (i := 2) (v := .pointer (some ⟨w.heap.size, 0, none⟩)) rfl hS ?_
      simp only [Act.put]
      refine zzT (i := 3) (v := .slice (some ⟨bA, oA, none⟩) n c) rfl hS ?_
      simp only [Act.put]
      refine zzT (i := 4) (v := .int .i64 j) rfl hS ?_
      simp only [Act.put]
      refine zzT (i := 5) (v := .pointer (some ⟨bA, oA + j * 3, none⟩)) rfl hS ?_
      simp only [Act.put]
      refine zzT (i := 6) (v := .agg #[.int .i64 k2, .int .i64 h2, .slice A2 n2 c2']) rfl hS ?_
      simp only [Act.put]
      refine wpAnyH_ready (rs := [7]) (by kernel_rfl) (by simp) ?_
      refine AllReadyH.cons rfl (fun K hK => ?_) AllReadyH.nil
      go_simp
      refine (refUpC t 1 0 _ wr.drew (Rd.keep (Below.refl _ wr).drew _ _ HR.out) (HND.out t (List.mem_of_getElem? HT.out))).mono ?_
      rintro e w2 ⟨v2, rfl, hrf, hb1⟩
      obtain ⟨k3, h3, A3, n3, c3, rfl⟩ := hrf.full
      have hbC : Below wr.heap.size wr w2 := (Below.refl _ wr).drew.trans hb1
      have HRF := Lib.hid hrf; clear hrf hb1
      refine hK.out _ _ (HKS.out w2 fun g hg _ => hbC.block g hg) (fun hS => ?_)
      clear hK K
      try simp only [Act.put, zzP]
      refine wpAnyH_ready (rs := [8]) (by kernel_rfl) (by simp) ?_
      refine AllReadyH.cons rfl (fun K hK => ?_) AllReadyH.nil
      go_simp
      have hbD : Below wr.heap.size wr (w2.alloc (.cells #[.int .i64 k3, .int .i64 h3, .slice A3 n3 c3] 39)) := hbC.alloc hbC.size _
      refine hK.out _ _ (HKS.out _ fun g hg _ => hbD.block g hg) (fun hS => ?_)
      clear hK K
      try simp only [Act.put, zzP]
      refine wpAnyH_ready (rs := [9]) (by kernel_rfl) (by simp) ?_
      refine AllReadyH.cons rfl (fun K hK => ?_) AllReadyH.nil
      obtain ⟨i0, hi, hz0, hz1, hz2⟩ := info_parts infoTerm
      refine step_append_lies (w2.alloc (.cells #[.int .i64 k3, .int .i64 h3, .slice A3 n3 c3] 39)) rfl (.tmp 17) (.tmp 24) 24 rfl (w.heap.size + 3) 39 i0 _ 3 40 Tryz.underlying24 hi hz0 hz1 hz2 rfl (by omega) (.slice Av j cv) j cs rfl (HI.out.row.own.kept (grown_of_below hbD) (own_none _)) ⟨w2.heap.size, 0, none⟩ 1 1 [.int .i64 k3, .int .i64 h3, .slice A3 n3 c3] rfl rfl (World.news_of_block (heap_alloc_new w2 _)) (by intro u hu; simp at hu; rcases hu with rfl | rfl | rfl <;> rfl) (by omega) (by unfold maxLen; omega) (by omega) (by have := hbD.size; have := HI.out.out.lt; omega) _ rfl ?_
      intro g cap w4 how4 hgr hg4 hlt4
      clear hi hz0 hz1 hz2 i0
      refine hK.out _ _ (HKS.out w4 fun g' hg' hne => (hgr.block g' (Nat.lt_of_lt_of_le hg' hbD.size) hne).trans (hbD.block g' hg')) (fun hS => ?_)
      clear hK K
      try simp only [Act.put, List.setIfInBounds_toArray]
      refine zzT (i := 10) (v := .pointer (some ⟨w.heap.size + 1 + 1, 0, none⟩)) rfl hS ?_
      simp only [Act.put]
      refine wpAnyH_done (by kernel_rfl) ?_ _
      show wpList _ _ _ _ _ _
      have hrow2 : GRow (fun b => b < w.heap.size + 3) w2 (w.heap.size + 3) (.slice Av j cv) j cs ((M.map fun t => rupX t 1 0).take j) := HI.out.row.move (fun b hb _ => hbC.block b hb) (fun g hg => by have := (HI.out.row.lt hg).1; omega)
      have lo3 := HI.out.out.lt
      have hds : wr.drew.heap.size = wr.heap.size := rfl
      have hrow4 := hrow2.grow (RdF.moveX (fun b hb _ => ⟨⟨by omega, fun e => by have := (HI.out.row.lt e.symm).2; omega⟩, rfl⟩) _ _ HRF.out) how4 hgr (by rcases hg4 with h | h; exact .inl h; exact .inr (by simpa using h))
      have nb : ∀ g, g < w.heap.size + 3 → some g ≠ Value.ownBlock (.slice Av j cv) := fun g hg e => by
        have := HI.out.row.lt e.symm
        omega
      have hw4 : ∀ g', g' < wr.heap.size → some g' ≠ Value.ownBlock (.slice Av j cv) → w4.heap[g']? = wr.heap[g']? := fun g' hg' hne => (hgr.block g' (Nat.lt_of_lt_of_le hg' hbD.size) hne).trans (hbD.block g' hg')
      have z1 : Box w4 w.heap.size _ _ := (hw4 _ HI.out.box.lt (nb _ (by omega))).trans HI.out.box
      have z2 : Box w4 (w.heap.size + 1) _ _ := (hw4 _ HI.out.res.lt (nb _ (by omega))).trans HI.out.res
      have z3 : Box w4 (w.heap.size + 1 + 1) _ _ := (hw4 _ HI.out.out.lt (nb _ (by omega))).trans HI.out.out
      have hb4 : Below w.heap.size w w4 := below_grown (hbr.trans (hbD.mono hbr.size)) hgr (fun r hr => by have := HI.out.row.lt hr; omega) (by have := hbD.size; omega)
      have hrow5 : GRow (fun b => b < w.heap.size + 3) (w4.setCell ⟨w.heap.size + 1 + 1, 0, none⟩ (.slice (some ⟨g, 0, none⟩) (j + 1) cap)) (w.heap.size + 3) (.slice (some ⟨g, 0, none⟩) (j + 1) cap) (j + 1) (cs ++ [.int .i64 k3, .int .i64 h3, .slice A3 n3 c3]) ((M.map fun t => rupX t 1 0).take (j + 1)) := by
        have e : (M.map fun t => rupX t 1 0).take j ++ [rupX t 1 0] = (M.map fun t => rupX t 1 0).take (j + 1) := by
          rw [List.take_succ_eq_append_getElem (by rw [List.length_map, HN.out]; exact hlt), List.getElem_map]
          have htj : M[j]'(by rw [HN.out]; exact hlt) = t := by
            have := HT.out
            rw [List.getElem?_eq_getElem (by rw [HN.out]; exact hlt)] at this
            exact Option.some.inj this
          rw [htj]
        rw [← e]
        exact hrow4.move (fun b _ hb => Below.heap_setCell _ _ _ _ (by dsimp only; omega)) (fun g' hg' => by have := (hrow4.lt hg').1; omega)
      have HJ : Hid (RuI M (some ⟨bA, oA, none⟩) n c s w (j + 1) (w4.setCell ⟨w.heap.size + 1 + 1, 0, none⟩ (.slice (some ⟨g, 0, none⟩) (j + 1) cap)) (some ⟨g, 0, none⟩) cap (cs ++ [.int .i64 k3, .int .i64 h3, .slice A3 n3 c3])) := Lib.hid
        ⟨z1.other (by dsimp only; omega) _, z2.other (by dsimp only; omega) _, by simpa using z3.setAt 0 (.slice (some ⟨g, 0, none⟩) (j + 1) cap), hrow5, hb4.setCell (by dsimp only; omega) _⟩
      obtain ⟨q0, q1⟩ := z3.two
      have f0 := z3.frozen 0
      have l4 := z3.lt
      clear hrow2 hrow4 hrow5 how4 hgr hg4 hb4 hbD hbC hw4 nb z1 z2 z3 HRF hS
      go_wp2_with fail
      go_roundw
      case rel => exact ⟨j + 1, some ⟨g, 0, none⟩, cap, _, by omega, by go_num, HJ⟩
      case measure => simp [intOf]; omega
    · obtain rfl : j = n := by omega
      obtain ⟨o0, o1⟩ := HI.out.out.two
      have lres := HI.out.res.lt
      have lout := HI.out.out.lt
      obtain ⟨g, cap, w4, hrun, hrow, hold, hb4⟩ := HI.out.row.push (t := .node 4 0 []) (k := 4) (h := 0) (A := none) (m := 0) (c := 0) (rx_leaf' (by decide) (by decide)) (by omega) (by omega)
      have nb : ∀ q, q < w.heap.size + 3 → some q ≠ Value.ownBlock (.slice Av j cv) := fun q hq e => by have := (HI.out.row.lt e.symm).1; omega
      have z2 : Box w4 (w.heap.size + 1) _ _ := (hold _ lres (nb _ (by omega))).trans HI.out.res
      have z3 : Box w4 (w.heap.size + 1 + 1) _ _ := (hold _ lout (nb _ (by omega))).trans HI.out.out
      have lw4 := z3.lt
      obtain ⟨q0, q1⟩ := z3.two
      have g0 := z3.frozen 0
      have hset : ∀ b, w.heap.size + 3 ≤ b → ((((w4.setCell ⟨w.heap.size + 1 + 1, 0, none⟩ (.slice (some ⟨g, 0, none⟩) (j + 1) cap)).setCell ⟨w.heap.size + 1, 0, none⟩ (.slice (some ⟨g, 0, none⟩) (j + 1) cap)).setCell ⟨w.heap.size + 1, 1, none⟩ (.int .i64 (wrap64 (s + 1)))).heap)[b]? = w4.heap[b]? := fun b hb => ((Below.heap_setCell _ _ _ _ (by dsimp only; omega)).trans (Below.heap_setCell _ _ _ _ (by dsimp only; omega))).trans (Below.heap_setCell _ _ _ _ (by dsimp only; omega))
      have y2 : Box (w4.setCell ⟨w.heap.size + 1 + 1, 0, none⟩ (.slice (some ⟨g, 0, none⟩) (j + 1) cap)) (w.heap.size + 1) _ _ := z2.other (by dsimp only; omega) _
      have y3 : Box (w4.setCell ⟨w.heap.size + 1 + 1, 0, none⟩ (.slice (some ⟨g, 0, none⟩) (j + 1) cap)) (w.heap.size + 1 + 1) 105 #[.slice (some ⟨g, 0, none⟩) (j + 1) cap, .int .i64 (wrap64 (s + 1))] := by simpa using z3.setAt 0 (.slice (some ⟨g, 0, none⟩) (j + 1) cap)
      have hrl : RXL (fun b => b < w.heap.size) (((w4.setCell ⟨w.heap.size + 1 + 1, 0, none⟩ (.slice (some ⟨g, 0, none⟩) (j + 1) cap)).setCell ⟨w.heap.size + 1, 0, none⟩ (.slice (some ⟨g, 0, none⟩) (j + 1) cap)).setCell ⟨w.heap.size + 1, 1, none⟩ (.int .i64 (wrap64 (s + 1)))) (rndX M) (some ⟨g, 0, none⟩) (j + 1) cap := by
        rw [List.take_of_length_le (by rw [List.length_map, HN.out]; exact Nat.le_refl _)] at hrow
        exact ((hrow.move (fun b _ hb => hset b (by omega)) (fun g' hg' => by have := (hrow.lt hg').1; omega)).rxl (fun b hb => hb)).mono fun b _ hb => by omega
      have HRL := Lib.hid hrl
      have HBB : Hid (Below w.heap.size w (((w4.setCell ⟨w.heap.size + 1 + 1, 0, none⟩ (.slice (some ⟨g, 0, none⟩) (j + 1) cap)).setCell ⟨w.heap.size + 1, 0, none⟩ (.slice (some ⟨g, 0, none⟩) (j + 1) cap)).setCell ⟨w.heap.size + 1, 1, none⟩ (.int .i64 (wrap64 (s + 1))))) := Lib.hid ((((hbr.trans (hb4.mono (by omega))).setCell (by dsimp only; omega) _).setCell (by dsimp only; omega) _).setCell (by dsimp only; omega) _)
      obtain ⟨r0, r1⟩ := y2.two
      obtain ⟨t0, t1⟩ := y3.two
      have f0 := y2.frozen 0
      have f1 := y2.frozen 1
      clear hrow hold hb4 nb hset hrl
      go_wp2_with (at_builtin; refine Lib.wpList_append_run _ rfl _ _ _ _ rfl _ _ rfl rfl _ _ hrun ?_)
      refine bodyPost_ret (v := .agg #[.slice (some ⟨g, 0, none⟩) (j + 1) cap, .int .i64 (wrap64 (s + 1))]) (by simp [results, Tryz.results108, go_sem, r0, r1]) rfl ?_
      exact ⟨_, _, _, rfl, HRL.out, HBB.out⟩
def QEnd (pw : Nat) (X : Nat → Prop) (w : World) (r : Res) (e : Ending) (w' : World) : Prop :=
  ∃ k h A n c, e = .returned (.agg #[.int .i64 k, .int .i64 h, .slice A n c]) ∧ Fr (fun k => k = pw) w w' ∧
    match r with
    | .ok (t, m) => RX X w' t (.agg #[.int .i64 k, .int .i64 h, .slice A n c]) ∧ wk2 w' pw m 0
    | .error ec => ec ≠ 0 ∧ (∃ m, wk2 w' pw m ec) ∧ Value.agg #[.int .i64 k, .int .i64 h, .slice A n c] = zT
def QpC (f : Nat) : Prop := ∀ (L : List T) (sh : Int) (u : Nat) (t : T) (n : Nat) (v : Value) (w : World) (pw : Nat) (X : Nat → Prop) (A : Option Addr) (m c : Nat),
  40001 ≤ n + f → u ≤ n → n ≤ 40000 → L.length ≤ 1000000 → Sub (bt n) L sh → Way (bt n - sh) t → nd t ≤ 200000000 → X pw → (∀ b, X b → b < w.heap.size) → wk2 w pw n 0 → RXL X w (unN u L) A m c → RX X w t v →
  Calls Tryz.prog 96 #[.pointer (some ⟨pw, 0, none⟩), v, .agg #[.slice A m c, .int .i64 (sh + u)]] w (QEnd pw X w (ap f L sh u t n))
def QsC (f : Nat) : Prop := ∀ (t : T) (args : List T) (n : Nat) (v : Value) (A : Option Addr) (m c : Nat) (w : World) (pw : Nat) (X : Nat → Prop),
  40001 ≤ n + f → n ≤ 40000 → Way (bt n) t → WayL (bt n) args → nd t ≤ 200000000 → ndL args ≤ 200000000 → X pw → (∀ b, X b → b < w.heap.size) → wk2 w pw n 0 → RX X w t v → RXL X w args A m c →
  Calls Tryz.prog 109 #[.pointer (some ⟨pw, 0, none⟩), v, .slice A m c] w (QEnd pw X w (sp f t args n))
end Go.Proofs.YtbbjjdnnlnabaaaGreat
