/-
  Contracts of the document's own fail, mapped and May of layer 3, of few and of List. No statement is proved here.
-/
import Derived.Test.YtinjeocfnhhlmaaTa
namespace Go.Proofs.Ytinjeocfnhhlmaa
open Go.ChangeShapes Go.WideShapes Go.ChangeAt Go.RowKit
set_option linter.unusedVariables false

/-- how many nodes were gone to, and what went wrong -/
abbrev wk2 (w : World) (pw n : Nat) (e : Int) : Prop := Box w pw 105 #[.int .i64 (n : Int), .int .i64 e]

theorem Fr.put {X : Nat → Prop} {w w' : World} (h : Fr X w w') {a : Addr} (ha : a.block < w.heap.size → X a.block) (v : Value) : Fr X w (w'.setCell a v) :=
  ⟨h.os, h.tape, h.output, by simpa [World.setCell] using h.size, fun k hk hx => (Below.heap_setCell _ _ _ _ (fun e => by subst e; exact hx (ha hk))).trans (h.block k hk hx)⟩
theorem wk2.put {w : World} {pw n : Nat} {e : Int} (h : wk2 w pw n e) (m : Int) : wk2 (w.setCell ⟨pw, 1, none⟩ (.int .i64 m)) pw n m := by
  have := h.setAt 1 (.int .i64 m)
  simpa using this
theorem wk2.count {w : World} {pw n : Nat} {e : Int} (h : wk2 w pw n e) : wk2 (w.setCell ⟨pw, 0, none⟩ (.int .i64 ((n : Int) + 1))) pw (n + 1) e := by
  have := h.setAt 0 (.int .i64 ((n : Int) + 1))
  rw [wk2, Int.natCast_succ]
  simpa using this
set_option maxHeartbeats 1000000 in
theorem rfailC (pw n : Nat) (ec : Int) (w : World) (hwk : wk2 w pw n 0) :
    Calls Try.prog 115 #[.pointer (some ⟨pw, 0, none⟩), .int .i64 ec] w fun e w' => e = .returned zT ∧ Fr (fun k => k = pw) w w' ∧ wk2 w' pw n ec := by
  have lpw := hwk.lt
  obtain ⟨c0, c1⟩ := hwk.two
  have f1 := hwk.frozen 1
  go_enter Try.func115, Try.ntmps115
  go_wp2_with fail
  refine bodyPost_ret (v := zT) (by simp [results, Try.results115, go_sem]) rfl ?_
  refine ⟨rfl, ((Fr.refl (fun k => k = pw) w).put (fun _ => rfl) _).then ((Below.refl _ _).alloc (Nat.le_refl _) _), Box.alloc (hwk.put ec) _⟩

set_option maxHeartbeats 2000000 in
theorem mappedC (M : List T) (A : Option Addr) (n c : Nat) (s i : Int) (w : World) (hn : M.length = n) (hc : n ≤ c) (hm : c ≤ maxLen) (hx : ∀ i t, M[i]? = some t → RdAt w A i t) (hnd : ∀ t ∈ M, nd t ≤ 1048576) (h0 : 0 ≤ i) (h1 : i ≤ 4503599627370496) (h2 : -4503599627370496 ≤ s ∧ s ≤ 4503599627370496) (hn4 : n ≤ 4503599627370496) :
    Calls Try.prog 116 #[.agg #[.slice A n c, .int .i64 s], .int .i64 i] w (FEnd (mpd M s i) w) := by
  unfold maxLen at hm
  have HN := Lib.hid hn; clear hn
  have HX := Lib.hid hx; clear hx
  have HND := Lib.hid hnd; clear hnd
  obtain ⟨W, hW⟩ : ∃ W, (w.alloc (.cells #[.slice A n c, .int .i64 s] 45)).alloc (.cells #[.int .i64 0, .int .i64 0, .slice none 0 0] 24) = W := ⟨_, rfl⟩
  have hb : Below w.heap.size w W := by rw [← hW]; exact ((Below.refl _ _).alloc (Nat.le_refl _) _).alloc (by simp) _
  have xS : Box W w.heap.size 45 #[.slice A n c, .int .i64 s] := by rw [← hW]; exact (Box.new _ _ _).alloc _
  have xR : Box W (w.heap.size + 1) 24 #[.int .i64 0, .int .i64 0, .slice none 0 0] := by rw [← hW]; exact (Box.new (w.alloc _) _ _).at (by simp)
  have HW := Lib.hid hW; clear hW
  by_cases hlt : i < n
  · have d1 : decide (i < (n : Int)) = true := by simpa using hlt
    obtain ⟨j, hj⟩ : ∃ j : Nat, (j : Int) = n - 1 - i := ⟨n - 1 - i.toNat, by omega⟩
    have hjn : j < n := by omega
    obtain ⟨t, ht⟩ := at_of HN.out hjn
    obtain ⟨b, o, k2, h2', A2, n2, c2', rfl, c0, c1, c2, hr⟩ := (HX.out j t ht).full
    have lb := cell_lt c0
    dsimp only at lb
    have hmp : mpd M s i = t := by
      have hN := HN.out
      rw [mpd, if_pos (by omega), List.getD_eq_getElem?_getD, show M.length - 1 - i.toNat = j by omega, ht]
      rfl
    have HMP := Lib.hid hmp; clear hmp
    have hnt := HND.out t (List.mem_of_getElem? ht)
    have hjj : ((n : Int) - 1 - i).toNat = j := by omega
    rw [← hjj] at c0 c1 c2
    have hi0 : 0 ≤ (n : Int) - 1 - i := by omega
    have hi1 : (n : Int) - 1 - i < n := by omega
    clear hj hjj
    have HT := Lib.hid ht; clear ht
    have HR := Lib.hid hr; clear hr
    go_enter Try.func116, Try.ntmps116
    go_wp2_with fail
    rw [HW.out]
    clear HW
    refine (refUpC t 0 0 _ _ (Rd.keep hb _ _ HR.out) hnt).mono ?_
    rw [rup_zero HR.out]
    rintro e w2 ⟨v2, rfl, hrf, hb2⟩
    obtain ⟨k3, h3, A3, n3, c3, rfl⟩ := hrf.full
    have lR := xR.lt
    have zR := xR.keep hb2 lR
    have sz := hb.size
    have HB := Lib.hid (hb.trans (hb2.mono hb.size))
    have HH := Lib.hid hrf; clear hrf hb2 c0 c1 c2 lb
    obtain ⟨r0, r1, r2⟩ := zR.three
    have f0 := zR.frozen 0
    have f1 := zR.frozen 1
    have f2 := zR.frozen 2
    go_wp2_with fail
    refine bodyPost_ret (v := .agg #[.int .i64 k3, .int .i64 h3, .slice A3 n3 c3]) (by simp [results, Try.results116, go_sem, r0, r1, r2]) rfl ?_
    refine ⟨_, rfl, ?_, below_set3 HB.out (by omega) _ _ _⟩
    rw [HMP.out]
    exact RdF.move (fun g hg => ⟨by omega, by simpa using hg.2⟩) (fun g hg _ => heap_other3 _ _ _ _ _ _ (by omega)) _ _ HH.out
  · have d1 : decide (i < (n : Int)) = false := by simpa using hlt
    have e1 : IntKind.i64.wrap (i - n) = i - n := by rw [wrapEq]; exact wrap_small (by omega) (by omega)
    have e2 : IntKind.i64.wrap (i - n + s) = i - n + s := by rw [wrapEq]; exact wrap_small (by omega) (by omega)
    have hmp : mpd M s i = .node 4 (i - n + s) [] := by
      have hN := HN.out
      rw [mpd, if_neg (by omega), hN]
    have HMP := Lib.hid hmp; clear hmp
    have hwf : (Lit.int .i64 (i - n + s)).wf = true := by
      have := wf_wrap64 (i - n + s)
      rwa [wrap_small (by omega) (by omega)] at this
    clear xS xR HW hb
    go_enter Try.func116, Try.ntmps116
    go_wp2_with fail
    refine bodyPost_ret (v := .agg #[.int .i64 4, .int .i64 (i - n + s), .slice none 0 0]) (by simp [results, Try.results116, go_sem]) rfl ?_
    refine ⟨_, rfl, ?_, ((Below.refl _ _).alloc (Nat.le_refl _) _).alloc (by simp) _⟩
    rw [HMP.out]
    exact rx_leaf' (by decide) hwf

set_option maxHeartbeats 2000000 in
theorem rmayC (L : List T) (A : Option Addr) (n c : Nat) (sh : Int) (w : World) (hn : L.length = n) (hc : n ≤ c) (hm : c ≤ maxLen) (hx : ∀ i t, L[i]? = some t → RdAt w A i t) (hnd : ∀ t ∈ L, nd t ≤ 1099511627776) :
    Calls Try.prog 88 #[.agg #[.slice A n c, .int .i64 sh]] w fun e w' => e = .returned (.bool (sbB L sh)) ∧ Below w.heap.size w w' := by
  have hb0 : Below w.heap.size w (w.alloc (.cells #[.slice A n c, .int .i64 sh] 45)) := (Below.refl _ _).alloc (Nat.le_refl _) _
  have xS : Box (w.alloc (.cells #[.slice A n c, .int .i64 sh] 45)) w.heap.size 45 #[.slice A n c, .int .i64 sh] := Box.new _ _ _
  have E : sbB L sh = (decide (n ≤ 200) && decide (0 ≤ sh) && decide (sh ≤ 1048576) && L.all myB) := by rw [sbB, hn]
  have HN := Lib.hid hn; clear hn
  have HX := Lib.hid hx; clear hx
  have HND := Lib.hid hnd; clear hnd
  unfold maxLen at hm
  by_cases h1 : (200 : Int) < n
  · have d1 : decide ((200 : Int) < n) = true := by simpa using h1
    have HE : Hid (sbB L sh = false) := Lib.hid (by rw [E]; simp; omega)
    clear E
    go_enter Try.func88, Try.ntmps88
    go_wp2_with fail
    go_ret
    exact ⟨ret_bool HE.out.symm, hb0⟩
  have d1 : decide ((200 : Int) < n) = false := by simpa using h1
  by_cases h2 : sh < 0
  · have d2 : decide (sh < 0) = true := by simpa using h2
    have HE : Hid (sbB L sh = false) := Lib.hid (by rw [E]; simp; omega)
    clear E
    go_enter Try.func88, Try.ntmps88
    go_wp2_with fail
    go_ret
    exact ⟨ret_bool HE.out.symm, hb0⟩
  have d2 : decide (sh < 0) = false := by simpa using h2
  by_cases h3 : 1048576 < sh
  · have d3 : decide (1048576 < sh) = true := by simpa using h3
    have HE : Hid (sbB L sh = false) := Lib.hid (by rw [E]; simp; omega)
    clear E
    go_enter Try.func88, Try.ntmps88
    go_wp2_with fail
    go_ret
    exact ⟨ret_bool HE.out.symm, hb0⟩
  have d3 : decide (1048576 < sh) = false := by simpa using h3
  have HE : Hid (sbB L sh = L.all myB) := Lib.hid (by
    rw [E, show decide (n ≤ 200) = true by simp; omega, show decide (0 ≤ sh) = true by simp; omega, show decide (sh ≤ 1048576) = true by simp; omega]
    simp)
  clear E
  go_enter Try.func88, Try.ntmps88
  go_wp2_with fail
  go_loopw [3] (fun i wr => ∃ (j : Nat), j ≤ n ∧ i = .int .i64 j ∧ Hid ((L.drop j).all myB = sbB L sh) ∧ Box wr w.heap.size 45 #[.slice A n c, .int .i64 sh] ∧ Below w.heap.size w wr) (fun i _ => n - (intOf i).toNat)
  case atStart => exact ⟨0, Nat.zero_le _, rfl, Lib.hid (by rw [HE.out]; simp), xS, hb0⟩
  case round =>
    clear xS hb0
    obtain ⟨j, hj, rfl, HS, xS, hb⟩ := hrel
    obtain ⟨a0, a1⟩ := xS.two
    by_cases hlt : j < n
    · obtain ⟨t, ht⟩ := at_of HN.out hlt
      obtain ⟨b, o, k2, h2, A2, n2, c2', rfl, c0, c1, c2, hr⟩ := (RdAt.keep hb (HX.out j t ht)).full
      have HT := Lib.hid ht; clear ht
      have hi0 : (0 : Int) ≤ j := by omega
      have hi1 : (j : Int) < n := by omega
      go_wp2_with fail
      refine (refMay t _ _ hr).mono ?_
      rw [mayB_big (HND.out t (List.mem_of_getElem? HT.out))]
      have HS' := HS.out
      rw [drop_at HT.out, List.all_cons] at HS'
      have HS := Lib.hid HS'; clear HS'
      generalize myB t = r at *
      rintro e w1 ⟨rfl, hb1⟩
      clear c0 c1 c2 a0 a1
      replace xS := xS.keep hb1 xS.lt
      replace hb := hb.trans (hb1.mono hb.size)
      clear hb1
      cases r
      · go_wp2_with fail
        go_ret
        exact ⟨ret_bool (by simpa using HS.out), hb⟩
      · go_wp2_with fail
        go_roundw
        case rel => exact ⟨j + 1, by omega, by go_num, Lib.hid (by simpa using HS.out), xS, hb⟩
        case measure => simp [intOf]; omega
    · go_wp2_with fail
      go_ret
      exact ⟨ret_bool (by have := HS.out; rw [drop_all HN.out (by omega)] at this; exact this), hb⟩

/-- are all terms light, and at most 300? -/
def fwB (t : T) (L : List T) : Bool := decide (L.length ≤ 300) && (L.all (fun t => ltB t 5000 80) && ltB t 5000 80)
set_option maxHeartbeats 2000000 in
theorem fewC (t : T) (v : Value) (L : List T) (A : Option Addr) (n c : Nat) (sh : Int) (w : World) (hv : Rd w t v) (hn : L.length = n) (hc : n ≤ c) (hm : c ≤ maxLen) (hx : ∀ i t, L[i]? = some t → RdAt w A i t) :
    Calls Try.prog 51 #[v, .agg #[.slice A n c, .int .i64 sh]] w fun e w' => e = .returned (.bool (fwB t L)) ∧ Below w.heap.size w w' := by
  obtain ⟨k, h, At, nt, ct, rfl⟩ := hv.full
  obtain ⟨W, hW⟩ : ∃ W, (w.alloc (.cells #[.int .i64 k, .int .i64 h, .slice At nt ct] 24)).alloc (.cells #[.slice A n c, .int .i64 sh] 45) = W := ⟨_, rfl⟩
  have hb0 : Below w.heap.size w W := by rw [← hW]; exact ((Below.refl _ _).alloc (Nat.le_refl _) _).alloc (by simp) _
  have xT : Box W w.heap.size 24 #[.int .i64 k, .int .i64 h, .slice At nt ct] := by rw [← hW]; exact (Box.new _ _ _).alloc _
  have xS : Box W (w.heap.size + 1) 45 #[.slice A n c, .int .i64 sh] := by rw [← hW]; exact (Box.new (w.alloc _) _ _).at (by simp)
  have HW := Lib.hid hW; clear hW
  have E : fwB t L = (decide (n ≤ 300) && (L.all (fun t => ltB t 5000 80) && ltB t 5000 80)) := by rw [fwB, hn]
  have HV := Lib.hid hv; clear hv
  have HN := Lib.hid hn; clear hn
  have HX := Lib.hid hx; clear hx
  unfold maxLen at hm
  obtain ⟨s0, s1⟩ := xS.two
  by_cases h1 : (300 : Int) < n
  · have d1 : decide ((300 : Int) < n) = true := by simpa using h1
    have HE : Hid (fwB t L = false) := Lib.hid (by rw [E, show decide (n ≤ 300) = false by simp; omega]; rfl)
    clear E
    go_enter Try.func51, Try.ntmps51
    go_wp2_with fail
    rw [HW.out]
    clear HW
    go_wp2_with fail
    go_ret
    exact ⟨ret_bool HE.out.symm, hb0⟩
  have d1 : decide ((300 : Int) < n) = false := by simpa using h1
  have HE : Hid (fwB t L = (L.all (fun t => ltB t 5000 80) && ltB t 5000 80)) := Lib.hid (by
    rw [E, show decide (n ≤ 300) = true by simp; omega]
    rfl)
  clear E
  go_enter Try.func51, Try.ntmps51
  go_wp2_with fail
  rw [HW.out]
  clear HW
  go_wp2_with fail
  go_loopw [5] (fun i wr => ∃ (j : Nat), j ≤ n ∧ i = .int .i64 j ∧ Hid (((L.drop j).all (fun t => ltB t 5000 80) && ltB t 5000 80) = fwB t L) ∧ Box wr w.heap.size 24 #[.int .i64 k, .int .i64 h, .slice At nt ct] ∧ Box wr (w.heap.size + 1) 45 #[.slice A n c, .int .i64 sh] ∧ Below w.heap.size w wr) (fun i _ => n - (intOf i).toNat)
  case atStart => exact ⟨0, Nat.zero_le _, rfl, Lib.hid (by rw [HE.out]; simp), xT, xS, hb0⟩
  case round =>
    clear xS xT hb0 s0 s1
    obtain ⟨j, hj, rfl, HS, xT, xS, hb⟩ := hrel
    obtain ⟨a0, a1⟩ := xS.two
    by_cases hlt : j < n
    · obtain ⟨x, ht⟩ := at_of HN.out hlt
      obtain ⟨b, o, k2, h2, A2, n2, c2', rfl, c0, c1, c2, hr⟩ := (RdAt.keep hb (HX.out j x ht)).full
      have HT := Lib.hid ht; clear ht
      have hi0 : (0 : Int) ≤ j := by omega
      have hi1 : (j : Int) < n := by omega
      go_wp2_with fail
      refine (refLight x 5000 80 _ _ hr).mono ?_
      have HS' := HS.out
      rw [drop_at HT.out, List.all_cons] at HS'
      have HS := Lib.hid HS'; clear HS'
      generalize ltB x 5000 80 = r at *
      rintro e w1 ⟨rfl, hb1⟩
      clear c0 c1 c2 a0 a1
      replace xS := xS.keep hb1 xS.lt
      replace xT := xT.keep hb1 xT.lt
      replace hb := hb.trans (hb1.mono hb.size)
      clear hb1
      cases r
      · go_wp2_with fail
        go_ret
        exact ⟨ret_bool (by simpa using HS.out), hb⟩
      · go_wp2_with fail
        go_roundw
        case rel => exact ⟨j + 1, by omega, by go_num, Lib.hid (by simpa using HS.out), xT, xS, hb⟩
        case measure => simp [intOf]; omega
    · have HS' := HS.out
      rw [drop_all HN.out (by omega)] at HS'
      have HS := Lib.hid (show ltB t 5000 80 = fwB t L from HS'); clear HS'
      obtain ⟨b0, b1, b2⟩ := xT.three
      go_wp2_with fail
      refine (refLight t 5000 80 _ _ (Rd.keep hb _ _ HV.out)).mono ?_
      rw [HS.out]
      rintro e w1 ⟨rfl, hb1⟩
      go_wp2_with fail
      go_ret
      exact ⟨rfl, hb.trans (hb1.mono hb.size)⟩
end Go.Proofs.Ytinjeocfnhhlmaa
