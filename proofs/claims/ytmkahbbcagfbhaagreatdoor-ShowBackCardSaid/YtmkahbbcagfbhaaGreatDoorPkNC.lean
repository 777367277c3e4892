/-
  Texts of one proof, put together. No statement is proved here.
-/
import Derived.Test.YtmkahbbcagfbhaaGreatDoorPkMC
import Derived.Test.YtmkahbbcagfbhaaGreatDoorCs
/-
  Contracts of package parse's other and others. No statement is proved here.
-/
namespace Go.Proofs.YtmkahbbcagfbhaaGreatDoor
open Go.ChangeShapes Go.WideShapes Go.ChangeAt Go.RowKit
set_option linter.unusedVariables false
theorem run_fieldB (k : Int) (s : ByteArray) (W : World) : (Instr.field 79 (.agg #[.int .i64 k, .string s]) 1).run Tryz.prog W = .ok (.string s) W := by kernel_rfl
set_option maxRecDepth 100000 in
set_option maxHeartbeats 2000000 in
theorem pOtherC {b0 R K : Nat} {SA : Option Addr} {sn sc : Nat} {sg : List (ByteArray × T)} {k : Nat} (IH : TmCb b0 R K SA sn sc sg k) {x : List Tk} {w : World} (h : PS b0 R K SA sn sc sg x w) (ss : List ByteArray) (A : Option Addr) (n c : Nat) (tm : Int) (hN : NL w ss A n c) (hk : ss.length + (k + 1) ≤ 1000) (htm : tm + (k + 1) = 121) (h0tm : 0 ≤ tm) (hbe : begM x = true) :
    Calls Tryz.prog 97 #[.pointer (some ⟨R, 0, none⟩), .agg #[.slice A n c, .int .i64 tm]] w (TmX w.heap.size b0 R K SA sn sc sg (otherM sg ss.reverse (termM sg k ss.reverse) x) w) := by
  obtain ⟨W, hW⟩ : ∃ W, (w.alloc (.cells #[.slice A n c, .int .i64 tm] 100)).alloc (.cells #[.int .i64 0, .int .i64 0, .slice none 0 0] 36) = W := ⟨_, rfl⟩
  have hb : Below w.heap.size w W := by rw [← hW]; exact ((Below.refl _ _).alloc (Nat.le_refl _) _).alloc (by simp) _
  have x0 : BoxX W w.heap.size 100 #[.slice A n c, .int .i64 tm] := by rw [← hW]; exact (BoxX.new _ _ _).alloc _
  have x1 : BoxX W (w.heap.size + 1) 36 #[.int .i64 0, .int .i64 0, .slice none 0 0] := by
    have := BoxX.new (w.alloc (.cells #[.slice A n c, .int .i64 tm] 100)) 36 #[.int .i64 0, .int .i64 0, .slice none 0 0]
    rw [← hW]; simpa using this
  have hsz : W.heap.size = w.heap.size + 2 := by rw [← hW]; simp
  have hlt := h.lt
  have HB0 := Lib.hid h.le
  obtain ⟨t, r, rfl⟩ : ∃ t r, x = t :: r := by
    cases x with
    | nil => cases hbe
    | cons t r => exact ⟨t, r, rfl⟩
  obtain ⟨q, hq⟩ : ∃ q, decide (t = mO) = q := ⟨_, rfl⟩
  have hT := pTakeC (h.keep hb) ⟨#[40]⟩
  rw [show decide (hdT (t :: r) = ((1, ⟨#[40]⟩) : Tk)) = q from hq] at hT
  have htg := h.good t List.mem_cons_self
  have hlx := h.few
  have HT := Lib.hid hT
  have HNL := Lib.hid (hN.keep hb)
  have HP0 := Lib.hid (h.keep hb)
  have HB := Lib.hid hb
  have HX0 := Lib.hid x0
  have HX1 := Lib.hid x1
  have HSZ := Lib.hid hsz
  have HQ := Lib.hid (And.intro hq (And.intro hbe htg))
  have hlN := hN.len
  have hsgf := h.sgf
  clear hb x0 x1 h hN hsz hq hbe hT htg
  subst hW
  go_enter Tryz.func97, Tryz.ntmps97
  go_wp2_with fail
  refine HT.out.mono ?_
  rintro e w1 ⟨rfl, hps1, hf1⟩
  have y0 := HX0.out.fr hf1 (by omega)
  have y1 := HX1.out.fr hf1 (by omega)
  have HNL1 := Lib.hid (HNL.out.fr HP0.out hf1)
  have hs1 := hf1.size
  rw [HSZ.out] at hs1
  have HF1 := Lib.hid ((FrB.below HB.out).trans hf1)
  have HP1 := Lib.hid hps1
  have p0 := y0.cell 0
  have p1 := y0.cell 1
  simp only [List.getElem?_toArray, List.getElem?_cons_zero, List.getElem?_cons_succ] at p0 p1
  clear HT HNL HP0 HX0 HX1 HB hf1 hps1
  generalize ((w.alloc (.cells #[.slice A n c, .int .i64 tm] 100)).alloc (.cells #[.int .i64 0, .int .i64 0, .slice none 0 0] 36)) = W at *
  cases q with
  | true =>
    have ht : t = mO := of_decide_eq_true HQ.out.1
    have hp1 := HP1.out
    rw [if_pos (show hdT (t :: r) = ((1, ⟨#[40]⟩) : Tk) from ht)] at hp1
    have HO := Lib.hid (show otherM sg ss.reverse (termM sg k ss.reverse) (t :: r) = closedM mC (termM sg k ss.reverse r) by rw [otherM, if_pos ht])
    have hI := pInner0C A n c tm w1 (by omega) (by omega) HNL1.out
    have HI := Lib.hid hI
    have HP2 := Lib.hid (show PS b0 R K SA sn sc sg r w1 from hp1)
    clear hI hp1 HP1 ht
    go_wp2_with fail
    refine HI.out.mono ?_
    rintro e w2 ⟨rfl, hb2⟩
    have hC := pClosedC IH (HP2.out.keep hb2) ss A n n (tm + 1) (HNL1.out.full.keep hb2) (by omega) (by omega) ⟨#[41]⟩ (by decide)
    have HC := Lib.hid hC
    have HB2 := Lib.hid hb2
    clear hC hb2 HI
    go_wp2_with fail
    refine HC.out.mono ?_
    rintro e w3 ⟨hf3, ka, ga, Aa, na, ca, ec, rfl, hres⟩
    have hs2 := HB2.out.size
    have hs3 := hf3.size
    have HF3 := Lib.hid (HF1.out.trans ((FrB.below HB2.out).trans hf3))
    have z1 := (y1.keep HB2.out y1.lt).fr hf3 (by omega)
    have HR := Lib.hid hres
    clear HC y0 y1 p0 p1 HNL1 HB2 hf3 HF1 HP2 hres
    have z9 := ((z1.put 0 (.int .i64 ka)).put 1 (.int .i64 ga)).put 2 ((.slice Aa na ca))
    have e0 := z9.cell 0
    have e1 := z9.cell 1
    have e2 := z9.cell 2
    have r0 := z1.cell 0
    have r1 := z1.cell 1
    have r2 := z1.cell 2
    have fz0 := z1.frozen 0
    have fz1 := z1.frozen 1
    have fz2 := z1.frozen 2
    have lz := z1.lt
    simp only [List.setIfInBounds_toArray, List.set_cons_zero, List.set_cons_succ, List.getElem?_toArray, List.getElem?_cons_zero, List.getElem?_cons_succ] at e0 e1 e2 r0 r1 r2
    clear z9 z1
    go_wp2_with fail
    refine bodyPost_ret (v := .tuple #[.agg #[.int .i64 ka, .int .i64 ga, (.slice Aa na ca)], .int .i64 ec]) (by simp [results, Tryz.results97, go_sem, e0, e1, e2]) rfl ?_
    have hff := HF3.out.put3 (P := w.heap.size + 1) (by omega) (.int .i64 ka) (.int .i64 ga) (.slice Aa na ca)
    refine ⟨hff, ka, ga, Aa, na, ca, ec, rfl, ?_⟩
    rw [HO.out]
    rcases HR.out with ⟨a, y2, hr3, h0, hrd3, hps3⟩ | h3
    · exact .inl ⟨a, y2, hr3, h0, (hrd3.to fun b' h1 h2 => heap_other3Q _ _ _ _ _ _ (by omega)).less (by omega), hps3.put3 (by have := HB0.out; omega) (by omega) _ _ _⟩
    · exact .inr h3
  | false =>
    have ht : t ≠ mO := of_decide_eq_false HQ.out.1
    have hp1 := HP1.out
    rw [if_neg (show hdT (t :: r) ≠ ((1, ⟨#[40]⟩) : Tk) from ht)] at hp1
    have ht1 : t.1 = 0 := by
      have hbe := HQ.out.2.1
      rw [begM, Bool.or_eq_true, decide_eq_true_eq, decide_eq_true_eq] at hbe
      exact hbe.resolve_left ht
    have hNx := pNextC hp1
    rw [show hdT (t :: r) = t from rfl] at hNx
    obtain ⟨t1, t2⟩ := t
    dsimp only at ht1 hNx
    subst ht1
    have HN := Lib.hid hNx
    have HP2 := Lib.hid hp1
    have HTG := Lib.hid HQ.out.2.2.sz
    have hFd := run_fieldB 0 t2
    have HO := Lib.hid (show otherM sg ss.reverse (termM sg k ss.reverse) ((0, t2) :: r) = if t2 = tyN then .error 8 else match headM sg ss.reverse t2 with | .error e => .error e | .ok u => .ok (u, r) by rw [otherM, if_neg ht]; rfl)
    clear hNx hp1 HP1 ht HQ
    go_wp2_with fail
    refine HN.out.mono ?_
    rintro e w2 ⟨rfl, hb2⟩
    have HB2 := Lib.hid hb2
    have hs2 := hb2.size
    clear hb2 HN
    by_cases hty : t2 = tyN
    · have heq : (t2.toList == [116, 121, 112, 101]) = true := by rw [← ty_list]; exact (bytes_eqB t2 tyN).trans (decide_eq_true hty)
      have HO2 := Lib.hid (show otherM sg ss.reverse (termM sg k ss.reverse) ((0, t2) :: r) = .error 8 by rw [HO.out, if_pos hty])
      have z1 := y1.keep HB2.out y1.lt
      have HF3 := Lib.hid (HF1.out.trans (FrB.below HB2.out))
      clear hty HO y0 y1 p0 p1 HNL1 HB2 HF1 HP2
      have z9 := ((z1.put 0 (.int .i64 0)).put 1 (.int .i64 0)).put 2 ((.slice none 0 0))
      have e0 := z9.cell 0
      have e1 := z9.cell 1
      have e2 := z9.cell 2
      have r0 := z1.cell 0
      have r1 := z1.cell 1
      have r2 := z1.cell 2
      have fz0 := z1.frozen 0
      have fz1 := z1.frozen 1
      have fz2 := z1.frozen 2
      have lz := z1.lt
      simp only [List.setIfInBounds_toArray, List.set_cons_zero, List.set_cons_succ, List.getElem?_toArray, List.getElem?_cons_zero, List.getElem?_cons_succ] at e0 e1 e2 r0 r1 r2
      clear z9 z1
      go_wp2_with fail
      refine bodyPost_ret (v := .tuple #[.agg #[.int .i64 0, .int .i64 0, (.slice none 0 0)], .int .i64 8]) (by simp [results, Tryz.results97, go_sem, e0, e1, e2]) rfl ?_
      have hff := HF3.out.put3 (P := w.heap.size + 1) (by omega) (.int .i64 0) (.int .i64 0) (.slice none 0 0)
      exact ⟨hff, 0, 0, none, 0, 0, 8, rfl, .inr ⟨HO2.out, by decide, rfl, rfl, rfl, rfl, rfl⟩⟩
    · have heq : (t2.toList == [116, 121, 112, 101]) = false := by rw [← ty_list]; exact (bytes_eqB t2 tyN).trans (decide_eq_false hty)
      have HO2 := Lib.hid (show otherM sg ss.reverse (termM sg k ss.reverse) ((0, t2) :: r) = match hdM sg ss.reverse t2 with | .error e => .error e | .ok u => .ok (u, r) by rw [HO.out, if_neg hty, hdM, if_neg hty])
      have HS := Lib.hid (pSkipC (HP2.out.keep HB2.out))
      clear hty HO
      go_wp2_with fail
      refine HS.out.mono ?_
      rintro e w3 ⟨rfl, hps3, hf3⟩
      have hs3 := hf3.size
      have z0 := (y0.keep HB2.out y0.lt).fr hf3 (by omega)
      have z1 := (y1.keep HB2.out y1.lt).fr hf3 (by omega)
      have hNL3 := (HNL1.out.keep HB2.out).fr (HP2.out.keep HB2.out) hf3
      have HH := Lib.hid (pHeadC hps3 t2 HTG.out ss A n c tm hNL3)
      have HF3 := Lib.hid (HF1.out.trans ((FrB.below HB2.out).trans hf3))
      have HP3 := Lib.hid (show PS b0 R K SA sn sc sg r w3 from hps3)
      clear HS y0 y1 p0 p1 HNL1 HB2 hf3 HF1 HP2 hps3 hNL3
      have p0 := z0.cell 0
      have p1 := z0.cell 1
      simp only [List.getElem?_toArray, List.getElem?_cons_zero, List.getElem?_cons_succ] at p0 p1
      go_wp2_with fail
      refine HH.out.mono ?_
      rintro e w4 ⟨hb4, k4, g4, ec, rfl, hres⟩
      have z14 := z1.keep hb4 z1.lt
      have hs4 := hb4.size
      have HF4 := Lib.hid (HF3.out.then hb4)
      have HP4 := Lib.hid (HP3.out.keep hb4)
      have HR := Lib.hid hres
      clear HH z0 z1 p0 p1 HF3 HP3 hb4 hres
      have z9 := ((z14.put 0 (.int .i64 k4)).put 1 (.int .i64 g4)).put 2 ((.slice none 0 0))
      have e0 := z9.cell 0
      have e1 := z9.cell 1
      have e2 := z9.cell 2
      have r0 := z14.cell 0
      have r1 := z14.cell 1
      have r2 := z14.cell 2
      have fz0 := z14.frozen 0
      have fz1 := z14.frozen 1
      have fz2 := z14.frozen 2
      have lz := z14.lt
      simp only [List.setIfInBounds_toArray, List.set_cons_zero, List.set_cons_succ, List.getElem?_toArray, List.getElem?_cons_zero, List.getElem?_cons_succ] at e0 e1 e2 r0 r1 r2
      clear z9 z14
      go_wp2_with fail
      refine bodyPost_ret (v := .tuple #[.agg #[.int .i64 k4, .int .i64 g4, (.slice none 0 0)], .int .i64 ec]) (by simp [results, Tryz.results97, go_sem, e0, e1, e2]) rfl ?_
      have hff := HF4.out.put3 (P := w.heap.size + 1) (by omega) (.int .i64 k4) (.int .i64 g4) (.slice none 0 0)
      refine ⟨hff, k4, g4, none, 0, 0, ec, rfl, ?_⟩
      rw [HO2.out]
      rcases HR.out with ⟨h1, h2⟩ | ⟨h1, h2, h3, h4⟩
      · obtain ⟨_, b1, b2, b3, b4⟩ := hd_bound h1 hsgf (by rw [List.length_reverse]; omega)
        exact .inl ⟨_, r, by rw [h1], h2, RdN.leaf b1 b2 b3 b4, HP4.out.put3 (by have := HB0.out; omega) (by omega) _ _ _⟩
      · exact .inr ⟨by rw [h1], by omega, h3, h4, rfl, rfl, rfl⟩
/-- what holds at the head of its loop -/
structure OtI (b0 R K : Nat) (SA : Option Addr) (sn sc : Nat) (sg : List (ByteArray × T)) (kk : Nat) (ss : List ByteArray) (A : Option Addr) (n c : Nat) (tm : Int) (w : World) (k g : Int) (res : Rt) (gf : Nat) (wr : World) (v : Value) (m : Nat) (cs : List Value) (us : List T) (y : List Tk) : Prop where
  head : BoxX wr w.heap.size 36 #[.int .i64 k, .int .i64 g, v]
  inb : BoxX wr (w.heap.size + 1) 100 #[.slice A n c, .int .i64 tm]
  ans : BoxX wr (w.heap.size + 1 + 1) 36 #[.int .i64 0, .int .i64 0, .slice none 0 0]
  row : GRowQ (fun b => b < w.heap.size + 3) wr (w.heap.size + 3) v m cs us
  ps : PS b0 R K SA sn sc sg y wr
  nl : NL wr ss A n c
  fr : FrB R w wr
  big : w.heap.size + 3 ≤ wr.heap.size
  fuel : y.length ≤ gf
  few : us.length + y.length ≤ 100000
  eq : othersM sg ss.reverse (termM sg kk ss.reverse) k g us y = res
/-- a row's terms, all of them from a block on -/
theorem GRowQ.node {lo : Nat} {w : World} {n c : Nat} {A : Option Addr} {cs : List Value} {ys : List T} (h : GRowQ (fun b => b < lo) w lo (.slice A n c) n cs ys) {k g : Int} (h1 : (Lit.int .i64 k).wf = true) (h2 : (Lit.int .i64 g).wf = true) : RdN lo w (.node k g ys) (.agg #[.int .i64 k, .int .i64 g, .slice A n c]) := by
  obtain ⟨A', c', e, hc, hm⟩ := h.full
  cases e
  refine RdF_node.2 ⟨A, n, c, rfl, h1, h2, h.len, hc, hm, fun i t ht => ?_⟩
  obtain ⟨k', h', A', n', c', e0, e1, e2, hr⟩ := h.kids i t ht
  have hi := (List.getElem?_eq_some_iff.1 ht).1
  rcases h.own.2 with ⟨e, h0⟩ | ⟨gg, cap, cur, e, hb, _, h1, h2, _⟩
  · have := h.len; omega
  · injection e with ea _ _
    subst ea
    have hc := fun j u (hu : cs[j]? = some u) => h.own.cells (g := gg) rfl j u hu
    have c0 := hc _ _ e0
    have c1 := hc _ _ e1
    have c2 := hc _ _ e2
    rw [addr_add] at c0 c1 c2
    exact ⟨gg, 0, _, _, _, rfl, hb, c0, c1, c2, RdF.moveQ (fun b hb' hl => ⟨by have := hb'.1; omega, rfl⟩) _ _ hr⟩
set_option maxRecDepth 100000 in
set_option maxHeartbeats 2000000 in
theorem pOthersC {b0 R K : Nat} {SA : Option Addr} {sn sc : Nat} {sg : List (ByteArray × T)} {kk : Nat} (IH : TmCb b0 R K SA sn sc sg kk) {x : List Tk} {w : World} (h : PS b0 R K SA sn sc sg x w) (ss : List ByteArray) (A : Option Addr) (n c : Nat) (tm : Int) (hN : NL w ss A n c) (hk : ss.length + (kk + 1) ≤ 1000) (htm : tm + (kk + 1) = 121) (h0tm : 0 ≤ tm) (k g : Int) (hkw : (Lit.int .i64 k).wf = true) (hgw : (Lit.int .i64 g).wf = true) :
    Calls Tryz.prog 86 #[.pointer (some ⟨R, 0, none⟩), .agg #[.int .i64 k, .int .i64 g, .slice none 0 0], .agg #[.slice A n c, .int .i64 tm]] w (TmX w.heap.size b0 R K SA sn sc sg (othersM sg ss.reverse (termM sg kk ss.reverse) k g [] x) w) := by
  obtain ⟨res, hres⟩ : ∃ res, othersM sg ss.reverse (termM sg kk ss.reverse) k g [] x = res := ⟨_, rfl⟩
  rw [hres]
  have hlt := h.lt
  have HB0 := Lib.hid h.le
  obtain ⟨W, hW⟩ : ∃ W, ((w.alloc (.cells #[.int .i64 k, .int .i64 g, .slice none 0 0] 36)).alloc (.cells #[.slice A n c, .int .i64 tm] 100)).alloc (.cells #[.int .i64 0, .int .i64 0, .slice none 0 0] 36) = W := ⟨_, rfl⟩
  have hb : Below w.heap.size w W := by rw [← hW]; exact (((Below.refl _ _).alloc (Nat.le_refl _) _).alloc (by simp) _).alloc (by simp; omega) _
  have x0 : BoxX W w.heap.size 36 #[.int .i64 k, .int .i64 g, .slice none 0 0] := by rw [← hW]; exact ((BoxX.new _ _ _).alloc _).alloc _
  have x1 : BoxX W (w.heap.size + 1) 100 #[.slice A n c, .int .i64 tm] := by
    have := (BoxX.new (w.alloc (.cells #[.int .i64 k, .int .i64 g, .slice none 0 0] 36)) 100 #[.slice A n c, .int .i64 tm]).alloc (.cells #[.int .i64 0, .int .i64 0, .slice none 0 0] 36)
    rw [← hW]; simpa using this
  have x2 : BoxX W (w.heap.size + 1 + 1) 36 #[.int .i64 0, .int .i64 0, .slice none 0 0] := by
    have := BoxX.new ((w.alloc (.cells #[.int .i64 k, .int .i64 g, .slice none 0 0] 36)).alloc (.cells #[.slice A n c, .int .i64 tm] 100)) 36 #[.int .i64 0, .int .i64 0, .slice none 0 0]
    rw [← hW]; simpa using this
  have hsz : W.heap.size = w.heap.size + 3 := by rw [← hW]; simp
  have HI0 := Lib.hid (show OtI b0 R K SA sn sc sg kk ss A n c tm w k g res x.length W (.slice none 0 0) 0 [] [] x from
    ⟨x0, x1, x2, GRowQ.nil _ _ _, h.keep hb, hN.keep hb, FrB.below hb, by omega, Nat.le_refl _, by have := h.few; simpa using this, hres⟩)
  have hsgf := h.sgf
  have hlN := hN.len
  have HN0 := Lib.hid (And.intro hN h)
  clear hb x0 x1 x2 h hN hsz hres
  subst hW
  go_enter Tryz.func86, Tryz.ntmps86
  go_wp2_with fail
  go_loopg [] x.length (fun gf wr => ∃ v m cs us y, OtI b0 R K SA sn sc sg kk ss A n c tm w k g res gf wr v m cs us y)
  case atStart => exact ⟨_, _, _, _, _, HI0.out⟩
  case round =>
    clear HI0
    obtain ⟨v, m, cs, us, y, hI⟩ := hrel
    have hA := pAtC hI.ps
    obtain ⟨A1, c1, rfl, hmc, hcm⟩ := hI.row.full
    unfold maxLen at hcm
    have hlm := hI.row.len
    have hbig := hI.big
    have hfew := hI.few
    have HA := Lib.hid hA
    have HI := Lib.hid hI
    clear hI hA
    go_wp2_with fail
    refine HA.out.mono ?_
    rintro e w1 ⟨rfl, hb1⟩
    have hs1 := hb1.size
    have HB1 := Lib.hid hb1
    have z0 := HI.out.head.keep hb1 HI.out.head.lt
    have z2 := HI.out.ans.keep hb1 HI.out.ans.lt
    have zi := HI.out.inb.keep hb1 HI.out.inb.lt
    clear HA hb1
    have p0 := z0.cell 0
    have p1 := z0.cell 1
    have p2 := z0.cell 2
    simp only [List.getElem?_toArray, List.getElem?_cons_zero, List.getElem?_cons_succ] at p0 p1 p2
    have i0 := zi.cell 0
    have i1 := zi.cell 1
    simp only [List.getElem?_toArray, List.getElem?_cons_zero, List.getElem?_cons_succ] at i0 i1
    cases hbe : begM y with
    | false =>
      have HE := Lib.hid (show res = .ok (.node k g us, y) by rw [← HI.out.eq, others_stop hbe])
      clear hbe
      have z9 := ((z2.put 0 (.int .i64 k)).put 1 (.int .i64 g)).put 2 ((.slice A1 m c1))
      have e0 := z9.cell 0
      have e1 := z9.cell 1
      have e2 := z9.cell 2
      have r0 := z2.cell 0
      have r1 := z2.cell 1
      have r2 := z2.cell 2
      have fz0 := z2.frozen 0
      have fz1 := z2.frozen 1
      have fz2 := z2.frozen 2
      have lz := z2.lt
      simp only [List.setIfInBounds_toArray, List.set_cons_zero, List.set_cons_succ, List.getElem?_toArray, List.getElem?_cons_zero, List.getElem?_cons_succ] at e0 e1 e2 r0 r1 r2
      clear z9 z2
      go_wp2_with fail
      refine bodyPost_ret (v := .tuple #[.agg #[.int .i64 k, .int .i64 g, (.slice A1 m c1)], .int .i64 0]) (by simp [results, Tryz.results86, go_sem, e0, e1, e2]) rfl ?_
      have hff := ((HI.out.fr.then HB1.out).put3 (P := w.heap.size + 1 + 1) (by omega) (.int .i64 k) (.int .i64 g) (.slice A1 m c1))
      refine ⟨hff, k, g, A1, m, c1, 0, rfl, .inl ⟨.node k g us, y, HE.out, rfl, ?_, (HI.out.ps.keep HB1.out).put3 (by have := HB0.out; omega) (by omega) _ _ _⟩⟩
      have hrow := (HI.out.row.move (fun b hl _ => HB1.out.block b hl) (fun g' hg' => by have := (HI.out.row.lt hg').1; omega)).node hkw hgw
      exact (hrow.to fun b' h1 h2 => heap_other3Q _ _ _ _ _ _ (by omega)).less (by omega)
    | true =>
      obtain ⟨g', rfl⟩ : ∃ g', gk = g' + 1 := ⟨gk - 1, by
        have := HI.out.fuel
        cases y with
        | nil => cases hbe
        | cons t r => simp at this; omega⟩
      have hC := pOtherC IH (HI.out.ps.keep HB1.out) ss A n c tm (HI.out.nl.keep HB1.out) hk htm h0tm hbe
      have HG := Lib.hid (show res = match otherM sg ss.reverse (termM sg kk ss.reverse) y with | .error e => .error e | .ok (u, z) => othersM sg ss.reverse (termM sg kk ss.reverse) k g (us ++ [u]) z by rw [← HI.out.eq, others_go (term_sho sg kk _) hbe]; rfl)
      have HC := Lib.hid hC
      clear hC hbe
      go_wp2_with fail
      refine HC.out.mono ?_
      rintro e w2 ⟨hf2, ka, ga, Aa, na, ca, ec, rfl, hres⟩
      have hs2 := hf2.size
      have HF2 := Lib.hid hf2
      have z02 := z0.fr hf2 (by omega)
      have zi2 := zi.fr hf2 (by omega)
      have z22 := z2.fr hf2 (by omega)
      clear HC hf2 p0 p1 p2 i0 i1 z0 zi z2
      rcases hres with ⟨a, y2, hr3, rfl, hrd3, hps3⟩ | ⟨hr3, he3, rfl, rfl, rfl, rfl, rfl⟩
      · have z8 := BoxX.new w2 36 #[.int .i64 ka, .int .i64 ga, .slice Aa na ca]
        have q0 := z8.cell 0
        have q1 := z8.cell 1
        have q2 := z8.cell 2
        simp only [List.getElem?_toArray, List.getElem?_cons_zero, List.getElem?_cons_succ] at q0 q1 q2
        obtain ⟨W3, hW3⟩ : ∃ W3, (w2.alloc (.cells #[.int .i64 ka, .int .i64 ga, (.slice Aa na ca)] 36)) = W3 := ⟨_, rfl⟩
        have hb3 : Below w2.heap.size w2 W3 := by rw [← hW3]; exact (Below.refl _ _).alloc (Nat.le_refl _) _
        have hl3 : W3.heap.size = w2.heap.size + 1 := by rw [← hW3]; simp
        have z03 := z02.keep hb3 z02.lt
        have zi3 := zi2.keep hb3 zi2.lt
        have z23 := z22.keep hb3 z22.lt
        have hrow2 := HI.out.row.move (w' := W3) (fun b hl hX => (hb3.block b (by omega)).trans ((HF2.out.block b (by omega) (by omega)).trans (HB1.out.block b hl))) (fun g' hg' => by have := (HI.out.row.lt hg').1; omega)
        have hrd : RdF (fun b => ¬ b < w.heap.size + 3 ∧ some b ≠ (Value.slice A1 m c1).ownBlock) W3 a (.agg #[.int .i64 ka, .int .i64 ga, .slice Aa na ca]) :=
          RdF.moveQ (fun b hb hl => ⟨⟨by omega, fun e => by have := (HI.out.row.lt e.symm).2; omega⟩, hb3.block b hl⟩) _ _ hrd3
        obtain ⟨g9, cap9, w4, hrun, hrow4, hold, hb4⟩ := hrow2.push hrd (by omega) (by omega)
        have hlt4 := fun {q} hq => hrow4.lt (g := q) hq
        have hg9 := (hlt4 (q := g9) rfl).1
        have hs4 := hb4.size
        have y0 : BoxX w4 w.heap.size 36 #[.int .i64 k, .int .i64 g, .slice A1 m c1] := (hb4.block _ (by omega)).trans z03
        have yi : BoxX w4 (w.heap.size + 1) 100 #[.slice A n c, .int .i64 tm] := (hb4.block _ (by omega)).trans zi3
        have y2' : BoxX w4 (w.heap.size + 1 + 1) 36 #[.int .i64 0, .int .i64 0, .slice none 0 0] := (hb4.block _ (by omega)).trans z23
        have hfr4 : FrB R w w4 := by
          have h1 := (HI.out.fr.then HB1.out).trans (HF2.out.then hb3)
          exact ⟨hb4.os.trans h1.os, hb4.tape.trans h1.tape, hb4.output.trans h1.output, Nat.le_trans h1.size hb4.size, fun i hi hR => (hb4.block i (by omega)).trans (h1.block i hi hR)⟩
        have hps4 : PS b0 R K SA sn sc sg y2 w4 := (hps3.keep hb3).mid hb4.size (hb4.block _ (by omega)) fun b hb => hb4.block b (by have := HB0.out; omega)
        have hsh := other_sho (term_sho sg kk ss.reverse) hr3
        have HI2 := Lib.hid (show OtI b0 R K SA sn sc sg kk ss A n c tm w k g res g' (w4.setCell ⟨w.heap.size, 2, none⟩ (.slice (some ⟨g9, 0, none⟩) (m + 1) cap9)) (.slice (some ⟨g9, 0, none⟩) (m + 1) cap9) (m + 1) (cs ++ [.int .i64 ka, .int .i64 ga, .slice Aa na ca]) (us ++ [a]) y2 from
          ⟨y0.put 2 _, (Below.heap_setCell _ _ _ _ (by dsimp only; omega)).trans yi, (Below.heap_setCell _ _ _ _ (by dsimp only; omega)).trans y2',
            hrow4.move (fun b hl hX => Below.heap_setCell _ _ _ _ (by dsimp only; omega)) (fun q hq => by have := (hlt4 hq).1; omega),
            hps4.mid (by simp [World.setCell]) (Below.heap_setCell _ _ _ _ (by dsimp only; omega)) (fun b hb => Below.heap_setCell _ _ _ _ (by have := HB0.out; dsimp only; omega)),
            HN0.out.1.fr HN0.out.2 (hfr4.put (Nat.le_refl _) 2 _), hfr4.put (Nat.le_refl _) 2 _, by simp [World.setCell]; omega, by have := HI.out.fuel; omega, by rw [List.length_append, List.length_singleton]; omega, by rw [HG.out, hr3]⟩)
        have p0 := z03.cell 0
        have p1 := z03.cell 1
        have p2 := z03.cell 2
        have u0 := y0.cell 0
        have u1 := y0.cell 1
        have u2 := y0.cell 2
        have fz2 := y0.frozen 2
        have ly := y0.lt
        simp only [List.getElem?_toArray, List.getElem?_cons_zero, List.getElem?_cons_succ] at p0 p1 p2 u0 u1 u2
        clear hr3 hrd3 hps3 hb3 z03 zi3 z23 hrow2 hrd hrow4 hold hb4 hlt4 y0 yi y2' hfr4 hps4 z8 z02 zi2 z22
        rw [hl3] at hrun
        subst hW3
        go_wp2_with (at_builtin; refine Lib.wpList_append_run _ rfl _ _ _ _ rfl _ _ rfl rfl _ _ hrun ?_)
        go_roundg g'
        case measure => omega
        case rel => exact ⟨_, _, _, _, _, HI2.out⟩
      · have d9 : (ec == 0) = false := by simpa using he3
        have HR3 := Lib.hid (And.intro hr3 he3)
        have z8 := BoxX.new w2 36 #[.int .i64 0, .int .i64 0, .slice none 0 0]
        have q0 := z8.cell 0
        have q1 := z8.cell 1
        have q2 := z8.cell 2
        simp only [List.getElem?_toArray, List.getElem?_cons_zero, List.getElem?_cons_succ] at q0 q1 q2
        have z4 := z22.alloc (.cells #[.int .i64 0, .int .i64 0, .slice none 0 0] 36)
        have HF4 := Lib.hid (((HI.out.fr.then HB1.out).trans HF2.out).then ((Below.refl _ _).alloc (Nat.le_refl _) (.cells #[.int .i64 0, .int .i64 0, .slice none 0 0] 36)))
        clear hr3 he3 z8 z02 zi2 z22
        have z9 := ((z4.put 0 (.int .i64 0)).put 1 (.int .i64 0)).put 2 ((.slice none 0 0))
        have e0 := z9.cell 0
        have e1 := z9.cell 1
        have e2 := z9.cell 2
        have r0 := z4.cell 0
        have r1 := z4.cell 1
        have r2 := z4.cell 2
        have fz0 := z4.frozen 0
        have fz1 := z4.frozen 1
        have fz2 := z4.frozen 2
        have lz := z4.lt
        simp only [List.setIfInBounds_toArray, List.set_cons_zero, List.set_cons_succ, List.getElem?_toArray, List.getElem?_cons_zero, List.getElem?_cons_succ] at e0 e1 e2 r0 r1 r2
        clear z9 z4
        go_wp2_with fail
        refine bodyPost_ret (v := .tuple #[.agg #[.int .i64 0, .int .i64 0, (.slice none 0 0)], .int .i64 ec]) (by simp [results, Tryz.results86, go_sem, e0, e1, e2]) rfl ?_
        have hff := HF4.out.put3 (P := w.heap.size + 1 + 1) (by omega) (.int .i64 0) (.int .i64 0) (.slice none 0 0)
        exact ⟨hff, 0, 0, none, 0, 0, ec, rfl, .inr ⟨by rw [HG.out, HR3.out.1], HR3.out.2, rfl, rfl, rfl, rfl, rfl⟩⟩
end Go.Proofs.YtmkahbbcagfbhaaGreatDoor
/-
  Contract of package parse's term, at each depth. No statement is proved here.
-/
namespace Go.Proofs.YtmkahbbcagfbhaaGreatDoor
open Go.ChangeShapes Go.WideShapes Go.ChangeAt Go.RowKit
set_option linter.unusedVariables false
theorem list_P : (⟨#[123]⟩ : ByteArray).toList = [123] := by kernel_rfl
theorem list_L : (⟨#[91]⟩ : ByteArray).toList = [91] := by kernel_rfl
theorem list_O : (⟨#[40]⟩ : ByteArray).toList = [40] := by kernel_rfl
theorem eq_P (s : ByteArray) : (s.toList == [123]) = decide (s = ⟨#[123]⟩) := by have h := bytes_eqB s ⟨#[123]⟩; rw [list_P] at h; exact h
theorem eq_L (s : ByteArray) : (s.toList == [91]) = decide (s = ⟨#[91]⟩) := by have h := bytes_eqB s ⟨#[91]⟩; rw [list_L] at h; exact h
theorem eq_O (s : ByteArray) : (s.toList == [40]) = decide (s = ⟨#[40]⟩) := by have h := bytes_eqB s ⟨#[40]⟩; rw [list_O] at h; exact h
theorem eq_T (s : ByteArray) : (s.toList == [116, 121, 112, 101]) = decide (s = tyN) := by rw [← ty_list]; exact bytes_eqB s _
set_option maxRecDepth 100000 in
set_option maxHeartbeats 2000000 in
theorem pTermAt {b0 R K : Nat} {SA : Option Addr} {sn sc : Nat} {sg : List (ByteArray × T)} (k : Nat) (IH : ∀ kk, k = kk + 1 → TmCb b0 R K SA sn sc sg kk) (hk120 : k ≤ 120) : TmCb b0 R K SA sn sc sg k := by
  intro x w ss A n c tm h hN hk htm
  have hgood := h.good
  have hsgf := h.sgf
  have hlN := hN.len
  have HNW := Lib.hid hN
  show Calls Tryz.prog 61 #[.pointer (some ⟨R, 0, none⟩), .agg #[.slice A n c, .int .i64 tm]] w (TmX w.heap.size b0 R K SA sn sc sg (termM sg k ss.reverse x) w)
  obtain ⟨W, hW⟩ : ∃ W, (w.alloc (.cells #[.slice A n c, .int .i64 tm] 100)).alloc (.cells #[.int .i64 0, .int .i64 0, .slice none 0 0] 36) = W := ⟨_, rfl⟩
  have hb : Below w.heap.size w W := by rw [← hW]; exact ((Below.refl _ _).alloc (Nat.le_refl _) _).alloc (by simp) _
  have x0 : BoxX W w.heap.size 100 #[.slice A n c, .int .i64 tm] := by rw [← hW]; exact (BoxX.new _ _ _).alloc _
  have x1 : BoxX W (w.heap.size + 1) 36 #[.int .i64 0, .int .i64 0, .slice none 0 0] := by
    have := BoxX.new (w.alloc (.cells #[.slice A n c, .int .i64 tm] 100)) 36 #[.int .i64 0, .int .i64 0, .slice none 0 0]
    rw [← hW]; simpa using this
  have hsz : W.heap.size = w.heap.size + 2 := by rw [← hW]; simp
  have hlt := h.lt
  have HPW := Lib.hid h
  have HB0 := Lib.hid h.le
  have hNx := pNextC (h.keep hb)
  obtain ⟨t1, ht1⟩ : ∃ t1, (hdT x).1 = t1 := ⟨_, rfl⟩
  obtain ⟨t2, ht2⟩ : ∃ t2, (hdT x).2 = t2 := ⟨_, rfl⟩
  rw [ht1, ht2] at hNx
  have HT := Lib.hid (show hdT x = (t1, t2) from Prod.ext ht1 ht2)
  have hsz2 : t2.size ≤ maxLen := by
    rw [← ht2]
    cases x with
    | nil => exact Nat.zero_le _
    | cons t r => exact (hgood t List.mem_cons_self).sz
  have HG := Lib.hid hgood
  have HN := Lib.hid hNx
  have HB := Lib.hid hb
  have HX0 := Lib.hid x0
  have HX1 := Lib.hid x1
  have HSZ := Lib.hid hsz
  clear hb x0 x1 h hN hsz hNx ht1 ht2 hgood
  subst hW
  go_enter Tryz.func61, Tryz.ntmps61
  go_wp2_with fail
  refine HN.out.mono ?_
  rintro e w1 ⟨rfl, hb1⟩
  have hs1 := hb1.size
  rw [HSZ.out] at hs1
  have y0 := HX0.out.keep hb1 HX0.out.lt
  have y1 := HX1.out.keep hb1 HX1.out.lt
  have HB1 := Lib.hid (HB.out.trans (hb1.mono HB.out.size))
  clear HN HX0 HX1 HB hb1
  generalize ((w.alloc (.cells #[.slice A n c, .int .i64 tm] 100)).alloc (.cells #[.int .i64 0, .int .i64 0, .slice none 0 0] 36)) = W at *
  obtain ⟨W1, hW1⟩ : ∃ W1, w1.alloc (.cells #[.int .i64 t1, .string t2] 79) = W1 := ⟨_, rfl⟩
  have hbA : Below w1.heap.size w1 W1 := by rw [← hW1]; exact (Below.refl _ _).alloc (Nat.le_refl _) _
  have xt : BoxX W1 w1.heap.size 79 #[.int .i64 t1, .string t2] := by rw [← hW1]; exact BoxX.new _ _ _
  have a0 := y0.keep hbA y0.lt
  have a1 := y1.keep hbA y1.lt
  have hbW1 := HB1.out.trans (hbA.mono HB1.out.size)
  have hFi := pFirstC (HPW.out.keep hbW1) ss A n c tm (HNW.out.keep hbW1) t1 t2 hsz2
  have HFi := Lib.hid hFi
  have HBW := Lib.hid hbW1
  have p0 := a0.cell 0
  have p1 := a0.cell 1
  simp only [List.getElem?_toArray, List.getElem?_cons_zero, List.getElem?_cons_succ] at p0 p1
  have v0 := xt.cell 0
  have v1 := xt.cell 1
  simp only [List.getElem?_toArray, List.getElem?_cons_zero, List.getElem?_cons_succ] at v0 v1
  have hsA := hbA.size
  have hl1 : W1.heap.size = w1.heap.size + 1 := by rw [← hW1]; simp
  clear hbA y0 y1 HB1 hFi hbW1
  subst hW1
  go_wp2_with fail
  refine HFi.out.mono ?_
  rintro e w2 ⟨hb2, kh, gh, ec, rfl, hres⟩
  have hs2 := hb2.size
  obtain ⟨W3, hW3⟩ : ∃ W3, (w2.alloc (.cells #[.int .i64 kh, .int .i64 gh, (.slice none 0 0)] 36)) = W3 := ⟨_, rfl⟩
  have hb3 : Below w2.heap.size w2 W3 := by rw [← hW3]; exact (Below.refl _ _).alloc (Nat.le_refl _) _
  have xh : BoxX W3 w2.heap.size 36 #[.int .i64 kh, .int .i64 gh, .slice none 0 0] := by rw [← hW3]; exact BoxX.new _ _ _
  have hb23 := hb2.trans (hb3.mono hb2.size)
  have b0' := a0.keep hb23 a0.lt
  have b1 := a1.keep hb23 a1.lt
  have bt := xt.keep hb23 xt.lt
  have HBW3 := Lib.hid (HBW.out.trans (hb23.mono HBW.out.size))
  have hl3 : W3.heap.size = w2.heap.size + 1 := by rw [← hW3]; simp
  have HRH := Lib.hid hres
  clear hb3 hb2 hb23 a0 a1 xt p0 p1 v0 v1 HFi HBW hres
  generalize (w1.alloc (.cells #[.int .i64 t1, .string t2] 79)) = W1 at *
  have p0 := b0'.cell 0
  have p1 := b0'.cell 1
  simp only [List.getElem?_toArray, List.getElem?_cons_zero, List.getElem?_cons_succ] at p0 p1
  have v0 := bt.cell 0
  have v1 := bt.cell 1
  simp only [List.getElem?_toArray, List.getElem?_cons_zero, List.getElem?_cons_succ] at v0 v1
  have q0 := xh.cell 0
  have q1 := xh.cell 1
  have q2 := xh.cell 2
  simp only [List.getElem?_toArray, List.getElem?_cons_zero, List.getElem?_cons_succ] at q0 q1 q2
  have hl0 := b0'.lt
  rcases HRH.out with ⟨hfi, rfl⟩ | ⟨hfi, he, rfl, rfl⟩
  rotate_left
  · have d9 : (ec == 0) = false := by simpa using he
    have HE := Lib.hid (And.intro hfi he)
    have HFF := Lib.hid (FrB.below (R := R) HBW3.out)
    clear hfi he HRH bt xh
    subst hW3
    have z9 := ((b1.put 0 (.int .i64 0)).put 1 (.int .i64 0)).put 2 ((.slice none 0 0))
    have e0 := z9.cell 0
    have e1 := z9.cell 1
    have e2 := z9.cell 2
    have r0 := b1.cell 0
    have r1 := b1.cell 1
    have r2 := b1.cell 2
    have fz0 := b1.frozen 0
    have fz1 := b1.frozen 1
    have fz2 := b1.frozen 2
    have lz := b1.lt
    simp only [List.setIfInBounds_toArray, List.set_cons_zero, List.set_cons_succ, List.getElem?_toArray, List.getElem?_cons_zero, List.getElem?_cons_succ] at e0 e1 e2 r0 r1 r2
    clear z9 b1
    go_wp2_with fail
    refine bodyPost_ret (v := .tuple #[.agg #[.int .i64 0, .int .i64 0, (.slice none 0 0)], .int .i64 ec]) (by simp [results, Tryz.results61, go_sem, e0, e1, e2]) rfl ?_
    have hff := HFF.out.put3 (P := w.heap.size + 1) (by omega) (.int .i64 0) (.int .i64 0) (.slice none 0 0)
    exact ⟨hff, 0, 0, none, 0, 0, ec, rfl, .inr ⟨term_bad sg k ss.reverse x (by rw [HT.out]; exact HE.out.1), HE.out.2, rfl, rfl, rfl, rfl, rfl⟩⟩
  by_cases htm2 : 120 < tm
  · have d1 : decide (120 < tm) = true := by simpa using htm2
    obtain rfl : k = 0 := by omega
    have HE := Lib.hid hfi
    have HFF := Lib.hid (FrB.below (R := R) HBW3.out)
    clear hfi HRH bt xh htm2
    subst hW3
    have z9 := ((b1.put 0 (.int .i64 0)).put 1 (.int .i64 0)).put 2 ((.slice none 0 0))
    have e0 := z9.cell 0
    have e1 := z9.cell 1
    have e2 := z9.cell 2
    have r0 := b1.cell 0
    have r1 := b1.cell 1
    have r2 := b1.cell 2
    have fz0 := b1.frozen 0
    have fz1 := b1.frozen 1
    have fz2 := b1.frozen 2
    have lz := b1.lt
    simp only [List.setIfInBounds_toArray, List.set_cons_zero, List.set_cons_succ, List.getElem?_toArray, List.getElem?_cons_zero, List.getElem?_cons_succ] at e0 e1 e2 r0 r1 r2
    clear z9 b1
    go_wp2_with fail
    refine bodyPost_ret (v := .tuple #[.agg #[.int .i64 0, .int .i64 0, (.slice none 0 0)], .int .i64 4]) (by simp [results, Tryz.results61, go_sem, e0, e1, e2]) rfl ?_
    have hff := HFF.out.put3 (P := w.heap.size + 1) (by omega) (.int .i64 0) (.int .i64 0) (.slice none 0 0)
    exact ⟨hff, 0, 0, none, 0, 0, 4, rfl, .inr ⟨term_deep sg ss.reverse x (by rw [HT.out]; exact HE.out), by decide, rfl, rfl, rfl, rfl, rfl⟩⟩
  have d1 : decide (120 < tm) = false := by simpa using htm2
  obtain ⟨kk, rfl⟩ : ∃ kk, k = kk + 1 := ⟨k - 1, by omega⟩
  have IH1 := IH kk rfl
  have h0tm : 0 ≤ tm := by omega
  have HS := Lib.hid (pSkipC (HPW.out.keep HBW3.out))
  have HFI := Lib.hid hfi
  have HBX := Lib.hid (And.intro b0' (And.intro b1 (And.intro bt xh)))
  clear hfi HRH htm2 b0' b1 bt xh
  subst hW3
  go_wp2_with fail
  refine HS.out.mono ?_
  rintro e w4 ⟨rfl, hps4, hf4⟩
  obtain ⟨b0', b1, bt, xh⟩ := HBX.out
  have hs4 := hf4.size
  have z0 := b0'.fr hf4 (by omega)
  have z1 := b1.fr hf4 (by omega)
  have zt := bt.fr hf4 (by omega)
  have zh := xh.fr hf4 (by omega)
  have HF4 := Lib.hid ((FrB.below HBW3.out).trans hf4)
  have HP4 := Lib.hid hps4
  have HNL4 := Lib.hid (HNW.out.fr HPW.out HF4.out)
  clear p0 p1 v0 v1 q0 q1 q2 b0' b1 bt xh hf4 HBX HS HBW3 hps4
  generalize (w2.alloc (.cells #[.int .i64 kh, .int .i64 gh, (.slice none 0 0)] 36)) = W3 at *
  have p0 := z0.cell 0
  have p1 := z0.cell 1
  simp only [List.getElem?_toArray, List.getElem?_cons_zero, List.getElem?_cons_succ] at p0 p1
  have v0 := zt.cell 0
  have v1 := zt.cell 1
  simp only [List.getElem?_toArray, List.getElem?_cons_zero, List.getElem?_cons_succ] at v0 v1
  have q0 := zh.cell 0
  have q1 := zh.cell 1
  have q2 := zh.cell 2
  simp only [List.getElem?_toArray, List.getElem?_cons_zero, List.getElem?_cons_succ] at q0 q1 q2
  clear z0 zt zh
  obtain ⟨t, r, rfl⟩ : ∃ t r, x = t :: r := by
    cases x with
    | nil =>
      have h1 := HT.out
      have h2 := HFI.out
      rw [← h1] at h2
      unfold firM at h2
      rw [if_neg (by decide), if_neg (by decide)] at h2
      cases h2
    | cons t r => exact ⟨t, r, rfl⟩
  obtain rfl : t = (t1, t2) := HT.out
  have hg := HG.out (t1, t2) List.mem_cons_self
  have HP5 := Lib.hid (show PS b0 R K SA sn sc sg r w4 from HP4.out)
  have hlt4 : w.heap.size + 1 < w4.heap.size := by omega
  by_cases c1 : ((t1, t2) : Tk) = mP
  · have e2 : t2 = ⟨#[123]⟩ := congrArg Prod.snd c1
    have k1 : (t2.toList == [123]) = true := (eq_P t2).trans (decide_eq_true e2)
    have HO := Lib.hid (show termM sg (kk + 1) ss.reverse ((t1, t2) :: r) = piM sg kk ss.reverse r by rw [c1]; exact term_P sg kk ss.reverse r)
    have HC := Lib.hid (pPiC IH1 HP5.out ss A n c tm HNL4.out hk htm h0tm)
    clear e2 c1
    go_wp2_with fail
    refine HC.out.mono ?_
    rintro e w9 ⟨hf9, ka, ga, Aa, na, ca, ec, rfl, hres⟩
    have hs9 := hf9.size
    have zb := z1.fr hf9 (by omega)
    have HF9 := Lib.hid (HF4.out.trans hf9)
    have HR := Lib.hid hres
    clear hf9 hres
    clear z1 HC p0 p1 v0 v1 q0 q1 q2
    have z9 := ((zb.put 0 (.int .i64 ka)).put 1 (.int .i64 ga)).put 2 ((.slice Aa na ca))
    have e0 := z9.cell 0
    have e1 := z9.cell 1
    have e2 := z9.cell 2
    have r0 := zb.cell 0
    have r1 := zb.cell 1
    have r2 := zb.cell 2
    have fz0 := zb.frozen 0
    have fz1 := zb.frozen 1
    have fz2 := zb.frozen 2
    have lz := zb.lt
    simp only [List.setIfInBounds_toArray, List.set_cons_zero, List.set_cons_succ, List.getElem?_toArray, List.getElem?_cons_zero, List.getElem?_cons_succ] at e0 e1 e2 r0 r1 r2
    clear z9 zb
    go_wp2_with fail
    refine bodyPost_ret (v := .tuple #[.agg #[.int .i64 ka, .int .i64 ga, (.slice Aa na ca)], .int .i64 ec]) (by simp [results, Tryz.results61, go_sem, e0, e1, e2]) rfl ?_
    have hff := HF9.out.put3 (P := w.heap.size + 1) (by omega) (.int .i64 ka) (.int .i64 ga) (.slice Aa na ca)
    refine ⟨hff, ka, ga, Aa, na, ca, ec, rfl, ?_⟩
    rw [HO.out]
    rcases HR.out with ⟨a, y2, hr3, h0, hrd3, hps3⟩ | h3
    · exact .inl ⟨a, y2, hr3, h0, (hrd3.to fun b' h1 h2 => heap_other3Q _ _ _ _ _ _ (by omega)).less (by omega), hps3.put3 (by have := HB0.out; omega) (by omega) _ _ _⟩
    · exact .inr h3
  by_cases c2 : ((t1, t2) : Tk) = mL
  · have e2 : t2 = ⟨#[91]⟩ := congrArg Prod.snd c2
    have k1 : (t2.toList == [123]) = false := (eq_P t2).trans (decide_eq_false (by rw [e2]; decide))
    have k2 : (t2.toList == [91]) = true := (eq_L t2).trans (decide_eq_true e2)
    have HO := Lib.hid (show termM sg (kk + 1) ss.reverse ((t1, t2) :: r) = lamM sg kk ss.reverse r by rw [c2]; exact term_L sg kk ss.reverse r)
    have HC := Lib.hid (pLamC IH1 HP5.out ss A n c tm HNL4.out hk htm h0tm)
    clear e2 c1 c2
    go_wp2_with fail
    refine HC.out.mono ?_
    rintro e w9 ⟨hf9, ka, ga, Aa, na, ca, ec, rfl, hres⟩
    have hs9 := hf9.size
    have zb := z1.fr hf9 (by omega)
    have HF9 := Lib.hid (HF4.out.trans hf9)
    have HR := Lib.hid hres
    clear hf9 hres
    clear z1 HC p0 p1 v0 v1 q0 q1 q2
    have z9 := ((zb.put 0 (.int .i64 ka)).put 1 (.int .i64 ga)).put 2 ((.slice Aa na ca))
    have e0 := z9.cell 0
    have e1 := z9.cell 1
    have e2 := z9.cell 2
    have r0 := zb.cell 0
    have r1 := zb.cell 1
    have r2 := zb.cell 2
    have fz0 := zb.frozen 0
    have fz1 := zb.frozen 1
    have fz2 := zb.frozen 2
    have lz := zb.lt
    simp only [List.setIfInBounds_toArray, List.set_cons_zero, List.set_cons_succ, List.getElem?_toArray, List.getElem?_cons_zero, List.getElem?_cons_succ] at e0 e1 e2 r0 r1 r2
    clear z9 zb
    go_wp2_with fail
    refine bodyPost_ret (v := .tuple #[.agg #[.int .i64 ka, .int .i64 ga, (.slice Aa na ca)], .int .i64 ec]) (by simp [results, Tryz.results61, go_sem, e0, e1, e2]) rfl ?_
    have hff := HF9.out.put3 (P := w.heap.size + 1) (by omega) (.int .i64 ka) (.int .i64 ga) (.slice Aa na ca)
    refine ⟨hff, ka, ga, Aa, na, ca, ec, rfl, ?_⟩
    rw [HO.out]
    rcases HR.out with ⟨a, y2, hr3, h0, hrd3, hps3⟩ | h3
    · exact .inl ⟨a, y2, hr3, h0, (hrd3.to fun b' h1 h2 => heap_other3Q _ _ _ _ _ _ (by omega)).less (by omega), hps3.put3 (by have := HB0.out; omega) (by omega) _ _ _⟩
    · exact .inr h3
  by_cases c3 : ((t1, t2) : Tk) = mO
  · have e2 : t2 = ⟨#[40]⟩ := congrArg Prod.snd c3
    have k1 : (t2.toList == [123]) = false := (eq_P t2).trans (decide_eq_false (by rw [e2]; decide))
    have k2 : (t2.toList == [91]) = false := (eq_L t2).trans (decide_eq_false (by rw [e2]; decide))
    have k3 : (t2.toList == [40]) = true := (eq_O t2).trans (decide_eq_true e2)
    have HO := Lib.hid (show termM sg (kk + 1) ss.reverse ((t1, t2) :: r) = aloneM (closedM mC (termM sg kk ss.reverse r)) by rw [c3]; exact term_O sg kk ss.reverse r)
    have HI := Lib.hid (pInner0C A n c tm w4 h0tm (by omega) HNL4.out)
    clear e2 c1 c2 c3
    go_wp2_with fail
    refine HI.out.mono ?_
    rintro e w5 ⟨rfl, hb5⟩
    have hC := pClosedC IH1 (HP5.out.keep hb5) ss A n n (tm + 1) (HNL4.out.full.keep hb5) (by omega) (by omega) ⟨#[41]⟩ (by decide)
    have HC := Lib.hid hC
    have HB5 := Lib.hid hb5
    have hs5 := hb5.size
    clear hC hb5 HI
    go_wp2_with fail
    refine HC.out.mono ?_
    rintro e w6 ⟨hf6, kc, gc, Ac, nc, cc, ec6, rfl, hres6⟩
    have hs6 := hf6.size
    have hA := pAloneC w5.heap.size (closedM mC (termM sg kk ss.reverse r)) kc gc Ac nc cc ec6 w6 (by omega) hs6 hres6
    have HA := Lib.hid hA
    have z6 := (z1.keep HB5.out z1.lt).fr hf6 (by omega)
    have HF6 := Lib.hid ((HF4.out.then HB5.out).trans hf6)
    clear hA hf6 hres6 z1 HC p0 p1 v0 v1 q0 q1 q2
    go_wp2_with fail
    refine HA.out.mono ?_
    rintro e w9 ⟨hf9, ka, ga, Aa, na, ca, ec, rfl, hres⟩
    have hs9 := hf9.size
    have zb := z6.fr hf9 (by omega)
    have HF9 := Lib.hid (HF6.out.trans hf9)
    have HR := Lib.hid hres
    clear hf9 hres
    clear z6 HA
    have z9 := ((zb.put 0 (.int .i64 ka)).put 1 (.int .i64 ga)).put 2 ((.slice Aa na ca))
    have e0 := z9.cell 0
    have e1 := z9.cell 1
    have e2 := z9.cell 2
    have r0 := zb.cell 0
    have r1 := zb.cell 1
    have r2 := zb.cell 2
    have fz0 := zb.frozen 0
    have fz1 := zb.frozen 1
    have fz2 := zb.frozen 2
    have lz := zb.lt
    simp only [List.setIfInBounds_toArray, List.set_cons_zero, List.set_cons_succ, List.getElem?_toArray, List.getElem?_cons_zero, List.getElem?_cons_succ] at e0 e1 e2 r0 r1 r2
    clear z9 zb
    go_wp2_with fail
    refine bodyPost_ret (v := .tuple #[.agg #[.int .i64 ka, .int .i64 ga, (.slice Aa na ca)], .int .i64 ec]) (by simp [results, Tryz.results61, go_sem, e0, e1, e2]) rfl ?_
    have hff := HF9.out.put3 (P := w.heap.size + 1) (by omega) (.int .i64 ka) (.int .i64 ga) (.slice Aa na ca)
    refine ⟨hff, ka, ga, Aa, na, ca, ec, rfl, ?_⟩
    rw [HO.out]
    rcases HR.out with ⟨a, y2, hr3, h0, hrd3, hps3⟩ | h3
    · exact .inl ⟨a, y2, hr3, h0, (hrd3.to fun b' h1 h2 => heap_other3Q _ _ _ _ _ _ (by omega)).less (by omega), hps3.put3 (by have := HB0.out; omega) (by omega) _ _ _⟩
    · exact .inr h3
  have ht0 : t1 = 0 := by
    have h2 := HFI.out
    unfold firM at h2
    by_cases h0 : t1 = 0
    · exact h0
    · rw [if_neg h0, if_neg (by rintro (e | e | e) <;> contradiction)] at h2
      cases h2
  subst ht0
  have k1 : (t2.toList == [123]) = false := (eq_P t2).trans (decide_eq_false (hg.nP rfl))
  have k2 : (t2.toList == [91]) = false := (eq_L t2).trans (decide_eq_false (hg.nL rfl))
  have k3 : (t2.toList == [40]) = false := (eq_O t2).trans (decide_eq_false (hg.nO rfl))
  have hh : hdM sg ss.reverse t2 = .ok (.node kh gh []) := by
    have h2 := HFI.out
    unfold firM at h2
    rw [if_pos rfl] at h2
    exact h2
  obtain ⟨_, m1, m2, m3, m4⟩ := hd_bound hh hsgf (by rw [List.length_reverse]; omega)
  by_cases hty : t2 = tyN
  · have k4 : (t2.toList == [116, 121, 112, 101]) = true := (eq_T t2).trans (decide_eq_true hty)
    have hk0 : kh = 0 ∧ gh = 0 := by
      unfold hdM at hh
      rw [if_pos hty] at hh
      cases hh
      exact ⟨rfl, rfl⟩
    obtain ⟨rfl, rfl⟩ := hk0
    have HO := Lib.hid (show termM sg (kk + 1) ss.reverse ((0, t2) :: r) = aloneM (.ok (.node 0 0 [], r)) by rw [hty]; exact term_T sg kk ss.reverse r)
    have HA := Lib.hid (pAloneC (R := R) (K := K) (SA := SA) (sn := sn) (sc := sc) (sg := sg) (b0 := b0) w4.heap.size (.ok (.node 0 0 [], r)) 0 0 none 0 0 0 w4 (by omega) (Nat.le_refl _) (.inl ⟨_, r, rfl, rfl, RdN.leaf (by omega) (by omega) (by omega) (by omega), HP5.out⟩))
    clear hty hh c1 c2 c3
    go_wp2_with fail
    refine HA.out.mono ?_
    rintro e w9 ⟨hf9, ka, ga, Aa, na, ca, ec, rfl, hres⟩
    have hs9 := hf9.size
    have zb := z1.fr hf9 (by omega)
    have HF9 := Lib.hid (HF4.out.trans hf9)
    have HR := Lib.hid hres
    clear hf9 hres
    clear z1 HA p0 p1 v0 v1 q0 q1 q2
    have z9 := ((zb.put 0 (.int .i64 ka)).put 1 (.int .i64 ga)).put 2 ((.slice Aa na ca))
    have e0 := z9.cell 0
    have e1 := z9.cell 1
    have e2 := z9.cell 2
    have r0 := zb.cell 0
    have r1 := zb.cell 1
    have r2 := zb.cell 2
    have fz0 := zb.frozen 0
    have fz1 := zb.frozen 1
    have fz2 := zb.frozen 2
    have lz := zb.lt
    simp only [List.setIfInBounds_toArray, List.set_cons_zero, List.set_cons_succ, List.getElem?_toArray, List.getElem?_cons_zero, List.getElem?_cons_succ] at e0 e1 e2 r0 r1 r2
    clear z9 zb
    go_wp2_with fail
    refine bodyPost_ret (v := .tuple #[.agg #[.int .i64 ka, .int .i64 ga, (.slice Aa na ca)], .int .i64 ec]) (by simp [results, Tryz.results61, go_sem, e0, e1, e2]) rfl ?_
    have hff := HF9.out.put3 (P := w.heap.size + 1) (by omega) (.int .i64 ka) (.int .i64 ga) (.slice Aa na ca)
    refine ⟨hff, ka, ga, Aa, na, ca, ec, rfl, ?_⟩
    rw [HO.out]
    rcases HR.out with ⟨a, y2, hr3, h0, hrd3, hps3⟩ | h3
    · exact .inl ⟨a, y2, hr3, h0, (hrd3.to fun b' h1 h2 => heap_other3Q _ _ _ _ _ _ (by omega)).less (by omega), hps3.put3 (by have := HB0.out; omega) (by omega) _ _ _⟩
    · exact .inr h3
  · have k4 : (t2.toList == [116, 121, 112, 101]) = false := (eq_T t2).trans (decide_eq_false hty)
    have hh2 : headM sg ss.reverse t2 = .ok (.node kh gh []) := by
      unfold hdM at hh
      rw [if_neg hty] at hh
      exact hh
    have HO := Lib.hid (show termM sg (kk + 1) ss.reverse ((0, t2) :: r) = othersM sg ss.reverse (termM sg kk ss.reverse) kh gh [] r from term_N sg kk ss.reverse t2 r hty hh2)
    have HC := Lib.hid (pOthersC IH1 HP5.out ss A n c tm HNL4.out hk htm h0tm kh gh (wfB m1 (by omega)) (wfB m3 m4))
    clear hty hh hh2 c1 c2 c3
    go_wp2_with fail
    refine HC.out.mono ?_
    rintro e w9 ⟨hf9, ka, ga, Aa, na, ca, ec, rfl, hres⟩
    have hs9 := hf9.size
    have zb := z1.fr hf9 (by omega)
    have HF9 := Lib.hid (HF4.out.trans hf9)
    have HR := Lib.hid hres
    clear hf9 hres
    clear z1 HC p0 p1 v0 v1 q0 q1 q2
    have z9 := ((zb.put 0 (.int .i64 ka)).put 1 (.int .i64 ga)).put 2 ((.slice Aa na ca))
    have e0 := z9.cell 0
    have e1 := z9.cell 1
    have e2 := z9.cell 2
    have r0 := zb.cell 0
    have r1 := zb.cell 1
    have r2 := zb.cell 2
    have fz0 := zb.frozen 0
    have fz1 := zb.frozen 1
    have fz2 := zb.frozen 2
    have lz := zb.lt
    simp only [List.setIfInBounds_toArray, List.set_cons_zero, List.set_cons_succ, List.getElem?_toArray, List.getElem?_cons_zero, List.getElem?_cons_succ] at e0 e1 e2 r0 r1 r2
    clear z9 zb
    go_wp2_with fail
    refine bodyPost_ret (v := .tuple #[.agg #[.int .i64 ka, .int .i64 ga, (.slice Aa na ca)], .int .i64 ec]) (by simp [results, Tryz.results61, go_sem, e0, e1, e2]) rfl ?_
    have hff := HF9.out.put3 (P := w.heap.size + 1) (by omega) (.int .i64 ka) (.int .i64 ga) (.slice Aa na ca)
    refine ⟨hff, ka, ga, Aa, na, ca, ec, rfl, ?_⟩
    rw [HO.out]
    rcases HR.out with ⟨a, y2, hr3, h0, hrd3, hps3⟩ | h3
    · exact .inl ⟨a, y2, hr3, h0, (hrd3.to fun b' h1 h2 => heap_other3Q _ _ _ _ _ _ (by omega)).less (by omega), hps3.put3 (by have := HB0.out; omega) (by omega) _ _ _⟩
    · exact .inr h3
theorem pTermC {b0 R K : Nat} {SA : Option Addr} {sn sc : Nat} {sg : List (ByteArray × T)} : ∀ k : Nat, k ≤ 120 → TmCb b0 R K SA sn sc sg k := by
  intro k
  induction k with
  | zero => exact fun h => pTermAt 0 (fun kk e => by omega) h
  | succ k ih => exact fun hk => pTermAt (k + 1) (fun kk e => by obtain rfl : kk = k := by omega
                                                                 exact ih (by omega)) hk
end Go.Proofs.YtmkahbbcagfbhaaGreatDoor
/-
  Contract of package parse's whole. No statement is proved here.
-/
namespace Go.Proofs.YtmkahbbcagfbhaaGreatDoor
open Go.ChangeShapes Go.WideShapes Go.ChangeAt Go.RowKit
set_option linter.unusedVariables false
/-- a TERM that may be, and the mark behind it -/
def wholeE (sg : List (ByteArray × T)) (m : ByteArray) (x : List Tk) : Rt := match wholeM mayB sg x with
  | .error e => .error e
  | .ok (t, y) => if hdT y = (1, m) then .ok (t, y.tail) else .error 8
set_option maxRecDepth 100000 in
set_option maxHeartbeats 2000000 in
theorem pWholeC {b0 R K : Nat} {SA : Option Addr} {sn sc : Nat} {sg : List (ByteArray × T)} {x : List Tk} {w : World} (h : PS b0 R K SA sn sc sg x w) (m : ByteArray) :
    Calls Tryz.prog 39 #[.pointer (some ⟨R, 0, none⟩), .string m] w (TmX w.heap.size b0 R K SA sn sc sg (wholeE sg m x) w) := by
  obtain ⟨W, hW⟩ : ∃ W, w.alloc (.cells #[.int .i64 0, .int .i64 0, .slice none 0 0] 36) = W := ⟨_, rfl⟩
  have hb : Below w.heap.size w W := by rw [← hW]; exact (Below.refl _ _).alloc (Nat.le_refl _) _
  have x1 : BoxX W w.heap.size 36 #[.int .i64 0, .int .i64 0, .slice none 0 0] := by rw [← hW]; exact BoxX.new _ _ _
  have hsz : W.heap.size = w.heap.size + 1 := by rw [← hW]; simp
  have hlt := h.lt
  have hfew := h.few
  have HB0 := Lib.hid h.le
  have HC := Lib.hid (show Calls Tryz.prog 61 #[.pointer (some ⟨R, 0, none⟩), .agg #[.slice none 0 0, .int .i64 1]] W (TmX W.heap.size b0 R K SA sn sc sg (termM sg 120 [] x) W) from pTermC 120 (Nat.le_refl _) x W [] none 0 0 1 (h.keep hb) (NL.nil _) (by simp) (by omega))
  have HB := Lib.hid hb
  have HX1 := Lib.hid x1
  have HSZ := Lib.hid hsz
  clear hb x1 h hsz
  subst hW
  go_enter Tryz.func39, Tryz.ntmps39
  go_wp2_with fail
  refine HC.out.mono ?_
  rintro e w2 ⟨hf2, k1, g1, A1, n1, c1, ec, rfl, hres⟩
  have hs2 := hf2.size
  rw [HSZ.out] at hs2
  have x2 := HX1.out.fr hf2 (by omega)
  have HF2 := Lib.hid ((FrB.below HB.out).trans hf2)
  clear HC HX1 HB hf2
  generalize (w.alloc (.cells #[.int .i64 0, .int .i64 0, .slice none 0 0] 36)) = W at *
  have hfr3 : ∀ (k g : Int) (s : Value), FrB R w (w2.alloc (.cells #[.int .i64 k, .int .i64 g, s] 36)) := fun k g s => HF2.out.then ((Below.refl _ _).alloc (Nat.le_refl _) _)
  rcases hres with ⟨t, y, hr, rfl, hrd, hps⟩ | ⟨hr, he, rfl, rfl, rfl, rfl, rfl⟩
  rotate_left
  · have d9 : (ec == 0) = false := by simpa using he
    have HR := Lib.hid (And.intro hr he)
    have x3 := x2.alloc (.cells #[.int .i64 0, .int .i64 0, .slice none 0 0] 36)
    have HF3 := Lib.hid (hfr3 0 0 (.slice none 0 0))
    clear hr he x2 hfr3
    have z9 := ((x3.put 0 (.int .i64 0)).put 1 (.int .i64 0)).put 2 ((.slice none 0 0))
    have e0 := z9.cell 0
    have e1 := z9.cell 1
    have e2 := z9.cell 2
    have r0 := x3.cell 0
    have r1 := x3.cell 1
    have r2 := x3.cell 2
    have fz0 := x3.frozen 0
    have fz1 := x3.frozen 1
    have fz2 := x3.frozen 2
    have lz := x3.lt
    simp only [List.setIfInBounds_toArray, List.set_cons_zero, List.set_cons_succ, List.getElem?_toArray, List.getElem?_cons_zero, List.getElem?_cons_succ] at e0 e1 e2 r0 r1 r2
    clear z9 x3
    go_wp2_with fail
    refine bodyPost_ret (v := .tuple #[.agg #[.int .i64 0, .int .i64 0, (.slice none 0 0)], .int .i64 ec]) (by simp [results, Tryz.results39, go_sem, e0, e1, e2]) rfl ?_
    have hff := HF3.out.put3 (P := w.heap.size) (Nat.le_refl _) (.int .i64 0) (.int .i64 0) (.slice none 0 0)
    exact ⟨hff, 0, 0, none, 0, 0, ec, rfl, .inr ⟨by rw [wholeE, wholeM, HR.out.1], HR.out.2, rfl, rfl, rfl, rfl, rfl⟩⟩
  obtain ⟨W3, hW3⟩ : ∃ W3, (w2.alloc (.cells #[.int .i64 k1, .int .i64 g1, (.slice A1 n1 c1)] 36)) = W3 := ⟨_, rfl⟩
  have hb3 : Below w2.heap.size w2 W3 := by rw [← hW3]; exact (Below.refl _ _).alloc (Nat.le_refl _) _
  have xt : BoxX W3 w2.heap.size 36 #[.int .i64 k1, .int .i64 g1, .slice A1 n1 c1] := by rw [← hW3]; exact BoxX.new _ _ _
  have x3 := x2.keep hb3 x2.lt
  have hl3 : W3.heap.size = w2.heap.size + 1 := by rw [← hW3]; simp
  have hnd := term_few sg 120 [] _ _ _ hr
  have hM := mayC t _ W3 (hrd.keep hb3).rd (by omega)
  have HF3 := Lib.hid (HF2.out.then hb3)
  have HM := Lib.hid hM
  have HP3 := Lib.hid (hps.keep hb3)
  have HR := Lib.hid (And.intro hr (hrd.keep hb3))
  have q0 := xt.cell 0
  have q1 := xt.cell 1
  have q2 := xt.cell 2
  simp only [List.getElem?_toArray, List.getElem?_cons_zero, List.getElem?_cons_succ] at q0 q1 q2
  clear hr hrd hps hb3 x2 hfr3 hnd hM HF2
  subst hW3
  go_wp2_with fail
  refine HM.out.mono ?_
  rintro e w4 ⟨rfl, hb4⟩
  have hs4 := hb4.size
  have x4 := x3.keep hb4 x3.lt
  have xt4 := xt.keep hb4 xt.lt
  have HF4 := Lib.hid (HF3.out.then hb4)
  have HP4 := Lib.hid (HP3.out.keep hb4)
  have HR4 := Lib.hid (And.intro HR.out.1 (HR.out.2.keep hb4))
  clear HM HP3 HR HF3 x3 xt q0 q1 q2 hb4
  generalize (w2.alloc (.cells #[.int .i64 k1, .int .i64 g1, (.slice A1 n1 c1)] 36)) = W3 at *
  cases hm : mayB t with
  | false =>
    have HE := Lib.hid (show wholeE sg m x = .error 4 by rw [wholeE, wholeM, HR4.out.1]; dsimp only; rw [if_neg (by rw [hm]; simp)])
    clear hm xt4
    have z9 := ((x4.put 0 (.int .i64 0)).put 1 (.int .i64 0)).put 2 ((.slice none 0 0))
    have e0 := z9.cell 0
    have e1 := z9.cell 1
    have e2 := z9.cell 2
    have r0 := x4.cell 0
    have r1 := x4.cell 1
    have r2 := x4.cell 2
    have fz0 := x4.frozen 0
    have fz1 := x4.frozen 1
    have fz2 := x4.frozen 2
    have lz := x4.lt
    simp only [List.setIfInBounds_toArray, List.set_cons_zero, List.set_cons_succ, List.getElem?_toArray, List.getElem?_cons_zero, List.getElem?_cons_succ] at e0 e1 e2 r0 r1 r2
    clear z9 x4
    go_wp2_with fail
    refine bodyPost_ret (v := .tuple #[.agg #[.int .i64 0, .int .i64 0, (.slice none 0 0)], .int .i64 4]) (by simp [results, Tryz.results39, go_sem, e0, e1, e2]) rfl ?_
    have hff := HF4.out.put3 (P := w.heap.size) (Nat.le_refl _) (.int .i64 0) (.int .i64 0) (.slice none 0 0)
    exact ⟨hff, 0, 0, none, 0, 0, 4, rfl, .inr ⟨HE.out, by decide, rfl, rfl, rfl, rfl, rfl⟩⟩
  | true =>
    have HE := Lib.hid (show wholeE sg m x = if hdT y = (1, m) then .ok (t, y.tail) else .error 8 by rw [wholeE, wholeM, HR4.out.1]; dsimp only; rw [if_pos hm])
    obtain ⟨q, hq⟩ : ∃ q, decide (hdT y = (1, m)) = q := ⟨_, rfl⟩
    have hT := pTakeC HP4.out m
    rw [hq] at hT
    have HT := Lib.hid hT
    have HQ := Lib.hid hq
    clear hm hq hT
    go_wp2_with fail
    refine HT.out.mono ?_
    rintro e w5 ⟨rfl, hps5, hf5⟩
    have hs5 := hf5.size
    have x5 := x4.fr hf5 (by omega)
    have xt5 := xt4.fr hf5 (by omega)
    have HF5 := Lib.hid (HF4.out.trans hf5)
    have HR5 := Lib.hid (HR4.out.2.fr hf5 (by have := HSZ.out; omega))
    have HP5 := Lib.hid hps5
    clear HT x4 xt4 hf5 hps5
    cases q with
    | false =>
      have HE2 := Lib.hid (show wholeE sg m x = .error 8 by rw [HE.out, if_neg (of_decide_eq_false HQ.out)])
      clear xt5
      have z9 := ((x5.put 0 (.int .i64 0)).put 1 (.int .i64 0)).put 2 ((.slice none 0 0))
      have e0 := z9.cell 0
      have e1 := z9.cell 1
      have e2 := z9.cell 2
      have r0 := x5.cell 0
      have r1 := x5.cell 1
      have r2 := x5.cell 2
      have fz0 := x5.frozen 0
      have fz1 := x5.frozen 1
      have fz2 := x5.frozen 2
      have lz := x5.lt
      simp only [List.setIfInBounds_toArray, List.set_cons_zero, List.set_cons_succ, List.getElem?_toArray, List.getElem?_cons_zero, List.getElem?_cons_succ] at e0 e1 e2 r0 r1 r2
      clear z9 x5
      go_wp2_with fail
      refine bodyPost_ret (v := .tuple #[.agg #[.int .i64 0, .int .i64 0, (.slice none 0 0)], .int .i64 8]) (by simp [results, Tryz.results39, go_sem, e0, e1, e2]) rfl ?_
      have hff := HF5.out.put3 (P := w.heap.size) (Nat.le_refl _) (.int .i64 0) (.int .i64 0) (.slice none 0 0)
      exact ⟨hff, 0, 0, none, 0, 0, 8, rfl, .inr ⟨HE2.out, by decide, rfl, rfl, rfl, rfl, rfl⟩⟩
    | true =>
      have HE2 := Lib.hid (show wholeE sg m x = .ok (t, y.tail) by rw [HE.out, if_pos (of_decide_eq_true HQ.out)])
      have hp6 := HP5.out
      rw [if_pos (of_decide_eq_true HQ.out)] at hp6
      have HP6 := Lib.hid hp6
      have q0 := xt5.cell 0
      have q1 := xt5.cell 1
      have q2 := xt5.cell 2
      simp only [List.getElem?_toArray, List.getElem?_cons_zero, List.getElem?_cons_succ] at q0 q1 q2
      clear hp6
      have z9 := ((x5.put 0 (.int .i64 k1)).put 1 (.int .i64 g1)).put 2 ((.slice A1 n1 c1))
      have e0 := z9.cell 0
      have e1 := z9.cell 1
      have e2 := z9.cell 2
      have r0 := x5.cell 0
      have r1 := x5.cell 1
      have r2 := x5.cell 2
      have fz0 := x5.frozen 0
      have fz1 := x5.frozen 1
      have fz2 := x5.frozen 2
      have lz := x5.lt
      simp only [List.setIfInBounds_toArray, List.set_cons_zero, List.set_cons_succ, List.getElem?_toArray, List.getElem?_cons_zero, List.getElem?_cons_succ] at e0 e1 e2 r0 r1 r2
      clear z9 x5
      go_wp2_with fail
      refine bodyPost_ret (v := .tuple #[.agg #[.int .i64 k1, .int .i64 g1, (.slice A1 n1 c1)], .int .i64 0]) (by simp [results, Tryz.results39, go_sem, e0, e1, e2]) rfl ?_
      have hff := HF5.out.put3 (P := w.heap.size) (Nat.le_refl _) (.int .i64 k1) (.int .i64 g1) (.slice A1 n1 c1)
      refine ⟨hff, k1, g1, A1, n1, c1, 0, rfl, .inl ⟨t, y.tail, HE2.out, rfl, ?_, HP6.out.put3 (by have := HB0.out; omega) (by omega) _ _ _⟩⟩
      exact (HR5.out.to fun b' h1 h2 => heap_other3Q _ _ _ _ _ _ (by have := HSZ.out; omega)).less (by have := HSZ.out; omega)
end Go.Proofs.YtmkahbbcagfbhaaGreatDoor
