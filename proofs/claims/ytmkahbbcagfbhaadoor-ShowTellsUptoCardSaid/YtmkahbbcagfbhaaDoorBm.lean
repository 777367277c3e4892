/-
  Contracts of package parse's other and others. No statement is proved here.
-/
import Derived.Test.YtmkahbbcagfbhaaDoorBl
namespace Go.Proofs.YtmkahbbcagfbhaaDoor
open Go.ChangeShapes Go.WideShapes Go.ChangeAt Go.RowKit
set_option linter.unusedVariables false

theorem run_fieldB (k : Int) (s : ByteArray) (W : World) : (Instr.field 64 (.agg #[.int .i64 k, .string s]) 1).run Tryd.prog W = .ok (.string s) W := by kernel_rfl
set_option maxRecDepth 100000 in
set_option maxHeartbeats 2000000 in
theorem pOtherC {b0 R K : Nat} {SA : Option Addr} {sn sc : Nat} {sg : List (ByteArray × T)} {k : Nat} (IH : TmC b0 R K SA sn sc sg k) {x : List Tk} {w : World} (h : PS b0 R K SA sn sc sg x w) (ss : List ByteArray) (A : Option Addr) (n c : Nat) (tm : Int) (hN : NL w ss A n c) (hk : ss.length + (k + 1) ≤ 1000) (htm : tm + (k + 1) = 121) (h0tm : 0 ≤ tm) (hbe : begM x = true) :
    Calls Tryd.prog 83 #[.pointer (some ⟨R, 0, none⟩), .agg #[.slice A n c, .int .i64 tm]] w (TmX w.heap.size b0 R K SA sn sc sg (otherM sg ss.reverse (termM sg k ss.reverse) x) w) := by
  obtain ⟨W, hW⟩ : ∃ W, (w.alloc (.cells #[.slice A n c, .int .i64 tm] 81)).alloc (.cells #[.int .i64 0, .int .i64 0, .slice none 0 0] 24) = W := ⟨_, rfl⟩
  have hb : Below w.heap.size w W := by rw [← hW]; exact ((Below.refl _ _).alloc (Nat.le_refl _) _).alloc (by simp) _
  have x0 : BoxX W w.heap.size 81 #[.slice A n c, .int .i64 tm] := by rw [← hW]; exact (BoxX.new _ _ _).alloc _
  have x1 : BoxX W (w.heap.size + 1) 24 #[.int .i64 0, .int .i64 0, .slice none 0 0] := by
    have := BoxX.new (w.alloc (.cells #[.slice A n c, .int .i64 tm] 81)) 24 #[.int .i64 0, .int .i64 0, .slice none 0 0]
    rw [← hW]; simpa using this
  have hsz : W.heap.size = w.heap.size + 2 := by rw [← hW]; simp
  have hlt := h.lt
  have HB0 := Lib.hid h.le
  obtain ⟨t, r, rfl⟩ : ∃ t r, x = t :: r := by
    cases x with
    | nil => cases hbe
    | cons t r => exact ⟨t, r, rfl⟩
  obtain ⟨q, hq⟩ : ∃ q, decide (t = mO) = q := ⟨_, rfl⟩
  have hT := pTakeC (h.keep hb) ⟨#[40]⟩
  rw [show decide (hdT (t :: r) = ((1, ⟨#[40]⟩) : Tk)) = q from hq] at hT
  have htg := h.good t List.mem_cons_self
  have hlx := h.few
  have HT := Lib.hid hT
  have HNL := Lib.hid (hN.keep hb)
  have HP0 := Lib.hid (h.keep hb)
  have HB := Lib.hid hb
  have HX0 := Lib.hid x0
  have HX1 := Lib.hid x1
  have HSZ := Lib.hid hsz
  have HQ := Lib.hid (And.intro hq (And.intro hbe htg))
  have hlN := hN.len
  have hsgf := h.sgf
  clear hb x0 x1 h hN hsz hq hbe hT htg
  subst hW
  go_enter Tryd.func83, Tryd.ntmps83
  go_wp2_with fail
  refine HT.out.mono ?_
  rintro e w1 ⟨rfl, hps1, hf1⟩
  have y0 := HX0.out.fr hf1 (by omega)
  have y1 := HX1.out.fr hf1 (by omega)
  have HNL1 := Lib.hid (HNL.out.fr HP0.out hf1)
  have hs1 := hf1.size
  rw [HSZ.out] at hs1
  have HF1 := Lib.hid ((FrB.below HB.out).trans hf1)
  have HP1 := Lib.hid hps1
  have p0 := y0.cell 0
  have p1 := y0.cell 1
  simp only [List.getElem?_toArray, List.getElem?_cons_zero, List.getElem?_cons_succ] at p0 p1
  clear HT HNL HP0 HX0 HX1 HB hf1 hps1
  generalize ((w.alloc (.cells #[.slice A n c, .int .i64 tm] 81)).alloc (.cells #[.int .i64 0, .int .i64 0, .slice none 0 0] 24)) = W at *
  cases q with
  | true =>
    have ht : t = mO := of_decide_eq_true HQ.out.1
    have hp1 := HP1.out
    rw [if_pos (show hdT (t :: r) = ((1, ⟨#[40]⟩) : Tk) from ht)] at hp1
    have HO := Lib.hid (show otherM sg ss.reverse (termM sg k ss.reverse) (t :: r) = closedM mC (termM sg k ss.reverse r) by rw [otherM, if_pos ht])
    have hI := pInner0C A n c tm w1 (by omega) (by omega) HNL1.out
    have HI := Lib.hid hI
    have HP2 := Lib.hid (show PS b0 R K SA sn sc sg r w1 from hp1)
    clear hI hp1 HP1 ht
    go_wp2_with fail
    refine HI.out.mono ?_
    rintro e w2 ⟨rfl, hb2⟩
    have hC := pClosedC IH (HP2.out.keep hb2) ss A n n (tm + 1) (HNL1.out.full.keep hb2) (by omega) (by omega) ⟨#[41]⟩ (by decide)
    have HC := Lib.hid hC
    have HB2 := Lib.hid hb2
    clear hC hb2 HI
    go_wp2_with fail
    refine HC.out.mono ?_
    rintro e w3 ⟨hf3, ka, ga, Aa, na, ca, ec, rfl, hres⟩
    have hs2 := HB2.out.size
    have hs3 := hf3.size
    have HF3 := Lib.hid (HF1.out.trans ((FrB.below HB2.out).trans hf3))
    have z1 := (y1.keep HB2.out y1.lt).fr hf3 (by omega)
    have HR := Lib.hid hres
    clear HC y0 y1 p0 p1 HNL1 HB2 hf3 HF1 HP2 hres
    have z9 := ((z1.put 0 (.int .i64 ka)).put 1 (.int .i64 ga)).put 2 ((.slice Aa na ca))
    have e0 := z9.cell 0
    have e1 := z9.cell 1
    have e2 := z9.cell 2
    have r0 := z1.cell 0
    have r1 := z1.cell 1
    have r2 := z1.cell 2
    have fz0 := z1.frozen 0
    have fz1 := z1.frozen 1
    have fz2 := z1.frozen 2
    have lz := z1.lt
    simp only [List.setIfInBounds_toArray, List.set_cons_zero, List.set_cons_succ, List.getElem?_toArray, List.getElem?_cons_zero, List.getElem?_cons_succ] at e0 e1 e2 r0 r1 r2
    clear z9 z1
    go_wp2_with fail
    refine bodyPost_ret (v := .tuple #[.agg #[.int .i64 ka, .int .i64 ga, (.slice Aa na ca)], .int .i64 ec]) (by simp [results, Tryd.results83, go_sem, e0, e1, e2]) rfl ?_
    have hff := HF3.out.put3 (P := w.heap.size + 1) (by omega) (.int .i64 ka) (.int .i64 ga) (.slice Aa na ca)
    refine ⟨hff, ka, ga, Aa, na, ca, ec, rfl, ?_⟩
    rw [HO.out]
    rcases HR.out with ⟨a, y2, hr3, h0, hrd3, hps3⟩ | h3
    · exact .inl ⟨a, y2, hr3, h0, (hrd3.to fun b' h1 h2 => heap_other3Q _ _ _ _ _ _ (by omega)).less (by omega), hps3.put3 (by have := HB0.out; omega) (by omega) _ _ _⟩
    · exact .inr h3
  | false =>
    have ht : t ≠ mO := of_decide_eq_false HQ.out.1
    have hp1 := HP1.out
    rw [if_neg (show hdT (t :: r) ≠ ((1, ⟨#[40]⟩) : Tk) from ht)] at hp1
    have ht1 : t.1 = 0 := by
      have hbe := HQ.out.2.1
      rw [begM, Bool.or_eq_true, decide_eq_true_eq, decide_eq_true_eq] at hbe
      exact hbe.resolve_left ht
    have hNx := pNextC hp1
    rw [show hdT (t :: r) = t from rfl] at hNx
    obtain ⟨t1, t2⟩ := t
    dsimp only at ht1 hNx
    subst ht1
    have HN := Lib.hid hNx
    have HP2 := Lib.hid hp1
    have HTG := Lib.hid HQ.out.2.2.sz
    have hFd := run_fieldB 0 t2
    have HO := Lib.hid (show otherM sg ss.reverse (termM sg k ss.reverse) ((0, t2) :: r) = if t2 = tyN then .error 8 else match headM sg ss.reverse t2 with | .error e => .error e | .ok u => .ok (u, r) by rw [otherM, if_neg ht]; rfl)
    clear hNx hp1 HP1 ht HQ
    go_wp2_with fail
    refine HN.out.mono ?_
    rintro e w2 ⟨rfl, hb2⟩
    have HB2 := Lib.hid hb2
    have hs2 := hb2.size
    clear hb2 HN
    by_cases hty : t2 = tyN
    · have heq : (t2.toList == [116, 121, 112, 101]) = true := by rw [← ty_list]; exact (bytes_eqB t2 tyN).trans (decide_eq_true hty)
      have HO2 := Lib.hid (show otherM sg ss.reverse (termM sg k ss.reverse) ((0, t2) :: r) = .error 8 by rw [HO.out, if_pos hty])
      have z1 := y1.keep HB2.out y1.lt
      have HF3 := Lib.hid (HF1.out.trans (FrB.below HB2.out))
      clear hty HO y0 y1 p0 p1 HNL1 HB2 HF1 HP2
      have z9 := ((z1.put 0 (.int .i64 0)).put 1 (.int .i64 0)).put 2 ((.slice none 0 0))
      have e0 := z9.cell 0
      have e1 := z9.cell 1
      have e2 := z9.cell 2
      have r0 := z1.cell 0
      have r1 := z1.cell 1
      have r2 := z1.cell 2
      have fz0 := z1.frozen 0
      have fz1 := z1.frozen 1
      have fz2 := z1.frozen 2
      have lz := z1.lt
      simp only [List.setIfInBounds_toArray, List.set_cons_zero, List.set_cons_succ, List.getElem?_toArray, List.getElem?_cons_zero, List.getElem?_cons_succ] at e0 e1 e2 r0 r1 r2
      clear z9 z1
      go_wp2_with fail
      refine bodyPost_ret (v := .tuple #[.agg #[.int .i64 0, .int .i64 0, (.slice none 0 0)], .int .i64 8]) (by simp [results, Tryd.results83, go_sem, e0, e1, e2]) rfl ?_
      have hff := HF3.out.put3 (P := w.heap.size + 1) (by omega) (.int .i64 0) (.int .i64 0) (.slice none 0 0)
      exact ⟨hff, 0, 0, none, 0, 0, 8, rfl, .inr ⟨HO2.out, by decide, rfl, rfl, rfl, rfl, rfl⟩⟩
    · have heq : (t2.toList == [116, 121, 112, 101]) = false := by rw [← ty_list]; exact (bytes_eqB t2 tyN).trans (decide_eq_false hty)
      have HO2 := Lib.hid (show otherM sg ss.reverse (termM sg k ss.reverse) ((0, t2) :: r) = match hdM sg ss.reverse t2 with | .error e => .error e | .ok u => .ok (u, r) by rw [HO.out, if_neg hty, hdM, if_neg hty])
      have HS := Lib.hid (pSkipC (HP2.out.keep HB2.out))
      clear hty HO
      go_wp2_with fail
      refine HS.out.mono ?_
      rintro e w3 ⟨rfl, hps3, hf3⟩
      have hs3 := hf3.size
      have z0 := (y0.keep HB2.out y0.lt).fr hf3 (by omega)
      have z1 := (y1.keep HB2.out y1.lt).fr hf3 (by omega)
      have hNL3 := (HNL1.out.keep HB2.out).fr (HP2.out.keep HB2.out) hf3
      have HH := Lib.hid (pHeadC hps3 t2 HTG.out ss A n c tm hNL3)
      have HF3 := Lib.hid (HF1.out.trans ((FrB.below HB2.out).trans hf3))
      have HP3 := Lib.hid (show PS b0 R K SA sn sc sg r w3 from hps3)
      clear HS y0 y1 p0 p1 HNL1 HB2 hf3 HF1 HP2 hps3 hNL3
      have p0 := z0.cell 0
      have p1 := z0.cell 1
      simp only [List.getElem?_toArray, List.getElem?_cons_zero, List.getElem?_cons_succ] at p0 p1
      go_wp2_with fail
      refine HH.out.mono ?_
      rintro e w4 ⟨hb4, k4, g4, ec, rfl, hres⟩
      have z14 := z1.keep hb4 z1.lt
      have hs4 := hb4.size
      have HF4 := Lib.hid (HF3.out.then hb4)
      have HP4 := Lib.hid (HP3.out.keep hb4)
      have HR := Lib.hid hres
      clear HH z0 z1 p0 p1 HF3 HP3 hb4 hres
      have z9 := ((z14.put 0 (.int .i64 k4)).put 1 (.int .i64 g4)).put 2 ((.slice none 0 0))
      have e0 := z9.cell 0
      have e1 := z9.cell 1
      have e2 := z9.cell 2
      have r0 := z14.cell 0
      have r1 := z14.cell 1
      have r2 := z14.cell 2
      have fz0 := z14.frozen 0
      have fz1 := z14.frozen 1
      have fz2 := z14.frozen 2
      have lz := z14.lt
      simp only [List.setIfInBounds_toArray, List.set_cons_zero, List.set_cons_succ, List.getElem?_toArray, List.getElem?_cons_zero, List.getElem?_cons_succ] at e0 e1 e2 r0 r1 r2
      clear z9 z14
      go_wp2_with fail
      refine bodyPost_ret (v := .tuple #[.agg #[.int .i64 k4, .int .i64 g4, (.slice none 0 0)], .int .i64 ec]) (by simp [results, Tryd.results83, go_sem, e0, e1, e2]) rfl ?_
      have hff := HF4.out.put3 (P := w.heap.size + 1) (by omega) (.int .i64 k4) (.int .i64 g4) (.slice none 0 0)
      refine ⟨hff, k4, g4, none, 0, 0, ec, rfl, ?_⟩
      rw [HO2.out]
      rcases HR.out with ⟨h1, h2⟩ | ⟨h1, h2, h3, h4⟩
      · obtain ⟨_, b1, b2, b3, b4⟩ := hd_bound h1 hsgf (by rw [List.length_reverse]; omega)
        exact .inl ⟨_, r, by rw [h1], h2, RdN.leaf b1 b2 b3 b4, HP4.out.put3 (by have := HB0.out; omega) (by omega) _ _ _⟩
      · exact .inr ⟨by rw [h1], by omega, h3, h4, rfl, rfl, rfl⟩

/-- what holds at the head of its loop -/
structure OtI (b0 R K : Nat) (SA : Option Addr) (sn sc : Nat) (sg : List (ByteArray × T)) (kk : Nat) (ss : List ByteArray) (A : Option Addr) (n c : Nat) (tm : Int) (w : World) (k g : Int) (res : Rt) (gf : Nat) (wr : World) (v : Value) (m : Nat) (cs : List Value) (us : List T) (y : List Tk) : Prop where
  head : BoxX wr w.heap.size 24 #[.int .i64 k, .int .i64 g, v]
  inb : BoxX wr (w.heap.size + 1) 81 #[.slice A n c, .int .i64 tm]
  ans : BoxX wr (w.heap.size + 1 + 1) 24 #[.int .i64 0, .int .i64 0, .slice none 0 0]
  row : GRowQ (fun b => b < w.heap.size + 3) wr (w.heap.size + 3) v m cs us
  ps : PS b0 R K SA sn sc sg y wr
  nl : NL wr ss A n c
  fr : FrB R w wr
  big : w.heap.size + 3 ≤ wr.heap.size
  fuel : y.length ≤ gf
  few : us.length + y.length ≤ 100000
  eq : othersM sg ss.reverse (termM sg kk ss.reverse) k g us y = res
/-- a row's terms, all of them from a block on -/
theorem GRowQ.node {lo : Nat} {w : World} {n c : Nat} {A : Option Addr} {cs : List Value} {ys : List T} (h : GRowQ (fun b => b < lo) w lo (.slice A n c) n cs ys) {k g : Int} (h1 : (Lit.int .i64 k).wf = true) (h2 : (Lit.int .i64 g).wf = true) : RdN lo w (.node k g ys) (.agg #[.int .i64 k, .int .i64 g, .slice A n c]) := by
  obtain ⟨A', c', e, hc, hm⟩ := h.full
  cases e
  refine RdF_node.2 ⟨A, n, c, rfl, h1, h2, h.len, hc, hm, fun i t ht => ?_⟩
  obtain ⟨k', h', A', n', c', e0, e1, e2, hr⟩ := h.kids i t ht
  have hi := (List.getElem?_eq_some_iff.1 ht).1
  rcases h.own.2 with ⟨e, h0⟩ | ⟨gg, cap, cur, e, hb, _, h1, h2, _⟩
  · have := h.len; omega
  · injection e with ea _ _
    subst ea
    have hc := fun j u (hu : cs[j]? = some u) => h.own.cells (g := gg) rfl j u hu
    have c0 := hc _ _ e0
    have c1 := hc _ _ e1
    have c2 := hc _ _ e2
    rw [addr_add] at c0 c1 c2
    exact ⟨gg, 0, _, _, _, rfl, hb, c0, c1, c2, RdF.moveQ (fun b hb' hl => ⟨by have := hb'.1; omega, rfl⟩) _ _ hr⟩
set_option maxRecDepth 100000 in
set_option maxHeartbeats 2000000 in
theorem pOthersC {b0 R K : Nat} {SA : Option Addr} {sn sc : Nat} {sg : List (ByteArray × T)} {kk : Nat} (IH : TmC b0 R K SA sn sc sg kk) {x : List Tk} {w : World} (h : PS b0 R K SA sn sc sg x w) (ss : List ByteArray) (A : Option Addr) (n c : Nat) (tm : Int) (hN : NL w ss A n c) (hk : ss.length + (kk + 1) ≤ 1000) (htm : tm + (kk + 1) = 121) (h0tm : 0 ≤ tm) (k g : Int) (hkw : (Lit.int .i64 k).wf = true) (hgw : (Lit.int .i64 g).wf = true) :
    Calls Tryd.prog 74 #[.pointer (some ⟨R, 0, none⟩), .agg #[.int .i64 k, .int .i64 g, .slice none 0 0], .agg #[.slice A n c, .int .i64 tm]] w (TmX w.heap.size b0 R K SA sn sc sg (othersM sg ss.reverse (termM sg kk ss.reverse) k g [] x) w) := by
  obtain ⟨res, hres⟩ : ∃ res, othersM sg ss.reverse (termM sg kk ss.reverse) k g [] x = res := ⟨_, rfl⟩
  rw [hres]
  have hlt := h.lt
  have HB0 := Lib.hid h.le
  obtain ⟨W, hW⟩ : ∃ W, ((w.alloc (.cells #[.int .i64 k, .int .i64 g, .slice none 0 0] 24)).alloc (.cells #[.slice A n c, .int .i64 tm] 81)).alloc (.cells #[.int .i64 0, .int .i64 0, .slice none 0 0] 24) = W := ⟨_, rfl⟩
  have hb : Below w.heap.size w W := by rw [← hW]; exact (((Below.refl _ _).alloc (Nat.le_refl _) _).alloc (by simp) _).alloc (by simp; omega) _
  have x0 : BoxX W w.heap.size 24 #[.int .i64 k, .int .i64 g, .slice none 0 0] := by rw [← hW]; exact ((BoxX.new _ _ _).alloc _).alloc _
  have x1 : BoxX W (w.heap.size + 1) 81 #[.slice A n c, .int .i64 tm] := by
    have := (BoxX.new (w.alloc (.cells #[.int .i64 k, .int .i64 g, .slice none 0 0] 24)) 81 #[.slice A n c, .int .i64 tm]).alloc (.cells #[.int .i64 0, .int .i64 0, .slice none 0 0] 24)
    rw [← hW]; simpa using this
  have x2 : BoxX W (w.heap.size + 1 + 1) 24 #[.int .i64 0, .int .i64 0, .slice none 0 0] := by
    have := BoxX.new ((w.alloc (.cells #[.int .i64 k, .int .i64 g, .slice none 0 0] 24)).alloc (.cells #[.slice A n c, .int .i64 tm] 81)) 24 #[.int .i64 0, .int .i64 0, .slice none 0 0]
    rw [← hW]; simpa using this
  have hsz : W.heap.size = w.heap.size + 3 := by rw [← hW]; simp
  have HI0 := Lib.hid (show OtI b0 R K SA sn sc sg kk ss A n c tm w k g res x.length W (.slice none 0 0) 0 [] [] x from
    ⟨x0, x1, x2, GRowQ.nil _ _ _, h.keep hb, hN.keep hb, FrB.below hb, by omega, Nat.le_refl _, by have := h.few; simpa using this, hres⟩)
  have hsgf := h.sgf
  have hlN := hN.len
  have HN0 := Lib.hid (And.intro hN h)
  clear hb x0 x1 x2 h hN hsz hres
  subst hW
  go_enter Tryd.func74, Tryd.ntmps74
  go_wp2_with fail
  go_loopg [] x.length (fun gf wr => ∃ v m cs us y, OtI b0 R K SA sn sc sg kk ss A n c tm w k g res gf wr v m cs us y)
  case atStart => exact ⟨_, _, _, _, _, HI0.out⟩
  case round =>
    clear HI0
    obtain ⟨v, m, cs, us, y, hI⟩ := hrel
    have hA := pAtC hI.ps
    obtain ⟨A1, c1, rfl, hmc, hcm⟩ := hI.row.full
    unfold maxLen at hcm
    have hlm := hI.row.len
    have hbig := hI.big
    have hfew := hI.few
    have HA := Lib.hid hA
    have HI := Lib.hid hI
    clear hI hA
    go_wp2_with fail
    refine HA.out.mono ?_
    rintro e w1 ⟨rfl, hb1⟩
    have hs1 := hb1.size
    have HB1 := Lib.hid hb1
    have z0 := HI.out.head.keep hb1 HI.out.head.lt
    have z2 := HI.out.ans.keep hb1 HI.out.ans.lt
    have zi := HI.out.inb.keep hb1 HI.out.inb.lt
    clear HA hb1
    have p0 := z0.cell 0
    have p1 := z0.cell 1
    have p2 := z0.cell 2
    simp only [List.getElem?_toArray, List.getElem?_cons_zero, List.getElem?_cons_succ] at p0 p1 p2
    have i0 := zi.cell 0
    have i1 := zi.cell 1
    simp only [List.getElem?_toArray, List.getElem?_cons_zero, List.getElem?_cons_succ] at i0 i1
    cases hbe : begM y with
    | false =>
      have HE := Lib.hid (show res = .ok (.node k g us, y) by rw [← HI.out.eq, others_stop hbe])
      clear hbe
      have z9 := ((z2.put 0 (.int .i64 k)).put 1 (.int .i64 g)).put 2 ((.slice A1 m c1))
      have e0 := z9.cell 0
      have e1 := z9.cell 1
      have e2 := z9.cell 2
      have r0 := z2.cell 0
      have r1 := z2.cell 1
      have r2 := z2.cell 2
      have fz0 := z2.frozen 0
      have fz1 := z2.frozen 1
      have fz2 := z2.frozen 2
      have lz := z2.lt
      simp only [List.setIfInBounds_toArray, List.set_cons_zero, List.set_cons_succ, List.getElem?_toArray, List.getElem?_cons_zero, List.getElem?_cons_succ] at e0 e1 e2 r0 r1 r2
      clear z9 z2
      go_wp2_with fail
      refine bodyPost_ret (v := .tuple #[.agg #[.int .i64 k, .int .i64 g, (.slice A1 m c1)], .int .i64 0]) (by simp [results, Tryd.results74, go_sem, e0, e1, e2]) rfl ?_
      have hff := ((HI.out.fr.then HB1.out).put3 (P := w.heap.size + 1 + 1) (by omega) (.int .i64 k) (.int .i64 g) (.slice A1 m c1))
      refine ⟨hff, k, g, A1, m, c1, 0, rfl, .inl ⟨.node k g us, y, HE.out, rfl, ?_, (HI.out.ps.keep HB1.out).put3 (by have := HB0.out; omega) (by omega) _ _ _⟩⟩
      have hrow := (HI.out.row.move (fun b hl _ => HB1.out.block b hl) (fun g' hg' => by have := (HI.out.row.lt hg').1; omega)).node hkw hgw
      exact (hrow.to fun b' h1 h2 => heap_other3Q _ _ _ _ _ _ (by omega)).less (by omega)
    | true =>
      obtain ⟨g', rfl⟩ : ∃ g', gk = g' + 1 := ⟨gk - 1, by
        have := HI.out.fuel
        cases y with
        | nil => cases hbe
        | cons t r => simp at this; omega⟩
      have hC := pOtherC IH (HI.out.ps.keep HB1.out) ss A n c tm (HI.out.nl.keep HB1.out) hk htm h0tm hbe
      have HG := Lib.hid (show res = match otherM sg ss.reverse (termM sg kk ss.reverse) y with | .error e => .error e | .ok (u, z) => othersM sg ss.reverse (termM sg kk ss.reverse) k g (us ++ [u]) z by rw [← HI.out.eq, others_go (term_sho sg kk _) hbe]; rfl)
      have HC := Lib.hid hC
      clear hC hbe
      go_wp2_with fail
      refine HC.out.mono ?_
      rintro e w2 ⟨hf2, ka, ga, Aa, na, ca, ec, rfl, hres⟩
      have hs2 := hf2.size
      have HF2 := Lib.hid hf2
      have z02 := z0.fr hf2 (by omega)
      have zi2 := zi.fr hf2 (by omega)
      have z22 := z2.fr hf2 (by omega)
      clear HC hf2 p0 p1 p2 i0 i1 z0 zi z2
      rcases hres with ⟨a, y2, hr3, rfl, hrd3, hps3⟩ | ⟨hr3, he3, rfl, rfl, rfl, rfl, rfl⟩
      · have z8 := BoxX.new w2 24 #[.int .i64 ka, .int .i64 ga, .slice Aa na ca]
        have q0 := z8.cell 0
        have q1 := z8.cell 1
        have q2 := z8.cell 2
        simp only [List.getElem?_toArray, List.getElem?_cons_zero, List.getElem?_cons_succ] at q0 q1 q2
        obtain ⟨W3, hW3⟩ : ∃ W3, (w2.alloc (.cells #[.int .i64 ka, .int .i64 ga, (.slice Aa na ca)] 24)) = W3 := ⟨_, rfl⟩
        have hb3 : Below w2.heap.size w2 W3 := by rw [← hW3]; exact (Below.refl _ _).alloc (Nat.le_refl _) _
        have hl3 : W3.heap.size = w2.heap.size + 1 := by rw [← hW3]; simp
        have z03 := z02.keep hb3 z02.lt
        have zi3 := zi2.keep hb3 zi2.lt
        have z23 := z22.keep hb3 z22.lt
        have hrow2 := HI.out.row.move (w' := W3) (fun b hl hX => (hb3.block b (by omega)).trans ((HF2.out.block b (by omega) (by omega)).trans (HB1.out.block b hl))) (fun g' hg' => by have := (HI.out.row.lt hg').1; omega)
        have hrd : RdF (fun b => ¬ b < w.heap.size + 3 ∧ some b ≠ (Value.slice A1 m c1).ownBlock) W3 a (.agg #[.int .i64 ka, .int .i64 ga, .slice Aa na ca]) :=
          RdF.moveQ (fun b hb hl => ⟨⟨by omega, fun e => by have := (HI.out.row.lt e.symm).2; omega⟩, hb3.block b hl⟩) _ _ hrd3
        obtain ⟨g9, cap9, w4, hrun, hrow4, hold, hb4⟩ := hrow2.push hrd (by omega) (by omega)
        have hlt4 := fun {q} hq => hrow4.lt (g := q) hq
        have hg9 := (hlt4 (q := g9) rfl).1
        have hs4 := hb4.size
        have y0 : BoxX w4 w.heap.size 24 #[.int .i64 k, .int .i64 g, .slice A1 m c1] := (hb4.block _ (by omega)).trans z03
        have yi : BoxX w4 (w.heap.size + 1) 81 #[.slice A n c, .int .i64 tm] := (hb4.block _ (by omega)).trans zi3
        have y2' : BoxX w4 (w.heap.size + 1 + 1) 24 #[.int .i64 0, .int .i64 0, .slice none 0 0] := (hb4.block _ (by omega)).trans z23
        have hfr4 : FrB R w w4 := by
          have h1 := (HI.out.fr.then HB1.out).trans (HF2.out.then hb3)
          exact ⟨hb4.os.trans h1.os, hb4.tape.trans h1.tape, hb4.output.trans h1.output, Nat.le_trans h1.size hb4.size, fun i hi hR => (hb4.block i (by omega)).trans (h1.block i hi hR)⟩
        have hps4 : PS b0 R K SA sn sc sg y2 w4 := (hps3.keep hb3).mid hb4.size (hb4.block _ (by omega)) fun b hb => hb4.block b (by have := HB0.out; omega)
        have hsh := other_sho (term_sho sg kk ss.reverse) hr3
        have HI2 := Lib.hid (show OtI b0 R K SA sn sc sg kk ss A n c tm w k g res g' (w4.setCell ⟨w.heap.size, 2, none⟩ (.slice (some ⟨g9, 0, none⟩) (m + 1) cap9)) (.slice (some ⟨g9, 0, none⟩) (m + 1) cap9) (m + 1) (cs ++ [.int .i64 ka, .int .i64 ga, .slice Aa na ca]) (us ++ [a]) y2 from
          ⟨y0.put 2 _, (Below.heap_setCell _ _ _ _ (by dsimp only; omega)).trans yi, (Below.heap_setCell _ _ _ _ (by dsimp only; omega)).trans y2',
            hrow4.move (fun b hl hX => Below.heap_setCell _ _ _ _ (by dsimp only; omega)) (fun q hq => by have := (hlt4 hq).1; omega),
            hps4.mid (by simp [World.setCell]) (Below.heap_setCell _ _ _ _ (by dsimp only; omega)) (fun b hb => Below.heap_setCell _ _ _ _ (by have := HB0.out; dsimp only; omega)),
            HN0.out.1.fr HN0.out.2 (hfr4.put (Nat.le_refl _) 2 _), hfr4.put (Nat.le_refl _) 2 _, by simp [World.setCell]; omega, by have := HI.out.fuel; omega, by rw [List.length_append, List.length_singleton]; omega, by rw [HG.out, hr3]⟩)
        have p0 := z03.cell 0
        have p1 := z03.cell 1
        have p2 := z03.cell 2
        have u0 := y0.cell 0
        have u1 := y0.cell 1
        have u2 := y0.cell 2
        have fz2 := y0.frozen 2
        have ly := y0.lt
        simp only [List.getElem?_toArray, List.getElem?_cons_zero, List.getElem?_cons_succ] at p0 p1 p2 u0 u1 u2
        clear hr3 hrd3 hps3 hb3 z03 zi3 z23 hrow2 hrd hrow4 hold hb4 hlt4 y0 yi y2' hfr4 hps4 z8 z02 zi2 z22
        rw [hl3] at hrun
        subst hW3
        go_wp2_with (at_builtin; refine Lib.wpList_append_run _ rfl _ _ _ _ rfl _ _ rfl rfl _ _ hrun ?_)
        go_roundg g'
        case measure => omega
        case rel => exact ⟨_, _, _, _, _, HI2.out⟩
      · have d9 : (ec == 0) = false := by simpa using he3
        have HR3 := Lib.hid (And.intro hr3 he3)
        have z8 := BoxX.new w2 24 #[.int .i64 0, .int .i64 0, .slice none 0 0]
        have q0 := z8.cell 0
        have q1 := z8.cell 1
        have q2 := z8.cell 2
        simp only [List.getElem?_toArray, List.getElem?_cons_zero, List.getElem?_cons_succ] at q0 q1 q2
        have z4 := z22.alloc (.cells #[.int .i64 0, .int .i64 0, .slice none 0 0] 24)
        have HF4 := Lib.hid (((HI.out.fr.then HB1.out).trans HF2.out).then ((Below.refl _ _).alloc (Nat.le_refl _) (.cells #[.int .i64 0, .int .i64 0, .slice none 0 0] 24)))
        clear hr3 he3 z8 z02 zi2 z22
        have z9 := ((z4.put 0 (.int .i64 0)).put 1 (.int .i64 0)).put 2 ((.slice none 0 0))
        have e0 := z9.cell 0
        have e1 := z9.cell 1
        have e2 := z9.cell 2
        have r0 := z4.cell 0
        have r1 := z4.cell 1
        have r2 := z4.cell 2
        have fz0 := z4.frozen 0
        have fz1 := z4.frozen 1
        have fz2 := z4.frozen 2
        have lz := z4.lt
        simp only [List.setIfInBounds_toArray, List.set_cons_zero, List.set_cons_succ, List.getElem?_toArray, List.getElem?_cons_zero, List.getElem?_cons_succ] at e0 e1 e2 r0 r1 r2
        clear z9 z4
        go_wp2_with fail
        refine bodyPost_ret (v := .tuple #[.agg #[.int .i64 0, .int .i64 0, (.slice none 0 0)], .int .i64 ec]) (by simp [results, Tryd.results74, go_sem, e0, e1, e2]) rfl ?_
        have hff := HF4.out.put3 (P := w.heap.size + 1 + 1) (by omega) (.int .i64 0) (.int .i64 0) (.slice none 0 0)
        exact ⟨hff, 0, 0, none, 0, 0, ec, rfl, .inr ⟨by rw [HG.out, HR3.out.1], HR3.out.2, rfl, rfl, rfl, rfl, rfl⟩⟩
end Go.Proofs.YtmkahbbcagfbhaaDoor
