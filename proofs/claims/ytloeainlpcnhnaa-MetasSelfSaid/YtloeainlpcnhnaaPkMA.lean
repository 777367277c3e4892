/-
  Texts of one proof, put together. No statement is proved here.
-/
import Derived.Test.YtloeainlpcnhnaaPkNA
import Derived.Test.YtloeainlpcnhnaaPkVA
import Derived.Test.YtloeainlpcnhnaaTe
import Derived.Test.YtloeainlpcnhnaaPkYA
/-
  Contracts of package metas: decl, and what it is about a meta's term. No statement is proved here.
-/
namespace Go.Proofs.Ytloeainlpcnhnaa
open Go.ChangeShapes Go.WideShapes Go.ChangeAt Go.RowKit
set_option linter.unusedVariables false
set_option maxRecDepth 100000 in
set_option maxHeartbeats 8000000 in
theorem vCheckTermB {B : Int} (hB : B ≤ 70368744177664) (W : WV) (cx : List T) (m a : T) (As : Option Addr) (ns cs : Nat) (Am : Option Addr) (nm cm : Nat) (Ac : Option Addr) (nc cc : Nat) (vm va : Value) (w : World) (hk : CkV w W cx As ns cs Am nm cm Ac nc cc) (hm : Rd w m vm) (ha : Rd w a va)
    (hL : mayV W cx [m, a] = true → EnvV W cx B) (hlm : myB m = true → okT loV m) (hla : myB a = true → okT B a) :
    Calls Try.prog 12 #[.slice As ns cs, .slice Am nm cm, .slice Ac nc cc, vm, va] w fun e w' => e = .returned (.int .i64 (ckT W cx m a)) ∧ Below w.heap.size w w' := by
  obtain ⟨k, h, A, n, c, rfl⟩ := hm.full
  obtain ⟨k2, h2, A2, n2, c2, rfl⟩ := ha.full
  obtain ⟨W0, hW⟩ : ∃ W0, ((w.alloc (.cells #[.int .i64 k, .int .i64 h, .slice A n c] 26)).alloc (.cells #[.int .i64 k2, .int .i64 h2, .slice A2 n2 c2] 26)).alloc (.cells #[.slice As ns cs, .slice Am nm cm, .slice Ac nc cc] 64) = W0 := ⟨_, rfl⟩
  have hb : Below w.heap.size w W0 := by rw [← hW]; exact (((Below.refl _ _).alloc (Nat.le_refl _) _).alloc (by simp) _).alloc (by simp; omega) _
  have x0 : Box W0 w.heap.size 26 #[.int .i64 k, .int .i64 h, .slice A n c] := by rw [← hW]; exact ((Box.new _ _ _).alloc _).alloc _
  have x1 : Box W0 (w.heap.size + 1) 26 #[.int .i64 k2, .int .i64 h2, .slice A2 n2 c2] := by rw [← hW]; exact ((Box.new (w.alloc _) _ _).at (by simp)).alloc _
  have x2 : Box W0 (w.heap.size + 1 + 1) 64 #[.slice As ns cs, .slice Am nm cm, .slice Ac nc cc] := by rw [← hW]; exact (Box.new ((w.alloc _).alloc _) _ _).at (by simp)
  obtain ⟨W4, hW4⟩ : ∃ W4, W0.alloc (.cells #[.int .i64 k, .int .i64 h, .slice A n c, .int .i64 k2, .int .i64 h2, .slice A2 n2 c2] 26) = W4 := ⟨_, rfl⟩
  have hb4 : Below W0.heap.size W0 W4 := by rw [← hW4]; exact (Below.refl _ _).alloc (Nat.le_refl _) _
  have x4 : Box W4 W0.heap.size 26 #[.int .i64 k, .int .i64 h, .slice A n c, .int .i64 k2, .int .i64 h2, .slice A2 n2 c2] := by rw [← hW4]; exact Box.new _ _ _
  have hbw := hb.trans (hb4.mono hb.size)
  have HMY := Lib.hid (vMayC W cx [m, a] As Am Ac _ ns cs nm cm nc cc 2 2 W4 (hk.keep hbw).sg (hk.keep hbw).ms (hk.keep hbw).cx (clv_two x4 (Rd.keep hbw _ _ hm) (Rd.keep hbw _ _ ha)))
  have X0 := Lib.hid (x0.keep hb4 x0.lt)
  have X1 := Lib.hid (x1.keep hb4 x1.lt)
  have X2 := Lib.hid (x2.keep hb4 x2.lt)
  have HB := Lib.hid hbw
  have HTM : Hid (mayV W cx [m, a] = true → ∀ W' : World, Below W4.heap.size W4 W' → Calls Try.prog 36 #[.agg #[.slice As ns cs, .slice Am nm cm, .slice Ac nc cc], .agg #[.int .i64 k, .int .i64 h, .slice A n c], .agg #[.int .i64 k2, .int .i64 h2, .slice A2 n2 c2]] W' fun e w' => e = .returned (.int .i64 (tmV W m cx a)) ∧ Below W'.heap.size W' w') := Lib.hid fun hy W' h' => by
    obtain ⟨y1, y2, y3, y4, y5⟩ := (mayV_iff W cx [m, a]).1 hy
    have ym := y3 m (by simp)
    have ya := y3 a (by simp)
    have hnd := ((myB_iff m).1 ym).2.1
    exact vTermC W m cx a B As ns cs Am nm cm Ac nc cc _ _ W' (hL hy) ⟨ym, .inr (hlm ym)⟩ ⟨ya, hla ya⟩ (by unfold dlV hiV; omega) (by omega) (hk.keep (hbw.trans (h'.mono hbw.size))) (Rd.keep (hbw.trans (h'.mono hbw.size)) _ _ hm) (Rd.keep (hbw.trans (h'.mono hbw.size)) _ _ ha)
  obtain ⟨c0, c1, c2⟩ := x0.three
  obtain ⟨d0, d1, d2⟩ := x1.three
  obtain ⟨e0, e1, e2⟩ := x2.three
  have HCT : Hid (ckT W cx m a = if mayV W cx [m, a] = true then tmV W m cx a else 1) := Lib.hid rfl
  generalize ckT W cx m a = R at *
  generalize tmV W m cx a = S at *
  clear hk hm ha hL hlm hla hb hb4 hbw x0 x1 x2 x4
  generalize mayV W cx [m, a] = r at *
  go_enter Try.func12, Try.ntmps12
  go_wp2_with fail
  clear hW hW4
  refine HMY.out.mono ?_
  rintro e w1 ⟨rfl, hb1⟩
  have HB1 := Lib.hid (HB.out.trans (hb1.mono HB.out.size))
  obtain ⟨p0, p1, p2⟩ := (X0.out.keep hb1 X0.out.lt).three
  obtain ⟨q0, q1, q2⟩ := (X1.out.keep hb1 X1.out.lt).three
  obtain ⟨s0, s1, s2⟩ := (X2.out.keep hb1 X2.out.lt).three
  cases r
  · have HC := Lib.hid (show 1 = R by rw [HCT.out]; rfl)
    clear hb1 HTM HCT
    go_wp2_with fail
    go_ret
    exact ⟨ret_int HC.out, HB1.out⟩
  · have HC := Lib.hid (show S = R by rw [HCT.out]; rfl)
    have HT := Lib.hid (HTM.out rfl w1 hb1)
    clear hb1 HTM HCT
    go_wp2_with fail
    refine HT.out.mono ?_
    rintro e w3 ⟨rfl, hb3⟩
    have HB3 := Lib.hid (HB1.out.trans (hb3.mono HB1.out.size))
    clear hb3 HT
    go_wp2_with fail
    go_ret
    exact ⟨ret_int HC.out, HB3.out⟩
set_option maxRecDepth 100000 in
set_option maxHeartbeats 8000000 in
theorem deC (W : WV) (d : MP) (As : Option Addr) (ns cs : Nat) (Am : Option Addr) (nm cm : Nat) (A1 : Option Addr) (n1 c1 : Nat) (k h : Int) (A2 : Option Addr) (n2 c2 : Nat) (w : World) (hs : DL w W.sg As ns cs) (hm : ML w W.ms Am nm cm) (hx : CLV w d.1.1 A1 n1 c1) (hr : Rd w d.1.2 (.agg #[.int .i64 k, .int .i64 h, .slice A2 n2 c2]))
    (hl : LoV W d.1.1) (hlt : myB d.1.2 = true → okT loV d.1.2) (hlen : n1 ≤ 1000000) :
    Calls Try.prog 47 #[.slice As ns cs, .slice Am nm cm, .agg #[.slice A1 n1 c1, .int .i64 k, .int .i64 h, .slice A2 n2 c2, .bool d.2]] w fun e w' => e = .returned (.int .i64 (deV W d)) ∧ Below w.heap.size w w' := by
  obtain ⟨W0, hW⟩ : ∃ W0, w.alloc (.cells #[.slice A1 n1 c1, .int .i64 k, .int .i64 h, .slice A2 n2 c2, .bool d.2] 39) = W0 := ⟨_, rfl⟩
  have hb : Below w.heap.size w W0 := by rw [← hW]; exact (Below.refl _ _).alloc (Nat.le_refl _) _
  have x0 : Box W0 w.heap.size 39 #[.slice A1 n1 c1, .int .i64 k, .int .i64 h, .slice A2 n2 c2, .bool d.2] := by rw [← hW]; exact Box.new _ _ _
  obtain ⟨hk, _⟩ := rdF_kind hr
  have hxl := hx.len
  have HCX := Lib.hid (yCtxC W [] d.1.1 As ns cs Am nm cm none 0 0 A1 n1 c1 W0 ⟨hs.keep hb, hm.keep hb, clv_nil _ _ _ (Nat.zero_le _)⟩ (hx.keep hb) (by rw [List.nil_append]; exact hl) (by omega))
  have HCT := Lib.hid (fun (W' : World) (h' : Below W0.heap.size W0 W') => vCheckTypeC W d.1.1 d.1.2 As ns cs Am nm cm A1 n1 c1 _ W' ⟨hs.keep (hb.trans (h'.mono hb.size)), hm.keep (hb.trans (h'.mono hb.size)), hx.keep (hb.trans (h'.mono hb.size))⟩ (Rd.keep (hb.trans (h'.mono hb.size)) _ _ hr) hl hlt)
  have HE := Lib.hid (show deV W d = if ctV W [] d.1.1 = 0 then (if k = 2 ∧ (d.2 = true → n1 = 0) then ckTy W d.1.1 d.1.2 else 1) else ctV W [] d.1.1 by rw [← hk, ← hxl]; rfl)
  have HB := Lib.hid hb
  clear hs hm hx hr hl hlt hb hk hxl
  generalize deV W d = R at *
  generalize ctV W [] d.1.1 = e1 at *
  generalize ckTy W d.1.1 d.1.2 = e2 at *
  generalize d.2 = p at *
  obtain ⟨a0, a1, a2, a3, a4⟩ : W0.cell? ⟨w.heap.size, 0, none⟩ = some (.slice A1 n1 c1) ∧ W0.cell? ⟨w.heap.size, 1, none⟩ = some (.int .i64 k) ∧ W0.cell? ⟨w.heap.size, 2, none⟩ = some (.int .i64 h) ∧ W0.cell? ⟨w.heap.size, 3, none⟩ = some (.slice A2 n2 c2) ∧ W0.cell? ⟨w.heap.size, 4, none⟩ = some (.bool p) := ⟨x0.cell 0, x0.cell 1, x0.cell 2, x0.cell 3, x0.cell 4⟩
  clear x0
  go_enter Try.func47, Try.ntmps47
  go_wp2_with fail
  try rw [hW]
  clear hW
  go_wp2_with fail
  refine HCX.out.mono ?_
  rintro e w1 ⟨rfl, hb1⟩
  replace a0 := (hb1.cell (cell_lt a0)).trans a0
  replace a1 := (hb1.cell (cell_lt a1)).trans a1
  replace a2 := (hb1.cell (cell_lt a2)).trans a2
  replace a3 := (hb1.cell (cell_lt a3)).trans a3
  replace a4 := (hb1.cell (cell_lt a4)).trans a4
  have HB1 := Lib.hid (HB.out.trans (hb1.mono HB.out.size))
  have HF := Lib.hid (HCT.out w1 hb1)
  clear hb1 HCX HCT
  by_cases hz : e1 = 0
  case' neg =>
    have dz : (e1 != 0) = true := by simpa using hz
    have HQ := Lib.hid (show e1 = R by rw [HE.out, if_neg hz])
    clear hz HE HF a0 a1 a2 a3 a4
    go_wp2_with fail
    go_ret
    exact ⟨ret_int HQ.out, HB1.out⟩
  have HQ := Lib.hid (show R = if k = 2 ∧ (p = true → n1 = 0) then e2 else 1 by rw [HE.out, if_pos hz])
  subst hz
  have dz : ((0 : Int) != 0) = false := by decide
  clear HE
  by_cases hk2 : k = 2
  case' neg =>
    have dk : (k != 2) = true := by simpa using hk2
    have HR := Lib.hid (show 1 = R by rw [HQ.out, if_neg (fun e => hk2 e.1)])
    clear hk2 HQ HF
    go_wp2_with fail
    go_ret
    exact ⟨ret_int HR.out, HB1.out⟩
  subst hk2
  have dk : ((2 : Int) != 2) = false := by decide
  by_cases hp : p = true ∧ 0 < n1
  · obtain ⟨rfl, h0⟩ := hp
    have dn : decide ((0 : Int) < (n1 : Int)) = true := by simp; omega
    have HR := Lib.hid (show 1 = R by rw [HQ.out, if_neg (fun e => by have := e.2 rfl; omega)])
    clear HQ HF
    go_wp2_with fail
    go_ret
    exact ⟨ret_int HR.out, HB1.out⟩
  · have HR := Lib.hid (show e2 = R by
      have hq : p = true → n1 = 0 := fun e => by
        by_cases h0 : n1 = 0
        · exact h0
        · exact absurd ⟨e, by omega⟩ hp
      rw [HQ.out, if_pos ⟨rfl, hq⟩])
    clear HQ
    cases p with
    | false =>
      clear hp
      go_wp2_with fail
      refine HF.out.mono ?_
      rintro e w2 ⟨rfl, hb2⟩
      have HB2 := Lib.hid (HB1.out.trans (hb2.mono HB1.out.size))
      clear hb2 HF
      go_wp2_with fail
      go_ret
      exact ⟨ret_int HR.out, HB2.out⟩
    | true =>
      have h0 : ¬ 0 < n1 := fun h => hp ⟨rfl, h⟩
      have dn : decide ((0 : Int) < (n1 : Int)) = false := by simp; omega
      clear hp
      go_wp2_with fail
      refine HF.out.mono ?_
      rintro e w2 ⟨rfl, hb2⟩
      have HB2 := Lib.hid (HB1.out.trans (hb2.mono HB1.out.size))
      clear hb2 HF
      go_wp2_with fail
      go_ret
      exact ⟨ret_int HR.out, HB2.out⟩
set_option maxRecDepth 100000 in
set_option maxHeartbeats 8000000 in
theorem vaC (l : List MP) (t : T) (Am : Option Addr) (nm cm : Nat) (k h : Int) (A : Option Addr) (len cap : Nat) (As Ac : Option Addr) (ns cs nc cc : Nat) (w : World) (hm : PL w l Am nm cm) (hr : Rd w t (.agg #[.int .i64 k, .int .i64 h, .slice A len cap])) (hh : kdQ t = 6 → 0 ≤ h ∧ h < nm) :
    Calls Try.prog 77 #[.agg #[.slice As ns cs, .slice Am nm cm, .slice Ac nc cc], .agg #[.int .i64 k, .int .i64 h, .slice A len cap]] w fun e w' => e = .returned (.bool (vaV l t)) ∧ Below w.heap.size w w' := by
  obtain ⟨W0, hW⟩ : ∃ W0, (w.alloc (.cells #[.slice As ns cs, .slice Am nm cm, .slice Ac nc cc] 81)).alloc (.cells #[.int .i64 k, .int .i64 h, .slice A len cap] 26) = W0 := ⟨_, rfl⟩
  have hb : Below w.heap.size w W0 := by rw [← hW]; exact ((Below.refl _ _).alloc (Nat.le_refl _) _).alloc (by simp) _
  have x0 : Box W0 w.heap.size 81 #[.slice As ns cs, .slice Am nm cm, .slice Ac nc cc] := by rw [← hW]; exact (Box.new _ _ _).alloc _
  have x1 : Box W0 (w.heap.size + 1) 26 #[.int .i64 k, .int .i64 h, .slice A len cap] := by rw [← hW]; exact (Box.new (w.alloc _) _ _).at (by simp)
  obtain ⟨a0, a1, a2⟩ := x0.three
  obtain ⟨c0, c1, c2⟩ := x1.three
  have HB := Lib.hid hb
  have hv : vaV l t = ((k == 4 && len == 0) || (k == 6 && (l.getD h.toNat (([], .node 0 0 []), false)).2)) := by
    obtain ⟨kt, ht, xs⟩ := t
    obtain ⟨A', n', c', ev, g1, g2, g3, _⟩ := Rd_node.1 hr
    simp only [Value.agg.injEq, Array.mk.injEq, List.cons.injEq, and_true, Value.int.injEq, true_and, Value.slice.injEq] at ev
    obtain ⟨rfl, rfl, rfl, rfl, rfl⟩ := ev
    rw [vaV, g3]
  have hkt : kdQ t = k := (rdF_kind hr).1
  rw [hkt] at hh
  rw [hv]
  clear hv hkt
  by_cases h4 : k = 4
  · subst h4
    have d6 : ((4 : Int) == 6) = false := by decide
    by_cases hl : len = 0
    · subst hl
      clear hh hm hr x0 x1
      go_enter Try.func77, Try.ntmps77
      go_wp2_with fail
      try rw [hW]
      clear hW
      go_wp2_with fail
      go_ret
      exact ⟨rfl, HB.out⟩
    · have dl : ((len : Int) == 0) = false := by simpa using hl
      have dl' : (len == 0) = false := by simpa using hl
      have HR := Lib.hid (show ((((4 : Int) == 4) && len == 0) || ((4 : Int) == 6 && (l.getD h.toNat (([], .node 0 0 []), false)).2)) = false by rw [dl', d6]; rfl)
      clear hh hm hr x0 x1 dl' hl
      go_enter Try.func77, Try.ntmps77
      go_wp2_with fail
      try rw [hW]
      clear hW
      go_wp2_with fail
      go_ret
      exact ⟨by rw [HR.out]; rfl, HB.out⟩
  · have d4 : (k == 4) = false := by simpa using h4
    by_cases h6 : k = 6
    · subst h6
      obtain ⟨h0, hlt⟩ := hh rfl
      obtain ⟨i, rfl⟩ : ∃ i : Nat, h = i := ⟨h.toNat, by omega⟩
      obtain ⟨x, hx⟩ := at_of hm.len (show i < nm by omega)
      obtain ⟨b, o, A1, n1, c1', k1, g1, A2, n2, c2', rfl, e0, e1, e2, e3, e4, _, _⟩ := (hm.at_ i x hx).keep hb
      have hcap := hm.cap
      have hle := hm.le
      unfold maxLen at hcap
      have hi1 : (i : Int) < nm := by omega
      have HR := Lib.hid (show ((((6 : Int) == 4) && len == 0) || ((6 : Int) == 6 && (l.getD (i : Int).toNat (([], .node 0 0 []), false)).2)) = x.2 by
        rw [List.getD_eq_getElem?_getD, show (i : Int).toNat = i from rfl, hx]
        simp)
      clear hh hm hr x0 x1 hx
      go_enter Try.func77, Try.ntmps77
      go_wp2_with fail
      try rw [hW]
      clear hW
      go_wp2_with fail
      go_ret
      exact ⟨by rw [HR.out]; rfl, HB.out⟩
    · have d6 : (k == 6) = false := by simpa using h6
      have HR := Lib.hid (show ((k == 4 && len == 0) || (k == 6 && (l.getD h.toNat (([], .node 0 0 []), false)).2)) = false by rw [d4, d6]; rfl)
      clear hh hm hr x0 x1
      go_enter Try.func77, Try.ntmps77
      go_wp2_with fail
      try rw [hW]
      clear hW
      go_wp2_with fail
      go_ret
      exact ⟨by rw [HR.out]; rfl, HB.out⟩
end Go.Proofs.Ytloeainlpcnhnaa
/-
  Contract of package metas: what is wrong with a meta's term. No statement is proved here.
-/
namespace Go.Proofs.Ytloeainlpcnhnaa
open Go.ChangeShapes Go.WideShapes Go.ChangeAt Go.RowKit
set_option linter.unusedVariables false
theorem rxl_anyN {X : Nat → Prop} {w : World} {xs : List T} {A : Option Addr} {n c : Nat} (h : RXL X w xs A n c) : CLV w xs A n c :=
  rxl_clv ⟨h.len, h.le, h.cap, fun i t ht => RdFAt.moveX (fun b hb' hl => ⟨fun e => e.elim, rfl⟩) (h.at_ i t ht)⟩
theorem fiR_ok2 {th : List T} {n : Int} {t t' : T} (h : fiR th n t = .ok t') : flT th t n = .ok t' ∧ myB t = true ∧ myB t' = true := by
  unfold fiR at h
  split at h
  · rename_i hc
    simp only [Bool.and_eq_true] at hc
    cases hq : flT th t n with
    | error e => rw [hq] at h; cases h
    | ok u =>
      rw [hq] at h
      simp only at h
      split at h
      · rename_i hu
        cases h
        exact ⟨rfl, hc.2, hu⟩
      · cases h
  · cases h
theorem fiR_thB {th : List T} {n : Int} {t t' : T} (h : fiR th n t = .ok t') : thB th = true := by
  unfold fiR at h
  split at h
  · rename_i hc
    simp only [Bool.and_eq_true] at hc
    exact hc.1.1.1
  · cases h
theorem fi_lowN {dn : List T} {n : Int} {t t' : T} (hth : ∀ x ∈ dn, myB x = true → okT 2199023255552 x) (hlt : okT loV t) (hn : 0 ≤ n ∧ n ≤ 1000) (hf : fiR dn n t = .ok t') : okT 70368744177664 t' := by
  obtain ⟨f1, f2, f3⟩ := fiR_ok2 hf
  have hb := thB_all (fiR_thB hf)
  have hd := ((myB_iff t).1 f2).2.2
  have := fl_heads (th := dn) (fun x hx => hth x hx (hb x hx)) t n t' hn.1 (by omega) (okT_mono (by unfold loV; omega) _ hlt) f1
  exact okT_mono (by unfold hB; omega) _ this
theorem cx_lowN {dn xs ys : List T} {c : Nat} (hth : ∀ x ∈ dn, myB x = true → okT 2199023255552 x) (hd : LwV xs) (hl : xs.length ≤ 1000) (h : cxL dn 0 xs = .ok (ys, c)) : ∀ y ∈ ys, myB y = true ∧ okT 70368744177664 y := fun y hy => by
  obtain ⟨j, hj⟩ := List.getElem?_of_mem hy
  obtain ⟨h1, h2⟩ := ea_at (F := fun i t => fiR dn (wrap64 (0 + (i : Int))) t) xs 0 0 ys c h
  obtain ⟨x, hx⟩ : ∃ x, xs[j]? = some x := ⟨_, List.getElem?_eq_getElem (by have := (List.getElem?_eq_some_iff.1 hj).1; omega)⟩
  obtain ⟨y', hy', hf⟩ := h2 j x hx
  rw [hj] at hy'
  cases hy'
  have hj2 := (List.getElem?_eq_some_iff.1 hx).1
  rw [wrap_smallN (by omega) (by omega)] at hf
  obtain ⟨f1, f2, f3⟩ := fiR_ok2 hf
  exact ⟨f3, fi_lowN hth (hd x (List.mem_of_getElem? hx) f2) (by omega) hf⟩
set_option maxRecDepth 100000 in
set_option maxHeartbeats 16000000 in
theorem plC (sg : List T) (l : List MP) (ext dn : List T) (d : MP) (t : T) (As : Option Addr) (ns cs : Nat) (Am : Option Addr) (nm cm : Nat) (Ac : Option Addr) (nc cc : Nat) (Ad : Option Addr) (i cd : Nat) (A1 : Option Addr) (n1 c1 : Nat) (k h : Int) (A2 : Option Addr) (n2 c2 : Nat) (kt ht : Int) (At : Option Addr) (nt ct : Nat) (w : World)
    (hs : DL w sg As ns cs) (hm : PL w l Am nm cm) (hx : CLV w ext Ac nc cc) (hth : ThI dn w Ad i cd) (hd1 : CLV w d.1.1 A1 n1 c1) (hd2 : Rd w d.1.2 (.agg #[.int .i64 k, .int .i64 h, .slice A2 n2 c2])) (htt : Rd w t (.agg #[.int .i64 kt, .int .i64 ht, .slice At nt ct]))
    (hl : LoV ⟨sg, msP l⟩ ext) (hl1 : LwV d.1.1) (hl2 : myB d.1.2 = true → okT loV d.1.2) (hlt : myB t = true → okT loV t) (hn1 : n1 ≤ 1000) (hnc : nc ≤ 1000000) :
    Calls Try.prog 49 #[.agg #[.slice As ns cs, .slice Am nm cm, .slice Ac nc cc], .slice Ad i cd, .agg #[.slice A1 n1 c1, .int .i64 k, .int .i64 h, .slice A2 n2 c2, .bool d.2], .agg #[.int .i64 kt, .int .i64 ht, .slice At nt ct]] w fun e w' => e = .returned (.int .i64 (plV ⟨sg, msP l⟩ l ext dn d t)) ∧ Below w.heap.size w w' := by
  obtain ⟨W0, hW⟩ : ∃ W0, ((w.alloc (.cells #[.slice As ns cs, .slice Am nm cm, .slice Ac nc cc] 81)).alloc (.cells #[.slice A1 n1 c1, .int .i64 k, .int .i64 h, .slice A2 n2 c2, .bool d.2] 39)).alloc (.cells #[.int .i64 kt, .int .i64 ht, .slice At nt ct] 26) = W0 := ⟨_, rfl⟩
  have hb : Below w.heap.size w W0 := by rw [← hW]; exact (((Below.refl _ _).alloc (Nat.le_refl _) _).alloc (by simp) _).alloc (by simp; omega) _
  have XP := Lib.hid (show Box W0 w.heap.size 81 #[.slice As ns cs, .slice Am nm cm, .slice Ac nc cc] by rw [← hW]; exact ((Box.new _ _ _).alloc _).alloc _)
  have XD := Lib.hid (show Box W0 (w.heap.size + 1) 39 #[.slice A1 n1 c1, .int .i64 k, .int .i64 h, .slice A2 n2 c2, .bool d.2] by rw [← hW]; exact ((Box.new (w.alloc _) _ _).at (by simp)).alloc _)
  have XT := Lib.hid (show Box W0 (w.heap.size + 1 + 1) 26 #[.int .i64 kt, .int .i64 ht, .slice At nt ct] by rw [← hW]; exact (Box.new ((w.alloc _).alloc _) _ _).at (by simp))
  have hd1l := hd1.len
  have hxl := hx.len
  have HCX := Lib.hid (CtxC (n := 0) W0 (hth.keep hb) hd1l hd1.le hd1.cap (by omega) (hd1.keep hb).at_ (fun x hx hm => okT_mono (by unfold loV; omega) _ (hl1 x hx hm)))
  have HFI : Hid (∀ (W' : World) (n : Int), Below W0.heap.size W0 W' → Calls Try.prog 27 #[.agg #[.int .i64 k, .int .i64 h, .slice A2 n2 c2], .slice Ad i cd, .int .i64 n] W' (FnE (fiR dn n d.1.2) W')) := Lib.hid fun W' n h' => FillC W' (hth.keep (hb.trans (h'.mono hb.size))) (Rd.keep (hb.trans (h'.mono hb.size)) _ _ hd2) (fun hm => okT_mono (by unfold loV; omega) _ (hl2 hm))
  have HPV : Hid (∀ (cx : List T) (c : Nat) (a : T), cxL dn 0 d.1.1 = .ok (cx, c) → fiR dn (cx.length : Nat) d.1.2 = .ok a → plV ⟨sg, msP l⟩ l ext dn d t = if ckT ⟨sg, msP l⟩ (ext ++ cx) t a = 0 then (if d.2 = true ∧ vaV l t = false then 3 else 0) else ckT ⟨sg, msP l⟩ (ext ++ cx) t a) := Lib.hid fun cx c a e1 e2 => by rw [plV, e1]; simp only [e2]
  have HPE : Hid (∀ e, cxL dn 0 d.1.1 = .error e → plV ⟨sg, msP l⟩ l ext dn d t = e) := Lib.hid fun e e1 => by rw [plV, e1]
  have HPF : Hid (∀ (cx : List T) (c : Nat) (e : Int), cxL dn 0 d.1.1 = .ok (cx, c) → fiR dn (cx.length : Nat) d.1.2 = .error e → plV ⟨sg, msP l⟩ l ext dn d t = e) := Lib.hid fun cx c e e1 e2 => by rw [plV, e1]; simp only [e2]
  have HCK : Hid (∀ (cx : List T) (c : Nat) (a : T), cxL dn 0 d.1.1 = .ok (cx, c) → fiR dn (cx.length : Nat) d.1.2 = .ok a → ∀ (W' : World) (A7 : Option Addr) (c7 : Nat) (k3 h3 : Int) (A3 : Option Addr) (n3 c3 : Nat), Below W0.heap.size W0 W' → CLV W' (ext ++ cx) A7 (nc + cx.length) c7 → Rd W' a (.agg #[.int .i64 k3, .int .i64 h3, .slice A3 n3 c3]) →
      Calls Try.prog 12 #[.slice As ns cs, .slice Am nm cm, .slice A7 (nc + cx.length) c7, .agg #[.int .i64 kt, .int .i64 ht, .slice At nt ct], .agg #[.int .i64 k3, .int .i64 h3, .slice A3 n3 c3]] W' fun e w' => e = .returned (.int .i64 (ckT ⟨sg, msP l⟩ (ext ++ cx) t a)) ∧ Below W'.heap.size W' w') := Lib.hid fun cx c a e1 e2 W' A7 c7 k3 h3 A3 n3 c3 h' hcl ha => by
    have hb' := hb.trans (h'.mono hb.size)
    have hcl1 := (ea_at (F := fun i t => fiR dn (wrap64 (0 + (i : Int))) t) d.1.1 0 0 cx c e1).1
    have hlo := cx_lowN hth.ok hl1 (by omega) e1
    refine vCheckTermB (B := 70368744177664) (Int.le_refl _) ⟨sg, msP l⟩ (ext ++ cx) t a As ns cs Am nm cm A7 (nc + cx.length) c7 _ _ W' ⟨hs.keep hb', hm.ml.keep hb', hcl⟩ (Rd.keep hb' _ _ htt) ha (fun hy => ?_) hlt (fun hma => fi_lowN hth.ok (hl2 (fiR_ok2 e2).2.1) (by omega) e2)
    obtain ⟨y1, y2, y3, y4, y5⟩ := (mayV_iff _ _ _).1 hy
    refine ⟨fun x hx => ⟨y4 x hx, hl.sg x hx (y4 x hx)⟩, fun m hm => ⟨fun e he => ⟨(y5 m hm).1 e he, (hl.ms m hm).1 e he ((y5 m hm).1 e he)⟩, ⟨(y5 m hm).2, (hl.ms m hm).2 (y5 m hm).2⟩⟩, fun x hx => ⟨y2 x hx, ?_⟩, by unfold loV; omega⟩
    rcases List.mem_append.1 hx with hx' | hx'
    · exact okT_mono (by unfold loV; omega) _ (hl.cx x hx' (y2 x hx))
    · exact (hlo x hx').2
  have HVA : Hid (∀ (cx : List T) (a : T), ckT ⟨sg, msP l⟩ (ext ++ cx) t a = 0 → ∀ W' : World, Below W0.heap.size W0 W' → Calls Try.prog 77 #[.agg #[.slice As ns cs, .slice Am nm cm, .slice Ac nc cc], .agg #[.int .i64 kt, .int .i64 ht, .slice At nt ct]] W' fun e w' => e = .returned (.bool (vaV l t)) ∧ Below W'.heap.size W' w') := Lib.hid fun cx a h0 W' h' =>
    vaC l t Am nm cm kt ht At nt ct As Ac ns cs nc cc W' (hm.keep (hb.trans (h'.mono hb.size))) (Rd.keep (hb.trans (h'.mono hb.size)) _ _ htt) (fun h6 => by
      obtain ⟨k1, k2⟩ := ckT_okN h0
      have ny := ((myB_iff t).1 (((mayV_iff _ _ _).1 k1).2.2.1 t (by simp))).1
      have hsc := tm_scoped t _ _ ny k2
      obtain ⟨kk, hh, xs⟩ := t
      obtain ⟨A', n', c', ev, _⟩ := Rd_node.1 htt
      simp only [Value.agg.injEq, Array.mk.injEq, List.cons.injEq, and_true, Value.int.injEq, true_and, Value.slice.injEq] at ev
      obtain ⟨rfl, rfl, rfl, rfl, rfl⟩ := ev
      rw [kdQ] at h6
      rw [scC] at hsc
      have := hsc.2.1 h6
      have hml := hm.ml.len
      rw [hml] at this
      exact ⟨headV ny, this⟩)
  have HLX : Hid (∀ (cx : List T) (c : Nat), cxL dn 0 d.1.1 = .ok (cx, c) → cx.length ≤ 1000000) := Lib.hid fun cx c e1 => by
    have := (ea_at (F := fun i t => fiR dn (wrap64 (0 + (i : Int))) t) d.1.1 0 0 cx c e1).1
    omega
  have HXX := Lib.hid (fun (W' : World) (h' : Below W0.heap.size W0 W') => hx.keep (hb.trans (h'.mono hb.size)))
  have HB := Lib.hid hb
  have H0 := Lib.hid (Below.refl W0.heap.size W0)
  clear hs hm hx hth hd1 hd2 htt hl hl1 hl2 hlt hb hd1l hxl
  generalize plV ⟨sg, msP l⟩ l ext dn d t = R at *
  generalize vaV l t = rv at *
  obtain ⟨rcx, hrcx⟩ : ∃ r, cxL dn 0 d.1.1 = r := ⟨_, rfl⟩
  rw [hrcx] at HCX HPV HPE HPF HCK HLX
  clear hrcx
  have p0 : W0.cell? ⟨w.heap.size, 0, none⟩ = some (.slice As ns cs) := XP.out.cell 0
  have p1 : W0.cell? ⟨w.heap.size, 1, none⟩ = some (.slice Am nm cm) := XP.out.cell 1
  have p2 : W0.cell? ⟨w.heap.size, 2, none⟩ = some (.slice Ac nc cc) := XP.out.cell 2
  have d0 : W0.cell? ⟨w.heap.size + 1, 0, none⟩ = some (.slice A1 n1 c1) := XD.out.cell 0
  have d1 : W0.cell? ⟨w.heap.size + 1, 1, none⟩ = some (.int .i64 k) := XD.out.cell 1
  have d2 : W0.cell? ⟨w.heap.size + 1, 2, none⟩ = some (.int .i64 h) := XD.out.cell 2
  have d3 : W0.cell? ⟨w.heap.size + 1, 3, none⟩ = some (.slice A2 n2 c2) := XD.out.cell 3
  have d4 : W0.cell? ⟨w.heap.size + 1, 4, none⟩ = some (.bool d.2) := XD.out.cell 4
  have t0 : W0.cell? ⟨w.heap.size + 1 + 1, 0, none⟩ = some (.int .i64 kt) := XT.out.cell 0
  have t1 : W0.cell? ⟨w.heap.size + 1 + 1, 1, none⟩ = some (.int .i64 ht) := XT.out.cell 1
  have t2 : W0.cell? ⟨w.heap.size + 1 + 1, 2, none⟩ = some (.slice At nt ct) := XT.out.cell 2
  go_enter Try.func49, Try.ntmps49
  go_wp2_with fail
  try rw [hW]
  clear hW
  try go_wp2_with fail
  refine HCX.out.mono ?_
  intro e w1 hE
  clear HCX p0 p1 p2 d0 d1 d2 d3 d4 t0 t1 t2
  cases rcx with
  | error ec =>
    obtain ⟨rfl, hne, hb1⟩ := hE
    have HQ := Lib.hid (show ec = R from (HPE.out ec rfl).symm)
    have HB1 := Lib.hid (HB.out.trans (hb1.mono HB.out.size))
    have dz : (ec != 0) = true := by simpa using hne
    clear hne hb1 HPV HPE HPF HCK HFI HVA HXX XP XD XT
    go_wp2_with fail
    go_ret
    exact ⟨ret_int HQ.out, HB1.out⟩
  | ok pcx =>
    obtain ⟨cx, ccx⟩ := pcx
    obtain ⟨A9, n9, c9, rfl, hrl, hb1⟩ := hE
    have hcl9 := rxl_anyN hrl
    have hn9 := hcl9.len
    subst hn9
    have hlc : cx.length ≤ 1000000 := HLX.out cx ccx rfl
    have HC9 := Lib.hid hcl9
    have HB1 := Lib.hid hb1
    replace XP := Lib.hid (XP.out.keep hb1 XP.out.lt)
    replace XD := Lib.hid (XD.out.keep hb1 XD.out.lt)
    replace XT := Lib.hid (XT.out.keep hb1 XT.out.lt)
    clear hb1 hcl9 hrl
    replace HFI := Lib.hid (HFI.out w1 (cx.length : Nat) HB1.out)
    obtain ⟨rfi, hrfi⟩ : ∃ r, fiR dn (cx.length : Nat) d.1.2 = r := ⟨_, rfl⟩
    rw [hrfi] at HFI
    replace HPV := Lib.hid (fun a e2 => HPV.out cx ccx a rfl e2)
    replace HPF := Lib.hid (fun e e2 => HPF.out cx ccx e rfl e2)
    replace HCK := Lib.hid (fun a e2 => HCK.out cx ccx a rfl e2)
    replace HVA := Lib.hid (fun a => HVA.out cx a)
    rw [hrfi] at HPV HPF HCK
    clear hrfi HPE
    have d0 : w1.cell? ⟨w.heap.size + 1, 0, none⟩ = some (.slice A1 n1 c1) := XD.out.cell 0
    have d1 : w1.cell? ⟨w.heap.size + 1, 1, none⟩ = some (.int .i64 k) := XD.out.cell 1
    have d2 : w1.cell? ⟨w.heap.size + 1, 2, none⟩ = some (.int .i64 h) := XD.out.cell 2
    have d3 : w1.cell? ⟨w.heap.size + 1, 3, none⟩ = some (.slice A2 n2 c2) := XD.out.cell 3
    have dz : ((0 : Int) != 0) = false := by decide
    go_wp2_with fail
    refine HFI.out.mono ?_
    intro e w2 hE
    clear HFI d0 d1 d2 d3
    cases rfi with
    | error ec =>
      obtain ⟨rfl, hne, hb2⟩ := hE
      have HQ := Lib.hid (show ec = R from (HPF.out ec rfl).symm)
      have HB2 := Lib.hid ((HB.out.trans (HB1.out.mono HB.out.size)).trans (hb2.mono (HB.out.trans (HB1.out.mono HB.out.size)).size))
      have dz1 : (ec != 0) = true := by simpa using hne
      have HB3 := Lib.hid (HB2.out.alloc HB2.out.size (.cells #[.int .i64 0, .int .i64 0, .slice none 0 0] 26))
      clear hne hb2 HPV HPF HCK HVA HXX XP XD XT
      rw [show zT = .agg #[.int .i64 0, .int .i64 0, .slice none 0 0] from rfl]
      go_wp2_with fail
      go_ret
      exact ⟨ret_int HQ.out, HB3.out⟩
    | ok a =>
      obtain ⟨k3, h3, A3, n3, c3, rfl, hra, hb2⟩ := (show TEnd a 0 w1 e w2 from hE)
      have hw3 : Below w2.heap.size w2 (w2.alloc (.cells #[.int .i64 k3, .int .i64 h3, .slice A3 n3 c3] 26)) := (Below.refl _ _).alloc (Nat.le_refl _) _
      have HB2 := Lib.hid (HB1.out.trans (hb2.mono HB1.out.size))
      have HB3 := Lib.hid (HB2.out.trans (hw3.mono HB2.out.size))
      have XA := Lib.hid (show Box (w2.alloc (.cells #[.int .i64 k3, .int .i64 h3, .slice A3 n3 c3] 26)) w2.heap.size 26 #[.int .i64 k3, .int .i64 h3, .slice A3 n3 c3] from Box.new _ _ _)
      have HRA := Lib.hid (Rd.keep hw3 _ _ (RdF.rd _ _ hra))
      have HLC := Lib.hid hlc
      have HC3 := Lib.hid ((HC9.out.keep hb2).keep hw3)
      replace XP := Lib.hid ((XP.out.keep hb2 XP.out.lt).keep hw3 (XP.out.keep hb2 XP.out.lt).lt)
      replace XD := Lib.hid ((XD.out.keep hb2 XD.out.lt).keep hw3 (XD.out.keep hb2 XD.out.lt).lt)
      replace XT := Lib.hid ((XT.out.keep hb2 XT.out.lt).keep hw3 (XT.out.keep hb2 XT.out.lt).lt)
      clear hw3 hb2 hra hE HC9 HB1 HPF
      replace HPV := Lib.hid (HPV.out a rfl)
      replace HCK := Lib.hid (HCK.out a rfl)
      replace HVA := Lib.hid (HVA.out a)
      obtain ⟨rk, hrk⟩ : ∃ r, ckT ⟨sg, msP l⟩ (ext ++ cx) t a = r := ⟨_, rfl⟩
      rw [hrk] at HPV HCK HVA
      clear hrk
      obtain ⟨w3, hW3⟩ : ∃ w3, w2.alloc (.cells #[.int .i64 k3, .int .i64 h3, .slice A3 n3 c3] 26) = w3 := ⟨_, rfl⟩
      rw [hW3] at HB3 XA HRA HC3 XP XD XT
      have HXE := Lib.hid (HXX.out w3 HB3.out)
      clear HXX HB2
      go_wp2_with fail
      try rw [hW3]
      clear hW3
      try go_wp2_with fail
      have p0 : w3.cell? ⟨w.heap.size, 0, none⟩ = some (.slice As ns cs) := XP.out.cell 0
      have p1 : w3.cell? ⟨w.heap.size, 1, none⟩ = some (.slice Am nm cm) := XP.out.cell 1
      have p2 : w3.cell? ⟨w.heap.size, 2, none⟩ = some (.slice Ac nc cc) := XP.out.cell 2
      have t0 : w3.cell? ⟨w.heap.size + 1 + 1, 0, none⟩ = some (.int .i64 kt) := XT.out.cell 0
      have t1 : w3.cell? ⟨w.heap.size + 1 + 1, 1, none⟩ = some (.int .i64 ht) := XT.out.cell 1
      have t2 : w3.cell? ⟨w.heap.size + 1 + 1, 2, none⟩ = some (.slice At nt ct) := XT.out.cell 2
      have a0 : w3.cell? ⟨w2.heap.size, 0, none⟩ = some (.int .i64 k3) := XA.out.cell 0
      have a1 : w3.cell? ⟨w2.heap.size, 1, none⟩ = some (.int .i64 h3) := XA.out.cell 1
      have a2 : w3.cell? ⟨w2.heap.size, 2, none⟩ = some (.slice A3 n3 c3) := XA.out.cell 2
      have HKS : Hid (∀ w' : World, Below w3.heap.size w3 w' → (fun w' => w'.cell? ⟨w.heap.size, 0, none⟩ = some (.slice As ns cs) ∧ w'.cell? ⟨w.heap.size, 1, none⟩ = some (.slice Am nm cm) ∧ w'.cell? ⟨w.heap.size, 2, none⟩ = some (.slice Ac nc cc) ∧ w'.cell? ⟨w.heap.size + 1 + 1, 0, none⟩ = some (.int .i64 kt) ∧ w'.cell? ⟨w.heap.size + 1 + 1, 1, none⟩ = some (.int .i64 ht) ∧ w'.cell? ⟨w.heap.size + 1 + 1, 2, none⟩ = some (.slice At nt ct) ∧ w'.cell? ⟨w2.heap.size, 0, none⟩ = some (.int .i64 k3) ∧ w'.cell? ⟨w2.heap.size, 1, none⟩ = some (.int .i64 h3) ∧ w'.cell? ⟨w2.heap.size, 2, none⟩ = some (.slice A3 n3 c3)) w') := Lib.hid fun w' h => ⟨(h.cell (cell_lt p0)).trans p0, (h.cell (cell_lt p1)).trans p1, (h.cell (cell_lt p2)).trans p2, (h.cell (cell_lt t0)).trans t0, (h.cell (cell_lt t1)).trans t1, (h.cell (cell_lt t2)).trans t2, (h.cell (cell_lt a0)).trans a0, (h.cell (cell_lt a1)).trans a1, (h.cell (cell_lt a2)).trans a2⟩
      have hbd : Below w3.heap.size w3 w3.drew := (Below.refl _ w3).drew
      refine wp_region_held_drew (S := fun w' => w'.cell? ⟨w.heap.size, 0, none⟩ = some (.slice As ns cs) ∧ w'.cell? ⟨w.heap.size, 1, none⟩ = some (.slice Am nm cm) ∧ w'.cell? ⟨w.heap.size, 2, none⟩ = some (.slice Ac nc cc) ∧ w'.cell? ⟨w.heap.size + 1 + 1, 0, none⟩ = some (.int .i64 kt) ∧ w'.cell? ⟨w.heap.size + 1 + 1, 1, none⟩ = some (.int .i64 ht) ∧ w'.cell? ⟨w.heap.size + 1 + 1, 2, none⟩ = some (.slice At nt ct) ∧ w'.cell? ⟨w2.heap.size, 0, none⟩ = some (.int .i64 k3) ∧ w'.cell? ⟨w2.heap.size, 1, none⟩ = some (.int .i64 h3) ∧ w'.cell? ⟨w2.heap.size, 2, none⟩ = some (.slice A3 n3 c3)) (by kernel_rfl) (HKS.out _ hbd) (fun hS => ?_)
      simp only [List.size_toArray, List.length_cons, List.length_nil, Nat.reduceAdd]
      refine wpAnyH_take (i := 0) (v := .pointer (some ⟨w.heap.size, 0, none⟩)) rfl (by kernel_rfl) (by kernel_rfl) (by kernel_rfl) (fun _ _ _ h => h) (Or.inl ⟨by kernel_rfl, ?_⟩) hS ?_
      · intro w' hSw
        obtain ⟨s0, s1, s2, s3, s4, s5, s6, s7, s8⟩ := hSw
        go_simp
      try simp only [Act.put, List.getElem_toArray, List.getElem_cons_zero, List.setIfInBounds_toArray, List.set_cons_zero, List.set_cons_succ]
      refine wpAnyH_take (i := 1) (v := .slice As ns cs) rfl (by kernel_rfl) (by kernel_rfl) (by kernel_rfl) (fun _ _ _ h => h) (Or.inl ⟨by kernel_rfl, ?_⟩) hS ?_
      · intro w' hSw
        obtain ⟨s0, s1, s2, s3, s4, s5, s6, s7, s8⟩ := hSw
        go_simp
      try simp only [Act.put, List.getElem_toArray, List.getElem_cons_succ, List.getElem_cons_zero, List.setIfInBounds_toArray, List.set_cons_zero, List.set_cons_succ]
      refine wpAnyH_take (i := 2) (v := .pointer (some ⟨w.heap.size, 1, none⟩)) rfl (by kernel_rfl) (by kernel_rfl) (by kernel_rfl) (fun _ _ _ h => h) (Or.inl ⟨by kernel_rfl, ?_⟩) hS ?_
      · intro w' hSw
        obtain ⟨s0, s1, s2, s3, s4, s5, s6, s7, s8⟩ := hSw
        go_simp
      try simp only [Act.put, List.getElem_toArray, List.getElem_cons_succ, List.getElem_cons_zero, List.setIfInBounds_toArray, List.set_cons_zero, List.set_cons_succ]
      refine wpAnyH_take (i := 3) (v := .slice Am nm cm) rfl (by kernel_rfl) (by kernel_rfl) (by kernel_rfl) (fun _ _ _ h => h) (Or.inl ⟨by kernel_rfl, ?_⟩) hS ?_
      · intro w' hSw
        obtain ⟨s0, s1, s2, s3, s4, s5, s6, s7, s8⟩ := hSw
        go_simp
      try simp only [Act.put, List.getElem_toArray, List.getElem_cons_succ, List.getElem_cons_zero, List.setIfInBounds_toArray, List.set_cons_zero, List.set_cons_succ]
      refine wpAnyH_take (i := 4) (v := .pointer (some ⟨w.heap.size, 2, none⟩)) rfl (by kernel_rfl) (by kernel_rfl) (by kernel_rfl) (fun _ _ _ h => h) (Or.inl ⟨by kernel_rfl, ?_⟩) hS ?_
      · intro w' hSw
        obtain ⟨s0, s1, s2, s3, s4, s5, s6, s7, s8⟩ := hSw
        go_simp
      try simp only [Act.put, List.getElem_toArray, List.getElem_cons_succ, List.getElem_cons_zero, List.setIfInBounds_toArray, List.set_cons_zero, List.set_cons_succ]
      refine wpAnyH_take (i := 5) (v := .slice Ac nc cc) rfl (by kernel_rfl) (by kernel_rfl) (by kernel_rfl) (fun _ _ _ h => h) (Or.inl ⟨by kernel_rfl, ?_⟩) hS ?_
      · intro w' hSw
        obtain ⟨s0, s1, s2, s3, s4, s5, s6, s7, s8⟩ := hSw
        go_simp
      try simp only [Act.put, List.getElem_toArray, List.getElem_cons_succ, List.getElem_cons_zero, List.setIfInBounds_toArray, List.set_cons_zero, List.set_cons_succ]
      refine wpAnyH_take (i := 6) (v := .slice A9 cx.length c9) rfl (by kernel_rfl) (by kernel_rfl) (by kernel_rfl) (fun _ _ _ h => h) (Or.inl ⟨by kernel_rfl, ?_⟩) hS ?_
      · intro w' hSw
        obtain ⟨s0, s1, s2, s3, s4, s5, s6, s7, s8⟩ := hSw
        go_simp
      try simp only [Act.put, List.getElem_toArray, List.getElem_cons_succ, List.getElem_cons_zero, List.setIfInBounds_toArray, List.set_cons_zero, List.set_cons_succ]
      refine wpAnyH_take (i := 9) (v := .agg #[.int .i64 kt, .int .i64 ht, .slice At nt ct]) rfl (by kernel_rfl) (by kernel_rfl) (by kernel_rfl) (fun _ _ _ h => h) (Or.inl ⟨by kernel_rfl, ?_⟩) hS ?_
      · intro w' hSw
        obtain ⟨s0, s1, s2, s3, s4, s5, s6, s7, s8⟩ := hSw
        go_simp
      try simp only [Act.put, List.getElem_toArray, List.getElem_cons_succ, List.getElem_cons_zero, List.setIfInBounds_toArray, List.set_cons_zero, List.set_cons_succ]
      refine wpAnyH_take (i := 10) (v := .agg #[.int .i64 k3, .int .i64 h3, .slice A3 n3 c3]) rfl (by kernel_rfl) (by kernel_rfl) (by kernel_rfl) (fun _ _ _ h => h) (Or.inl ⟨by kernel_rfl, ?_⟩) hS ?_
      · intro w' hSw
        obtain ⟨s0, s1, s2, s3, s4, s5, s6, s7, s8⟩ := hSw
        go_simp
      try simp only [Act.put, List.getElem_toArray, List.getElem_cons_succ, List.getElem_cons_zero, List.setIfInBounds_toArray, List.set_cons_zero, List.set_cons_succ]
      refine wpAnyH_ready (rs := [7]) (by kernel_rfl) (by simp) ?_
      refine AllReadyH.cons rfl (fun KN hK => ?_) AllReadyH.nil
      go_simp
      have hb7 : Below w3.heap.size w3 (w3.alloc (.cells #[.slice Ac nc cc, .slice A9 cx.length c9] 24)).drew := ((Below.refl _ w3).alloc (Nat.le_refl _) _).drew
      refine hK.out _ _ (HKS.out _ hb7) (fun hS => ?_)
      clear hK KN
      try simp only [Act.put, List.getElem_toArray, List.getElem_cons_succ, List.getElem_cons_zero, List.setIfInBounds_toArray, List.set_cons_zero, List.set_cons_succ]
      have xz : Box (w3.alloc (.cells #[.slice Ac nc cc, .slice A9 cx.length c9] 24)).drew w3.heap.size 24 #[.slice Ac nc cc, .slice A9 cx.length c9] := Box.drewI (Box.new _ _ _)
      have e0 : ((w3.alloc (.cells #[.slice Ac nc cc, .slice A9 cx.length c9] 24)).drew).cell? ⟨w3.heap.size, 0, none⟩ = some (.slice Ac nc cc) := xz.cell 0
      have e1 : ((w3.alloc (.cells #[.slice Ac nc cc, .slice A9 cx.length c9] 24)).drew).cell? ⟨w3.heap.size, 1, none⟩ = some (.slice A9 cx.length c9) := xz.cell 1
      generalize (w3.alloc (.cells #[.slice Ac nc cc, .slice A9 cx.length c9] 24)).drew = v7 at *
      refine wpAnyH_ready (rs := [8]) (by kernel_rfl) (by simp) ?_
      refine AllReadyH.cons rfl (fun KN hK => ?_) AllReadyH.nil
      go_simp
      refine (yConcat (HXE.out.keep hb7) (HC3.out.keep hb7) e0 e1 (by have := HC3.out.le; have := HC3.out.cap; have := HLC.out; omega)).mono ?_
      rintro e v8 ⟨A8, c8, rfl, hcl7, hb8⟩
      have hb8' : Below w3.heap.size w3 v8 := hb7.trans (hb8.mono hb7.size)
      refine hK.out _ _ (HKS.out _ hb8') (fun hS => ?_)
      clear hK KN
      try simp only [Act.put, List.getElem_toArray, List.getElem_cons_succ, List.getElem_cons_zero, List.setIfInBounds_toArray, List.set_cons_zero, List.set_cons_succ]
      clear hb8 hb7 xz e0 e1
      refine wpAnyH_ready (rs := [11]) (by kernel_rfl) (by simp) ?_
      refine AllReadyH.cons rfl (fun KN hK => ?_) AllReadyH.nil
      go_simp
      refine (HCK.out v8 A8 c8 k3 h3 A3 n3 c3 (HB3.out.trans (hb8'.mono HB3.out.size)) hcl7 (Rd.keep hb8' _ _ HRA.out)).mono ?_
      rintro e v9 ⟨rfl, hb9⟩
      replace hbd : Below w3.heap.size w3 v9 := hb8'.trans (hb9.mono hb8'.size)
      clear hb9 hb8' 
      refine hK.out _ _ (HKS.out _ hbd) (fun hS => ?_)
      clear hK KN
      try simp only [Act.put, List.getElem_toArray, List.getElem_cons_succ, List.getElem_cons_zero, List.setIfInBounds_toArray, List.set_cons_zero, List.set_cons_succ]
      refine wpAnyH_take (i := 12) (v := .int .i64 rk) rfl (by kernel_rfl) (by kernel_rfl) (by kernel_rfl) (fun _ _ _ h => h) (Or.inl ⟨by kernel_rfl, ?_⟩) hS ?_
      · intro w' hSw
        obtain ⟨s0, s1, s2, s3, s4, s5, s6, s7, s8⟩ := hSw
        go_simp
      try simp only [Act.put, List.getElem_toArray, List.getElem_cons_succ, List.getElem_cons_zero, List.setIfInBounds_toArray, List.set_cons_zero, List.set_cons_succ]
      refine wpAnyH_done (by kernel_rfl) ?_ _
      try simp only [List.setIfInBounds_toArray]
      try simp only [List.getElem_toArray, List.getElem_cons_succ, List.getElem_cons_zero, List.setIfInBounds_toArray, List.set_cons_zero, List.set_cons_succ]
      have HBF := Lib.hid (HB3.out.trans (hbd.mono HB3.out.size))
      replace XP := Lib.hid (XP.out.keep hbd XP.out.lt)
      replace XD := Lib.hid (XD.out.keep hbd XD.out.lt)
      replace XT := Lib.hid (XT.out.keep hbd XT.out.lt)
      clear hS HKS p0 p1 p2 t0 t1 t2 a0 a1 a2 hbd hcl7
      have HBW := Lib.hid (HB.out.trans (HBF.out.mono HB.out.size))
      by_cases hz : rk = 0
      case' neg =>
        have dk : (rk != 0) = true := by simpa using hz
        have HQ := Lib.hid (show rk = R by rw [HPV.out, if_neg hz])
        clear hz HPV HVA HCK
        go_wp2_with fail
        go_ret
        exact ⟨ret_int HQ.out, HBW.out⟩
      subst hz
      have HQ := Lib.hid (show R = if d.2 = true ∧ rv = false then 3 else 0 by rw [HPV.out, if_pos rfl])
      have HV := Lib.hid (HVA.out rfl v9 HBF.out)
      have d4 : v9.cell? ⟨w.heap.size + 1, 4, none⟩ = some (.bool d.2) := XD.out.cell 4
      have p0 : v9.cell? ⟨w.heap.size, 0, none⟩ = some (.slice As ns cs) := XP.out.cell 0
      have p1 : v9.cell? ⟨w.heap.size, 1, none⟩ = some (.slice Am nm cm) := XP.out.cell 1
      have p2 : v9.cell? ⟨w.heap.size, 2, none⟩ = some (.slice Ac nc cc) := XP.out.cell 2
      have t0 : v9.cell? ⟨w.heap.size + 1 + 1, 0, none⟩ = some (.int .i64 kt) := XT.out.cell 0
      have t1 : v9.cell? ⟨w.heap.size + 1 + 1, 1, none⟩ = some (.int .i64 ht) := XT.out.cell 1
      have t2 : v9.cell? ⟨w.heap.size + 1 + 1, 2, none⟩ = some (.slice At nt ct) := XT.out.cell 2
      clear HPV HVA HCK XP XD XT XA HRA HC3 HXE
      generalize d.2 = pd at *
      cases pd with
      | false =>
        have HR := Lib.hid (show 0 = R by rw [HQ.out]; rfl)
        clear HV HQ
        go_wp2_with fail
        go_ret
        exact ⟨ret_int HR.out, HBW.out⟩
      | true =>
        go_wp2_with fail
        refine HV.out.mono ?_
        rintro e v10 ⟨rfl, hb10⟩
        have HBX := Lib.hid (HBW.out.trans (hb10.mono HBW.out.size))
        clear hb10 HV p0 p1 p2 t0 t1 t2 d4
        cases rv with
        | false =>
          have HR := Lib.hid (show 3 = R by rw [HQ.out]; rfl)
          clear HQ
          go_wp2_with fail
          go_ret
          exact ⟨ret_int HR.out, HBX.out⟩
        | true =>
          have HR := Lib.hid (show 0 = R by rw [HQ.out]; rfl)
          clear HQ
          go_wp2_with fail
          go_ret
          exact ⟨ret_int HR.out, HBX.out⟩
end Go.Proofs.Ytloeainlpcnhnaa
/-
  Contracts of package metas' Decls and Sub. No statement is proved here.
-/
namespace Go.Proofs.Ytloeainlpcnhnaa
open Go.ChangeShapes Go.WideShapes Go.ChangeAt Go.RowKit Go.Shelf
set_option linter.unusedVariables false
attribute [local go_sem] Oper.semAt_some
/-- Heads of metas are low, their contexts short -/
def LoP (ds : List MP) : Prop := ∀ d ∈ ds, LwV d.1.1 ∧ (myB d.1.2 = true → okT loV d.1.2) ∧ d.1.1.length ≤ 1000
theorem LoP.at_ {ds : List MP} (h : LoP ds) {i : Nat} {d : MP} (hd : ds[i]? = some d) : LwV d.1.1 ∧ (myB d.1.2 = true → okT loV d.1.2) ∧ d.1.1.length ≤ 1000 := h d (List.mem_of_getElem? hd)
theorem LoP.ms {ds : List MP} (h : LoP ds) : ∀ m ∈ msP ds, (∀ e ∈ m.1, myB e = true → okT loV e) ∧ (myB m.2 = true → okT loV m.2) := fun m hm => by
  obtain ⟨d, hd, rfl⟩ := List.mem_map.1 hm
  exact ⟨(h d hd).1, (h d hd).2.1⟩
theorem LoP.take {ds : List MP} (h : LoP ds) (i : Nat) : LoP (ds.take i) := fun d hd => h d (List.mem_of_mem_take hd)
theorem ml_cap {w : World} {ms : List (List T × T)} {A : Option Addr} {n c : Nat} (h : ML w ms A n c) : ML w ms A n n := ⟨h.len, Nat.le_refl _, by have := h.le; have := h.cap; omega, h.at_⟩
set_option maxRecDepth 100000 in
set_option maxHeartbeats 16000000 in
theorem dcC (sg : List T) (ds : List MP) (As : Option Addr) (ns cs : Nat) (Am : Option Addr) (nm cm : Nat) (w : World) (hs : DL w sg As ns cs) (hm : PL w ds Am nm cm) (hls : LwV sg) (hlp : LoP ds) :
    Calls Try.prog 20 #[.slice As ns cs, .slice Am nm cm] w (FiE (dcV sg ds) w) := by
  have hcap := hm.cap
  have hle := hm.le
  unfold maxLen at hcap
  have HS := Lib.hid hs; clear hs
  have HM := Lib.hid hm; clear hm
  have HLS := Lib.hid hls; clear hls
  have HLP := Lib.hid hlp; clear hlp
  have hb3 : ∀ (a b c : Obj), Below w.heap.size w (((w.alloc a).alloc b).alloc c) := fun a b c => (((Below.refl _ _).alloc (Nat.le_refl _) _).alloc (by simp) _).alloc (by simp; omega) _
  by_cases hbig : 40 < nm
  · have d1 : decide ((40 : Int) < (nm : Int)) = true := by simp; omega
    have HE := Lib.hid (show dcV sg ds = (0, 4) by unfold dcV; rw [if_pos (by rw [HM.out.len]; omega)])
    have HB := Lib.hid (hb3 (.cells #[.slice As ns cs] 22) (.cells #[.int .i64 0] 3) (.cells #[.int .i64 4] 30)); clear hb3
    go_enter Try.func20, Try.ntmps20
    go_wp2_with fail
    refine bodyPost_ret (v := .tuple #[.int .i64 0, .int .i64 4]) (by simp [results, Try.results20, go_sem]) rfl ?_
    exact FiE.of0 HE.out (by simpa using HB.out)
  have d1 : decide ((40 : Int) < (nm : Int)) = false := by simp; omega
  clear hb3
  have HE := Lib.hid (show dcV sg ds = fiG (fun i d => deV ⟨sg, msP (ds.take i)⟩ d) 0 ds by unfold dcV; rw [if_neg (by rw [HM.out.len]; omega)])
  refine (callsIn_wide (n := 8)).1 (callsIn_of_wp_marks Try.func20 rfl trivial ?_ rfl)
  simp only [Try.ntmps20, List.size_toArray, List.length_cons, List.length_nil, Nat.reduceAdd, Nat.reduceSub, Array.replicate_succ, Array.replicate_zero, List.push_toArray, List.append_toArray, List.nil_append, List.cons_append]
  gi_wp2_with (refine ⟨trivial, ?_⟩; gi_at_call 46; refine (callsIn_wide.2 (eachMC _ _ _ _)).mono ?_; rintro e w' ⟨rfl, rfl⟩)
  obtain ⟨W0, hW0⟩ : ∃ W0, (((w.alloc (.cells #[.slice As ns cs] 22)).alloc (.cells #[.int .i64 0] 3)).alloc (.cells #[.int .i64 0] 30)).alloc (.cells #[.slice Am nm cm] 23) = W0 := ⟨_, rfl⟩
  rw [hW0]
  have hbW : Below w.heap.size w W0 := by
    rw [← hW0]; exact ((((Below.refl _ w).alloc (Nat.le_refl _) _).alloc (by simp) _).alloc (by simp; omega) _).alloc (by simp; omega) _
  have bx0 : Box W0 w.heap.size 22 #[.slice As ns cs] := by
    rw [← hW0]; exact (((Box.new w _ _).alloc _).alloc _).alloc _
  have bx1 : Box W0 (w.heap.size + 1) 3 #[.int .i64 0] := by
    rw [← hW0]; exact (((Box.new (w.alloc _) _ _).at (b' := w.heap.size + 1) (by simp)).alloc _).alloc _
  have bx2 : Box W0 (w.heap.size + 1 + 1) 30 #[.int .i64 0] := by
    rw [← hW0]; exact ((Box.new ((w.alloc _).alloc _) _ _).at (b' := w.heap.size + 1 + 1) (by simp)).alloc _
  have bx3 : Box W0 (w.heap.size + 1 + 1 + 1) 23 #[.slice Am nm cm] := by
    rw [← hW0]; exact (Box.new (((w.alloc _).alloc _).alloc _) _ _).at (b' := w.heap.size + 1 + 1 + 1) (by simp)
  clear hW0
  have hl3 := bx3.lt
  have HBX := Lib.hid (And.intro bx0 (And.intro bx1 bx2))
  have HBW := Lib.hid hbW
  refine wpIn_rangeFunc_ownH rfl (by omega) (gf := 75) (lb := #[.pointer (some ⟨w.heap.size + 1 + 1 + 1, 0, none⟩)]) rfl trivial (enters_of Try.func75 (by kernel_rfl) rfl)
    (eachMStops 7 w W0 ds Am nm cm _ HM.out hbW bx3) (fun h k => h.trans k) (fun W l o o' h1 h2 h3 h4 => belowK_b (Nat.le_refl _) W l o o' h1 h2 h3 h4) (Below.refl _ _) (fun _ => rfl)
    (fun pre W => Below W0.heap.size W0 W ∧ Hid (∀ x ∈ pre, ∀ d, ds[x.i]? = some d → deV ⟨sg, msP (ds.take x.i)⟩ d = 0))
    (fun cd pre W => cd = .ret ∧ Below w.heap.size w W ∧ ∃ i e, Box W (w.heap.size + 1) 3 #[.int .i64 (i : Nat)] ∧ Box W (w.heap.size + 1 + 1) 30 #[.int .i64 e] ∧ Hid (∃ pre' x d, pre = pre' ++ [x] ∧ (∀ y ∈ pre', ∀ d, ds[y.i]? = some d → deV ⟨sg, msP (ds.take y.i)⟩ d = 0) ∧ x.i = i ∧ ds[i]? = some d ∧ deV ⟨sg, msP (ds.take i)⟩ d = e ∧ e ≠ 0))
    (fun s A B row hs hg hr => ⟨below_kept hs.1 hg hr (by omega) hs.1.size, hs.2⟩)
    (fun _ s A B row hs hg hr => by obtain ⟨h1, h2, i, e, h3, h4, h5⟩ := hs; exact ⟨h1, below_kept h2 hg hr (by have := hbW.size; omega) h2.size, i, e, h3.kept hg hr, h4.kept hg hr, h5⟩) ⟨Below.refl _ _, Lib.hid fun x hx => by cases hx⟩
    (fun x a' W => ∃ By, W0.heap.size ≤ By ∧ Box W By 39 #[.slice x.A1 x.n1 x.c1, .int .i64 x.k, .int .i64 x.h, .slice x.A2 x.n2 x.c2, .bool x.p] ∧ a' = { tmps := #[.slice As ns cs, .slice Am nm cm, .pointer (some ⟨w.heap.size, 0, none⟩), undef, .pointer (some ⟨w.heap.size + 1, 0, none⟩), .pointer (some ⟨w.heap.size + 1 + 1, 0, none⟩), .slice Am x.i x.i, .pointer (some ⟨By, 0, none⟩), undef, .slice Am nm cm, .int .i64 nm, .bool false, .slice Am nm cm, .func (.func 75) #[] #[.pointer (some ⟨w.heap.size + 1 + 1 + 1, 0, none⟩)], .slice Am x.i x.i, .agg #[.slice x.A1 x.n1 x.c1, .int .i64 x.k, .int .i64 x.h, .slice x.A2 x.n2 x.c2, .bool x.p], undef, undef, undef, undef, undef, undef, undef, undef, undef], defers := [] })
    (fun _ _ _ A B row hs hg hr => by obtain ⟨By, h2, h4, h5⟩ := hs; exact ⟨By, h2, h4.kept hg hr, h5⟩) ?assign ?body ?done ?stop
  case assign =>
    rintro l pre x W K ⟨hB, hM⟩ hK
    simp only [encM, List.zip_toArray, List.zip_cons_cons, List.zip_nil_right, List.foldl_toArray, List.foldl_cons, List.foldl_nil, List.setIfInBounds_toArray, List.set_cons_succ, List.set_cons_zero]
    gi_wp2
    have hsz := hB.size
    have hbA : Below W.heap.size W (W.alloc (.cells #[.slice x.A1 x.n1 x.c1, .int .i64 x.k, .int .i64 x.h, .slice x.A2 x.n2 x.c2, .bool x.p] 39)) := (Below.refl _ _).alloc (Nat.le_refl _) _
    exact hK _ _ (keepsFrom_of_below hbA) (hbA.mono hsz) ⟨hB.trans (hbA.mono hsz), hM⟩ ⟨W.heap.size, by omega, Box.new _ _ _, rfl⟩
  case body =>
    rintro l pre x a' W hl ⟨r, hr⟩ ⟨hB, hM⟩ ⟨By, hBy, hbn, rfl⟩ _
    obtain ⟨⟨d, p⟩, hd⟩ : ∃ d, ds[x.i]? = some d := by
      obtain ⟨d, hd, _⟩ := x.ok
      exact ⟨_, hd⟩
    have hok := x.ok
    rw [hd] at hok
    obtain ⟨d', hd', hd1, hd2⟩ := hok
    have hxp : p = x.p := by cases hd'; rfl
    cases hd'
    have hWb := HBW.out.trans (hB.mono HBW.out.size)
    have hil : x.i < nm := by have := (List.getElem?_eq_some_iff.1 hd).1; rw [HM.out.len] at this; exact this
    obtain ⟨l1, l2, l3⟩ := LoP.at_ HLP.out hd
    have hnl := hd1.len
    dsimp only at l1 l2 l3
    have HC := Lib.hid (deC ⟨sg, msP (ds.take x.i)⟩ (d, x.p) As ns cs Am x.i x.i x.A1 x.n1 x.c1 x.k x.h x.A2 x.n2 x.c2 W (HS.out.keep hWb) (ml_cap (((HM.out.take (Nat.le_of_lt hil)).ml).keep hWb)) (hd1.keep hWb) (Rd.keep hWb _ _ hd2) ⟨HLS.out, (LoP.take HLP.out x.i).ms, l1⟩ l2 (by omega))
    have HD := Lib.hid hd
    obtain ⟨R, hR⟩ : ∃ R, deV ⟨sg, msP (ds.take x.i)⟩ (d, x.p) = R := ⟨_, rfl⟩
    rw [hR] at HC
    have HR := Lib.hid hR
    have HBB := Lib.hid hB
    have HMM := Lib.hid hM.out
    have b0 : W.cell? ⟨w.heap.size, 0, none⟩ = some (.slice As ns cs) := (HBX.out.1.keep hB HBX.out.1.lt).cell 0
    have q0 : W.cell? ⟨By, 0, none⟩ = some (.slice x.A1 x.n1 x.c1) := hbn.cell 0
    have q1 : W.cell? ⟨By, 1, none⟩ = some (.int .i64 x.k) := hbn.cell 1
    have q2 : W.cell? ⟨By, 2, none⟩ = some (.int .i64 x.h) := hbn.cell 2
    have q3 : W.cell? ⟨By, 3, none⟩ = some (.slice x.A2 x.n2 x.c2) := hbn.cell 3
    have q4 : W.cell? ⟨By, 4, none⟩ = some (.bool x.p) := hbn.cell 4
    have XI := Lib.hid (show x.i = x.i from rfl)
    clear hd hd1 hd2 l1 l2 l3 hnl hR hM hWb hxp
    gi_wp2_with fail
    refine ⟨trivial, ?_⟩
    refine (CallsIn.inRound l (callsIn_wide.2 HC.out)).mono ?_
    rintro e w1 ⟨rfl, hb1⟩
    have hsz := HBB.out.size
    have HB1 := Lib.hid (HBB.out.trans (hb1.mono hsz))
    have HK1 := Lib.hid (keepsFrom_of_below (B := W0.heap.size) hb1)
    have HKp := Lib.hid (hb1.mono hsz)
    clear hb1 b0 q0 q1 q2 q3 q4 HC
    by_cases hz : R = 0
    · have dz : (R != 0) = false := by simpa using hz
      have HZ := Lib.hid hz; clear hz
      gi_wp2_with fail
      refine ⟨HK1.out, HKp.out, HB1.out, Lib.hid fun y hy d0 hd0 => ?_⟩
      rcases List.mem_append.1 hy with hy | hy
      · exact HMM.out y hy d0 hd0
      · rw [List.mem_singleton.1 hy] at hd0 ⊢
        rw [HD.out] at hd0
        cases hd0
        rw [HR.out]; exact HZ.out
    · have dz : (R != 0) = true := by simpa using hz
      have HZ := Lib.hid hz; clear hz
      have y1 := HBX.out.2.1.keep HB1.out HBX.out.2.1.lt
      have y2 := HBX.out.2.2.keep HB1.out HBX.out.2.2.lt
      have Y1 := Lib.hid y1
      have Y2 := Lib.hid y2
      obtain ⟨c1, f1⟩ := y1.one
      obtain ⟨c2, f2⟩ := y2.one
      have HB1w := Lib.hid (HBW.out.trans (HB1.out.mono HBW.out.size))
      clear y1 y2
      gi_wp2_with fail
      refine ⟨HK1.out.trans ?_, rfl, ?_, x.i, R, ?_, ?_, Lib.hid ⟨pre, x, (d, x.p), rfl, HMM.out, rfl, HD.out, HR.out, HZ.out⟩⟩
      · exact ((KeepsOthers.setCell _ _ _).trans (KeepsOthers.setCell _ _ _)).from _
      · exact (HB1w.out.setCell (p := ⟨w.heap.size + 1, 0, none⟩) (by dsimp only; omega) _).setCell (p := ⟨w.heap.size + 1 + 1, 0, none⟩) (by dsimp only; omega) _
      · exact (Y1.out.set _).other (a := ⟨w.heap.size + 1 + 1, 0, none⟩) (by dsimp only; omega) _
      · exact (Y2.out.other (a := ⟨w.heap.size + 1, 0, none⟩) (by dsimp only; omega) _).set _
  case done =>
    rintro D ys W hD hS ⟨hB, hM⟩ hK
    have y1 := HBX.out.2.1.keep hB HBX.out.2.1.lt
    have y2 := HBX.out.2.2.keep hB HBX.out.2.2.lt
    have hl1 := y1.lt
    have hl2 := y2.lt
    obtain ⟨c1, f1⟩ := y1.one
    obtain ⟨c2, f2⟩ := y2.one
    have z1 : Box ((W.setCell ⟨w.heap.size + 1, 0, none⟩ (.int .i64 0)).setCell ⟨w.heap.size + 1 + 1, 0, none⟩ (.int .i64 0)) (w.heap.size + 1) 3 #[.int .i64 0] := (y1.set _).other (a := ⟨w.heap.size + 1 + 1, 0, none⟩) (by dsimp only; omega) _
    have z2 : Box ((W.setCell ⟨w.heap.size + 1, 0, none⟩ (.int .i64 0)).setCell ⟨w.heap.size + 1 + 1, 0, none⟩ (.int .i64 0)) (w.heap.size + 1 + 1) 30 #[.int .i64 0] := (y2.other (a := ⟨w.heap.size + 1, 0, none⟩) (by dsimp only; omega) _).set _
    have hBw : Below w.heap.size w ((W.setCell ⟨w.heap.size + 1, 0, none⟩ (.int .i64 0)).setCell ⟨w.heap.size + 1 + 1, 0, none⟩ (.int .i64 0)) := ((HBW.out.trans (hB.mono HBW.out.size)).setCell (p := ⟨w.heap.size + 1, 0, none⟩) (by dsimp only; omega) _).setCell (p := ⟨w.heap.size + 1 + 1, 0, none⟩) (by dsimp only; omega) _
    have hK' := (((KeepsOthers.setCell W ⟨w.heap.size + 1, 0, none⟩ (.int .i64 0)).trans (KeepsOthers.setCell _ ⟨w.heap.size + 1 + 1, 0, none⟩ (.int .i64 0))).same D _ hK rfl)
    have HF := Lib.hid (show fiG (fun i d => deV ⟨sg, msP (ds.take i)⟩ d) 0 ds = (0, 0) from fiG_none ds 0 fun j d hj => by
      have hjl := (List.getElem?_eq_some_iff.1 hj).1
      rw [HM.out.len] at hjl
      have hm0 : j ∈ ys.map (·.i) := by rw [hS]; exact List.mem_range.2 hjl
      obtain ⟨y, hy, hyi⟩ := List.mem_map.1 hm0
      have := hM.out y hy d (by rw [hyi]; exact hj)
      rw [hyi] at this
      rw [Nat.zero_add]
      exact this)
    clear hM y1 y2
    gi_wp2_with fail
    have hB' := below_putObj hBw (show w.heap.size ≤ D by have := HBW.out.size; omega) (.deferred none)
    have e1 := (z1.kept (B := 0) (grownBy_putObj' _ D (.deferred none)) (fun r e => by cases e; exact ⟨Nat.zero_le _, _, hK', rfl⟩)).one
    have e2 := (z2.kept (B := 0) (grownBy_putObj' _ D (.deferred none)) (fun r e => by cases e; exact ⟨Nat.zero_le _, _, hK', rfl⟩)).one
    refine ⟨by simp, .inl ⟨_, _, rfl, run_takeDeferred hK', ?_⟩⟩
    refine ⟨.tuple #[.int .i64 0, .int .i64 0], by simp [results, Try.results20, go_sem, e1.1, e2.1], ?_⟩
    exact FiE.of0 (by rw [HE.out, HF.out]) hB'
  case stop =>
    rintro D cd pre W hD hS ⟨rfl, hBw, i, e, y1, y2, hH⟩ hK
    have HF := Lib.hid (show fiG (fun i d => deV ⟨sg, msP (ds.take i)⟩ d) 0 ds = (i, e) by
      obtain ⟨pre', x, d, rfl, hall, hxi, hdi, hde, hne⟩ := hH.out
      have hlen : pre'.length = i := by
        rw [List.map_append, List.length_append, List.length_singleton, List.range_succ] at hS
        have := List.append_inj hS (by simp)
        have h2 : x.i = pre'.length := by simpa using this.2
        omega
      have := fiG_first (g := fun i d => deV ⟨sg, msP (ds.take i)⟩ d) hne ds 0 i d (fun j d0 hj hd0 => by
        have hm0 : j ∈ pre'.map (·.i) := by
          rw [List.map_append, List.length_append, List.length_singleton, List.range_succ] at hS
          rw [(List.append_inj hS (by simp)).1]
          exact List.mem_range.2 (by omega)
        obtain ⟨y, hy, hyi⟩ := List.mem_map.1 hm0
        have := hall y hy d0 (by rw [hyi]; exact hd0)
        rw [hyi] at this
        rw [Nat.zero_add]
        exact this) hdi (by rw [Nat.zero_add]; exact hde)
      rwa [Nat.zero_add] at this)
    clear hH
    gi_wp2
    have hB' := below_putObj hBw (show w.heap.size ≤ D by have := HBW.out.size; omega) (.deferred none)
    have e1 := (y1.kept (B := 0) (grownBy_putObj' _ D (.deferred none)) (fun r e => by cases e; exact ⟨Nat.zero_le _, _, hK, rfl⟩)).one
    have e2 := (y2.kept (B := 0) (grownBy_putObj' _ D (.deferred none)) (fun r e => by cases e; exact ⟨Nat.zero_le _, _, hK, rfl⟩)).one
    refine ⟨by simp, .inl ⟨_, _, rfl, run_takeDeferred hK, ?_⟩⟩
    refine ⟨.tuple #[.int .i64 i, .int .i64 e], by simp [results, Try.results20, go_sem, e1.1, e2.1], ?_⟩
    exact FiE.of (by rw [HE.out, HF.out]) hB'
end Go.Proofs.Ytloeainlpcnhnaa
/-
  Contract of package metas' Sub. No statement is proved here.
-/
namespace Go.Proofs.Ytloeainlpcnhnaa
open Go.ChangeShapes Go.WideShapes Go.ChangeAt Go.RowKit Go.Shelf
set_option linter.unusedVariables false
attribute [local go_sem] Oper.semAt_some
set_option maxRecDepth 100000 in
set_option maxHeartbeats 16000000 in
theorem suC (sg : List T) (l : List MP) (ext : List T) (ds : List MP) (theta : List T) (As : Option Addr) (ns cs : Nat) (Am : Option Addr) (nm cm : Nat) (Ac : Option Addr) (nc cc : Nat) (Ad : Option Addr) (nd cd : Nat) (At : Option Addr) (nt ct : Nat) (w : World) (hs : DL w sg As ns cs) (hm : PL w l Am nm cm) (hx : CLV w ext Ac nc cc) (hd : PL w ds Ad nd cd) (ht : CLV w theta At nt ct)
    (hl : LoV ⟨sg, msP l⟩ ext) (hld : LoP ds) (hlt : LwV theta) (hnc : nc ≤ 1000000) :
    Calls Try.prog 21 #[.slice As ns cs, .slice Am nm cm, .slice Ac nc cc, .slice Ad nd cd, .slice At nt ct] w fun e w' => e = .returned (.int .i64 (suV sg l ext ds theta)) ∧ Below w.heap.size w w' := by
  have hcap := hd.cap
  have hle := hd.le
  unfold maxLen at hcap
  have HS := Lib.hid hs; clear hs
  have HM := Lib.hid hm; clear hm
  have HX := Lib.hid hx; clear hx
  have HD := Lib.hid hd; clear hd
  have HT := Lib.hid ht; clear ht
  have HL := Lib.hid hl; clear hl
  have HLD := Lib.hid hld; clear hld
  have HLT := Lib.hid hlt; clear hlt
  have hb2 : ∀ (a b : Obj), Below w.heap.size w ((w.alloc a).alloc b) := fun a b => ((Below.refl _ _).alloc (Nat.le_refl _) _).alloc (by simp) _
  by_cases hbig : 40 < nd
  · have d1 : decide ((40 : Int) < (nd : Int)) = true := by simp; omega
    have HE := Lib.hid (show suV sg l ext ds theta = 4 by unfold suV; rw [if_pos (by rw [HD.out.len]; omega)])
    have HB := Lib.hid (hb2 (.cells #[.slice Ad nd cd] 23) (.cells #[.int .i64 4] 30)); clear hb2
    go_enter Try.func21, Try.ntmps21
    go_wp2_with fail
    refine bodyPost_ret (v := .int .i64 4) (by simp [results, Try.results21, go_sem]) rfl ?_
    exact ⟨ret_int HE.out.symm, HB.out⟩
  have d1 : decide ((40 : Int) < (nd : Int)) = false := by simp; omega
  by_cases hnt : nt = nd
  case' neg =>
    have d2 : ((nt : Int) != (nd : Int)) = true := by simp; omega
    have HE := Lib.hid (show suV sg l ext ds theta = 3 by unfold suV; rw [if_neg (by rw [HD.out.len]; omega), if_neg (by rw [HD.out.len, HT.out.len]; exact hnt)])
    have HB := Lib.hid (hb2 (.cells #[.slice Ad nd cd] 23) (.cells #[.int .i64 3] 30)); clear hb2
    clear hnt
    go_enter Try.func21, Try.ntmps21
    go_wp2_with fail
    refine bodyPost_ret (v := .int .i64 3) (by simp [results, Try.results21, go_sem]) rfl ?_
    exact ⟨ret_int HE.out.symm, HB.out⟩
  clear hb2
  subst hnt
  have d2 : ((nt : Int) != (nt : Int)) = false := by simp
  have HE := Lib.hid (show suV sg l ext ds theta = (fiG (fun i t => plV ⟨sg, msP l⟩ l ext (theta.take i) (ds.getD i noMP) t) 0 theta).2 by unfold suV; rw [if_neg (by rw [HD.out.len]; omega), if_pos (by rw [HD.out.len, HT.out.len])])
  refine (callsIn_wide (n := 8)).1 (callsIn_of_wp_marks Try.func21 rfl trivial ?_ rfl)
  simp only [Try.ntmps21, List.size_toArray, List.length_cons, List.length_nil, Nat.reduceAdd, Nat.reduceSub, Array.replicate_succ, Array.replicate_zero, List.push_toArray, List.append_toArray, List.nil_append, List.cons_append]
  gi_wp2_with (refine ⟨trivial, ?_⟩; gi_at_call 48; refine (callsIn_wide.2 (eachTC _ _ _ _)).mono ?_; rintro e w' ⟨rfl, rfl⟩)
  obtain ⟨W0, hW0⟩ : ∃ W0, (((w.alloc (.cells #[.slice Ad nt cd] 23)).alloc (.cells #[.int .i64 0] 30)).alloc (.cells #[.slice As ns cs, .slice Am nm cm, .slice Ac nc cc] 81)).alloc (.cells #[.slice At nt ct] 24) = W0 := ⟨_, rfl⟩
  rw [hW0]
  have hbW : Below w.heap.size w W0 := by
    rw [← hW0]; exact ((((Below.refl _ w).alloc (Nat.le_refl _) _).alloc (by simp) _).alloc (by simp; omega) _).alloc (by simp; omega) _
  have bx0 : Box W0 w.heap.size 23 #[.slice Ad nt cd] := by
    rw [← hW0]; exact (((Box.new w _ _).alloc _).alloc _).alloc _
  have bx1 : Box W0 (w.heap.size + 1) 30 #[.int .i64 0] := by
    rw [← hW0]; exact (((Box.new (w.alloc _) _ _).at (b' := w.heap.size + 1) (by simp)).alloc _).alloc _
  have bx2 : Box W0 (w.heap.size + 1 + 1) 81 #[.slice As ns cs, .slice Am nm cm, .slice Ac nc cc] := by
    rw [← hW0]; exact ((Box.new ((w.alloc _).alloc _) _ _).at (b' := w.heap.size + 1 + 1) (by simp)).alloc _
  have bx3 : Box W0 (w.heap.size + 1 + 1 + 1) 24 #[.slice At nt ct] := by
    rw [← hW0]; exact (Box.new (((w.alloc _).alloc _).alloc _) _ _).at (b' := w.heap.size + 1 + 1 + 1) (by simp)
  clear hW0
  have hl3 := bx3.lt
  have HBX := Lib.hid (And.intro bx0 (And.intro bx1 bx2))
  have HBW := Lib.hid hbW
  refine wpIn_rangeFunc_ownH rfl (by omega) (gf := 76) (lb := #[.pointer (some ⟨w.heap.size + 1 + 1 + 1, 0, none⟩)]) rfl trivial (enters_of Try.func76 (by kernel_rfl) rfl)
    (eachTStops 7 w W0 theta At nt ct _ HT.out hbW bx3) (fun h k => h.trans k) (fun W l o o' h1 h2 h3 h4 => belowK_b (Nat.le_refl _) W l o o' h1 h2 h3 h4) (Below.refl _ _) (fun _ => rfl)
    (fun pre W => Below W0.heap.size W0 W ∧ Hid (∀ x ∈ pre, ∀ t, theta[x.i]? = some t → plV ⟨sg, msP l⟩ l ext (theta.take x.i) (ds.getD x.i noMP) t = 0))
    (fun cd pre W => cd = .ret ∧ Below w.heap.size w W ∧ ∃ e, Box W (w.heap.size + 1) 30 #[.int .i64 e] ∧ Hid (∃ pre' x t, pre = pre' ++ [x] ∧ (∀ y ∈ pre', ∀ t, theta[y.i]? = some t → plV ⟨sg, msP l⟩ l ext (theta.take y.i) (ds.getD y.i noMP) t = 0) ∧ theta[x.i]? = some t ∧ plV ⟨sg, msP l⟩ l ext (theta.take x.i) (ds.getD x.i noMP) t = e ∧ e ≠ 0))
    (fun s A B row hs hg hr => ⟨below_kept hs.1 hg hr (by omega) hs.1.size, hs.2⟩)
    (fun _ s A B row hs hg hr => by obtain ⟨h1, h2, e, h4, h5⟩ := hs; exact ⟨h1, below_kept h2 hg hr (by have := hbW.size; omega) h2.size, e, h4.kept hg hr, h5⟩) ⟨Below.refl _ _, Lib.hid fun x hx => by cases hx⟩
    (fun x a' W => ∃ By, W0.heap.size ≤ By ∧ Box W By 26 #[.int .i64 x.k, .int .i64 x.h, .slice x.A2 x.n2 x.c2] ∧ a' = { tmps := #[.slice As ns cs, .slice Am nm cm, .slice Ac nc cc, .slice Ad nt cd, .slice At nt ct, undef, undef, undef, .pointer (some ⟨w.heap.size, 0, none⟩), undef, .pointer (some ⟨w.heap.size + 1, 0, none⟩), .pointer (some ⟨w.heap.size + 1 + 1, 0, none⟩), .slice At x.i x.i, .pointer (some ⟨By, 0, none⟩), undef, .slice Ad nt cd, .int .i64 nt, .bool false, .slice At nt ct, .int .i64 nt, .slice Ad nt cd, .int .i64 nt, .bool false, .slice As ns cs, .slice Am nm cm, .slice Ac nc cc, .agg #[.slice As ns cs, .slice Am nm cm, .slice Ac nc cc], .slice At nt ct, .func (.func 76) #[] #[.pointer (some ⟨w.heap.size + 1 + 1 + 1, 0, none⟩)], .slice At x.i x.i, .agg #[.int .i64 x.k, .int .i64 x.h, .slice x.A2 x.n2 x.c2], undef, undef, undef, undef, undef, undef, undef, undef, undef, undef, undef, undef], defers := [] })
    (fun _ _ _ A B row hs hg hr => by obtain ⟨By, h2, h4, h5⟩ := hs; exact ⟨By, h2, h4.kept hg hr, h5⟩) ?assign ?body ?done ?stop
  case assign =>
    rintro l pre x W K ⟨hB, hM⟩ hK
    simp only [encT, List.zip_toArray, List.zip_cons_cons, List.zip_nil_right, List.foldl_toArray, List.foldl_cons, List.foldl_nil, List.setIfInBounds_toArray, List.set_cons_succ, List.set_cons_zero]
    gi_wp2
    have hsz := hB.size
    have hbA : Below W.heap.size W (W.alloc (.cells #[.int .i64 x.k, .int .i64 x.h, .slice x.A2 x.n2 x.c2] 26)) := (Below.refl _ _).alloc (Nat.le_refl _) _
    exact hK _ _ (keepsFrom_of_below hbA) (hbA.mono hsz) ⟨hB.trans (hbA.mono hsz), hM⟩ ⟨W.heap.size, by omega, Box.new _ _ _, rfl⟩
  case body =>
    rintro l0 pre x a' W hl ⟨r, hr⟩ ⟨hB, hM⟩ ⟨By, hBy, hbn, rfl⟩ _
    obtain ⟨t, ht, hrt⟩ := x.ok
    have hWb := HBW.out.trans (hB.mono HBW.out.size)
    have hil : x.i < nt := by have := (List.getElem?_eq_some_iff.1 ht).1; rw [HT.out.len] at this; exact this
    obtain ⟨d, hd⟩ := at_of HD.out.len hil
    obtain ⟨bb, ob, A1, n1, c1, k1, h1, A2, n2, c2, rfl, e0, e1, e2, e3, e4, hd1, hd2⟩ := (HD.out.at_ x.i d hd).keep hWb
    obtain ⟨l1, l2, l3⟩ := LoP.at_ HLD.out hd
    have hnl := hd1.len
    have hgd : ds.getD x.i noMP = d := by rw [List.getD_eq_getElem?_getD, hd]; rfl
    have hTT := (HT.out.take (Nat.le_of_lt hil)).keep hWb
    have HC := Lib.hid (fun (W' : World) (h' : Below W.heap.size W W') => plC sg l ext (theta.take x.i) d t As ns cs Am nm cm Ac nc cc At x.i x.i A1 n1 c1 k1 h1 A2 n2 c2 x.k x.h x.A2 x.n2 x.c2 W' (HS.out.keep (hWb.trans (h'.mono hWb.size))) (HM.out.keep (hWb.trans (h'.mono hWb.size))) (HX.out.keep (hWb.trans (h'.mono hWb.size)))
      (ThI.keep ⟨fun y hy hm => okT_mono (by unfold loV; omega) _ (HLT.out y (List.mem_of_mem_take hy) hm), hTT.len, Nat.le_refl _, by have := hTT.le; have := hTT.cap; omega, hTT.at_⟩ h') (hd1.keep h') (Rd.keep h' _ _ hd2) (Rd.keep (hWb.trans (h'.mono hWb.size)) _ _ hrt) HL.out l1 l2 (fun hm => HLT.out t (List.mem_of_getElem? ht) hm) (by omega) hnc)
    have HTT := Lib.hid ht
    obtain ⟨R, hR⟩ : ∃ R, plV ⟨sg, msP l⟩ l ext (theta.take x.i) d t = R := ⟨_, rfl⟩
    rw [hR] at HC
    have HR := Lib.hid (show plV ⟨sg, msP l⟩ l ext (theta.take x.i) (ds.getD x.i noMP) t = R by rw [hgd]; exact hR)
    have HBB := Lib.hid hB
    have HMM := Lib.hid hM.out
    have hi0 : (0 : Int) ≤ (x.i : Int) := by omega
    have hi1 : (x.i : Int) < (nt : Int) := by omega
    have b0 : W.cell? ⟨w.heap.size, 0, none⟩ = some (.slice (some ⟨bb, ob, none⟩) nt cd) := (HBX.out.1.keep hB HBX.out.1.lt).cell 0
    have p0 : W.cell? ⟨w.heap.size + 1 + 1, 0, none⟩ = some (.slice As ns cs) := (HBX.out.2.2.keep hB HBX.out.2.2.lt).cell 0
    have p1 : W.cell? ⟨w.heap.size + 1 + 1, 1, none⟩ = some (.slice Am nm cm) := (HBX.out.2.2.keep hB HBX.out.2.2.lt).cell 1
    have p2 : W.cell? ⟨w.heap.size + 1 + 1, 2, none⟩ = some (.slice Ac nc cc) := (HBX.out.2.2.keep hB HBX.out.2.2.lt).cell 2
    have q0 : W.cell? ⟨By, 0, none⟩ = some (.int .i64 x.k) := hbn.cell 0
    have q1 : W.cell? ⟨By, 1, none⟩ = some (.int .i64 x.h) := hbn.cell 1
    have q2 : W.cell? ⟨By, 2, none⟩ = some (.slice x.A2 x.n2 x.c2) := hbn.cell 2
    clear hd hd1 hd2 ht hrt l1 l2 l3 hnl hR hM hWb hgd hTT hbn
    gi_wp2_with fail
    have HKS : Hid (∀ w' : World, Below W.heap.size W w' → (fun w' => w'.cell? ⟨w.heap.size, 0, none⟩ = some (.slice (some ⟨bb, ob, none⟩) nt cd) ∧ w'.cell? ⟨w.heap.size + 1 + 1, 0, none⟩ = some (.slice As ns cs) ∧ w'.cell? ⟨w.heap.size + 1 + 1, 1, none⟩ = some (.slice Am nm cm) ∧ w'.cell? ⟨w.heap.size + 1 + 1, 2, none⟩ = some (.slice Ac nc cc) ∧ w'.cell? ⟨By, 0, none⟩ = some (.int .i64 x.k) ∧ w'.cell? ⟨By, 1, none⟩ = some (.int .i64 x.h) ∧ w'.cell? ⟨By, 2, none⟩ = some (.slice x.A2 x.n2 x.c2) ∧ w'.cell? ⟨bb, ob + x.i * 5, none⟩ = some (.slice A1 n1 c1) ∧ w'.cell? ⟨bb, ob + x.i * 5 + 1, none⟩ = some (.int .i64 k1) ∧ w'.cell? ⟨bb, ob + x.i * 5 + 2, none⟩ = some (.int .i64 h1) ∧ w'.cell? ⟨bb, ob + x.i * 5 + 3, none⟩ = some (.slice A2 n2 c2) ∧ w'.cell? ⟨bb, ob + x.i * 5 + 4, none⟩ = some (.bool d.2)) w') := Lib.hid fun w' h => ⟨(h.cell (cell_lt b0)).trans b0, (h.cell (cell_lt p0)).trans p0, (h.cell (cell_lt p1)).trans p1, (h.cell (cell_lt p2)).trans p2, (h.cell (cell_lt q0)).trans q0, (h.cell (cell_lt q1)).trans q1, (h.cell (cell_lt q2)).trans q2, (h.cell (cell_lt e0)).trans e0, (h.cell (cell_lt e1)).trans e1, (h.cell (cell_lt e2)).trans e2, (h.cell (cell_lt e3)).trans e3, (h.cell (cell_lt e4)).trans e4⟩
    have hbd : Below W.heap.size W W.drew := (Below.refl _ W).drew
    refine wpIn_region_heldN (S := fun w' => w'.cell? ⟨w.heap.size, 0, none⟩ = some (.slice (some ⟨bb, ob, none⟩) nt cd) ∧ w'.cell? ⟨w.heap.size + 1 + 1, 0, none⟩ = some (.slice As ns cs) ∧ w'.cell? ⟨w.heap.size + 1 + 1, 1, none⟩ = some (.slice Am nm cm) ∧ w'.cell? ⟨w.heap.size + 1 + 1, 2, none⟩ = some (.slice Ac nc cc) ∧ w'.cell? ⟨By, 0, none⟩ = some (.int .i64 x.k) ∧ w'.cell? ⟨By, 1, none⟩ = some (.int .i64 x.h) ∧ w'.cell? ⟨By, 2, none⟩ = some (.slice x.A2 x.n2 x.c2) ∧ w'.cell? ⟨bb, ob + x.i * 5, none⟩ = some (.slice A1 n1 c1) ∧ w'.cell? ⟨bb, ob + x.i * 5 + 1, none⟩ = some (.int .i64 k1) ∧ w'.cell? ⟨bb, ob + x.i * 5 + 2, none⟩ = some (.int .i64 h1) ∧ w'.cell? ⟨bb, ob + x.i * 5 + 3, none⟩ = some (.slice A2 n2 c2) ∧ w'.cell? ⟨bb, ob + x.i * 5 + 4, none⟩ = some (.bool d.2)) (fun h => by obtain ⟨_, _, h⟩ := h; exact h) (by kernel_rfl) (by kernel_rfl) (HKS.out _ hbd) (fun hS => ?_)
    simp only [List.size_toArray, List.length_cons, List.length_nil, Nat.reduceAdd]
    refine wpAnyH_take (i := 0) (v := .agg #[.slice As ns cs, .slice Am nm cm, .slice Ac nc cc]) rfl (by kernel_rfl) (by kernel_rfl) (by kernel_rfl) (fun _ _ _ h => h) (Or.inl ⟨by kernel_rfl, ?_⟩) hS ?_
    · intro w' hSw
      obtain ⟨s0, s1, s2, s3, s4, s5, s6, s7, s8, s9, s10, s11⟩ := hSw
      go_simp
    try simp only [Act.put, List.getElem_toArray, List.getElem_cons_zero, List.setIfInBounds_toArray, List.set_cons_zero, List.set_cons_succ]
    refine wpAnyH_take (i := 1) (v := .slice At x.i x.i) rfl (by kernel_rfl) (by kernel_rfl) (by kernel_rfl) (fun _ _ _ h => h) (Or.inl ⟨by kernel_rfl, ?_⟩) hS ?_
    · intro w' hSw
      obtain ⟨s0, s1, s2, s3, s4, s5, s6, s7, s8, s9, s10, s11⟩ := hSw
      go_simp
    try simp only [Act.put, List.getElem_toArray, List.getElem_cons_succ, List.getElem_cons_zero, List.setIfInBounds_toArray, List.set_cons_zero, List.set_cons_succ]
    refine wpAnyH_take (i := 2) (v := .slice (some ⟨bb, ob, none⟩) nt cd) rfl (by kernel_rfl) (by kernel_rfl) (by kernel_rfl) (fun _ _ _ h => h) (Or.inl ⟨by kernel_rfl, ?_⟩) hS ?_
    · intro w' hSw
      obtain ⟨s0, s1, s2, s3, s4, s5, s6, s7, s8, s9, s10, s11⟩ := hSw
      go_simp
    try simp only [Act.put, List.getElem_toArray, List.getElem_cons_succ, List.getElem_cons_zero, List.setIfInBounds_toArray, List.set_cons_zero, List.set_cons_succ]
    refine wpAnyH_take (i := 3) (v := .slice At x.i x.i) rfl (by kernel_rfl) (by kernel_rfl) (by kernel_rfl) (fun _ _ _ h => h) (Or.inl ⟨by kernel_rfl, ?_⟩) hS ?_
    · intro w' hSw
      obtain ⟨s0, s1, s2, s3, s4, s5, s6, s7, s8, s9, s10, s11⟩ := hSw
      go_simp
    try simp only [Act.put, List.getElem_toArray, List.getElem_cons_succ, List.getElem_cons_zero, List.setIfInBounds_toArray, List.set_cons_zero, List.set_cons_succ]
    refine wpAnyH_take (i := 4) (v := .int .i64 x.i) rfl (by kernel_rfl) (by kernel_rfl) (by kernel_rfl) (fun _ _ _ h => h) (Or.inl ⟨by kernel_rfl, ?_⟩) hS ?_
    · intro w' hSw
      obtain ⟨s0, s1, s2, s3, s4, s5, s6, s7, s8, s9, s10, s11⟩ := hSw
      go_simp
    try simp only [Act.put, List.getElem_toArray, List.getElem_cons_succ, List.getElem_cons_zero, List.setIfInBounds_toArray, List.set_cons_zero, List.set_cons_succ]
    refine wpAnyH_take (i := 5) (v := .pointer (some ⟨bb, ob + x.i * 5, none⟩)) rfl (by kernel_rfl) (by kernel_rfl) (by kernel_rfl) (fun _ _ _ h => h) (Or.inl ⟨by kernel_rfl, ?_⟩) hS ?_
    · intro w' hSw
      obtain ⟨s0, s1, s2, s3, s4, s5, s6, s7, s8, s9, s10, s11⟩ := hSw
      go_simp
    try simp only [Act.put, List.getElem_toArray, List.getElem_cons_succ, List.getElem_cons_zero, List.setIfInBounds_toArray, List.set_cons_zero, List.set_cons_succ]
    refine wpAnyH_take (i := 6) (v := .agg #[.slice A1 n1 c1, .int .i64 k1, .int .i64 h1, .slice A2 n2 c2, .bool d.2]) rfl (by kernel_rfl) (by kernel_rfl) (by kernel_rfl) (fun _ _ _ h => h) (Or.inl ⟨by kernel_rfl, ?_⟩) hS ?_
    · intro w' hSw
      obtain ⟨s0, s1, s2, s3, s4, s5, s6, s7, s8, s9, s10, s11⟩ := hSw
      go_simp
    try simp only [Act.put, List.getElem_toArray, List.getElem_cons_succ, List.getElem_cons_zero, List.setIfInBounds_toArray, List.set_cons_zero, List.set_cons_succ]
    refine wpAnyH_take (i := 7) (v := .agg #[.int .i64 x.k, .int .i64 x.h, .slice x.A2 x.n2 x.c2]) rfl (by kernel_rfl) (by kernel_rfl) (by kernel_rfl) (fun _ _ _ h => h) (Or.inl ⟨by kernel_rfl, ?_⟩) hS ?_
    · intro w' hSw
      obtain ⟨s0, s1, s2, s3, s4, s5, s6, s7, s8, s9, s10, s11⟩ := hSw
      go_simp
    try simp only [Act.put, List.getElem_toArray, List.getElem_cons_succ, List.getElem_cons_zero, List.setIfInBounds_toArray, List.set_cons_zero, List.set_cons_succ]
    refine wpAnyH_ready (rs := [8]) (by kernel_rfl) (by simp) ?_
    refine AllReadyH.cons rfl (fun KN hK => ?_) AllReadyH.nil
    go_simp
    refine (HC.out W.drew hbd).mono ?_
    rintro e w1 ⟨rfl, hb1⟩
    replace hbd : Below W.heap.size W w1 := hbd.trans (hb1.mono hbd.size)
    clear hb1
    refine hK.out _ _ (HKS.out _ hbd) (fun hS => ?_)
    clear hK KN
    try simp only [Act.put, List.getElem_toArray, List.getElem_cons_succ, List.getElem_cons_zero, List.setIfInBounds_toArray, List.set_cons_zero, List.set_cons_succ]
    refine wpAnyH_take (i := 9) (v := .int .i64 R) rfl (by kernel_rfl) (by kernel_rfl) (by kernel_rfl) (fun _ _ _ h => h) (Or.inl ⟨by kernel_rfl, ?_⟩) hS ?_
    · intro w' hSw
      obtain ⟨s0, s1, s2, s3, s4, s5, s6, s7, s8, s9, s10, s11⟩ := hSw
      go_simp
    try simp only [Act.put, List.getElem_toArray, List.getElem_cons_succ, List.getElem_cons_zero, List.setIfInBounds_toArray, List.set_cons_zero, List.set_cons_succ]
    refine wpAnyH_done (by kernel_rfl) ?_ _
    try simp only [List.setIfInBounds_toArray]
    try simp only [List.getElem_toArray, List.getElem_cons_succ, List.getElem_cons_zero, List.setIfInBounds_toArray, List.set_cons_zero, List.set_cons_succ]
    have hsz := HBB.out.size
    have HB1 := Lib.hid (HBB.out.trans (hbd.mono hsz))
    have HK1 := Lib.hid (keepsFrom_of_below (B := W0.heap.size) hbd)
    have HKp := Lib.hid (hbd.mono hsz)
    clear hS HKS hbd b0 p0 p1 p2 q0 q1 q2 e0 e1 e2 e3 e4 HC
    by_cases hz : R = 0
    · have dz : (R != 0) = false := by simpa using hz
      have HZ := Lib.hid hz; clear hz
      gi_wp2_with fail
      refine ⟨HK1.out, HKp.out, HB1.out, Lib.hid fun y hy t0 ht0 => ?_⟩
      rcases List.mem_append.1 hy with hy | hy
      · exact HMM.out y hy t0 ht0
      · rw [List.mem_singleton.1 hy] at ht0 ⊢
        rw [HTT.out] at ht0
        cases ht0
        rw [HR.out]; exact HZ.out
    · have dz : (R != 0) = true := by simpa using hz
      have HZ := Lib.hid hz; clear hz
      have y1 := HBX.out.2.1.keep HB1.out HBX.out.2.1.lt
      have Y1 := Lib.hid y1
      obtain ⟨c1', f1⟩ := y1.one
      have HB1w := Lib.hid (HBW.out.trans (HB1.out.mono HBW.out.size))
      clear y1
      gi_wp2_with fail
      refine ⟨HK1.out.trans ((KeepsOthers.setCell _ _ _).from _), rfl, HB1w.out.setCell (p := ⟨w.heap.size + 1, 0, none⟩) (by dsimp only; omega) _, R, Y1.out.set _, Lib.hid ⟨pre, x, t, rfl, HMM.out, HTT.out, HR.out, HZ.out⟩⟩
  case done =>
    rintro D ys W hD hS ⟨hB, hM⟩ hK
    have y1 := HBX.out.2.1.keep hB HBX.out.2.1.lt
    have hl1 := y1.lt
    obtain ⟨c1, f1⟩ := y1.one
    have z1 : Box (W.setCell ⟨w.heap.size + 1, 0, none⟩ (.int .i64 0)) (w.heap.size + 1) 30 #[.int .i64 0] := y1.set _
    have hBw : Below w.heap.size w (W.setCell ⟨w.heap.size + 1, 0, none⟩ (.int .i64 0)) := (HBW.out.trans (hB.mono HBW.out.size)).setCell (p := ⟨w.heap.size + 1, 0, none⟩) (by dsimp only; omega) _
    have hK' := (KeepsOthers.setCell W ⟨w.heap.size + 1, 0, none⟩ (.int .i64 0)).same D _ hK rfl
    have HF := Lib.hid (show (fiG (fun i t => plV ⟨sg, msP l⟩ l ext (theta.take i) (ds.getD i noMP) t) 0 theta).2 = 0 from (fiG_zero theta 0).2 fun j t hj => by
      have hjl := (List.getElem?_eq_some_iff.1 hj).1
      rw [HT.out.len] at hjl
      have hm0 : j ∈ ys.map (·.i) := by rw [hS]; exact List.mem_range.2 hjl
      obtain ⟨y, hy, hyi⟩ := List.mem_map.1 hm0
      have := hM.out y hy t (by rw [hyi]; exact hj)
      rw [hyi] at this
      rw [Nat.zero_add]
      exact this)
    clear hM y1
    gi_wp2_with fail
    have hB' := below_putObj hBw (show w.heap.size ≤ D by have := HBW.out.size; omega) (.deferred none)
    have e1 := (z1.kept (B := 0) (grownBy_putObj' _ D (.deferred none)) (fun r e => by cases e; exact ⟨Nat.zero_le _, _, hK', rfl⟩)).one
    refine ⟨by simp, .inl ⟨_, _, rfl, run_takeDeferred hK', ?_⟩⟩
    refine ⟨.int .i64 0, by simp [results, Try.results21, go_sem, e1.1], ret_int (by rw [HE.out, HF.out]), hB'⟩
  case stop =>
    rintro D cd0 pre W hD hS ⟨rfl, hBw, e, y1, hH⟩ hK
    have HF := Lib.hid (show (fiG (fun i t => plV ⟨sg, msP l⟩ l ext (theta.take i) (ds.getD i noMP) t) 0 theta).2 = e by
      obtain ⟨pre', x, t, rfl, hall, hti, hte, hne⟩ := hH.out
      have hlen : pre'.length = x.i := by
        rw [List.map_append, List.length_append, List.length_singleton, List.range_succ] at hS
        have := List.append_inj hS (by simp)
        have h2 : x.i = pre'.length := by simpa using this.2
        omega
      have := fiG_first (g := fun i t => plV ⟨sg, msP l⟩ l ext (theta.take i) (ds.getD i noMP) t) hne theta 0 x.i t (fun j t0 hj ht0 => by
        have hm0 : j ∈ pre'.map (·.i) := by
          rw [List.map_append, List.length_append, List.length_singleton, List.range_succ] at hS
          rw [(List.append_inj hS (by simp)).1]
          exact List.mem_range.2 (by omega)
        obtain ⟨y, hy, hyi⟩ := List.mem_map.1 hm0
        have := hall y hy t0 (by rw [hyi]; exact ht0)
        rw [hyi] at this
        rw [Nat.zero_add]
        exact this) hti (by rw [Nat.zero_add]; exact hte)
      rw [this])
    clear hH
    gi_wp2
    have hB' := below_putObj hBw (show w.heap.size ≤ D by have := HBW.out.size; omega) (.deferred none)
    have e1 := (y1.kept (B := 0) (grownBy_putObj' _ D (.deferred none)) (fun r e => by cases e; exact ⟨Nat.zero_le _, _, hK, rfl⟩)).one
    refine ⟨by simp, .inl ⟨_, _, rfl, run_takeDeferred hK, ?_⟩⟩
    refine ⟨.int .i64 e, by simp [results, Try.results21, go_sem, e1.1], ret_int (by rw [HE.out, HF.out]), hB'⟩
end Go.Proofs.Ytloeainlpcnhnaa
/-
  Contracts of package metas' Sizes and Params. No statement is proved here.
-/
namespace Go.Proofs.Ytloeainlpcnhnaa
open Go.ChangeShapes Go.WideShapes Go.ChangeAt Go.RowKit
set_option linter.unusedVariables false
theorem infoIntN : (Try.prog.info? 3).map (fun i => (i.zero, i.size, i.bytes)) = some (some (.int .i64 0), 1, 8) := by kernel_rfl
/-- a list made anew, a value for each element -/
def MkE (f : MP → Value) (ds : List MP) (n : Nat) (w : World) (e : Ending) (w' : World) : Prop :=
  ∃ q, e = .returned (.slice (some ⟨q, 0, none⟩) n n) ∧ (∀ i d, ds[i]? = some d → w'.cell? ⟨q, i, none⟩ = some (f d)) ∧ Below w.heap.size w w'
abbrev szF (d : MP) : Value := .int .i64 (d.1.1.length : Int)
set_option maxRecDepth 100000 in
set_option maxHeartbeats 8000000 in
theorem szC (ds : List MP) (A : Option Addr) (n c : Nat) (w : World) (hx : PL w ds A n c) (hn : n ≤ 1000000) :
    Calls Try.prog 28 #[.slice A n c] w (MkE szF ds n w) := by
  have hmk : ∀ W : World, (Instr.makeSlice 52 (.int .i64 (n : Int)) (.int .i64 (n : Int))).run Try.prog W = .ok (.slice (some ⟨W.heap.size, 0, none⟩) n n) (W.alloc (.cells (madeCells #[.int .i64 0] n) 3)) := by
    intro W
    obtain ⟨i0, hi, hz0, hz1, hz2⟩ := info_parts infoIntN
    have := run_make W 52 3 i0 _ Try.underlying52 hi hz0 .i64 .i64 (n : Int) (n : Int) (by omega) (Int.le_refl _) (by rw [hz2]; omega) (by omega)
    rw [hz1] at this
    simpa [Value.cells] using this
  have hb0 : Below w.heap.size w (w.alloc (.cells (madeCells #[.int .i64 0] n) 3)) := (Below.refl _ w).alloc (Nat.le_refl _) _
  have x0 := Box.new w 3 (madeCells #[.int .i64 0] n)
  have hcs := size_madeCells #[.int .i64 0] n
  have hle := hx.le
  have hcap := hx.cap
  unfold maxLen at hcap
  have HX := Lib.hid hx; clear hx
  have H0 : Hid (∃ cs, Box (w.alloc (.cells (madeCells #[.int .i64 0] n) 3)) w.heap.size 3 cs ∧ cs.size = n ∧ ∀ i d, i < 0 → ds[i]? = some d → cs[i]? = some (szF d)) := Lib.hid ⟨_, x0, by rw [hcs], fun i d hi => by omega⟩
  have HB0 := Lib.hid hb0
  clear hb0 x0 hcs
  go_enter Try.func28, Try.ntmps28
  go_wp2_with fail
  generalize w.alloc (.cells (madeCells #[.int .i64 0] n) 3) = W0 at *
  go_loopw [11] (fun i wr => ∃ (j : Nat), j ≤ n ∧ i = .int .i64 j ∧ Hid (∃ cs, Box wr w.heap.size 3 cs ∧ cs.size = n ∧ ∀ i d, i < j → ds[i]? = some d → cs[i]? = some (szF d)) ∧ Hid (Below w.heap.size w wr)) (fun i _ => n - (Go.RowKit.intOf i).toNat)
  case atStart => exact ⟨0, Nat.zero_le _, rfl, H0, HB0⟩
  case round =>
    obtain ⟨j, hj, rfl, HC, HB⟩ := hrel
    by_cases hlt : j < n
    · obtain ⟨d, hd⟩ := at_of HX.out.len hlt
      obtain ⟨b, o, A1, n1, c1, k, g, A2, n2, c2, rfl, e0, e1, e2, e3, e4, hl, _⟩ := (HX.out.at_ j d hd).keep HB.out
      have hi0 : (0 : Int) ≤ j := by omega
      have hi1 : (j : Int) < n := by omega
      obtain ⟨cs, hb, hs, hc⟩ := HC.out
      have hbl := hb.lt
      have hln := hl.len
      obtain ⟨W1, hW1⟩ : ∃ W1, wr.alloc (.cells #[.slice A1 n1 c1, .int .i64 k, .int .i64 g, .slice A2 n2 c2, .bool d.2] 39) = W1 := ⟨_, rfl⟩
      have hbA : Below wr.heap.size wr W1 := by rw [← hW1]; exact (Below.refl _ _).alloc (Nat.le_refl _) _
      have z5 : Box W1 wr.heap.size 39 #[.slice A1 n1 c1, .int .i64 k, .int .i64 g, .slice A2 n2 c2, .bool d.2] := by rw [← hW1]; exact Box.new _ _ _
      have y0 : Box W1 w.heap.size 3 cs := hb.keep hbA hbl
      have a0 : W1.cell? ⟨wr.heap.size, 0, none⟩ = some (.slice A1 n1 c1) := z5.cell 0
      have a4 : W1.cell? ⟨wr.heap.size, 4, none⟩ = some (.bool d.2) := z5.cell 4
      obtain ⟨u, c0⟩ := y0.there (i := j) (by omega)
      have f0 := y0.frozen j
      have y1 := (hb.setAt j (.int .i64 (n1 : Int))).alloc (.cells #[.slice A1 n1 c1, .int .i64 k, .int .i64 g, .slice A2 n2 c2, .bool d.2] 39)
      have hb3 := HB.out.setCell (p := ⟨w.heap.size, j, none⟩) (by dsimp only; omega) (.int .i64 (n1 : Int))
      have HB2 := Lib.hid (hb3.alloc hb3.size (.cells #[.slice A1 n1 c1, .int .i64 k, .int .i64 g, .slice A2 n2 c2, .bool d.2] 39))
      clear hb3
      have HC2 : Hid (∃ cs', Box ((wr.setCell ⟨w.heap.size, j, none⟩ (.int .i64 (n1 : Int))).alloc (.cells #[.slice A1 n1 c1, .int .i64 k, .int .i64 g, .slice A2 n2 c2, .bool d.2] 39)) w.heap.size 3 cs' ∧ cs'.size = n ∧ ∀ i d, i < j + 1 → ds[i]? = some d → cs'[i]? = some (szF d)) := Lib.hid ⟨_, y1, by rw [Array.size_setIfInBounds, hs], fun i d' hi hd' => by
        by_cases hij : i = j
        · subst hij
          rw [hd] at hd'
          cases hd'
          rw [Array.getElem?_setIfInBounds_self_of_lt (by omega)]
          rw [szF, hln]
        · rw [Array.getElem?_setIfInBounds_ne (by omega)]
          exact hc i d' (by omega) hd'⟩
      clear hb hs hc hd hl hbA z5 y0 y1 HC HB
      subst hW1
      go_wp2_with fail
      go_roundw
      case rel => exact ⟨j + 1, by omega, by go_num, HC2, HB2⟩
      case measure => simp [Go.RowKit.intOf]; omega
    · have HE : Hid (∃ cs, Box wr w.heap.size 3 cs ∧ ∀ (i : Nat) (d : MP), ds[i]? = some d → cs[i]? = some (szF d)) := by
        obtain ⟨cs, hb, hs, hc⟩ := HC.out
        exact Lib.hid ⟨cs, hb, fun i d hd => hc i d (by have := (List.getElem?_eq_some_iff.1 hd).1; rw [HX.out.len] at this; omega) hd⟩
      clear HC
      go_wp2_with fail
      go_ret
      obtain ⟨cs, hb, hc⟩ := HE.out
      exact ⟨_, rfl, fun i d hd => by rw [hb.cell]; exact hc i d hd, HB.out⟩
end Go.Proofs.Ytloeainlpcnhnaa
/-
  Contracts of the laws' own awake and Few. No statement is proved here.
-/
namespace Go.Proofs.Ytloeainlpcnhnaa
open Go.ChangeShapes Go.WideShapes Go.ChangeAt Go.RowKit
set_option linter.unusedVariables false
theorem rd_kidN {w : World} {b : Nat} {ty : TypeId} {x : T} {k h k2 h2 : Int} {A : Option Addr} {n c : Nat} (hb : Box w b ty #[.int .i64 k2, .int .i64 h2, .slice A n c]) (hr : Rd w x (.agg #[.int .i64 k2, .int .i64 h2, .slice A n c])) (h1 : (Lit.int .i64 k).wf = true) (h2 : (Lit.int .i64 h).wf = true) :
    Rd w (.node k h [x]) (.agg #[.int .i64 k, .int .i64 h, .slice (some ⟨b, 0, none⟩) 1 1]) := Rd_node.2 ⟨_, 1, 1, rfl, h1, h2, rfl, Nat.le_refl _, by unfold maxLen; omega, rd_one (k := k) (h := h) hb hr⟩
def awD : List MP := [(([], natT), false)]
def awOne : T := .node 5 2 [.node 5 1 []]
theorem nw_a : suV natS [] [] awD [awOne] = 0 := by kernel_rfl
theorem nw_b : suV natS [] [] awD [.node 3 0 [awOne]] = 3 := by kernel_rfl
theorem nw_c : dcV natS awD = (0, 0) := by kernel_rfl
theorem low_con {k h : Int} {xs : List T} (hk : k ≠ 4) (hx : okL loV xs) : okT loV (.node k h xs) := by rw [okT]; exact ⟨fun e => absurd e hk, hx⟩
theorem low_one : okT loV awOne := low_con (by decide) (by rw [okL, okL]; exact ⟨low_con (by decide) (by rw [okL]; trivial), trivial⟩)
theorem awD_low : LoP awD := fun d hd => by
  rw [awD, List.mem_singleton] at hd
  subst hd
  exact ⟨LwV.nil, fun _ => low_leafY (by decide), by decide⟩
theorem nat_lo0 : LoV ⟨natS, msP []⟩ [] := ⟨nat_lw, (fun m hm => absurd hm (by simp [msP])), (fun t ht => by cases ht)⟩
theorem pl_nil (w : World) : PL w [] none 0 0 := ⟨rfl, Nat.le_refl _, Nat.zero_le _, fun i x hx => by simp at hx⟩
theorem nFewC (ds : List MP) (Am : Option Addr) (nm cm : Nat) (w : World) (hm : PL w ds Am nm cm) :
    Calls Try.prog 23 #[.slice Am nm cm] w fun e w' => e = .returned (.bool (fwV ⟨[], msP ds⟩ [] 0 nm)) ∧ Below w.heap.size w w' := by
  have HF := Lib.hid (vFewC ⟨[], msP ds⟩ [] none Am none 0 0 nm cm 0 0 w ⟨⟨rfl, Nat.le_refl _, Nat.zero_le _, fun i x hx => by simp at hx⟩, hm.ml, clv_nil _ _ _ (Nat.zero_le _)⟩)
  clear hm
  generalize fwV ⟨[], msP ds⟩ [] 0 nm = r at *
  go_enter Try.func23, Try.ntmps23
  go_wp2_with fail
  refine HF.out.mono ?_
  rintro e w1 ⟨rfl, hb1⟩
  have HB := Lib.hid hb1
  clear hb1 HF
  go_wp2_with fail
  go_ret
  exact ⟨rfl, HB.out⟩
set_option maxRecDepth 100000 in
set_option maxHeartbeats 16000000 in
/-- from behind the two calls of Sub on -/
theorem nAwakeC (w : World) : Calls Try.prog 18 #[] w fun e w' => e = .returned (.bool true) ∧ Below w.heap.size w w' := by
  obtain ⟨W1, hW1⟩ : ∃ W, w.alloc (.cells #[.slice none 0 0, .int .i64 2, .int .i64 0, .slice none 0 0, .bool false] 39) = W := ⟨_, rfl⟩
  obtain ⟨W2, hW2⟩ : ∃ W, W1.alloc (.cells #[.int .i64 5, .int .i64 1, .slice none 0 0] 26) = W := ⟨_, rfl⟩
  obtain ⟨wA, hW3⟩ : ∃ W, W2.alloc (.cells #[.int .i64 5, .int .i64 2, .slice (some ⟨w.heap.size + 1, 0, none⟩) 1 1] 26) = W := ⟨_, rfl⟩
  have g1 : Below w.heap.size w W1 := by rw [← hW1]; exact (Below.refl _ _).alloc (Nat.le_refl _) _
  have g2 : Below W1.heap.size W1 W2 := by rw [← hW2]; exact (Below.refl _ _).alloc (Nat.le_refl _) _
  have g3 : Below W2.heap.size W2 wA := by rw [← hW3]; exact (Below.refl _ _).alloc (Nat.le_refl _) _
  have x1 : Box W1 w.heap.size 39 #[.slice none 0 0, .int .i64 2, .int .i64 0, .slice none 0 0, .bool false] := by rw [← hW1]; exact Box.new _ _ _
  have l1 : W1.heap.size = w.heap.size + 1 := by rw [← hW1]; simp
  have l2 : W2.heap.size = w.heap.size + 1 + 1 := by rw [← hW2, World.size_alloc, l1]
  have x2 : Box W2 (w.heap.size + 1) 26 #[.int .i64 5, .int .i64 1, .slice none 0 0] := by rw [← hW2]; exact (Box.new _ _ _).at l1
  have x3 : Box wA (w.heap.size + 1 + 1) 26 #[.int .i64 5, .int .i64 2, .slice (some ⟨w.heap.size + 1, 0, none⟩) 1 1] := by rw [← hW3]; exact (Box.new _ _ _).at l2
  have leaf : ∀ (W' : World) (k h : Int), 0 ≤ k → k ≤ 1000 → 0 ≤ h → h ≤ 1000 → Rd W' (.node k h []) (.agg #[.int .i64 k, .int .i64 h, .slice none 0 0]) := fun W' k h a b c d => rd_leaf (wfV a b) (wfV c d)
  have g23 := g2.trans (g3.mono g2.size)
  have HPD := Lib.hid (show PL wA awD (some ⟨w.heap.size, 0, none⟩) 1 1 from ⟨rfl, Nat.le_refl _, by unfold maxLen; omega, fun i x hx => by
    have x1' := x1.keep g23 x1.lt
    match i, hx with
    | 0, hx => cases hx; exact ⟨_, 0, none, 0, 0, 2, 0, none, 0, 0, rfl, x1'.cell 0, x1'.cell 1, x1'.cell 2, x1'.cell 3, x1'.cell 4, clv_nil _ _ _ (Nat.zero_le _), leaf _ 2 0 (by omega) (by omega) (by omega) (by omega)⟩
    | i + 1, hx => simp [awD] at hx⟩)
  have HR1 := Lib.hid (show Rd wA awOne (.agg #[.int .i64 5, .int .i64 2, .slice (some ⟨w.heap.size + 1, 0, none⟩) 1 1]) from rd_kidN (x2.keep g3 x2.lt) (leaf _ 5 1 (by omega) (by omega) (by omega) (by omega)) (wfV (by omega) (by omega)) (wfV (by omega) (by omega)))
  have HB := Lib.hid (g1.trans (g23.mono g1.size))
  have XO := Lib.hid x3
  obtain ⟨o0, o1, o2⟩ := x3.three
  have HSZ := Lib.hid l1
  have HSZ2 := Lib.hid l2
  clear x1 x2 x3 g1 g2 g3 g23 l1 l2 leaf
  go_enter Try.func18, Try.ntmps18
  subst hW1
  subst hW2
  go_wp2_with fail
  simp only [World.size_alloc] at HSZ HSZ2
  try simp only [World.size_alloc]
  try rw [hW3]
  clear hW3
  obtain ⟨Bd, hBd⟩ : ∃ b, w.heap.size = b := ⟨_, rfl⟩
  obtain ⟨Bz, hBz⟩ : ∃ b, w.heap.size + 1 = b := ⟨_, rfl⟩
  obtain ⟨Bo, hBo⟩ : ∃ b, w.heap.size + 1 + 1 = b := ⟨_, rfl⟩
  have HBB := Lib.hid HB.out
  clear HB HSZ HSZ2
  try rw [hBo] at o0 o1 o2 XO
  try rw [hBo]
  rw [hBz] at HR1 o2 XO
  try rw [hBz]
  rw [hBd] at HPD
  try rw [hBd]
  clear hBo hBz hBd
  have HKS : Hid (∀ w' : World, Below wA.heap.size wA w' → (fun w' => w'.cell? ⟨Bo, 0, none⟩ = some (.int .i64 5) ∧ w'.cell? ⟨Bo, 1, none⟩ = some (.int .i64 2) ∧ w'.cell? ⟨Bo, 2, none⟩ = some (.slice (some ⟨Bz, 0, none⟩) 1 1)) w') := Lib.hid fun w' h => ⟨(h.cell (cell_lt o0)).trans o0, (h.cell (cell_lt o1)).trans o1, (h.cell (cell_lt o2)).trans o2⟩
  have hbd : Below wA.heap.size wA wA.drew := (Below.refl _ wA).drew
  refine wp_region_held_drew (S := fun w' => w'.cell? ⟨Bo, 0, none⟩ = some (.int .i64 5) ∧ w'.cell? ⟨Bo, 1, none⟩ = some (.int .i64 2) ∧ w'.cell? ⟨Bo, 2, none⟩ = some (.slice (some ⟨Bz, 0, none⟩) 1 1)) (by kernel_rfl) (HKS.out _ hbd) (fun hS => ?_)
  simp only [List.size_toArray, List.length_cons, List.length_nil, Nat.reduceAdd]
  refine wpAnyH_take (i := 1) (v := .slice (some ⟨Bd, 0, none⟩) 1 1) rfl (by kernel_rfl) (by kernel_rfl) (by kernel_rfl) (fun _ _ _ h => h) (Or.inl ⟨by kernel_rfl, ?_⟩) hS ?_
  · intro w' hSw
    obtain ⟨s0, s1, s2⟩ := hSw
    go_simp
  try simp only [Act.put, List.getElem_toArray, List.getElem_cons_succ, List.getElem_cons_zero, List.setIfInBounds_toArray, List.set_cons_zero, List.set_cons_succ]
  refine wpAnyH_take (i := 2) (v := .agg #[.int .i64 5, .int .i64 2, .slice (some ⟨Bz, 0, none⟩) 1 1]) rfl (by kernel_rfl) (by kernel_rfl) (by kernel_rfl) (fun _ _ _ h => h) (Or.inl ⟨by kernel_rfl, ?_⟩) hS ?_
  · intro w' hSw
    obtain ⟨s0, s1, s2⟩ := hSw
    go_simp
  try simp only [Act.put, List.getElem_toArray, List.getElem_cons_succ, List.getElem_cons_zero, List.setIfInBounds_toArray, List.set_cons_zero, List.set_cons_succ]
  refine wpAnyH_ready (rs := [0, 3]) (by kernel_rfl) (by simp) ?_
  refine AllReadyH.cons rfl (fun KN hK => ?_) (AllReadyH.cons rfl (fun KN hK => ?_) AllReadyH.nil)
  · go_simp
    refine (vNatC _).mono ?_
    rintro e v0 ⟨q, rfl, hdl, hb6⟩
    have hbn : Below wA.heap.size wA v0 := hbd.trans (hb6.mono hbd.size)
    refine hK.out _ _ (HKS.out _ hbn) (fun hS => ?_)
    clear hK KN
    try simp only [Act.put, List.getElem_toArray, List.getElem_cons_succ, List.getElem_cons_zero, List.setIfInBounds_toArray, List.set_cons_zero, List.set_cons_succ]
    replace hbd := hbn
    clear hbn hb6
    refine wpAnyH_ready (rs := [3]) (by kernel_rfl) (by simp) ?_
    refine AllReadyH.cons rfl (fun KN hK => ?_) AllReadyH.nil
    go_simp
    have hbn : Below wA.heap.size wA (v0.alloc (.cells #[.int .i64 5, .int .i64 2, .slice (some ⟨Bz, 0, none⟩) 1 1] 26)) := hbd.alloc hbd.size _
    refine hK.out _ _ (HKS.out _ hbn) (fun hS => ?_)
    clear hK KN
    try simp only [Act.put, List.getElem_toArray, List.getElem_cons_succ, List.getElem_cons_zero, List.setIfInBounds_toArray, List.set_cons_zero, List.set_cons_succ]
    have z1 : Box (v0.alloc (.cells #[.int .i64 5, .int .i64 2, .slice (some ⟨Bz, 0, none⟩) 1 1] 26)) v0.heap.size 26 #[.int .i64 5, .int .i64 2, .slice (some ⟨Bz, 0, none⟩) 1 1] := Box.new _ _ _
    have hst : Below v0.heap.size v0 (v0.alloc (.cells #[.int .i64 5, .int .i64 2, .slice (some ⟨Bz, 0, none⟩) 1 1] 26)) := (Below.refl _ _).alloc (Nat.le_refl _) _
    replace hdl := hdl.keep hst
    clear hst
    obtain ⟨P1, hP10⟩ : ∃ p, v0.heap.size = p := ⟨_, rfl⟩
    rw [hP10] at z1
    try rw [hP10]
    clear hP10
    generalize v0.alloc (.cells #[.int .i64 5, .int .i64 2, .slice (some ⟨Bz, 0, none⟩) 1 1] 26) = v1 at *
    replace hbd := hbn
    clear hbn
    refine wpAnyH_ready (rs := [4]) (by kernel_rfl) (by simp) ?_
    refine AllReadyH.cons rfl (fun KN hK => ?_) AllReadyH.nil
    go_simp
    have HSU := suC natS [] [] awD [awOne] (some ⟨q, 0, none⟩) 3 3 none 0 0 none 0 0 (some ⟨Bd, 0, none⟩) 1 1 (some ⟨P1, 0, none⟩) 1 1 v1 hdl (pl_nil _) (clv_nil _ _ _ (Nat.zero_le _)) (HPD.out.keep hbd) (clv_one z1 (Rd.keep hbd _ _ HR1.out)) nat_lo0 awD_low (fun t ht _ => by rw [List.mem_singleton.1 ht]; exact low_one) (by omega)
    rw [nw_a] at HSU
    refine HSU.mono ?_
    rintro e wB ⟨rfl, hb9⟩
    replace hbd : Below wA.heap.size wA wB := hbd.trans (hb9.mono hbd.size)
    clear hb9 HSU hdl z1
    refine hK.out _ _ (HKS.out _ hbd) (fun hS => ?_)
    clear hK KN
    try simp only [Act.put, List.getElem_toArray, List.getElem_cons_succ, List.getElem_cons_zero, List.setIfInBounds_toArray, List.set_cons_zero, List.set_cons_succ]
    refine wpAnyH_take (i := 5) (v := .int .i64 0) rfl (by kernel_rfl) (by kernel_rfl) (by kernel_rfl) (fun _ _ _ h => h) (Or.inl ⟨by kernel_rfl, ?_⟩) hS ?_
    · intro w' hSw
      obtain ⟨s0, s1, s2⟩ := hSw
      go_simp
    try simp only [Act.put, List.getElem_toArray, List.getElem_cons_succ, List.getElem_cons_zero, List.setIfInBounds_toArray, List.set_cons_zero, List.set_cons_succ]
    refine wpAnyH_done (by kernel_rfl) ?_ _
    try simp only [List.setIfInBounds_toArray]
    try simp only [List.getElem_toArray, List.getElem_cons_succ, List.getElem_cons_zero, List.setIfInBounds_toArray, List.set_cons_zero, List.set_cons_succ]
    replace HBB := Lib.hid (HBB.out.trans (hbd.mono HBB.out.size))
    replace HPD := Lib.hid (HPD.out.keep hbd)
    replace HR1 := Lib.hid (Rd.keep hbd _ _ HR1.out)
    replace XO := Lib.hid (XO.out.keep hbd XO.out.lt)
    clear o0 o1 o2 hS HKS hbd
    obtain ⟨o0, o1, o2⟩ := XO.out.three
    go_wp2_with fail
    have HKS : Hid (∀ w' : World, Below wB.heap.size wB w' → (fun w' => w'.cell? ⟨Bo, 0, none⟩ = some (.int .i64 5) ∧ w'.cell? ⟨Bo, 1, none⟩ = some (.int .i64 2) ∧ w'.cell? ⟨Bo, 2, none⟩ = some (.slice (some ⟨Bz, 0, none⟩) 1 1)) w') := Lib.hid fun w' h => ⟨(h.cell (cell_lt o0)).trans o0, (h.cell (cell_lt o1)).trans o1, (h.cell (cell_lt o2)).trans o2⟩
    have hbd : Below wB.heap.size wB wB.drew := (Below.refl _ wB).drew
    refine wp_region_held_drew (S := fun w' => w'.cell? ⟨Bo, 0, none⟩ = some (.int .i64 5) ∧ w'.cell? ⟨Bo, 1, none⟩ = some (.int .i64 2) ∧ w'.cell? ⟨Bo, 2, none⟩ = some (.slice (some ⟨Bz, 0, none⟩) 1 1)) (by kernel_rfl) (HKS.out _ hbd) (fun hS => ?_)
    simp only [List.size_toArray, List.length_cons, List.length_nil, Nat.reduceAdd]
    refine wpAnyH_take (i := 1) (v := .slice (some ⟨Bd, 0, none⟩) 1 1) rfl (by kernel_rfl) (by kernel_rfl) (by kernel_rfl) (fun _ _ _ h => h) (Or.inl ⟨by kernel_rfl, ?_⟩) hS ?_
    · intro w' hSw
      obtain ⟨s0, s1, s2⟩ := hSw
      go_simp
    try simp only [Act.put, List.getElem_toArray, List.getElem_cons_succ, List.getElem_cons_zero, List.setIfInBounds_toArray, List.set_cons_zero, List.set_cons_succ]
    refine wpAnyH_take (i := 2) (v := .agg #[.int .i64 5, .int .i64 2, .slice (some ⟨Bz, 0, none⟩) 1 1]) rfl (by kernel_rfl) (by kernel_rfl) (by kernel_rfl) (fun _ _ _ h => h) (Or.inl ⟨by kernel_rfl, ?_⟩) hS ?_
    · intro w' hSw
      obtain ⟨s0, s1, s2⟩ := hSw
      go_simp
    try simp only [Act.put, List.getElem_toArray, List.getElem_cons_succ, List.getElem_cons_zero, List.setIfInBounds_toArray, List.set_cons_zero, List.set_cons_succ]
    refine wpAnyH_ready (rs := [0, 3]) (by kernel_rfl) (by simp) ?_
    refine AllReadyH.cons rfl (fun KN hK => ?_) (AllReadyH.cons rfl (fun KN hK => ?_) AllReadyH.nil)
    · go_simp
      refine (vNatC _).mono ?_
      rintro e v0 ⟨q, rfl, hdl, hb6⟩
      have hbn : Below wB.heap.size wB v0 := hbd.trans (hb6.mono hbd.size)
      refine hK.out _ _ (HKS.out _ hbn) (fun hS => ?_)
      clear hK KN
      try simp only [Act.put, List.getElem_toArray, List.getElem_cons_succ, List.getElem_cons_zero, List.setIfInBounds_toArray, List.set_cons_zero, List.set_cons_succ]
      replace hbd := hbn
      clear hbn hb6
      refine wpAnyH_ready (rs := [3]) (by kernel_rfl) (by simp) ?_
      refine AllReadyH.cons rfl (fun KN hK => ?_) AllReadyH.nil
      go_simp
      have hbn : Below wB.heap.size wB (v0.alloc (.cells #[.int .i64 5, .int .i64 2, .slice (some ⟨Bz, 0, none⟩) 1 1] 26)) := hbd.alloc hbd.size _
      refine hK.out _ _ (HKS.out _ hbn) (fun hS => ?_)
      clear hK KN
      try simp only [Act.put, List.getElem_toArray, List.getElem_cons_succ, List.getElem_cons_zero, List.setIfInBounds_toArray, List.set_cons_zero, List.set_cons_succ]
      have z1 : Box (v0.alloc (.cells #[.int .i64 5, .int .i64 2, .slice (some ⟨Bz, 0, none⟩) 1 1] 26)) v0.heap.size 26 #[.int .i64 5, .int .i64 2, .slice (some ⟨Bz, 0, none⟩) 1 1] := Box.new _ _ _
      have hst : Below v0.heap.size v0 (v0.alloc (.cells #[.int .i64 5, .int .i64 2, .slice (some ⟨Bz, 0, none⟩) 1 1] 26)) := (Below.refl _ _).alloc (Nat.le_refl _) _
      replace hdl := hdl.keep hst
      clear hst
      obtain ⟨P1, hP10⟩ : ∃ p, v0.heap.size = p := ⟨_, rfl⟩
      rw [hP10] at z1
      try rw [hP10]
      clear hP10
      generalize v0.alloc (.cells #[.int .i64 5, .int .i64 2, .slice (some ⟨Bz, 0, none⟩) 1 1] 26) = v1 at *
      replace hbd := hbn
      clear hbn
      refine wpAnyH_take (i := 4) (v := .agg #[.int .i64 3, .int .i64 0, .slice (some ⟨P1, 0, none⟩) 1 1]) rfl (by kernel_rfl) (by kernel_rfl) (by kernel_rfl) (fun _ _ _ h => h) (Or.inl ⟨by kernel_rfl, ?_⟩) hS ?_
      · intro w' hSw
        obtain ⟨s0, s1, s2⟩ := hSw
        go_simp
      try simp only [Act.put, List.getElem_toArray, List.getElem_cons_succ, List.getElem_cons_zero, List.setIfInBounds_toArray, List.set_cons_zero, List.set_cons_succ]
      refine wpAnyH_ready (rs := [5]) (by kernel_rfl) (by simp) ?_
      refine AllReadyH.cons rfl (fun KN hK => ?_) AllReadyH.nil
      go_simp
      have hbn : Below wB.heap.size wB (v1.alloc (.cells #[.int .i64 3, .int .i64 0, .slice (some ⟨P1, 0, none⟩) 1 1] 26)) := hbd.alloc hbd.size _
      refine hK.out _ _ (HKS.out _ hbn) (fun hS => ?_)
      clear hK KN
      try simp only [Act.put, List.getElem_toArray, List.getElem_cons_succ, List.getElem_cons_zero, List.setIfInBounds_toArray, List.set_cons_zero, List.set_cons_succ]
      have z2 : Box (v1.alloc (.cells #[.int .i64 3, .int .i64 0, .slice (some ⟨P1, 0, none⟩) 1 1] 26)) v1.heap.size 26 #[.int .i64 3, .int .i64 0, .slice (some ⟨P1, 0, none⟩) 1 1] := Box.new _ _ _
      have hst : Below v1.heap.size v1 (v1.alloc (.cells #[.int .i64 3, .int .i64 0, .slice (some ⟨P1, 0, none⟩) 1 1] 26)) := (Below.refl _ _).alloc (Nat.le_refl _) _
      replace hdl := hdl.keep hst
      replace z1 := z1.keep hst z1.lt
      clear hst
      obtain ⟨P2, hP20⟩ : ∃ p, v1.heap.size = p := ⟨_, rfl⟩
      rw [hP20] at z2
      try rw [hP20]
      clear hP20
      generalize v1.alloc (.cells #[.int .i64 3, .int .i64 0, .slice (some ⟨P1, 0, none⟩) 1 1] 26) = v2 at *
      replace hbd := hbn
      clear hbn
      refine wpAnyH_ready (rs := [6]) (by kernel_rfl) (by simp) ?_
      refine AllReadyH.cons rfl (fun KN hK => ?_) AllReadyH.nil
      go_simp
      have HSU := suC natS [] [] awD [.node 3 0 [awOne]] (some ⟨q, 0, none⟩) 3 3 none 0 0 none 0 0 (some ⟨Bd, 0, none⟩) 1 1 (some ⟨P2, 0, none⟩) 1 1 v2 hdl (pl_nil _) (clv_nil _ _ _ (Nat.zero_le _)) (HPD.out.keep hbd) (clv_one z2 (rd_kidN z1 (Rd.keep hbd _ _ HR1.out) (wfV (by omega) (by omega)) (wfV (by omega) (by omega)))) nat_lo0 awD_low (fun t ht _ => by rw [List.mem_singleton.1 ht]; exact low_con (by decide) (by rw [okL, okL]; exact ⟨low_one, trivial⟩)) (by omega)
      rw [nw_b] at HSU
      refine HSU.mono ?_
      rintro e wC ⟨rfl, hb9⟩
      replace hbd : Below wB.heap.size wB wC := hbd.trans (hb9.mono hbd.size)
      clear hb9 HSU hdl z1 z2
      refine hK.out _ _ (HKS.out _ hbd) (fun hS => ?_)
      clear hK KN
      try simp only [Act.put, List.getElem_toArray, List.getElem_cons_succ, List.getElem_cons_zero, List.setIfInBounds_toArray, List.set_cons_zero, List.set_cons_succ]
      refine wpAnyH_take (i := 7) (v := .int .i64 3) rfl (by kernel_rfl) (by kernel_rfl) (by kernel_rfl) (fun _ _ _ h => h) (Or.inl ⟨by kernel_rfl, ?_⟩) hS ?_
      · intro w' hSw
        obtain ⟨s0, s1, s2⟩ := hSw
        go_simp
      try simp only [Act.put, List.getElem_toArray, List.getElem_cons_succ, List.getElem_cons_zero, List.setIfInBounds_toArray, List.set_cons_zero, List.set_cons_succ]
      refine wpAnyH_done (by kernel_rfl) ?_ _
      try simp only [List.setIfInBounds_toArray]
      try simp only [List.getElem_toArray, List.getElem_cons_succ, List.getElem_cons_zero, List.setIfInBounds_toArray, List.set_cons_zero, List.set_cons_succ]
      replace HBB := Lib.hid (HBB.out.trans (hbd.mono HBB.out.size))
      replace HPD := Lib.hid (HPD.out.keep hbd)
      replace HR1 := Lib.hid (Rd.keep hbd _ _ HR1.out)
      replace XO := Lib.hid (XO.out.keep hbd XO.out.lt)
      clear o0 o1 o2 hS HKS hbd
      clear XO HR1
      go_wp2_with fail
      refine (vNatC _).mono ?_
      rintro e wD ⟨q, rfl, hdl, hb6⟩
      replace HBB := Lib.hid (HBB.out.trans (hb6.mono HBB.out.size))
      replace HPD := Lib.hid (HPD.out.keep hb6)
      have HDL := Lib.hid hdl
      clear hb6 hdl
      go_wp2_with fail
      have HDC := Lib.hid (dcC natS awD (some ⟨q, 0, none⟩) 3 3 (some ⟨Bd, 0, none⟩) 1 1 wD HDL.out HPD.out nat_lw awD_low)
      rw [nw_c] at HDC
      refine HDC.out.mono ?_
      rintro e wE ⟨rfl, hb7⟩
      replace HBB := Lib.hid (HBB.out.trans (hb7.mono HBB.out.size))
      replace HPD := Lib.hid (HPD.out.keep hb7)
      clear hb7 HDC HDL
      go_wp2_with fail
      refine (szC awD _ 1 1 wE HPD.out (by omega)).mono ?_
      rintro e wG ⟨q2, rfl, _, hb8⟩
      replace HBB := Lib.hid (HBB.out.trans (hb8.mono HBB.out.size))
      clear hb8 HPD
      go_wp2_with fail
      go_ret
      exact ⟨rfl, HBB.out⟩
    · go_simp
      have hbn : Below wB.heap.size wB ((wB.alloc (.cells #[.int .i64 5, .int .i64 2, .slice (some ⟨Bz, 0, none⟩) 1 1] 26)).drew) := ((Below.refl _ wB).alloc (Nat.le_refl _) _).drew
      refine hK.out _ _ (HKS.out _ hbn) (fun hS => ?_)
      clear hK KN
      try simp only [Act.put, List.getElem_toArray, List.getElem_cons_succ, List.getElem_cons_zero, List.setIfInBounds_toArray, List.set_cons_zero, List.set_cons_succ]
      have z1 : Box ((wB.alloc (.cells #[.int .i64 5, .int .i64 2, .slice (some ⟨Bz, 0, none⟩) 1 1] 26)).drew) wB.heap.size 26 #[.int .i64 5, .int .i64 2, .slice (some ⟨Bz, 0, none⟩) 1 1] := Box.drewI (Box.new _ _ _)
      obtain ⟨P1, hP10⟩ : ∃ p, wB.heap.size = p := ⟨_, rfl⟩
      rw [hP10] at z1
      try rw [hP10]
      clear hP10
      generalize (wB.alloc (.cells #[.int .i64 5, .int .i64 2, .slice (some ⟨Bz, 0, none⟩) 1 1] 26)).drew = v0 at *
      replace hbd := hbn
      clear hbn
      refine wpAnyH_take (i := 4) (v := .agg #[.int .i64 3, .int .i64 0, .slice (some ⟨P1, 0, none⟩) 1 1]) rfl (by kernel_rfl) (by kernel_rfl) (by kernel_rfl) (fun _ _ _ h => h) (Or.inl ⟨by kernel_rfl, ?_⟩) hS ?_
      · intro w' hSw
        obtain ⟨s0, s1, s2⟩ := hSw
        go_simp
      try simp only [Act.put, List.getElem_toArray, List.getElem_cons_succ, List.getElem_cons_zero, List.setIfInBounds_toArray, List.set_cons_zero, List.set_cons_succ]
      refine wpAnyH_ready (rs := [0, 5]) (by kernel_rfl) (by simp) ?_
      refine AllReadyH.cons rfl (fun KN hK => ?_) (AllReadyH.cons rfl (fun KN hK => ?_) AllReadyH.nil)
      · go_simp
        refine (vNatC _).mono ?_
        rintro e v1 ⟨q, rfl, hdl, hb6⟩
        have hbn : Below wB.heap.size wB v1 := hbd.trans (hb6.mono hbd.size)
        refine hK.out _ _ (HKS.out _ hbn) (fun hS => ?_)
        clear hK KN
        try simp only [Act.put, List.getElem_toArray, List.getElem_cons_succ, List.getElem_cons_zero, List.setIfInBounds_toArray, List.set_cons_zero, List.set_cons_succ]
        replace z1 := z1.keep hb6 z1.lt
        replace hbd := hbn
        clear hbn hb6
        refine wpAnyH_ready (rs := [5]) (by kernel_rfl) (by simp) ?_
        refine AllReadyH.cons rfl (fun KN hK => ?_) AllReadyH.nil
        go_simp
        have hbn : Below wB.heap.size wB (v1.alloc (.cells #[.int .i64 3, .int .i64 0, .slice (some ⟨P1, 0, none⟩) 1 1] 26)) := hbd.alloc hbd.size _
        refine hK.out _ _ (HKS.out _ hbn) (fun hS => ?_)
        clear hK KN
        try simp only [Act.put, List.getElem_toArray, List.getElem_cons_succ, List.getElem_cons_zero, List.setIfInBounds_toArray, List.set_cons_zero, List.set_cons_succ]
        have z2 : Box (v1.alloc (.cells #[.int .i64 3, .int .i64 0, .slice (some ⟨P1, 0, none⟩) 1 1] 26)) v1.heap.size 26 #[.int .i64 3, .int .i64 0, .slice (some ⟨P1, 0, none⟩) 1 1] := Box.new _ _ _
        have hst : Below v1.heap.size v1 (v1.alloc (.cells #[.int .i64 3, .int .i64 0, .slice (some ⟨P1, 0, none⟩) 1 1] 26)) := (Below.refl _ _).alloc (Nat.le_refl _) _
        replace hdl := hdl.keep hst
        replace z1 := z1.keep hst z1.lt
        clear hst
        obtain ⟨P2, hP20⟩ : ∃ p, v1.heap.size = p := ⟨_, rfl⟩
        rw [hP20] at z2
        try rw [hP20]
        clear hP20
        generalize v1.alloc (.cells #[.int .i64 3, .int .i64 0, .slice (some ⟨P1, 0, none⟩) 1 1] 26) = v2 at *
        replace hbd := hbn
        clear hbn
        refine wpAnyH_ready (rs := [6]) (by kernel_rfl) (by simp) ?_
        refine AllReadyH.cons rfl (fun KN hK => ?_) AllReadyH.nil
        go_simp
        have HSU := suC natS [] [] awD [.node 3 0 [awOne]] (some ⟨q, 0, none⟩) 3 3 none 0 0 none 0 0 (some ⟨Bd, 0, none⟩) 1 1 (some ⟨P2, 0, none⟩) 1 1 v2 hdl (pl_nil _) (clv_nil _ _ _ (Nat.zero_le _)) (HPD.out.keep hbd) (clv_one z2 (rd_kidN z1 (Rd.keep hbd _ _ HR1.out) (wfV (by omega) (by omega)) (wfV (by omega) (by omega)))) nat_lo0 awD_low (fun t ht _ => by rw [List.mem_singleton.1 ht]; exact low_con (by decide) (by rw [okL, okL]; exact ⟨low_one, trivial⟩)) (by omega)
        rw [nw_b] at HSU
        refine HSU.mono ?_
        rintro e wC ⟨rfl, hb9⟩
        replace hbd : Below wB.heap.size wB wC := hbd.trans (hb9.mono hbd.size)
        clear hb9 HSU hdl z1 z2
        refine hK.out _ _ (HKS.out _ hbd) (fun hS => ?_)
        clear hK KN
        try simp only [Act.put, List.getElem_toArray, List.getElem_cons_succ, List.getElem_cons_zero, List.setIfInBounds_toArray, List.set_cons_zero, List.set_cons_succ]
        refine wpAnyH_take (i := 7) (v := .int .i64 3) rfl (by kernel_rfl) (by kernel_rfl) (by kernel_rfl) (fun _ _ _ h => h) (Or.inl ⟨by kernel_rfl, ?_⟩) hS ?_
        · intro w' hSw
          obtain ⟨s0, s1, s2⟩ := hSw
          go_simp
        try simp only [Act.put, List.getElem_toArray, List.getElem_cons_succ, List.getElem_cons_zero, List.setIfInBounds_toArray, List.set_cons_zero, List.set_cons_succ]
        refine wpAnyH_done (by kernel_rfl) ?_ _
        try simp only [List.setIfInBounds_toArray]
        try simp only [List.getElem_toArray, List.getElem_cons_succ, List.getElem_cons_zero, List.setIfInBounds_toArray, List.set_cons_zero, List.set_cons_succ]
        replace HBB := Lib.hid (HBB.out.trans (hbd.mono HBB.out.size))
        replace HPD := Lib.hid (HPD.out.keep hbd)
        replace HR1 := Lib.hid (Rd.keep hbd _ _ HR1.out)
        replace XO := Lib.hid (XO.out.keep hbd XO.out.lt)
        clear o0 o1 o2 hS HKS hbd
        clear XO HR1
        go_wp2_with fail
        refine (vNatC _).mono ?_
        rintro e wD ⟨q, rfl, hdl, hb6⟩
        replace HBB := Lib.hid (HBB.out.trans (hb6.mono HBB.out.size))
        replace HPD := Lib.hid (HPD.out.keep hb6)
        have HDL := Lib.hid hdl
        clear hb6 hdl
        go_wp2_with fail
        have HDC := Lib.hid (dcC natS awD (some ⟨q, 0, none⟩) 3 3 (some ⟨Bd, 0, none⟩) 1 1 wD HDL.out HPD.out nat_lw awD_low)
        rw [nw_c] at HDC
        refine HDC.out.mono ?_
        rintro e wE ⟨rfl, hb7⟩
        replace HBB := Lib.hid (HBB.out.trans (hb7.mono HBB.out.size))
        replace HPD := Lib.hid (HPD.out.keep hb7)
        clear hb7 HDC HDL
        go_wp2_with fail
        refine (szC awD _ 1 1 wE HPD.out (by omega)).mono ?_
        rintro e wG ⟨q2, rfl, _, hb8⟩
        replace HBB := Lib.hid (HBB.out.trans (hb8.mono HBB.out.size))
        clear hb8 HPD
        go_wp2_with fail
        go_ret
        exact ⟨rfl, HBB.out⟩
      · go_simp
        have hbn : Below wB.heap.size wB (v0.alloc (.cells #[.int .i64 3, .int .i64 0, .slice (some ⟨P1, 0, none⟩) 1 1] 26)) := hbd.alloc hbd.size _
        refine hK.out _ _ (HKS.out _ hbn) (fun hS => ?_)
        clear hK KN
        try simp only [Act.put, List.getElem_toArray, List.getElem_cons_succ, List.getElem_cons_zero, List.setIfInBounds_toArray, List.set_cons_zero, List.set_cons_succ]
        have z2 : Box (v0.alloc (.cells #[.int .i64 3, .int .i64 0, .slice (some ⟨P1, 0, none⟩) 1 1] 26)) v0.heap.size 26 #[.int .i64 3, .int .i64 0, .slice (some ⟨P1, 0, none⟩) 1 1] := Box.new _ _ _
        have hst : Below v0.heap.size v0 (v0.alloc (.cells #[.int .i64 3, .int .i64 0, .slice (some ⟨P1, 0, none⟩) 1 1] 26)) := (Below.refl _ _).alloc (Nat.le_refl _) _
        replace z1 := z1.keep hst z1.lt
        clear hst
        obtain ⟨P2, hP20⟩ : ∃ p, v0.heap.size = p := ⟨_, rfl⟩
        rw [hP20] at z2
        try rw [hP20]
        clear hP20
        generalize v0.alloc (.cells #[.int .i64 3, .int .i64 0, .slice (some ⟨P1, 0, none⟩) 1 1] 26) = v1 at *
        replace hbd := hbn
        clear hbn
        refine wpAnyH_ready (rs := [0]) (by kernel_rfl) (by simp) ?_
        refine AllReadyH.cons rfl (fun KN hK => ?_) AllReadyH.nil
        go_simp
        refine (vNatC _).mono ?_
        rintro e v2 ⟨q, rfl, hdl, hb6⟩
        have hbn : Below wB.heap.size wB v2 := hbd.trans (hb6.mono hbd.size)
        refine hK.out _ _ (HKS.out _ hbn) (fun hS => ?_)
        clear hK KN
        try simp only [Act.put, List.getElem_toArray, List.getElem_cons_succ, List.getElem_cons_zero, List.setIfInBounds_toArray, List.set_cons_zero, List.set_cons_succ]
        replace z1 := z1.keep hb6 z1.lt
        replace z2 := z2.keep hb6 z2.lt
        replace hbd := hbn
        clear hbn hb6
        refine wpAnyH_ready (rs := [6]) (by kernel_rfl) (by simp) ?_
        refine AllReadyH.cons rfl (fun KN hK => ?_) AllReadyH.nil
        go_simp
        have HSU := suC natS [] [] awD [.node 3 0 [awOne]] (some ⟨q, 0, none⟩) 3 3 none 0 0 none 0 0 (some ⟨Bd, 0, none⟩) 1 1 (some ⟨P2, 0, none⟩) 1 1 v2 hdl (pl_nil _) (clv_nil _ _ _ (Nat.zero_le _)) (HPD.out.keep hbd) (clv_one z2 (rd_kidN z1 (Rd.keep hbd _ _ HR1.out) (wfV (by omega) (by omega)) (wfV (by omega) (by omega)))) nat_lo0 awD_low (fun t ht _ => by rw [List.mem_singleton.1 ht]; exact low_con (by decide) (by rw [okL, okL]; exact ⟨low_one, trivial⟩)) (by omega)
        rw [nw_b] at HSU
        refine HSU.mono ?_
        rintro e wC ⟨rfl, hb9⟩
        replace hbd : Below wB.heap.size wB wC := hbd.trans (hb9.mono hbd.size)
        clear hb9 HSU hdl z1 z2
        refine hK.out _ _ (HKS.out _ hbd) (fun hS => ?_)
        clear hK KN
        try simp only [Act.put, List.getElem_toArray, List.getElem_cons_succ, List.getElem_cons_zero, List.setIfInBounds_toArray, List.set_cons_zero, List.set_cons_succ]
        refine wpAnyH_take (i := 7) (v := .int .i64 3) rfl (by kernel_rfl) (by kernel_rfl) (by kernel_rfl) (fun _ _ _ h => h) (Or.inl ⟨by kernel_rfl, ?_⟩) hS ?_
        · intro w' hSw
          obtain ⟨s0, s1, s2⟩ := hSw
          go_simp
        try simp only [Act.put, List.getElem_toArray, List.getElem_cons_succ, List.getElem_cons_zero, List.setIfInBounds_toArray, List.set_cons_zero, List.set_cons_succ]
        refine wpAnyH_done (by kernel_rfl) ?_ _
        try simp only [List.setIfInBounds_toArray]
        try simp only [List.getElem_toArray, List.getElem_cons_succ, List.getElem_cons_zero, List.setIfInBounds_toArray, List.set_cons_zero, List.set_cons_succ]
        replace HBB := Lib.hid (HBB.out.trans (hbd.mono HBB.out.size))
        replace HPD := Lib.hid (HPD.out.keep hbd)
        replace HR1 := Lib.hid (Rd.keep hbd _ _ HR1.out)
        replace XO := Lib.hid (XO.out.keep hbd XO.out.lt)
        clear o0 o1 o2 hS HKS hbd
        clear XO HR1
        go_wp2_with fail
        refine (vNatC _).mono ?_
        rintro e wD ⟨q, rfl, hdl, hb6⟩
        replace HBB := Lib.hid (HBB.out.trans (hb6.mono HBB.out.size))
        replace HPD := Lib.hid (HPD.out.keep hb6)
        have HDL := Lib.hid hdl
        clear hb6 hdl
        go_wp2_with fail
        have HDC := Lib.hid (dcC natS awD (some ⟨q, 0, none⟩) 3 3 (some ⟨Bd, 0, none⟩) 1 1 wD HDL.out HPD.out nat_lw awD_low)
        rw [nw_c] at HDC
        refine HDC.out.mono ?_
        rintro e wE ⟨rfl, hb7⟩
        replace HBB := Lib.hid (HBB.out.trans (hb7.mono HBB.out.size))
        replace HPD := Lib.hid (HPD.out.keep hb7)
        clear hb7 HDC HDL
        go_wp2_with fail
        refine (szC awD _ 1 1 wE HPD.out (by omega)).mono ?_
        rintro e wG ⟨q2, rfl, _, hb8⟩
        replace HBB := Lib.hid (HBB.out.trans (hb8.mono HBB.out.size))
        clear hb8 HPD
        go_wp2_with fail
        go_ret
        exact ⟨rfl, HBB.out⟩
  · go_simp
    have hbn : Below wA.heap.size wA ((wA.alloc (.cells #[.int .i64 5, .int .i64 2, .slice (some ⟨Bz, 0, none⟩) 1 1] 26)).drew) := ((Below.refl _ wA).alloc (Nat.le_refl _) _).drew
    refine hK.out _ _ (HKS.out _ hbn) (fun hS => ?_)
    clear hK KN
    try simp only [Act.put, List.getElem_toArray, List.getElem_cons_succ, List.getElem_cons_zero, List.setIfInBounds_toArray, List.set_cons_zero, List.set_cons_succ]
    have z1 : Box ((wA.alloc (.cells #[.int .i64 5, .int .i64 2, .slice (some ⟨Bz, 0, none⟩) 1 1] 26)).drew) wA.heap.size 26 #[.int .i64 5, .int .i64 2, .slice (some ⟨Bz, 0, none⟩) 1 1] := Box.drewI (Box.new _ _ _)
    obtain ⟨P1, hP10⟩ : ∃ p, wA.heap.size = p := ⟨_, rfl⟩
    rw [hP10] at z1
    try rw [hP10]
    clear hP10
    generalize (wA.alloc (.cells #[.int .i64 5, .int .i64 2, .slice (some ⟨Bz, 0, none⟩) 1 1] 26)).drew = v0 at *
    replace hbd := hbn
    clear hbn
    refine wpAnyH_ready (rs := [0]) (by kernel_rfl) (by simp) ?_
    refine AllReadyH.cons rfl (fun KN hK => ?_) AllReadyH.nil
    go_simp
    refine (vNatC _).mono ?_
    rintro e v1 ⟨q, rfl, hdl, hb6⟩
    have hbn : Below wA.heap.size wA v1 := hbd.trans (hb6.mono hbd.size)
    refine hK.out _ _ (HKS.out _ hbn) (fun hS => ?_)
    clear hK KN
    try simp only [Act.put, List.getElem_toArray, List.getElem_cons_succ, List.getElem_cons_zero, List.setIfInBounds_toArray, List.set_cons_zero, List.set_cons_succ]
    replace z1 := z1.keep hb6 z1.lt
    replace hbd := hbn
    clear hbn hb6
    refine wpAnyH_ready (rs := [4]) (by kernel_rfl) (by simp) ?_
    refine AllReadyH.cons rfl (fun KN hK => ?_) AllReadyH.nil
    go_simp
    have HSU := suC natS [] [] awD [awOne] (some ⟨q, 0, none⟩) 3 3 none 0 0 none 0 0 (some ⟨Bd, 0, none⟩) 1 1 (some ⟨P1, 0, none⟩) 1 1 v1 hdl (pl_nil _) (clv_nil _ _ _ (Nat.zero_le _)) (HPD.out.keep hbd) (clv_one z1 (Rd.keep hbd _ _ HR1.out)) nat_lo0 awD_low (fun t ht _ => by rw [List.mem_singleton.1 ht]; exact low_one) (by omega)
    rw [nw_a] at HSU
    refine HSU.mono ?_
    rintro e wB ⟨rfl, hb9⟩
    replace hbd : Below wA.heap.size wA wB := hbd.trans (hb9.mono hbd.size)
    clear hb9 HSU hdl z1
    refine hK.out _ _ (HKS.out _ hbd) (fun hS => ?_)
    clear hK KN
    try simp only [Act.put, List.getElem_toArray, List.getElem_cons_succ, List.getElem_cons_zero, List.setIfInBounds_toArray, List.set_cons_zero, List.set_cons_succ]
    refine wpAnyH_take (i := 5) (v := .int .i64 0) rfl (by kernel_rfl) (by kernel_rfl) (by kernel_rfl) (fun _ _ _ h => h) (Or.inl ⟨by kernel_rfl, ?_⟩) hS ?_
    · intro w' hSw
      obtain ⟨s0, s1, s2⟩ := hSw
      go_simp
    try simp only [Act.put, List.getElem_toArray, List.getElem_cons_succ, List.getElem_cons_zero, List.setIfInBounds_toArray, List.set_cons_zero, List.set_cons_succ]
    refine wpAnyH_done (by kernel_rfl) ?_ _
    try simp only [List.setIfInBounds_toArray]
    try simp only [List.getElem_toArray, List.getElem_cons_succ, List.getElem_cons_zero, List.setIfInBounds_toArray, List.set_cons_zero, List.set_cons_succ]
    replace HBB := Lib.hid (HBB.out.trans (hbd.mono HBB.out.size))
    replace HPD := Lib.hid (HPD.out.keep hbd)
    replace HR1 := Lib.hid (Rd.keep hbd _ _ HR1.out)
    replace XO := Lib.hid (XO.out.keep hbd XO.out.lt)
    clear o0 o1 o2 hS HKS hbd
    obtain ⟨o0, o1, o2⟩ := XO.out.three
    go_wp2_with fail
    have HKS : Hid (∀ w' : World, Below wB.heap.size wB w' → (fun w' => w'.cell? ⟨Bo, 0, none⟩ = some (.int .i64 5) ∧ w'.cell? ⟨Bo, 1, none⟩ = some (.int .i64 2) ∧ w'.cell? ⟨Bo, 2, none⟩ = some (.slice (some ⟨Bz, 0, none⟩) 1 1)) w') := Lib.hid fun w' h => ⟨(h.cell (cell_lt o0)).trans o0, (h.cell (cell_lt o1)).trans o1, (h.cell (cell_lt o2)).trans o2⟩
    have hbd : Below wB.heap.size wB wB.drew := (Below.refl _ wB).drew
    refine wp_region_held_drew (S := fun w' => w'.cell? ⟨Bo, 0, none⟩ = some (.int .i64 5) ∧ w'.cell? ⟨Bo, 1, none⟩ = some (.int .i64 2) ∧ w'.cell? ⟨Bo, 2, none⟩ = some (.slice (some ⟨Bz, 0, none⟩) 1 1)) (by kernel_rfl) (HKS.out _ hbd) (fun hS => ?_)
    simp only [List.size_toArray, List.length_cons, List.length_nil, Nat.reduceAdd]
    refine wpAnyH_take (i := 1) (v := .slice (some ⟨Bd, 0, none⟩) 1 1) rfl (by kernel_rfl) (by kernel_rfl) (by kernel_rfl) (fun _ _ _ h => h) (Or.inl ⟨by kernel_rfl, ?_⟩) hS ?_
    · intro w' hSw
      obtain ⟨s0, s1, s2⟩ := hSw
      go_simp
    try simp only [Act.put, List.getElem_toArray, List.getElem_cons_succ, List.getElem_cons_zero, List.setIfInBounds_toArray, List.set_cons_zero, List.set_cons_succ]
    refine wpAnyH_take (i := 2) (v := .agg #[.int .i64 5, .int .i64 2, .slice (some ⟨Bz, 0, none⟩) 1 1]) rfl (by kernel_rfl) (by kernel_rfl) (by kernel_rfl) (fun _ _ _ h => h) (Or.inl ⟨by kernel_rfl, ?_⟩) hS ?_
    · intro w' hSw
      obtain ⟨s0, s1, s2⟩ := hSw
      go_simp
    try simp only [Act.put, List.getElem_toArray, List.getElem_cons_succ, List.getElem_cons_zero, List.setIfInBounds_toArray, List.set_cons_zero, List.set_cons_succ]
    refine wpAnyH_ready (rs := [0, 3]) (by kernel_rfl) (by simp) ?_
    refine AllReadyH.cons rfl (fun KN hK => ?_) (AllReadyH.cons rfl (fun KN hK => ?_) AllReadyH.nil)
    · go_simp
      refine (vNatC _).mono ?_
      rintro e v0 ⟨q, rfl, hdl, hb6⟩
      have hbn : Below wB.heap.size wB v0 := hbd.trans (hb6.mono hbd.size)
      refine hK.out _ _ (HKS.out _ hbn) (fun hS => ?_)
      clear hK KN
      try simp only [Act.put, List.getElem_toArray, List.getElem_cons_succ, List.getElem_cons_zero, List.setIfInBounds_toArray, List.set_cons_zero, List.set_cons_succ]
      replace hbd := hbn
      clear hbn hb6
      refine wpAnyH_ready (rs := [3]) (by kernel_rfl) (by simp) ?_
      refine AllReadyH.cons rfl (fun KN hK => ?_) AllReadyH.nil
      go_simp
      have hbn : Below wB.heap.size wB (v0.alloc (.cells #[.int .i64 5, .int .i64 2, .slice (some ⟨Bz, 0, none⟩) 1 1] 26)) := hbd.alloc hbd.size _
      refine hK.out _ _ (HKS.out _ hbn) (fun hS => ?_)
      clear hK KN
      try simp only [Act.put, List.getElem_toArray, List.getElem_cons_succ, List.getElem_cons_zero, List.setIfInBounds_toArray, List.set_cons_zero, List.set_cons_succ]
      have z1 : Box (v0.alloc (.cells #[.int .i64 5, .int .i64 2, .slice (some ⟨Bz, 0, none⟩) 1 1] 26)) v0.heap.size 26 #[.int .i64 5, .int .i64 2, .slice (some ⟨Bz, 0, none⟩) 1 1] := Box.new _ _ _
      have hst : Below v0.heap.size v0 (v0.alloc (.cells #[.int .i64 5, .int .i64 2, .slice (some ⟨Bz, 0, none⟩) 1 1] 26)) := (Below.refl _ _).alloc (Nat.le_refl _) _
      replace hdl := hdl.keep hst
      clear hst
      obtain ⟨P1, hP10⟩ : ∃ p, v0.heap.size = p := ⟨_, rfl⟩
      rw [hP10] at z1
      try rw [hP10]
      clear hP10
      generalize v0.alloc (.cells #[.int .i64 5, .int .i64 2, .slice (some ⟨Bz, 0, none⟩) 1 1] 26) = v1 at *
      replace hbd := hbn
      clear hbn
      refine wpAnyH_take (i := 4) (v := .agg #[.int .i64 3, .int .i64 0, .slice (some ⟨P1, 0, none⟩) 1 1]) rfl (by kernel_rfl) (by kernel_rfl) (by kernel_rfl) (fun _ _ _ h => h) (Or.inl ⟨by kernel_rfl, ?_⟩) hS ?_
      · intro w' hSw
        obtain ⟨s0, s1, s2⟩ := hSw
        go_simp
      try simp only [Act.put, List.getElem_toArray, List.getElem_cons_succ, List.getElem_cons_zero, List.setIfInBounds_toArray, List.set_cons_zero, List.set_cons_succ]
      refine wpAnyH_ready (rs := [5]) (by kernel_rfl) (by simp) ?_
      refine AllReadyH.cons rfl (fun KN hK => ?_) AllReadyH.nil
      go_simp
      have hbn : Below wB.heap.size wB (v1.alloc (.cells #[.int .i64 3, .int .i64 0, .slice (some ⟨P1, 0, none⟩) 1 1] 26)) := hbd.alloc hbd.size _
      refine hK.out _ _ (HKS.out _ hbn) (fun hS => ?_)
      clear hK KN
      try simp only [Act.put, List.getElem_toArray, List.getElem_cons_succ, List.getElem_cons_zero, List.setIfInBounds_toArray, List.set_cons_zero, List.set_cons_succ]
      have z2 : Box (v1.alloc (.cells #[.int .i64 3, .int .i64 0, .slice (some ⟨P1, 0, none⟩) 1 1] 26)) v1.heap.size 26 #[.int .i64 3, .int .i64 0, .slice (some ⟨P1, 0, none⟩) 1 1] := Box.new _ _ _
      have hst : Below v1.heap.size v1 (v1.alloc (.cells #[.int .i64 3, .int .i64 0, .slice (some ⟨P1, 0, none⟩) 1 1] 26)) := (Below.refl _ _).alloc (Nat.le_refl _) _
      replace hdl := hdl.keep hst
      replace z1 := z1.keep hst z1.lt
      clear hst
      obtain ⟨P2, hP20⟩ : ∃ p, v1.heap.size = p := ⟨_, rfl⟩
      rw [hP20] at z2
      try rw [hP20]
      clear hP20
      generalize v1.alloc (.cells #[.int .i64 3, .int .i64 0, .slice (some ⟨P1, 0, none⟩) 1 1] 26) = v2 at *
      replace hbd := hbn
      clear hbn
      refine wpAnyH_ready (rs := [6]) (by kernel_rfl) (by simp) ?_
      refine AllReadyH.cons rfl (fun KN hK => ?_) AllReadyH.nil
      go_simp
      have HSU := suC natS [] [] awD [.node 3 0 [awOne]] (some ⟨q, 0, none⟩) 3 3 none 0 0 none 0 0 (some ⟨Bd, 0, none⟩) 1 1 (some ⟨P2, 0, none⟩) 1 1 v2 hdl (pl_nil _) (clv_nil _ _ _ (Nat.zero_le _)) (HPD.out.keep hbd) (clv_one z2 (rd_kidN z1 (Rd.keep hbd _ _ HR1.out) (wfV (by omega) (by omega)) (wfV (by omega) (by omega)))) nat_lo0 awD_low (fun t ht _ => by rw [List.mem_singleton.1 ht]; exact low_con (by decide) (by rw [okL, okL]; exact ⟨low_one, trivial⟩)) (by omega)
      rw [nw_b] at HSU
      refine HSU.mono ?_
      rintro e wC ⟨rfl, hb9⟩
      replace hbd : Below wB.heap.size wB wC := hbd.trans (hb9.mono hbd.size)
      clear hb9 HSU hdl z1 z2
      refine hK.out _ _ (HKS.out _ hbd) (fun hS => ?_)
      clear hK KN
      try simp only [Act.put, List.getElem_toArray, List.getElem_cons_succ, List.getElem_cons_zero, List.setIfInBounds_toArray, List.set_cons_zero, List.set_cons_succ]
      refine wpAnyH_take (i := 7) (v := .int .i64 3) rfl (by kernel_rfl) (by kernel_rfl) (by kernel_rfl) (fun _ _ _ h => h) (Or.inl ⟨by kernel_rfl, ?_⟩) hS ?_
      · intro w' hSw
        obtain ⟨s0, s1, s2⟩ := hSw
        go_simp
      try simp only [Act.put, List.getElem_toArray, List.getElem_cons_succ, List.getElem_cons_zero, List.setIfInBounds_toArray, List.set_cons_zero, List.set_cons_succ]
      refine wpAnyH_done (by kernel_rfl) ?_ _
      try simp only [List.setIfInBounds_toArray]
      try simp only [List.getElem_toArray, List.getElem_cons_succ, List.getElem_cons_zero, List.setIfInBounds_toArray, List.set_cons_zero, List.set_cons_succ]
      replace HBB := Lib.hid (HBB.out.trans (hbd.mono HBB.out.size))
      replace HPD := Lib.hid (HPD.out.keep hbd)
      replace HR1 := Lib.hid (Rd.keep hbd _ _ HR1.out)
      replace XO := Lib.hid (XO.out.keep hbd XO.out.lt)
      clear o0 o1 o2 hS HKS hbd
      clear XO HR1
      go_wp2_with fail
      refine (vNatC _).mono ?_
      rintro e wD ⟨q, rfl, hdl, hb6⟩
      replace HBB := Lib.hid (HBB.out.trans (hb6.mono HBB.out.size))
      replace HPD := Lib.hid (HPD.out.keep hb6)
      have HDL := Lib.hid hdl
      clear hb6 hdl
      go_wp2_with fail
      have HDC := Lib.hid (dcC natS awD (some ⟨q, 0, none⟩) 3 3 (some ⟨Bd, 0, none⟩) 1 1 wD HDL.out HPD.out nat_lw awD_low)
      rw [nw_c] at HDC
      refine HDC.out.mono ?_
      rintro e wE ⟨rfl, hb7⟩
      replace HBB := Lib.hid (HBB.out.trans (hb7.mono HBB.out.size))
      replace HPD := Lib.hid (HPD.out.keep hb7)
      clear hb7 HDC HDL
      go_wp2_with fail
      refine (szC awD _ 1 1 wE HPD.out (by omega)).mono ?_
      rintro e wG ⟨q2, rfl, _, hb8⟩
      replace HBB := Lib.hid (HBB.out.trans (hb8.mono HBB.out.size))
      clear hb8 HPD
      go_wp2_with fail
      go_ret
      exact ⟨rfl, HBB.out⟩
    · go_simp
      have hbn : Below wB.heap.size wB ((wB.alloc (.cells #[.int .i64 5, .int .i64 2, .slice (some ⟨Bz, 0, none⟩) 1 1] 26)).drew) := ((Below.refl _ wB).alloc (Nat.le_refl _) _).drew
      refine hK.out _ _ (HKS.out _ hbn) (fun hS => ?_)
      clear hK KN
      try simp only [Act.put, List.getElem_toArray, List.getElem_cons_succ, List.getElem_cons_zero, List.setIfInBounds_toArray, List.set_cons_zero, List.set_cons_succ]
      have z1 : Box ((wB.alloc (.cells #[.int .i64 5, .int .i64 2, .slice (some ⟨Bz, 0, none⟩) 1 1] 26)).drew) wB.heap.size 26 #[.int .i64 5, .int .i64 2, .slice (some ⟨Bz, 0, none⟩) 1 1] := Box.drewI (Box.new _ _ _)
      obtain ⟨P1, hP10⟩ : ∃ p, wB.heap.size = p := ⟨_, rfl⟩
      rw [hP10] at z1
      try rw [hP10]
      clear hP10
      generalize (wB.alloc (.cells #[.int .i64 5, .int .i64 2, .slice (some ⟨Bz, 0, none⟩) 1 1] 26)).drew = v0 at *
      replace hbd := hbn
      clear hbn
      refine wpAnyH_take (i := 4) (v := .agg #[.int .i64 3, .int .i64 0, .slice (some ⟨P1, 0, none⟩) 1 1]) rfl (by kernel_rfl) (by kernel_rfl) (by kernel_rfl) (fun _ _ _ h => h) (Or.inl ⟨by kernel_rfl, ?_⟩) hS ?_
      · intro w' hSw
        obtain ⟨s0, s1, s2⟩ := hSw
        go_simp
      try simp only [Act.put, List.getElem_toArray, List.getElem_cons_succ, List.getElem_cons_zero, List.setIfInBounds_toArray, List.set_cons_zero, List.set_cons_succ]
      refine wpAnyH_ready (rs := [0, 5]) (by kernel_rfl) (by simp) ?_
      refine AllReadyH.cons rfl (fun KN hK => ?_) (AllReadyH.cons rfl (fun KN hK => ?_) AllReadyH.nil)
      · go_simp
        refine (vNatC _).mono ?_
        rintro e v1 ⟨q, rfl, hdl, hb6⟩
        have hbn : Below wB.heap.size wB v1 := hbd.trans (hb6.mono hbd.size)
        refine hK.out _ _ (HKS.out _ hbn) (fun hS => ?_)
        clear hK KN
        try simp only [Act.put, List.getElem_toArray, List.getElem_cons_succ, List.getElem_cons_zero, List.setIfInBounds_toArray, List.set_cons_zero, List.set_cons_succ]
        replace z1 := z1.keep hb6 z1.lt
        replace hbd := hbn
        clear hbn hb6
        refine wpAnyH_ready (rs := [5]) (by kernel_rfl) (by simp) ?_
        refine AllReadyH.cons rfl (fun KN hK => ?_) AllReadyH.nil
        go_simp
        have hbn : Below wB.heap.size wB (v1.alloc (.cells #[.int .i64 3, .int .i64 0, .slice (some ⟨P1, 0, none⟩) 1 1] 26)) := hbd.alloc hbd.size _
        refine hK.out _ _ (HKS.out _ hbn) (fun hS => ?_)
        clear hK KN
        try simp only [Act.put, List.getElem_toArray, List.getElem_cons_succ, List.getElem_cons_zero, List.setIfInBounds_toArray, List.set_cons_zero, List.set_cons_succ]
        have z2 : Box (v1.alloc (.cells #[.int .i64 3, .int .i64 0, .slice (some ⟨P1, 0, none⟩) 1 1] 26)) v1.heap.size 26 #[.int .i64 3, .int .i64 0, .slice (some ⟨P1, 0, none⟩) 1 1] := Box.new _ _ _
        have hst : Below v1.heap.size v1 (v1.alloc (.cells #[.int .i64 3, .int .i64 0, .slice (some ⟨P1, 0, none⟩) 1 1] 26)) := (Below.refl _ _).alloc (Nat.le_refl _) _
        replace hdl := hdl.keep hst
        replace z1 := z1.keep hst z1.lt
        clear hst
        obtain ⟨P2, hP20⟩ : ∃ p, v1.heap.size = p := ⟨_, rfl⟩
        rw [hP20] at z2
        try rw [hP20]
        clear hP20
        generalize v1.alloc (.cells #[.int .i64 3, .int .i64 0, .slice (some ⟨P1, 0, none⟩) 1 1] 26) = v2 at *
        replace hbd := hbn
        clear hbn
        refine wpAnyH_ready (rs := [6]) (by kernel_rfl) (by simp) ?_
        refine AllReadyH.cons rfl (fun KN hK => ?_) AllReadyH.nil
        go_simp
        have HSU := suC natS [] [] awD [.node 3 0 [awOne]] (some ⟨q, 0, none⟩) 3 3 none 0 0 none 0 0 (some ⟨Bd, 0, none⟩) 1 1 (some ⟨P2, 0, none⟩) 1 1 v2 hdl (pl_nil _) (clv_nil _ _ _ (Nat.zero_le _)) (HPD.out.keep hbd) (clv_one z2 (rd_kidN z1 (Rd.keep hbd _ _ HR1.out) (wfV (by omega) (by omega)) (wfV (by omega) (by omega)))) nat_lo0 awD_low (fun t ht _ => by rw [List.mem_singleton.1 ht]; exact low_con (by decide) (by rw [okL, okL]; exact ⟨low_one, trivial⟩)) (by omega)
        rw [nw_b] at HSU
        refine HSU.mono ?_
        rintro e wC ⟨rfl, hb9⟩
        replace hbd : Below wB.heap.size wB wC := hbd.trans (hb9.mono hbd.size)
        clear hb9 HSU hdl z1 z2
        refine hK.out _ _ (HKS.out _ hbd) (fun hS => ?_)
        clear hK KN
        try simp only [Act.put, List.getElem_toArray, List.getElem_cons_succ, List.getElem_cons_zero, List.setIfInBounds_toArray, List.set_cons_zero, List.set_cons_succ]
        refine wpAnyH_take (i := 7) (v := .int .i64 3) rfl (by kernel_rfl) (by kernel_rfl) (by kernel_rfl) (fun _ _ _ h => h) (Or.inl ⟨by kernel_rfl, ?_⟩) hS ?_
        · intro w' hSw
          obtain ⟨s0, s1, s2⟩ := hSw
          go_simp
        try simp only [Act.put, List.getElem_toArray, List.getElem_cons_succ, List.getElem_cons_zero, List.setIfInBounds_toArray, List.set_cons_zero, List.set_cons_succ]
        refine wpAnyH_done (by kernel_rfl) ?_ _
        try simp only [List.setIfInBounds_toArray]
        try simp only [List.getElem_toArray, List.getElem_cons_succ, List.getElem_cons_zero, List.setIfInBounds_toArray, List.set_cons_zero, List.set_cons_succ]
        replace HBB := Lib.hid (HBB.out.trans (hbd.mono HBB.out.size))
        replace HPD := Lib.hid (HPD.out.keep hbd)
        replace HR1 := Lib.hid (Rd.keep hbd _ _ HR1.out)
        replace XO := Lib.hid (XO.out.keep hbd XO.out.lt)
        clear o0 o1 o2 hS HKS hbd
        clear XO HR1
        go_wp2_with fail
        refine (vNatC _).mono ?_
        rintro e wD ⟨q, rfl, hdl, hb6⟩
        replace HBB := Lib.hid (HBB.out.trans (hb6.mono HBB.out.size))
        replace HPD := Lib.hid (HPD.out.keep hb6)
        have HDL := Lib.hid hdl
        clear hb6 hdl
        go_wp2_with fail
        have HDC := Lib.hid (dcC natS awD (some ⟨q, 0, none⟩) 3 3 (some ⟨Bd, 0, none⟩) 1 1 wD HDL.out HPD.out nat_lw awD_low)
        rw [nw_c] at HDC
        refine HDC.out.mono ?_
        rintro e wE ⟨rfl, hb7⟩
        replace HBB := Lib.hid (HBB.out.trans (hb7.mono HBB.out.size))
        replace HPD := Lib.hid (HPD.out.keep hb7)
        clear hb7 HDC HDL
        go_wp2_with fail
        refine (szC awD _ 1 1 wE HPD.out (by omega)).mono ?_
        rintro e wG ⟨q2, rfl, _, hb8⟩
        replace HBB := Lib.hid (HBB.out.trans (hb8.mono HBB.out.size))
        clear hb8 HPD
        go_wp2_with fail
        go_ret
        exact ⟨rfl, HBB.out⟩
      · go_simp
        have hbn : Below wB.heap.size wB (v0.alloc (.cells #[.int .i64 3, .int .i64 0, .slice (some ⟨P1, 0, none⟩) 1 1] 26)) := hbd.alloc hbd.size _
        refine hK.out _ _ (HKS.out _ hbn) (fun hS => ?_)
        clear hK KN
        try simp only [Act.put, List.getElem_toArray, List.getElem_cons_succ, List.getElem_cons_zero, List.setIfInBounds_toArray, List.set_cons_zero, List.set_cons_succ]
        have z2 : Box (v0.alloc (.cells #[.int .i64 3, .int .i64 0, .slice (some ⟨P1, 0, none⟩) 1 1] 26)) v0.heap.size 26 #[.int .i64 3, .int .i64 0, .slice (some ⟨P1, 0, none⟩) 1 1] := Box.new _ _ _
        have hst : Below v0.heap.size v0 (v0.alloc (.cells #[.int .i64 3, .int .i64 0, .slice (some ⟨P1, 0, none⟩) 1 1] 26)) := (Below.refl _ _).alloc (Nat.le_refl _) _
        replace z1 := z1.keep hst z1.lt
        clear hst
        obtain ⟨P2, hP20⟩ : ∃ p, v0.heap.size = p := ⟨_, rfl⟩
        rw [hP20] at z2
        try rw [hP20]
        clear hP20
        generalize v0.alloc (.cells #[.int .i64 3, .int .i64 0, .slice (some ⟨P1, 0, none⟩) 1 1] 26) = v1 at *
        replace hbd := hbn
        clear hbn
        refine wpAnyH_ready (rs := [0]) (by kernel_rfl) (by simp) ?_
        refine AllReadyH.cons rfl (fun KN hK => ?_) AllReadyH.nil
        go_simp
        refine (vNatC _).mono ?_
        rintro e v2 ⟨q, rfl, hdl, hb6⟩
        have hbn : Below wB.heap.size wB v2 := hbd.trans (hb6.mono hbd.size)
        refine hK.out _ _ (HKS.out _ hbn) (fun hS => ?_)
        clear hK KN
        try simp only [Act.put, List.getElem_toArray, List.getElem_cons_succ, List.getElem_cons_zero, List.setIfInBounds_toArray, List.set_cons_zero, List.set_cons_succ]
        replace z1 := z1.keep hb6 z1.lt
        replace z2 := z2.keep hb6 z2.lt
        replace hbd := hbn
        clear hbn hb6
        refine wpAnyH_ready (rs := [6]) (by kernel_rfl) (by simp) ?_
        refine AllReadyH.cons rfl (fun KN hK => ?_) AllReadyH.nil
        go_simp
        have HSU := suC natS [] [] awD [.node 3 0 [awOne]] (some ⟨q, 0, none⟩) 3 3 none 0 0 none 0 0 (some ⟨Bd, 0, none⟩) 1 1 (some ⟨P2, 0, none⟩) 1 1 v2 hdl (pl_nil _) (clv_nil _ _ _ (Nat.zero_le _)) (HPD.out.keep hbd) (clv_one z2 (rd_kidN z1 (Rd.keep hbd _ _ HR1.out) (wfV (by omega) (by omega)) (wfV (by omega) (by omega)))) nat_lo0 awD_low (fun t ht _ => by rw [List.mem_singleton.1 ht]; exact low_con (by decide) (by rw [okL, okL]; exact ⟨low_one, trivial⟩)) (by omega)
        rw [nw_b] at HSU
        refine HSU.mono ?_
        rintro e wC ⟨rfl, hb9⟩
        replace hbd : Below wB.heap.size wB wC := hbd.trans (hb9.mono hbd.size)
        clear hb9 HSU hdl z1 z2
        refine hK.out _ _ (HKS.out _ hbd) (fun hS => ?_)
        clear hK KN
        try simp only [Act.put, List.getElem_toArray, List.getElem_cons_succ, List.getElem_cons_zero, List.setIfInBounds_toArray, List.set_cons_zero, List.set_cons_succ]
        refine wpAnyH_take (i := 7) (v := .int .i64 3) rfl (by kernel_rfl) (by kernel_rfl) (by kernel_rfl) (fun _ _ _ h => h) (Or.inl ⟨by kernel_rfl, ?_⟩) hS ?_
        · intro w' hSw
          obtain ⟨s0, s1, s2⟩ := hSw
          go_simp
        try simp only [Act.put, List.getElem_toArray, List.getElem_cons_succ, List.getElem_cons_zero, List.setIfInBounds_toArray, List.set_cons_zero, List.set_cons_succ]
        refine wpAnyH_done (by kernel_rfl) ?_ _
        try simp only [List.setIfInBounds_toArray]
        try simp only [List.getElem_toArray, List.getElem_cons_succ, List.getElem_cons_zero, List.setIfInBounds_toArray, List.set_cons_zero, List.set_cons_succ]
        replace HBB := Lib.hid (HBB.out.trans (hbd.mono HBB.out.size))
        replace HPD := Lib.hid (HPD.out.keep hbd)
        replace HR1 := Lib.hid (Rd.keep hbd _ _ HR1.out)
        replace XO := Lib.hid (XO.out.keep hbd XO.out.lt)
        clear o0 o1 o2 hS HKS hbd
        clear XO HR1
        go_wp2_with fail
        refine (vNatC _).mono ?_
        rintro e wD ⟨q, rfl, hdl, hb6⟩
        replace HBB := Lib.hid (HBB.out.trans (hb6.mono HBB.out.size))
        replace HPD := Lib.hid (HPD.out.keep hb6)
        have HDL := Lib.hid hdl
        clear hb6 hdl
        go_wp2_with fail
        have HDC := Lib.hid (dcC natS awD (some ⟨q, 0, none⟩) 3 3 (some ⟨Bd, 0, none⟩) 1 1 wD HDL.out HPD.out nat_lw awD_low)
        rw [nw_c] at HDC
        refine HDC.out.mono ?_
        rintro e wE ⟨rfl, hb7⟩
        replace HBB := Lib.hid (HBB.out.trans (hb7.mono HBB.out.size))
        replace HPD := Lib.hid (HPD.out.keep hb7)
        clear hb7 HDC HDL
        go_wp2_with fail
        refine (szC awD _ 1 1 wE HPD.out (by omega)).mono ?_
        rintro e wG ⟨q2, rfl, _, hb8⟩
        replace HBB := Lib.hid (HBB.out.trans (hb8.mono HBB.out.size))
        clear hb8 HPD
        go_wp2_with fail
        go_ret
        exact ⟨rfl, HBB.out⟩
end Go.Proofs.Ytloeainlpcnhnaa
/-
  The walk of the law MetasFilled.
-/
namespace Go.Proofs.Ytloeainlpcnhnaa
open Go.ChangeShapes Go.WideShapes Go.ChangeAt Go.RowKit
set_option linter.unusedVariables false
theorem lo_pN {sg : List T} {ds : List MP} {cx : List T} {ns nm : Nat} (h : fwV ⟨sg, msP ds⟩ cx ns nm = true) : LoP ds := fun d hd => by
  have hL := loV_of h
  have hm : d.1 ∈ msP ds := List.mem_map_of_mem hd
  obtain ⟨h1, h2⟩ := hL.ms d.1 hm
  refine ⟨h1, h2, ?_⟩
  simp only [fwV, fmB, lsB, Bool.and_eq_true, decide_eq_true_eq, List.all_eq_true] at h
  have := (h.2.2.1 d.1 hm).1.1
  omega
theorem lw_lsN {xs : List T} {s d : Int} (h : lsB xs s d = true) : LwV xs ∧ xs.length ≤ 60 := by
  simp only [lsB, Bool.and_eq_true, decide_eq_true_eq, List.all_eq_true] at h
  exact ⟨fun t ht => lo_lt (h.2 t ht), h.1⟩
set_option maxRecDepth 100000 in
set_option maxHeartbeats 16000000 in
theorem metasFilledC (sg : List T) (ds over : List MP) (theta cx : List T) (m a : T) (As : Option Addr) (ns cs : Nat) (Am : Option Addr) (nm cm : Nat) (Ao : Option Addr) (no co : Nat) (At : Option Addr) (nt ct : Nat) (Ac : Option Addr) (nc cc : Nat) (vm va : Value) (w : World)
    (hs : DL w sg As ns cs) (hd : PL w ds Am nm cm) (ho : PL w over Ao no co) (ht : CLV w theta At nt ct) (hx : CLV w cx Ac nc cc) (hvm : Rd w m vm) (hva : Rd w a va) :
    Calls Try.prog 6 #[.slice As ns cs, .slice Am nm cm, .slice Ao no co, .slice At nt ct, .slice Ac nc cc, vm, va] w fun e w' => e = .returned (.bool true) ∧ Below w.heap.size w w' := by
  obtain ⟨km, hm, Aw, nw, cw, rfl⟩ := hvm.full
  obtain ⟨ka, ha, Ax, nx, cxx, rfl⟩ := hva.full
  have hcl := hx.len
  have hcle := hx.le
  have hccap := hx.cap
  unfold maxLen at hccap
  have HS := Lib.hid hs; clear hs
  have HD := Lib.hid hd; clear hd
  have HO := Lib.hid ho; clear ho
  have HT := Lib.hid ht; clear ht
  have HX := Lib.hid hx; clear hx
  have HVM := Lib.hid hvm; clear hvm
  have HVA := Lib.hid hva; clear hva
  obtain ⟨w0, hW⟩ : ∃ w0, (w.alloc (.cells #[.int .i64 km, .int .i64 hm, .slice Aw nw cw] 26)).alloc (.cells #[.int .i64 ka, .int .i64 ha, .slice Ax nx cxx] 26) = w0 := ⟨_, rfl⟩
  have hb0 : Below w.heap.size w w0 := by rw [← hW]; exact ((Below.refl _ _).alloc (Nat.le_refl _) _).alloc (by simp) _
  have XM := Lib.hid (show Box w0 w.heap.size 26 #[.int .i64 km, .int .i64 hm, .slice Aw nw cw] by rw [← hW]; exact (Box.new w _ _).alloc _)
  have XA := Lib.hid (show Box w0 (w.heap.size + 1) 26 #[.int .i64 ka, .int .i64 ha, .slice Ax nx cxx] by rw [← hW]; exact (Box.new (w.alloc _) _ _).at (by simp))
  have HB := Lib.hid hb0; clear hb0
  obtain ⟨r1, hr1⟩ : ∃ r, fwV ⟨sg, msP ds⟩ cx ns nm = r := ⟨_, rfl⟩
  have HR1 := Lib.hid hr1; clear hr1
  obtain ⟨r2, hr2⟩ : ∃ r, fwV ⟨[], msP over⟩ [] 0 no = r := ⟨_, rfl⟩
  have HR2 := Lib.hid hr2; clear hr2
  obtain ⟨r3, hr3⟩ : ∃ r, lsB theta 200 40 = r := ⟨_, rfl⟩
  have HR3 := Lib.hid hr3; clear hr3
  obtain ⟨r4, hr4⟩ : ∃ r, ltB m 200 40 = r := ⟨_, rfl⟩
  have HR4 := Lib.hid hr4; clear hr4
  obtain ⟨r5, hr5⟩ : ∃ r, ltB a 200 40 = r := ⟨_, rfl⟩
  have HR5 := Lib.hid hr5; clear hr5
  go_enter Try.func6, Try.ntmps6
  go_wp2_with fail
  clear hW
  have HC := Lib.hid (nAwakeC w0)
  refine HC.out.mono ?_
  rintro e w1 ⟨rfl, hb1⟩
  replace XM := Lib.hid (XM.out.keep hb1 XM.out.lt)
  replace XA := Lib.hid (XA.out.keep hb1 XA.out.lt)
  replace HB := Lib.hid (HB.out.trans (hb1.mono HB.out.size))
  clear hb1 HC
  have b0 : w1.cell? ⟨w.heap.size, 0, none⟩ = some (.int .i64 km) := XM.out.cell 0
  have b1 : w1.cell? ⟨w.heap.size, 1, none⟩ = some (.int .i64 hm) := XM.out.cell 1
  have b2 : w1.cell? ⟨w.heap.size, 2, none⟩ = some (.slice Aw nw cw) := XM.out.cell 2
  have g0 : w1.cell? ⟨w.heap.size + 1, 0, none⟩ = some (.int .i64 ka) := XA.out.cell 0
  have g1 : w1.cell? ⟨w.heap.size + 1, 1, none⟩ = some (.int .i64 ha) := XA.out.cell 1
  have g2 : w1.cell? ⟨w.heap.size + 1, 2, none⟩ = some (.slice Ax nx cxx) := XA.out.cell 2
  go_wp2_with fail
  clear b0 b1 b2
  clear g0 g1 g2
  have HC := Lib.hid (vFewC ⟨sg, msP ds⟩ cx As Am Ac ns cs nm cm nc cc w1 ⟨HS.out.keep HB.out, HD.out.ml.keep HB.out, HX.out.keep HB.out⟩)
  rw [HR1.out] at HC
  refine HC.out.mono ?_
  rintro e w2 ⟨rfl, hb1⟩
  replace XM := Lib.hid (XM.out.keep hb1 XM.out.lt)
  replace XA := Lib.hid (XA.out.keep hb1 XA.out.lt)
  replace HB := Lib.hid (HB.out.trans (hb1.mono HB.out.size))
  clear hb1 HC
  have b0 : w2.cell? ⟨w.heap.size, 0, none⟩ = some (.int .i64 km) := XM.out.cell 0
  have b1 : w2.cell? ⟨w.heap.size, 1, none⟩ = some (.int .i64 hm) := XM.out.cell 1
  have b2 : w2.cell? ⟨w.heap.size, 2, none⟩ = some (.slice Aw nw cw) := XM.out.cell 2
  have g0 : w2.cell? ⟨w.heap.size + 1, 0, none⟩ = some (.int .i64 ka) := XA.out.cell 0
  have g1 : w2.cell? ⟨w.heap.size + 1, 1, none⟩ = some (.int .i64 ha) := XA.out.cell 1
  have g2 : w2.cell? ⟨w.heap.size + 1, 2, none⟩ = some (.slice Ax nx cxx) := XA.out.cell 2
  go_wp2_with fail
  clear b0 b1 b2
  clear g0 g1 g2
  have HC := Lib.hid (nFewC over Ao no co w2 (HO.out.keep HB.out))
  rw [HR2.out] at HC
  refine HC.out.mono ?_
  rintro e w3 ⟨rfl, hb1⟩
  replace XM := Lib.hid (XM.out.keep hb1 XM.out.lt)
  replace XA := Lib.hid (XA.out.keep hb1 XA.out.lt)
  replace HB := Lib.hid (HB.out.trans (hb1.mono HB.out.size))
  clear hb1 HC
  have b0 : w3.cell? ⟨w.heap.size, 0, none⟩ = some (.int .i64 km) := XM.out.cell 0
  have b1 : w3.cell? ⟨w.heap.size, 1, none⟩ = some (.int .i64 hm) := XM.out.cell 1
  have b2 : w3.cell? ⟨w.heap.size, 2, none⟩ = some (.slice Aw nw cw) := XM.out.cell 2
  have g0 : w3.cell? ⟨w.heap.size + 1, 0, none⟩ = some (.int .i64 ka) := XA.out.cell 0
  have g1 : w3.cell? ⟨w.heap.size + 1, 1, none⟩ = some (.int .i64 ha) := XA.out.cell 1
  have g2 : w3.cell? ⟨w.heap.size + 1, 2, none⟩ = some (.slice Ax nx cxx) := XA.out.cell 2
  go_wp2_with fail
  clear b0 b1 b2
  clear g0 g1 g2
  have HC := Lib.hid (lightsC theta At nt ct 200 40 w3 (HT.out.keep HB.out).len (HT.out.keep HB.out).le (HT.out.keep HB.out).cap (HT.out.keep HB.out).at_)
  rw [HR3.out] at HC
  refine HC.out.mono ?_
  rintro e w4 ⟨rfl, hb1⟩
  replace XM := Lib.hid (XM.out.keep hb1 XM.out.lt)
  replace XA := Lib.hid (XA.out.keep hb1 XA.out.lt)
  replace HB := Lib.hid (HB.out.trans (hb1.mono HB.out.size))
  clear hb1 HC
  have b0 : w4.cell? ⟨w.heap.size, 0, none⟩ = some (.int .i64 km) := XM.out.cell 0
  have b1 : w4.cell? ⟨w.heap.size, 1, none⟩ = some (.int .i64 hm) := XM.out.cell 1
  have b2 : w4.cell? ⟨w.heap.size, 2, none⟩ = some (.slice Aw nw cw) := XM.out.cell 2
  have g0 : w4.cell? ⟨w.heap.size + 1, 0, none⟩ = some (.int .i64 ka) := XA.out.cell 0
  have g1 : w4.cell? ⟨w.heap.size + 1, 1, none⟩ = some (.int .i64 ha) := XA.out.cell 1
  have g2 : w4.cell? ⟨w.heap.size + 1, 2, none⟩ = some (.slice Ax nx cxx) := XA.out.cell 2
  go_wp2_with fail
  clear b0 b1 b2
  clear g0 g1 g2
  have HC := Lib.hid (refLight m 200 40 _ w4 (Rd.keep HB.out _ _ HVM.out))
  rw [HR4.out] at HC
  refine HC.out.mono ?_
  rintro e w5 ⟨rfl, hb1⟩
  replace XM := Lib.hid (XM.out.keep hb1 XM.out.lt)
  replace XA := Lib.hid (XA.out.keep hb1 XA.out.lt)
  replace HB := Lib.hid (HB.out.trans (hb1.mono HB.out.size))
  clear hb1 HC
  have b0 : w5.cell? ⟨w.heap.size, 0, none⟩ = some (.int .i64 km) := XM.out.cell 0
  have b1 : w5.cell? ⟨w.heap.size, 1, none⟩ = some (.int .i64 hm) := XM.out.cell 1
  have b2 : w5.cell? ⟨w.heap.size, 2, none⟩ = some (.slice Aw nw cw) := XM.out.cell 2
  have g0 : w5.cell? ⟨w.heap.size + 1, 0, none⟩ = some (.int .i64 ka) := XA.out.cell 0
  have g1 : w5.cell? ⟨w.heap.size + 1, 1, none⟩ = some (.int .i64 ha) := XA.out.cell 1
  have g2 : w5.cell? ⟨w.heap.size + 1, 2, none⟩ = some (.slice Ax nx cxx) := XA.out.cell 2
  go_wp2_with fail
  clear b0 b1 b2
  clear g0 g1 g2
  have HC := Lib.hid (refLight a 200 40 _ w5 (Rd.keep HB.out _ _ HVA.out))
  rw [HR5.out] at HC
  refine HC.out.mono ?_
  rintro e w6 ⟨rfl, hb1⟩
  replace XM := Lib.hid (XM.out.keep hb1 XM.out.lt)
  replace XA := Lib.hid (XA.out.keep hb1 XA.out.lt)
  replace HB := Lib.hid (HB.out.trans (hb1.mono HB.out.size))
  clear hb1 HC
  have b0 : w6.cell? ⟨w.heap.size, 0, none⟩ = some (.int .i64 km) := XM.out.cell 0
  have b1 : w6.cell? ⟨w.heap.size, 1, none⟩ = some (.int .i64 hm) := XM.out.cell 1
  have b2 : w6.cell? ⟨w.heap.size, 2, none⟩ = some (.slice Aw nw cw) := XM.out.cell 2
  have g0 : w6.cell? ⟨w.heap.size + 1, 0, none⟩ = some (.int .i64 ka) := XA.out.cell 0
  have g1 : w6.cell? ⟨w.heap.size + 1, 1, none⟩ = some (.int .i64 ha) := XA.out.cell 1
  have g2 : w6.cell? ⟨w.heap.size + 1, 2, none⟩ = some (.slice Ax nx cxx) := XA.out.cell 2
  cases r1
  · go_wp2_with fail
    go_ret
    exact ⟨rfl, HB.out⟩
  clear b0 b1 b2
  clear g0 g1 g2
  have b0 : w6.cell? ⟨w.heap.size, 0, none⟩ = some (.int .i64 km) := XM.out.cell 0
  have b1 : w6.cell? ⟨w.heap.size, 1, none⟩ = some (.int .i64 hm) := XM.out.cell 1
  have b2 : w6.cell? ⟨w.heap.size, 2, none⟩ = some (.slice Aw nw cw) := XM.out.cell 2
  have g0 : w6.cell? ⟨w.heap.size + 1, 0, none⟩ = some (.int .i64 ka) := XA.out.cell 0
  have g1 : w6.cell? ⟨w.heap.size + 1, 1, none⟩ = some (.int .i64 ha) := XA.out.cell 1
  have g2 : w6.cell? ⟨w.heap.size + 1, 2, none⟩ = some (.slice Ax nx cxx) := XA.out.cell 2
  cases r2
  · go_wp2_with fail
    go_ret
    exact ⟨rfl, HB.out⟩
  clear b0 b1 b2
  clear g0 g1 g2
  have b0 : w6.cell? ⟨w.heap.size, 0, none⟩ = some (.int .i64 km) := XM.out.cell 0
  have b1 : w6.cell? ⟨w.heap.size, 1, none⟩ = some (.int .i64 hm) := XM.out.cell 1
  have b2 : w6.cell? ⟨w.heap.size, 2, none⟩ = some (.slice Aw nw cw) := XM.out.cell 2
  have g0 : w6.cell? ⟨w.heap.size + 1, 0, none⟩ = some (.int .i64 ka) := XA.out.cell 0
  have g1 : w6.cell? ⟨w.heap.size + 1, 1, none⟩ = some (.int .i64 ha) := XA.out.cell 1
  have g2 : w6.cell? ⟨w.heap.size + 1, 2, none⟩ = some (.slice Ax nx cxx) := XA.out.cell 2
  cases r3
  · go_wp2_with fail
    go_ret
    exact ⟨rfl, HB.out⟩
  clear b0 b1 b2
  clear g0 g1 g2
  have b0 : w6.cell? ⟨w.heap.size, 0, none⟩ = some (.int .i64 km) := XM.out.cell 0
  have b1 : w6.cell? ⟨w.heap.size, 1, none⟩ = some (.int .i64 hm) := XM.out.cell 1
  have b2 : w6.cell? ⟨w.heap.size, 2, none⟩ = some (.slice Aw nw cw) := XM.out.cell 2
  have g0 : w6.cell? ⟨w.heap.size + 1, 0, none⟩ = some (.int .i64 ka) := XA.out.cell 0
  have g1 : w6.cell? ⟨w.heap.size + 1, 1, none⟩ = some (.int .i64 ha) := XA.out.cell 1
  have g2 : w6.cell? ⟨w.heap.size + 1, 2, none⟩ = some (.slice Ax nx cxx) := XA.out.cell 2
  cases r4
  · go_wp2_with fail
    go_ret
    exact ⟨rfl, HB.out⟩
  clear b0 b1 b2
  clear g0 g1 g2
  have b0 : w6.cell? ⟨w.heap.size, 0, none⟩ = some (.int .i64 km) := XM.out.cell 0
  have b1 : w6.cell? ⟨w.heap.size, 1, none⟩ = some (.int .i64 hm) := XM.out.cell 1
  have b2 : w6.cell? ⟨w.heap.size, 2, none⟩ = some (.slice Aw nw cw) := XM.out.cell 2
  have g0 : w6.cell? ⟨w.heap.size + 1, 0, none⟩ = some (.int .i64 ka) := XA.out.cell 0
  have g1 : w6.cell? ⟨w.heap.size + 1, 1, none⟩ = some (.int .i64 ha) := XA.out.cell 1
  have g2 : w6.cell? ⟨w.heap.size + 1, 2, none⟩ = some (.slice Ax nx cxx) := XA.out.cell 2
  cases r5
  · go_wp2_with fail
    go_ret
    exact ⟨rfl, HB.out⟩
  clear b0 b1 b2
  clear g0 g1 g2
  by_cases hnc : 40 < nc
  · have d1 : decide ((40 : Int) < (nc : Int)) = true := by simp; omega
    go_wp2_with fail
    go_ret
    exact ⟨rfl, HB.out⟩
  have d1 : decide ((40 : Int) < (nc : Int)) = false := by simp; omega
  have HL := Lib.hid (loV_of HR1.out)
  have HLD := Lib.hid (lo_pN HR1.out)
  have HLO := Lib.hid (lo_pN HR2.out)
  have HLT := Lib.hid (lw_lsN HR3.out)
  have HLM := Lib.hid (fun h => lo_lt HR4.out h)
  have HLA := Lib.hid (fun h => lo_lt HR5.out h)
  have HFN := Lib.hid (few_len HR1.out)
  clear HR1 HR2 HR3 HR4 HR5
  have b0 : w6.cell? ⟨w.heap.size, 0, none⟩ = some (.int .i64 km) := XM.out.cell 0
  have b1 : w6.cell? ⟨w.heap.size, 1, none⟩ = some (.int .i64 hm) := XM.out.cell 1
  have b2 : w6.cell? ⟨w.heap.size, 2, none⟩ = some (.slice Aw nw cw) := XM.out.cell 2
  have g0 : w6.cell? ⟨w.heap.size + 1, 0, none⟩ = some (.int .i64 ka) := XA.out.cell 0
  have g1 : w6.cell? ⟨w.heap.size + 1, 1, none⟩ = some (.int .i64 ha) := XA.out.cell 1
  have g2 : w6.cell? ⟨w.heap.size + 1, 2, none⟩ = some (.slice Ax nx cxx) := XA.out.cell 2
  go_wp2_with fail
  clear b0 b1 b2
  clear g0 g1 g2
  have HC := Lib.hid (ySigC sg As ns cs w6 (HS.out.keep HB.out) HL.out.sg)
  refine HC.out.mono ?_
  rintro e w7 ⟨rfl, hb1⟩
  replace XM := Lib.hid (XM.out.keep hb1 XM.out.lt)
  replace XA := Lib.hid (XA.out.keep hb1 XA.out.lt)
  replace HB := Lib.hid (HB.out.trans (hb1.mono HB.out.size))
  clear hb1 HC
  have b0 : w7.cell? ⟨w.heap.size, 0, none⟩ = some (.int .i64 km) := XM.out.cell 0
  have b1 : w7.cell? ⟨w.heap.size, 1, none⟩ = some (.int .i64 hm) := XM.out.cell 1
  have b2 : w7.cell? ⟨w.heap.size, 2, none⟩ = some (.slice Aw nw cw) := XM.out.cell 2
  have g0 : w7.cell? ⟨w.heap.size + 1, 0, none⟩ = some (.int .i64 ka) := XA.out.cell 0
  have g1 : w7.cell? ⟨w.heap.size + 1, 1, none⟩ = some (.int .i64 ha) := XA.out.cell 1
  have g2 : w7.cell? ⟨w.heap.size + 1, 2, none⟩ = some (.slice Ax nx cxx) := XA.out.cell 2
  go_wp2_with fail
  clear b0 b1 b2
  clear g0 g1 g2
  have HC := Lib.hid (dcC sg ds As ns cs Am nm cm w7 (HS.out.keep HB.out) (HD.out.keep HB.out) HL.out.sg HLD.out)
  refine HC.out.mono ?_
  rintro e w8 ⟨rfl, hb1⟩
  replace XM := Lib.hid (XM.out.keep hb1 XM.out.lt)
  replace XA := Lib.hid (XA.out.keep hb1 XA.out.lt)
  replace HB := Lib.hid (HB.out.trans (hb1.mono HB.out.size))
  clear hb1 HC
  have b0 : w8.cell? ⟨w.heap.size, 0, none⟩ = some (.int .i64 km) := XM.out.cell 0
  have b1 : w8.cell? ⟨w.heap.size, 1, none⟩ = some (.int .i64 hm) := XM.out.cell 1
  have b2 : w8.cell? ⟨w.heap.size, 2, none⟩ = some (.slice Aw nw cw) := XM.out.cell 2
  have g0 : w8.cell? ⟨w.heap.size + 1, 0, none⟩ = some (.int .i64 ka) := XA.out.cell 0
  have g1 : w8.cell? ⟨w.heap.size + 1, 1, none⟩ = some (.int .i64 ha) := XA.out.cell 1
  have g2 : w8.cell? ⟨w.heap.size + 1, 2, none⟩ = some (.slice Ax nx cxx) := XA.out.cell 2
  go_wp2_with fail
  clear b0 b1 b2
  clear g0 g1 g2
  have HC := Lib.hid (dcC sg over As ns cs Ao no co w8 (HS.out.keep HB.out) (HO.out.keep HB.out) HL.out.sg HLO.out)
  refine HC.out.mono ?_
  rintro e w9 ⟨rfl, hb1⟩
  replace XM := Lib.hid (XM.out.keep hb1 XM.out.lt)
  replace XA := Lib.hid (XA.out.keep hb1 XA.out.lt)
  replace HB := Lib.hid (HB.out.trans (hb1.mono HB.out.size))
  clear hb1 HC
  obtain ⟨e1, he1⟩ : ∃ r, (siV sg).2 = r := ⟨_, rfl⟩
  have HE1 := Lib.hid he1; clear he1
  try rw [HE1.out]
  have b0 : w9.cell? ⟨w.heap.size, 0, none⟩ = some (.int .i64 km) := XM.out.cell 0
  have b1 : w9.cell? ⟨w.heap.size, 1, none⟩ = some (.int .i64 hm) := XM.out.cell 1
  have b2 : w9.cell? ⟨w.heap.size, 2, none⟩ = some (.slice Aw nw cw) := XM.out.cell 2
  have g0 : w9.cell? ⟨w.heap.size + 1, 0, none⟩ = some (.int .i64 ka) := XA.out.cell 0
  have g1 : w9.cell? ⟨w.heap.size + 1, 1, none⟩ = some (.int .i64 ha) := XA.out.cell 1
  have g2 : w9.cell? ⟨w.heap.size + 1, 2, none⟩ = some (.slice Ax nx cxx) := XA.out.cell 2
  by_cases hz : e1 = 0
  case' neg =>
    have dz : (e1 != 0) = true := by simpa using hz
    clear hz
    go_wp2_with fail
    go_ret
    exact ⟨rfl, HB.out⟩
  have hz0 : (e1 != 0) = false := by simpa using hz
  subst hz
  clear hz0
  have dz : ((0 : Int) != 0) = false := by decide
  clear b0 b1 b2
  clear g0 g1 g2
  obtain ⟨e2, he2⟩ : ∃ r, (dcV sg ds).2 = r := ⟨_, rfl⟩
  have HE2 := Lib.hid he2; clear he2
  try rw [HE2.out]
  have b0 : w9.cell? ⟨w.heap.size, 0, none⟩ = some (.int .i64 km) := XM.out.cell 0
  have b1 : w9.cell? ⟨w.heap.size, 1, none⟩ = some (.int .i64 hm) := XM.out.cell 1
  have b2 : w9.cell? ⟨w.heap.size, 2, none⟩ = some (.slice Aw nw cw) := XM.out.cell 2
  have g0 : w9.cell? ⟨w.heap.size + 1, 0, none⟩ = some (.int .i64 ka) := XA.out.cell 0
  have g1 : w9.cell? ⟨w.heap.size + 1, 1, none⟩ = some (.int .i64 ha) := XA.out.cell 1
  have g2 : w9.cell? ⟨w.heap.size + 1, 2, none⟩ = some (.slice Ax nx cxx) := XA.out.cell 2
  by_cases hz : e2 = 0
  case' neg =>
    have dz : (e2 != 0) = true := by simpa using hz
    clear hz
    go_wp2_with fail
    go_ret
    exact ⟨rfl, HB.out⟩
  have hz0 : (e2 != 0) = false := by simpa using hz
  subst hz
  clear hz0
  have dz : ((0 : Int) != 0) = false := by decide
  clear b0 b1 b2
  clear g0 g1 g2
  obtain ⟨e3, he3⟩ : ∃ r, (dcV sg over).2 = r := ⟨_, rfl⟩
  have HE3 := Lib.hid he3; clear he3
  try rw [HE3.out]
  have b0 : w9.cell? ⟨w.heap.size, 0, none⟩ = some (.int .i64 km) := XM.out.cell 0
  have b1 : w9.cell? ⟨w.heap.size, 1, none⟩ = some (.int .i64 hm) := XM.out.cell 1
  have b2 : w9.cell? ⟨w.heap.size, 2, none⟩ = some (.slice Aw nw cw) := XM.out.cell 2
  have g0 : w9.cell? ⟨w.heap.size + 1, 0, none⟩ = some (.int .i64 ka) := XA.out.cell 0
  have g1 : w9.cell? ⟨w.heap.size + 1, 1, none⟩ = some (.int .i64 ha) := XA.out.cell 1
  have g2 : w9.cell? ⟨w.heap.size + 1, 2, none⟩ = some (.slice Ax nx cxx) := XA.out.cell 2
  by_cases hz : e3 = 0
  case' neg =>
    have dz : (e3 != 0) = true := by simpa using hz
    clear hz
    go_wp2_with fail
    go_ret
    exact ⟨rfl, HB.out⟩
  have hz0 : (e3 != 0) = false := by simpa using hz
  subst hz
  clear hz0
  have dz : ((0 : Int) != 0) = false := by decide
  clear b0 b1 b2
  clear g0 g1 g2
  have b0 : w9.cell? ⟨w.heap.size, 0, none⟩ = some (.int .i64 km) := XM.out.cell 0
  have b1 : w9.cell? ⟨w.heap.size, 1, none⟩ = some (.int .i64 hm) := XM.out.cell 1
  have b2 : w9.cell? ⟨w.heap.size, 2, none⟩ = some (.slice Aw nw cw) := XM.out.cell 2
  have g0 : w9.cell? ⟨w.heap.size + 1, 0, none⟩ = some (.int .i64 ka) := XA.out.cell 0
  have g1 : w9.cell? ⟨w.heap.size + 1, 1, none⟩ = some (.int .i64 ha) := XA.out.cell 1
  have g2 : w9.cell? ⟨w.heap.size + 1, 2, none⟩ = some (.slice Ax nx cxx) := XA.out.cell 2
  go_wp2_with fail
  clear b0 b1 b2
  clear g0 g1 g2
  have HC := Lib.hid (yCtxC ⟨sg, msP ds⟩ [] cx As ns cs Am nm cm none 0 0 Ac nc cc w9 ⟨HS.out.keep HB.out, HD.out.ml.keep HB.out, clv_nil _ _ _ (Nat.zero_le _)⟩ (HX.out.keep HB.out) (by rw [List.nil_append]; exact HL.out) (by omega))
  refine HC.out.mono ?_
  rintro e w10 ⟨rfl, hb1⟩
  replace XM := Lib.hid (XM.out.keep hb1 XM.out.lt)
  replace XA := Lib.hid (XA.out.keep hb1 XA.out.lt)
  replace HB := Lib.hid (HB.out.trans (hb1.mono HB.out.size))
  clear hb1 HC
  obtain ⟨e4, he4⟩ : ∃ r, ctV ⟨sg, msP ds⟩ [] cx = r := ⟨_, rfl⟩
  have HE4 := Lib.hid he4; clear he4
  try rw [HE4.out]
  have b0 : w10.cell? ⟨w.heap.size, 0, none⟩ = some (.int .i64 km) := XM.out.cell 0
  have b1 : w10.cell? ⟨w.heap.size, 1, none⟩ = some (.int .i64 hm) := XM.out.cell 1
  have b2 : w10.cell? ⟨w.heap.size, 2, none⟩ = some (.slice Aw nw cw) := XM.out.cell 2
  have g0 : w10.cell? ⟨w.heap.size + 1, 0, none⟩ = some (.int .i64 ka) := XA.out.cell 0
  have g1 : w10.cell? ⟨w.heap.size + 1, 1, none⟩ = some (.int .i64 ha) := XA.out.cell 1
  have g2 : w10.cell? ⟨w.heap.size + 1, 2, none⟩ = some (.slice Ax nx cxx) := XA.out.cell 2
  by_cases hz : e4 = 0
  case' neg =>
    have dz : (e4 != 0) = true := by simpa using hz
    clear hz
    go_wp2_with fail
    go_ret
    exact ⟨rfl, HB.out⟩
  have hz0 : (e4 != 0) = false := by simpa using hz
  subst hz
  clear hz0
  have dz : ((0 : Int) != 0) = false := by decide
  clear b0 b1 b2
  clear g0 g1 g2
  have b0 : w10.cell? ⟨w.heap.size, 0, none⟩ = some (.int .i64 km) := XM.out.cell 0
  have b1 : w10.cell? ⟨w.heap.size, 1, none⟩ = some (.int .i64 hm) := XM.out.cell 1
  have b2 : w10.cell? ⟨w.heap.size, 2, none⟩ = some (.slice Aw nw cw) := XM.out.cell 2
  have g0 : w10.cell? ⟨w.heap.size + 1, 0, none⟩ = some (.int .i64 ka) := XA.out.cell 0
  have g1 : w10.cell? ⟨w.heap.size + 1, 1, none⟩ = some (.int .i64 ha) := XA.out.cell 1
  have g2 : w10.cell? ⟨w.heap.size + 1, 2, none⟩ = some (.slice Ax nx cxx) := XA.out.cell 2
  go_wp2_with fail
  clear b0 b1 b2
  clear g0 g1 g2
  have HC := Lib.hid (vCheckTypeC ⟨sg, msP ds⟩ cx a As ns cs Am nm cm Ac nc cc _ w10 ⟨HS.out.keep HB.out, HD.out.ml.keep HB.out, HX.out.keep HB.out⟩ (Rd.keep HB.out _ _ HVA.out) HL.out HLA.out)
  refine HC.out.mono ?_
  rintro e w11 ⟨rfl, hb1⟩
  replace XM := Lib.hid (XM.out.keep hb1 XM.out.lt)
  replace XA := Lib.hid (XA.out.keep hb1 XA.out.lt)
  replace HB := Lib.hid (HB.out.trans (hb1.mono HB.out.size))
  clear hb1 HC
  obtain ⟨e5, he5⟩ : ∃ r, ckTy ⟨sg, msP ds⟩ cx a = r := ⟨_, rfl⟩
  have HE5 := Lib.hid he5; clear he5
  try rw [HE5.out]
  have b0 : w11.cell? ⟨w.heap.size, 0, none⟩ = some (.int .i64 km) := XM.out.cell 0
  have b1 : w11.cell? ⟨w.heap.size, 1, none⟩ = some (.int .i64 hm) := XM.out.cell 1
  have b2 : w11.cell? ⟨w.heap.size, 2, none⟩ = some (.slice Aw nw cw) := XM.out.cell 2
  have g0 : w11.cell? ⟨w.heap.size + 1, 0, none⟩ = some (.int .i64 ka) := XA.out.cell 0
  have g1 : w11.cell? ⟨w.heap.size + 1, 1, none⟩ = some (.int .i64 ha) := XA.out.cell 1
  have g2 : w11.cell? ⟨w.heap.size + 1, 2, none⟩ = some (.slice Ax nx cxx) := XA.out.cell 2
  by_cases hz : e5 = 0
  case' neg =>
    have dz : (e5 != 0) = true := by simpa using hz
    clear hz
    go_wp2_with fail
    go_ret
    exact ⟨rfl, HB.out⟩
  have hz0 : (e5 != 0) = false := by simpa using hz
  subst hz
  clear hz0
  have dz : ((0 : Int) != 0) = false := by decide
  clear b0 b1 b2
  clear g0 g1 g2
  have b0 : w11.cell? ⟨w.heap.size, 0, none⟩ = some (.int .i64 km) := XM.out.cell 0
  have b1 : w11.cell? ⟨w.heap.size, 1, none⟩ = some (.int .i64 hm) := XM.out.cell 1
  have b2 : w11.cell? ⟨w.heap.size, 2, none⟩ = some (.slice Aw nw cw) := XM.out.cell 2
  have g0 : w11.cell? ⟨w.heap.size + 1, 0, none⟩ = some (.int .i64 ka) := XA.out.cell 0
  have g1 : w11.cell? ⟨w.heap.size + 1, 1, none⟩ = some (.int .i64 ha) := XA.out.cell 1
  have g2 : w11.cell? ⟨w.heap.size + 1, 2, none⟩ = some (.slice Ax nx cxx) := XA.out.cell 2
  go_wp2_with fail
  clear b0 b1 b2
  clear g0 g1 g2
  have HC := Lib.hid (vCheckTermC ⟨sg, msP ds⟩ cx m a As ns cs Am nm cm Ac nc cc _ _ w11 ⟨HS.out.keep HB.out, HD.out.ml.keep HB.out, HX.out.keep HB.out⟩ (Rd.keep HB.out _ _ HVM.out) (Rd.keep HB.out _ _ HVA.out) HL.out HLM.out HLA.out)
  refine HC.out.mono ?_
  rintro e w12 ⟨rfl, hb1⟩
  replace XM := Lib.hid (XM.out.keep hb1 XM.out.lt)
  replace XA := Lib.hid (XA.out.keep hb1 XA.out.lt)
  replace HB := Lib.hid (HB.out.trans (hb1.mono HB.out.size))
  clear hb1 HC
  obtain ⟨e6, he6⟩ : ∃ r, ckT ⟨sg, msP ds⟩ cx m a = r := ⟨_, rfl⟩
  have HE6 := Lib.hid he6; clear he6
  try rw [HE6.out]
  have b0 : w12.cell? ⟨w.heap.size, 0, none⟩ = some (.int .i64 km) := XM.out.cell 0
  have b1 : w12.cell? ⟨w.heap.size, 1, none⟩ = some (.int .i64 hm) := XM.out.cell 1
  have b2 : w12.cell? ⟨w.heap.size, 2, none⟩ = some (.slice Aw nw cw) := XM.out.cell 2
  have g0 : w12.cell? ⟨w.heap.size + 1, 0, none⟩ = some (.int .i64 ka) := XA.out.cell 0
  have g1 : w12.cell? ⟨w.heap.size + 1, 1, none⟩ = some (.int .i64 ha) := XA.out.cell 1
  have g2 : w12.cell? ⟨w.heap.size + 1, 2, none⟩ = some (.slice Ax nx cxx) := XA.out.cell 2
  by_cases hz : e6 = 0
  case' neg =>
    have dz : (e6 != 0) = true := by simpa using hz
    clear hz
    go_wp2_with fail
    go_ret
    exact ⟨rfl, HB.out⟩
  have hz0 : (e6 != 0) = false := by simpa using hz
  subst hz
  clear hz0
  have dz : ((0 : Int) != 0) = false := by decide
  clear b0 b1 b2
  clear g0 g1 g2
  have b0 : w12.cell? ⟨w.heap.size, 0, none⟩ = some (.int .i64 km) := XM.out.cell 0
  have b1 : w12.cell? ⟨w.heap.size, 1, none⟩ = some (.int .i64 hm) := XM.out.cell 1
  have b2 : w12.cell? ⟨w.heap.size, 2, none⟩ = some (.slice Aw nw cw) := XM.out.cell 2
  have g0 : w12.cell? ⟨w.heap.size + 1, 0, none⟩ = some (.int .i64 ka) := XA.out.cell 0
  have g1 : w12.cell? ⟨w.heap.size + 1, 1, none⟩ = some (.int .i64 ha) := XA.out.cell 1
  have g2 : w12.cell? ⟨w.heap.size + 1, 2, none⟩ = some (.slice Ax nx cxx) := XA.out.cell 2
  go_wp2_with fail
  clear b0 b1 b2
  clear g0 g1 g2
  have HC := Lib.hid (suC sg over [] ds theta As ns cs Ao no co none 0 0 Am nm cm At nt ct w12 (HS.out.keep HB.out) (HO.out.keep HB.out) (clv_nil _ _ _ (Nat.zero_le _)) (HD.out.keep HB.out) (HT.out.keep HB.out) ⟨HL.out.sg, (LoP.ms HLO.out), (fun t ht => by cases ht)⟩ HLD.out HLT.out.1 (by omega))
  refine HC.out.mono ?_
  rintro e w13 ⟨rfl, hb1⟩
  replace XM := Lib.hid (XM.out.keep hb1 XM.out.lt)
  replace XA := Lib.hid (XA.out.keep hb1 XA.out.lt)
  replace HB := Lib.hid (HB.out.trans (hb1.mono HB.out.size))
  clear hb1 HC
  obtain ⟨e7, he7⟩ : ∃ r, suV sg over [] ds theta = r := ⟨_, rfl⟩
  have HE7 := Lib.hid he7; clear he7
  try rw [HE7.out]
  have b0 : w13.cell? ⟨w.heap.size, 0, none⟩ = some (.int .i64 km) := XM.out.cell 0
  have b1 : w13.cell? ⟨w.heap.size, 1, none⟩ = some (.int .i64 hm) := XM.out.cell 1
  have b2 : w13.cell? ⟨w.heap.size, 2, none⟩ = some (.slice Aw nw cw) := XM.out.cell 2
  have g0 : w13.cell? ⟨w.heap.size + 1, 0, none⟩ = some (.int .i64 ka) := XA.out.cell 0
  have g1 : w13.cell? ⟨w.heap.size + 1, 1, none⟩ = some (.int .i64 ha) := XA.out.cell 1
  have g2 : w13.cell? ⟨w.heap.size + 1, 2, none⟩ = some (.slice Ax nx cxx) := XA.out.cell 2
  by_cases hz : e7 = 0
  case' neg =>
    have dz : (e7 != 0) = true := by simpa using hz
    clear hz
    go_wp2_with fail
    go_ret
    exact ⟨rfl, HB.out⟩
  have hz0 : (e7 != 0) = false := by simpa using hz
  subst hz
  clear hz0
  have dz : ((0 : Int) != 0) = false := by decide
  clear b0 b1 b2
  clear g0 g1 g2
  have HFO := Lib.hid (filled_ok HE1.out HE2.out HE3.out HE4.out HE5.out HE6.out HE7.out)
  clear HE1 HE2 HE3 HE4 HE5 HE6 HE7
  have HTH : Hid (∀ W' : World, Below w.heap.size w W' → ThI theta W' At nt ct) := Lib.hid fun W' h' => ⟨fun x hx hm => okT_mono (by unfold loV; omega) _ (HLT.out.1 x hx hm), (HT.out.keep h').len, (HT.out.keep h').le, (HT.out.keep h').cap, (HT.out.keep h').at_⟩
  subst hcl
  have b0 : w13.cell? ⟨w.heap.size, 0, none⟩ = some (.int .i64 km) := XM.out.cell 0
  have b1 : w13.cell? ⟨w.heap.size, 1, none⟩ = some (.int .i64 hm) := XM.out.cell 1
  have b2 : w13.cell? ⟨w.heap.size, 2, none⟩ = some (.slice Aw nw cw) := XM.out.cell 2
  have g0 : w13.cell? ⟨w.heap.size + 1, 0, none⟩ = some (.int .i64 ka) := XA.out.cell 0
  have g1 : w13.cell? ⟨w.heap.size + 1, 1, none⟩ = some (.int .i64 ha) := XA.out.cell 1
  have g2 : w13.cell? ⟨w.heap.size + 1, 2, none⟩ = some (.slice Ax nx cxx) := XA.out.cell 2
  go_wp2_with fail
  clear b0 b1 b2
  clear g0 g1 g2
  have HC := Lib.hid (CtxC (n := 0) w13 (HTH.out _ HB.out) rfl hcle hccap (by omega) (HX.out.keep HB.out).at_ (fun x hx hm => okT_mono (by unfold loV; omega) _ (HL.out.cx x hx hm)))
  refine HC.out.mono ?_
  intro e w14 hE
  obtain ⟨A9, n9, c9, f1, rfl, hb1, hq⟩ : ∃ A9 n9 c9 f1, e = .returned (.tuple #[.slice A9 n9 c9, .int .i64 f1]) ∧ Below w13.heap.size w13 w14 ∧ ((f1 = 4 ∧ cxL theta 0 cx = .error 4) ∨ (f1 = 0 ∧ ∃ l c, cxL theta 0 cx = .ok (l, c) ∧ CLV w14 l A9 n9 c9)) := by
    rcases HFO.out.1 with h4 | ⟨l, c, h4, _⟩
    · rw [h4] at hE
      obtain ⟨rfl, _, hb⟩ := hE
      exact ⟨_, _, _, _, rfl, hb, .inl ⟨rfl, h4⟩⟩
    · rw [h4] at hE
      obtain ⟨A, n, cq, rfl, hr, hb⟩ := hE
      exact ⟨_, _, _, _, rfl, hb, .inr ⟨rfl, l, c, h4, rxl_anyN hr⟩⟩
  have HQ1 := Lib.hid hq; clear hq hE HC
  replace XM := Lib.hid (XM.out.keep hb1 XM.out.lt)
  replace XA := Lib.hid (XA.out.keep hb1 XA.out.lt)
  replace HB := Lib.hid (HB.out.trans (hb1.mono HB.out.size))
  clear hb1
  have b0 : w14.cell? ⟨w.heap.size, 0, none⟩ = some (.int .i64 km) := XM.out.cell 0
  have b1 : w14.cell? ⟨w.heap.size, 1, none⟩ = some (.int .i64 hm) := XM.out.cell 1
  have b2 : w14.cell? ⟨w.heap.size, 2, none⟩ = some (.slice Aw nw cw) := XM.out.cell 2
  have g0 : w14.cell? ⟨w.heap.size + 1, 0, none⟩ = some (.int .i64 ka) := XA.out.cell 0
  have g1 : w14.cell? ⟨w.heap.size + 1, 1, none⟩ = some (.int .i64 ha) := XA.out.cell 1
  have g2 : w14.cell? ⟨w.heap.size + 1, 2, none⟩ = some (.slice Ax nx cxx) := XA.out.cell 2
  go_wp2_with fail
  clear b0 b1 b2
  clear g0 g1 g2
  have HC := Lib.hid (FillC (n := (cx.length : Nat)) w14 (HTH.out _ HB.out) (Rd.keep HB.out _ _ HVM.out) (fun h => okT_mono (by unfold loV; omega) _ (HLM.out h)))
  refine HC.out.mono ?_
  intro e w15 hE
  obtain ⟨k2, h2, A2, n2, c2, f2, rfl, hb1, hq⟩ : ∃ k h A n c f, e = .returned (.tuple #[.agg #[.int .i64 k, .int .i64 h, .slice A n c], .int .i64 f]) ∧ Below w14.heap.size w14 w15 ∧ ((f = 4 ∧ fiR theta cx.length m = .error 4) ∨ (f = 0 ∧ ∃ x, fiR theta cx.length m = .ok x ∧ Rd w15 x (.agg #[.int .i64 k, .int .i64 h, .slice A n c]))) := by
    rcases HFO.out.2.1 with h4 | ⟨x, h4, _⟩
    · rw [h4] at hE
      obtain ⟨rfl, _, hb⟩ := hE
      exact ⟨0, 0, none, 0, 0, _, rfl, hb, .inl ⟨rfl, h4⟩⟩
    · rw [h4] at hE
      obtain ⟨k, h, A, n, c, rfl, hr, hb⟩ := (show TEnd x 0 w14 e w15 from hE)
      exact ⟨_, _, _, _, _, _, rfl, hb, .inr ⟨rfl, x, h4, RdF.rd _ _ hr⟩⟩
  have HQ2 := Lib.hid hq; clear hq hE HC
  replace HQ1 := Lib.hid (show (f1 = 4 ∧ cxL theta 0 cx = .error 4) ∨ (f1 = 0 ∧ ∃ l c, cxL theta 0 cx = .ok (l, c) ∧ CLV w15 l A9 n9 c9) from HQ1.out.imp id (fun h => ⟨h.1, by obtain ⟨l, c, e, hc⟩ := h.2; exact ⟨l, c, e, hc.keep hb1⟩⟩))
  replace XM := Lib.hid (XM.out.keep hb1 XM.out.lt)
  replace XA := Lib.hid (XA.out.keep hb1 XA.out.lt)
  replace HB := Lib.hid (HB.out.trans (hb1.mono HB.out.size))
  clear hb1
  obtain ⟨w16, hW⟩ : ∃ W, w15.alloc (.cells #[.int .i64 k2, .int .i64 h2, .slice A2 n2 c2] 26) = W := ⟨_, rfl⟩
  have hb1 : Below w15.heap.size w15 w16 := by rw [← hW]; exact (Below.refl _ _).alloc (Nat.le_refl _) _
  have X2 := Lib.hid (show Box w16 w15.heap.size 26 #[.int .i64 k2, .int .i64 h2, .slice A2 n2 c2] by rw [← hW]; exact Box.new _ _ _)
  replace HQ1 := Lib.hid (show (f1 = 4 ∧ cxL theta 0 cx = .error 4) ∨ (f1 = 0 ∧ ∃ l c, cxL theta 0 cx = .ok (l, c) ∧ CLV w16 l A9 n9 c9) from HQ1.out.imp id (fun h => ⟨h.1, by obtain ⟨l, c, e, hc⟩ := h.2; exact ⟨l, c, e, hc.keep hb1⟩⟩))
  replace HQ2 := Lib.hid (show (f2 = 4 ∧ fiR theta cx.length m = .error 4) ∨ (f2 = 0 ∧ ∃ x, fiR theta cx.length m = .ok x ∧ Rd w16 x (.agg #[.int .i64 k2, .int .i64 h2, .slice A2 n2 c2])) from HQ2.out.imp id (fun h => ⟨h.1, by obtain ⟨x, e, hc⟩ := h.2; exact ⟨x, e, Rd.keep hb1 _ _ hc⟩⟩))
  replace XM := Lib.hid (XM.out.keep hb1 XM.out.lt)
  replace XA := Lib.hid (XA.out.keep hb1 XA.out.lt)
  replace HB := Lib.hid (HB.out.trans (hb1.mono HB.out.size))
  clear hb1
  have b0 : w16.cell? ⟨w.heap.size, 0, none⟩ = some (.int .i64 km) := XM.out.cell 0
  have b1 : w16.cell? ⟨w.heap.size, 1, none⟩ = some (.int .i64 hm) := XM.out.cell 1
  have b2 : w16.cell? ⟨w.heap.size, 2, none⟩ = some (.slice Aw nw cw) := XM.out.cell 2
  have g0 : w16.cell? ⟨w.heap.size + 1, 0, none⟩ = some (.int .i64 ka) := XA.out.cell 0
  have g1 : w16.cell? ⟨w.heap.size + 1, 1, none⟩ = some (.int .i64 ha) := XA.out.cell 1
  have g2 : w16.cell? ⟨w.heap.size + 1, 2, none⟩ = some (.slice Ax nx cxx) := XA.out.cell 2
  have y0 : w16.cell? ⟨w15.heap.size, 0, none⟩ = some (.int .i64 k2) := X2.out.cell 0
  have y1 : w16.cell? ⟨w15.heap.size, 1, none⟩ = some (.int .i64 h2) := X2.out.cell 1
  have y2 : w16.cell? ⟨w15.heap.size, 2, none⟩ = some (.slice A2 n2 c2) := X2.out.cell 2
  go_wp2_with fail
  try rw [hW]
  clear hW
  try go_wp2_with fail
  clear b0 b1 b2
  clear g0 g1 g2
  clear y0 y1 y2
  have HC := Lib.hid (FillC (n := (cx.length : Nat)) w16 (HTH.out _ HB.out) (Rd.keep HB.out _ _ HVA.out) (fun h => okT_mono (by unfold loV; omega) _ (HLA.out h)))
  refine HC.out.mono ?_
  intro e w17 hE
  obtain ⟨k3, h3, A3, n3, c3, f3, rfl, hb1, hq⟩ : ∃ k h A n c f, e = .returned (.tuple #[.agg #[.int .i64 k, .int .i64 h, .slice A n c], .int .i64 f]) ∧ Below w16.heap.size w16 w17 ∧ ((f = 4 ∧ fiR theta cx.length a = .error 4) ∨ (f = 0 ∧ ∃ x, fiR theta cx.length a = .ok x ∧ Rd w17 x (.agg #[.int .i64 k, .int .i64 h, .slice A n c]))) := by
    rcases HFO.out.2.2.1 with h4 | ⟨x, h4, _⟩
    · rw [h4] at hE
      obtain ⟨rfl, _, hb⟩ := hE
      exact ⟨0, 0, none, 0, 0, _, rfl, hb, .inl ⟨rfl, h4⟩⟩
    · rw [h4] at hE
      obtain ⟨k, h, A, n, c, rfl, hr, hb⟩ := (show TEnd x 0 w16 e w17 from hE)
      exact ⟨_, _, _, _, _, _, rfl, hb, .inr ⟨rfl, x, h4, RdF.rd _ _ hr⟩⟩
  have HQ3 := Lib.hid hq; clear hq hE HC
  replace HQ1 := Lib.hid (show (f1 = 4 ∧ cxL theta 0 cx = .error 4) ∨ (f1 = 0 ∧ ∃ l c, cxL theta 0 cx = .ok (l, c) ∧ CLV w17 l A9 n9 c9) from HQ1.out.imp id (fun h => ⟨h.1, by obtain ⟨l, c, e, hc⟩ := h.2; exact ⟨l, c, e, hc.keep hb1⟩⟩))
  replace HQ2 := Lib.hid (show (f2 = 4 ∧ fiR theta cx.length m = .error 4) ∨ (f2 = 0 ∧ ∃ x, fiR theta cx.length m = .ok x ∧ Rd w17 x (.agg #[.int .i64 k2, .int .i64 h2, .slice A2 n2 c2])) from HQ2.out.imp id (fun h => ⟨h.1, by obtain ⟨x, e, hc⟩ := h.2; exact ⟨x, e, Rd.keep hb1 _ _ hc⟩⟩))
  replace XM := Lib.hid (XM.out.keep hb1 XM.out.lt)
  replace XA := Lib.hid (XA.out.keep hb1 XA.out.lt)
  replace HB := Lib.hid (HB.out.trans (hb1.mono HB.out.size))
  replace X2 := Lib.hid (X2.out.keep hb1 X2.out.lt)
  clear hb1
  obtain ⟨w18, hW⟩ : ∃ W, w17.alloc (.cells #[.int .i64 k3, .int .i64 h3, .slice A3 n3 c3] 26) = W := ⟨_, rfl⟩
  have hb1 : Below w17.heap.size w17 w18 := by rw [← hW]; exact (Below.refl _ _).alloc (Nat.le_refl _) _
  have X3 := Lib.hid (show Box w18 w17.heap.size 26 #[.int .i64 k3, .int .i64 h3, .slice A3 n3 c3] by rw [← hW]; exact Box.new _ _ _)
  replace X2 := Lib.hid (X2.out.keep hb1 X2.out.lt)
  replace HQ1 := Lib.hid (show (f1 = 4 ∧ cxL theta 0 cx = .error 4) ∨ (f1 = 0 ∧ ∃ l c, cxL theta 0 cx = .ok (l, c) ∧ CLV w18 l A9 n9 c9) from HQ1.out.imp id (fun h => ⟨h.1, by obtain ⟨l, c, e, hc⟩ := h.2; exact ⟨l, c, e, hc.keep hb1⟩⟩))
  replace HQ2 := Lib.hid (show (f2 = 4 ∧ fiR theta cx.length m = .error 4) ∨ (f2 = 0 ∧ ∃ x, fiR theta cx.length m = .ok x ∧ Rd w18 x (.agg #[.int .i64 k2, .int .i64 h2, .slice A2 n2 c2])) from HQ2.out.imp id (fun h => ⟨h.1, by obtain ⟨x, e, hc⟩ := h.2; exact ⟨x, e, Rd.keep hb1 _ _ hc⟩⟩))
  replace HQ3 := Lib.hid (show (f3 = 4 ∧ fiR theta cx.length a = .error 4) ∨ (f3 = 0 ∧ ∃ x, fiR theta cx.length a = .ok x ∧ Rd w18 x (.agg #[.int .i64 k3, .int .i64 h3, .slice A3 n3 c3])) from HQ3.out.imp id (fun h => ⟨h.1, by obtain ⟨x, e, hc⟩ := h.2; exact ⟨x, e, Rd.keep hb1 _ _ hc⟩⟩))
  replace XM := Lib.hid (XM.out.keep hb1 XM.out.lt)
  replace XA := Lib.hid (XA.out.keep hb1 XA.out.lt)
  replace HB := Lib.hid (HB.out.trans (hb1.mono HB.out.size))
  clear hb1
  have y0 : w18.cell? ⟨w15.heap.size, 0, none⟩ = some (.int .i64 k2) := X2.out.cell 0
  have y1 : w18.cell? ⟨w15.heap.size, 1, none⟩ = some (.int .i64 h2) := X2.out.cell 1
  have y2 : w18.cell? ⟨w15.heap.size, 2, none⟩ = some (.slice A2 n2 c2) := X2.out.cell 2
  have z0 : w18.cell? ⟨w17.heap.size, 0, none⟩ = some (.int .i64 k3) := X3.out.cell 0
  have z1 : w18.cell? ⟨w17.heap.size, 1, none⟩ = some (.int .i64 h3) := X3.out.cell 1
  have z2 : w18.cell? ⟨w17.heap.size, 2, none⟩ = some (.slice A3 n3 c3) := X3.out.cell 2
  by_cases hf : f1 = 0 ∧ f2 = 0 ∧ f3 = 0
  case' neg =>
    have h1 : f1 = 4 ∨ f1 = 0 := HQ1.out.imp (·.1) (·.1)
    have h2 : f2 = 4 ∨ f2 = 0 := HQ2.out.imp (·.1) (·.1)
    have h3 : f3 = 4 ∨ f3 = 0 := HQ3.out.imp (·.1) (·.1)
    rcases h1 with rfl | rfl <;> rcases h2 with rfl | rfl <;> rcases h3 with rfl | rfl <;> first | exact absurd ⟨rfl, rfl, rfl⟩ hf | skip
    all_goals clear hf
    all_goals go_wp2_with fail
    all_goals try rw [hW]
    all_goals try clear hW
    all_goals try go_wp2_with fail
    all_goals go_ret
    all_goals exact ⟨rfl, HB.out⟩
  obtain ⟨rfl, rfl, rfl⟩ := hf
  obtain ⟨l, cq, hl, hcl⟩ : ∃ l c, cxL theta 0 cx = .ok (l, c) ∧ CLV w18 l A9 n9 c9 := by
    rcases HQ1.out with ⟨h, _⟩ | ⟨_, h⟩
    · cases h
    · exact h
  obtain ⟨x, hx, hrx⟩ : ∃ x, fiR theta cx.length m = .ok x ∧ Rd w18 x (.agg #[.int .i64 k2, .int .i64 h2, .slice A2 n2 c2]) := by
    rcases HQ2.out with ⟨h, _⟩ | ⟨_, h⟩
    · cases h
    · exact h
  obtain ⟨b, hb, hrb⟩ : ∃ x, fiR theta cx.length a = .ok x ∧ Rd w18 x (.agg #[.int .i64 k3, .int .i64 h3, .slice A3 n3 c3]) := by
    rcases HQ3.out with ⟨h, _⟩ | ⟨_, h⟩
    · cases h
    · exact h
  obtain ⟨q1, q2, q3, q4⟩ := HFO.out
  have hlow : ∀ e ∈ l, okT loV e := by
    rcases q1 with h | ⟨l', c', h, _, hh⟩
    · rw [hl] at h; cases h
    · rw [hl] at h; cases h; exact hh
  have hlx : okT loV x := by
    rcases q2 with h | ⟨x', h, hh⟩
    · rw [hx] at h; cases h
    · rw [hx] at h; cases h; exact hh
  have hlb : okT loV b := by
    rcases q3 with h | ⟨x', h, hh⟩
    · rw [hb] at h; cases h
    · rw [hb] at h; cases h; exact hh
  have hck := q4 l cq x b hl hx hb
  have HCK := Lib.hid (vCheckTermC ⟨sg, msP over⟩ l x b As ns cs Ao no co A9 n9 c9 _ _ w18 ⟨HS.out.keep HB.out, HO.out.ml.keep HB.out, hcl⟩ hrx hrb ⟨HL.out.sg, LoP.ms HLO.out, fun e he _ => hlow e he⟩ (fun _ => hlx) (fun _ => hlb))
  clear hcl hrx hrb hlow hlx hlb q1 q2 q3 q4 hl hx hb HQ1 HQ2 HQ3 HFO HTH
  generalize ckT ⟨sg, msP over⟩ l x b = rk at *
  try rw [hW]
  go_wp2_with fail
  try rw [hW]
  try clear hW
  try go_wp2_with fail
  refine HCK.out.mono ?_
  rintro e wz ⟨rfl, hb1⟩
  replace HB := Lib.hid (HB.out.trans (hb1.mono HB.out.size))
  clear hb1 HCK y0 y1 y2 z0 z1 z2
  rcases hck with rfl | rfl
  · go_wp2_with fail
    go_ret
    exact ⟨rfl, HB.out⟩
  · go_wp2_with fail
    go_ret
    exact ⟨rfl, HB.out⟩
theorem metasFilledM (sg : List T) (ms mo : List (List T × T)) (theta cx : List T) (m a : T) (As : Option Addr) (ns cs : Nat) (Am : Option Addr) (nm cm : Nat) (Ao : Option Addr) (no co : Nat) (At : Option Addr) (nt ct : Nat) (Ac : Option Addr) (nc cc : Nat) (vm va : Value) (w : World)
    (hs : DL w sg As ns cs) (hd : ML w ms Am nm cm) (ho : ML w mo Ao no co) (ht : CLV w theta At nt ct) (hx : CLV w cx Ac nc cc) (hvm : Rd w m vm) (hva : Rd w a va) :
    Calls Try.prog 6 #[.slice As ns cs, .slice Am nm cm, .slice Ao no co, .slice At nt ct, .slice Ac nc cc, vm, va] w fun e w' => e = .returned (.bool true) ∧ Below w.heap.size w w' := by
  obtain ⟨ds, hds, _⟩ := hd.pl
  obtain ⟨os, hos, _⟩ := ho.pl
  exact metasFilledC sg ds os theta cx m a As ns cs Am nm cm Ao no co At nt ct Ac nc cc vm va w hs hds hos ht hx hvm hva
end Go.Proofs.Ytloeainlpcnhnaa
