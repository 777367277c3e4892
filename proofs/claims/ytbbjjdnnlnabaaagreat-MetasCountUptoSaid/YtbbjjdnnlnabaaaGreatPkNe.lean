/- Texts of one proof, put together. No statement is proved here. -/
import Derived.Test.YtbbjjdnnlnabaaaGreatPkN
import Derived.Test.YtbbjjdnnlnabaaaGreatPkY
import Derived.Test.YtbbjjdnnlnabaaaGreatPkKl
import Derived.Test.YtbbjjdnnlnabaaaGreatPkVj
namespace Go.Proofs.YtbbjjdnnlnabaaaGreat
open Go.ChangeShapes Go.WideShapes Go.ChangeAt Go.RowKit
set_option linter.unusedVariables false
set_option linter.unusedSimpArgs false
def fiG {α : Type} (g : Nat → α → Int) : Nat → List α → Nat × Int
  | _, [] => (0, 0)
  | i, x :: xs => if g i x = 0 then fiG g (i + 1) xs else (i, g i x)
theorem fiG_zero {α : Type} {g : Nat → α → Int} : ∀ (l : List α) (i : Nat), (fiG g i l).2 = 0 ↔ ∀ j x, l[j]? = some x → g (i + j) x = 0
  | [], i => ⟨fun _ j x hx => by simp at hx, fun _ => rfl⟩
  | y :: l, i => by
    rw [fiG]
    by_cases h : g i y = 0
    · rw [if_pos h, fiG_zero l (i + 1)]
      constructor
      · intro hh j x hx
        cases j with
        | zero => simp at hx; subst hx; exact h
        | succ j =>
          have := hh j x (by simpa using hx)
          rwa [show i + 1 + j = i + (j + 1) by omega] at this
      · intro hh j x hx
        have := hh (j + 1) x (by simpa using hx)
        rwa [show i + (j + 1) = i + 1 + j by omega] at this
    · rw [if_neg h]
      constructor
      · intro hh; exact absurd hh h
      · intro hh
        have := hh 0 y rfl
        exact absurd this h
theorem fiG_none {α : Type} {g : Nat → α → Int} : ∀ (l : List α) (i : Nat), (∀ j x, l[j]? = some x → g (i + j) x = 0) → fiG g i l = (0, 0)
  | [], i, _ => rfl
  | y :: l, i, h => by
    rw [fiG, if_pos (show g i y = 0 from h 0 y rfl)]
    exact fiG_none l (i + 1) fun j x hx => by
      have := h (j + 1) x (by simpa using hx)
      rwa [show i + (j + 1) = i + 1 + j by omega] at this
theorem fiG_first {α : Type} {g : Nat → α → Int} {e : Int} (he : e ≠ 0) : ∀ (l : List α) (i k : Nat) (y : α), (∀ j x, j < k → l[j]? = some x → g (i + j) x = 0) → l[k]? = some y → g (i + k) y = e → fiG g i l = (i + k, e)
  | [], i, k, y, _, h, _ => by simp at h
  | x :: l, i, k, y, h, hk, hg => by
    rw [fiG]
    cases k with
    | zero =>
      simp at hk
      subst hk
      rw [Nat.add_zero] at hg
      rw [if_neg (by rw [hg]; exact he), hg]
      rfl
    | succ k =>
      rw [if_pos (show g i x = 0 from h 0 x (by omega) rfl), fiG_first he l (i + 1) k y (fun j x hj hx => by
        have := h (j + 1) x (by omega) (by simpa using hx)
        rwa [show i + (j + 1) = i + 1 + j by omega] at this) (by simpa using hk) (by rwa [show i + 1 + k = i + (k + 1) by omega])]
      rw [show i + 1 + k = i + (k + 1) by omega]
def deV (W : WV) (d : MP) : Int :=
  if ctV W [] d.1.1 = 0 then (if kdQ d.1.2 = 2 ∧ (d.2 = true → d.1.1.length = 0) then ckTy W d.1.1 d.1.2 else 1) else ctV W [] d.1.1
def dcV (sg : List T) (ds : List MP) : Nat × Int := if 40 < ds.length then (0, 4) else fiG (fun i d => deV ⟨sg, msP (ds.take i)⟩ d) 0 ds
def vaV (l : List MP) : T → Bool
  | .node k h xs => (k == 4 && xs.length == 0) || (k == 6 && (l.getD h.toNat (([], .node 0 0 []), false)).2)
def plV (W : WV) (l : List MP) (ext dn : List T) (d : MP) (t : T) : Int :=
  match cxL dn 0 d.1.1 with
  | .error e => e
  | .ok (cx, _) => match fiR dn cx.length d.1.2 with
    | .error e => e
    | .ok a => if ckT W (ext ++ cx) t a = 0 then (if d.2 = true ∧ vaV l t = false then 3 else 0) else ckT W (ext ++ cx) t a
def noMP : MP := (([], .node 0 0 []), false)
def suV (sg : List T) (l : List MP) (ext : List T) (delta : List MP) (theta : List T) : Int :=
  if 40 < delta.length then 4 else if theta.length = delta.length then (fiG (fun i t => plV ⟨sg, msP l⟩ l ext (theta.take i) (delta.getD i noMP) t) 0 theta).2 else 3
theorem wrap_smallN {x : Int} (h0 : 0 ≤ x) (h1 : x ≤ 1000000) : wrap64 x = x := by
  unfold wrap64
  omega
set_option maxRecDepth 100000
set_option maxHeartbeats 8000000
theorem vCheckTermB {B : Int} (hB : B ≤ 70368744177664) (W : WV) (cx : List T) (m a : T) (As : Option Addr) (ns cs : Nat) (Am : Option Addr) (nm cm : Nat) (Ac : Option Addr) (nc cc : Nat) (vm va : Value) (w : World) (hk : CkV w W cx As ns cs Am nm cm Ac nc cc) (hm : Rd w m vm) (ha : Rd w a va)
    (hL : mayV W cx [m, a] = true → EnvV W cx B) (hlm : myB m = true → okT loV m) (hla : myB a = true → okT B a) :
    Calls Tryz.prog 37 #[.slice As ns cs, .slice Am nm cm, .slice Ac nc cc, vm, va] w fun e w' => e = .returned (.int .i64 (ckT W cx m a)) ∧ Below w.heap.size w w' := by
  obtain ⟨k, h, A, n, c, rfl⟩ := hm.full
  obtain ⟨k2, h2, A2, n2, c2, rfl⟩ := ha.full
  obtain ⟨W0, hW⟩ : ∃ W0, ((w.alloc (.cells #[.int .i64 k, .int .i64 h, .slice A n c] 39)).alloc (.cells #[.int .i64 k2, .int .i64 h2, .slice A2 n2 c2] 39)).alloc (.cells #[.slice As ns cs, .slice Am nm cm, .slice Ac nc cc] 75) = W0 := ⟨_, rfl⟩
  have hb : Below w.heap.size w W0 := by rw [← hW]; exact (((Below.refl _ _).alloc (Nat.le_refl _) _).alloc (by simp) _).alloc (by simp; omega) _
  have x0 : Box W0 w.heap.size 39 #[.int .i64 k, .int .i64 h, .slice A n c] := by rw [← hW]; exact ((Box.new _ _ _).alloc _).alloc _
  have x1 : Box W0 (w.heap.size + 1) 39 #[.int .i64 k2, .int .i64 h2, .slice A2 n2 c2] := by rw [← hW]; exact ((Box.new (w.alloc _) _ _).at (by simp)).alloc _
  have x2 : Box W0 (w.heap.size + 1 + 1) 75 #[.slice As ns cs, .slice Am nm cm, .slice Ac nc cc] := by rw [← hW]; exact (Box.new ((w.alloc _).alloc _) _ _).at (by simp)
  obtain ⟨W4, hW4⟩ : ∃ W4, W0.alloc (.cells #[.int .i64 k, .int .i64 h, .slice A n c, .int .i64 k2, .int .i64 h2, .slice A2 n2 c2] 39) = W4 := ⟨_, rfl⟩
  have hb4 : Below W0.heap.size W0 W4 := by rw [← hW4]; exact (Below.refl _ _).alloc (Nat.le_refl _) _
  have x4 : Box W4 W0.heap.size 39 #[.int .i64 k, .int .i64 h, .slice A n c, .int .i64 k2, .int .i64 h2, .slice A2 n2 c2] := by rw [← hW4]; exact Box.new _ _ _
  have hbw := hb.trans (hb4.mono hb.size)
  have HMY := Lib.hid (vMayC W cx [m, a] As Am Ac _ ns cs nm cm nc cc 2 2 W4 (hk.keep hbw).sg (hk.keep hbw).ms (hk.keep hbw).cx (clv_two x4 (Rd.keep hbw _ _ hm) (Rd.keep hbw _ _ ha)))
  have X0 := Lib.hid (x0.keep hb4 x0.lt)
  have X1 := Lib.hid (x1.keep hb4 x1.lt)
  have X2 := Lib.hid (x2.keep hb4 x2.lt)
  have HB := Lib.hid hbw
  have HTM : Hid (mayV W cx [m, a] = true → ∀ W' : World, Below W4.heap.size W4 W' → Calls Tryz.prog 53 #[.agg #[.slice As ns cs, .slice Am nm cm, .slice Ac nc cc], .agg #[.int .i64 k, .int .i64 h, .slice A n c], .agg #[.int .i64 k2, .int .i64 h2, .slice A2 n2 c2]] W' fun e w' => e = .returned (.int .i64 (tmV W m cx a)) ∧ Below W'.heap.size W' w') := Lib.hid fun hy W' h' => by
    obtain ⟨y1, y2, y3, y4, y5⟩ := (mayV_iff W cx [m, a]).1 hy
    have ym := y3 m (by simp)
    have ya := y3 a (by simp)
    have hnd := ((myB_iff m).1 ym).2.1
    exact vTermC W m cx a B As ns cs Am nm cm Ac nc cc _ _ W' (hL hy) ⟨ym, .inr (hlm ym)⟩ ⟨ya, hla ya⟩ (by unfold dlV hiV; omega) (by omega) (hk.keep (hbw.trans (h'.mono hbw.size))) (Rd.keep (hbw.trans (h'.mono hbw.size)) _ _ hm) (Rd.keep (hbw.trans (h'.mono hbw.size)) _ _ ha)
  obtain ⟨c0, c1, c2⟩ := x0.three
  obtain ⟨d0, d1, d2⟩ := x1.three
  obtain ⟨e0, e1, e2⟩ := x2.three
  have HCT : Hid (ckT W cx m a = if mayV W cx [m, a] = true then tmV W m cx a else 1) := Lib.hid rfl
  generalize ckT W cx m a = R at *
  generalize tmV W m cx a = S at *
  clear hk hm ha hL hlm hla hb hb4 hbw x0 x1 x2 x4
  generalize mayV W cx [m, a] = r at *
  go_enter Tryz.func37, Tryz.ntmps37
  go_wp2_with fail
  clear hW hW4
  refine HMY.out.mono ?_
  rintro e w1 ⟨rfl, hb1⟩
  have HB1 := Lib.hid (HB.out.trans (hb1.mono HB.out.size))
  obtain ⟨p0, p1, p2⟩ := (X0.out.keep hb1 X0.out.lt).three
  obtain ⟨q0, q1, q2⟩ := (X1.out.keep hb1 X1.out.lt).three
  obtain ⟨s0, s1, s2⟩ := (X2.out.keep hb1 X2.out.lt).three
  cases r
  · have HC := Lib.hid (show 1 = R by rw [HCT.out]; rfl)
    clear hb1 HTM HCT
    go_wp2_with fail
    go_ret
    exact ⟨ret_int HC.out, HB1.out⟩
  · have HC := Lib.hid (show S = R by rw [HCT.out]; rfl)
    have HT := Lib.hid (HTM.out rfl w1 hb1)
    clear hb1 HTM HCT
    go_wp2_with fail
    refine HT.out.mono ?_
    rintro e w3 ⟨rfl, hb3⟩
    have HB3 := Lib.hid (HB1.out.trans (hb3.mono HB1.out.size))
    clear hb3 HT
    go_wp2_with fail
    go_ret
    exact ⟨ret_int HC.out, HB3.out⟩
theorem deC (W : WV) (d : MP) (As : Option Addr) (ns cs : Nat) (Am : Option Addr) (nm cm : Nat) (A1 : Option Addr) (n1 c1 : Nat) (k h : Int) (A2 : Option Addr) (n2 c2 : Nat) (w : World) (hs : DL w W.sg As ns cs) (hm : ML w W.ms Am nm cm) (hx : CLV w d.1.1 A1 n1 c1) (hr : Rd w d.1.2 (.agg #[.int .i64 k, .int .i64 h, .slice A2 n2 c2]))
    (hl : LoV W d.1.1) (hlt : myB d.1.2 = true → okT loV d.1.2) (hlen : n1 ≤ 1000000) :
    Calls Tryz.prog 21 #[.slice As ns cs, .slice Am nm cm, .agg #[.slice A1 n1 c1, .int .i64 k, .int .i64 h, .slice A2 n2 c2, .bool d.2]] w fun e w' => e = .returned (.int .i64 (deV W d)) ∧ Below w.heap.size w w' := by
  obtain ⟨W0, hW⟩ : ∃ W0, w.alloc (.cells #[.slice A1 n1 c1, .int .i64 k, .int .i64 h, .slice A2 n2 c2, .bool d.2] 42) = W0 := ⟨_, rfl⟩
  have hb : Below w.heap.size w W0 := by rw [← hW]; exact (Below.refl _ _).alloc (Nat.le_refl _) _
  have x0 : Box W0 w.heap.size 42 #[.slice A1 n1 c1, .int .i64 k, .int .i64 h, .slice A2 n2 c2, .bool d.2] := by rw [← hW]; exact Box.new _ _ _
  obtain ⟨hk, _⟩ := rdF_kind hr
  have hxl := hx.len
  have HCX := Lib.hid (yCtxC W [] d.1.1 As ns cs Am nm cm none 0 0 A1 n1 c1 W0 ⟨hs.keep hb, hm.keep hb, clv_nil _ _ _ (Nat.zero_le _)⟩ (hx.keep hb) (by rw [List.nil_append]; exact hl) (by omega))
  have HCT := Lib.hid (fun (W' : World) (h' : Below W0.heap.size W0 W') => vCheckTypeC W d.1.1 d.1.2 As ns cs Am nm cm A1 n1 c1 _ W' ⟨hs.keep (hb.trans (h'.mono hb.size)), hm.keep (hb.trans (h'.mono hb.size)), hx.keep (hb.trans (h'.mono hb.size))⟩ (Rd.keep (hb.trans (h'.mono hb.size)) _ _ hr) hl hlt)
  have HE := Lib.hid (show deV W d = if ctV W [] d.1.1 = 0 then (if k = 2 ∧ (d.2 = true → n1 = 0) then ckTy W d.1.1 d.1.2 else 1) else ctV W [] d.1.1 by rw [← hk, ← hxl]; rfl)
  have HB := Lib.hid hb
  clear hs hm hx hr hl hlt hb hk hxl
  generalize deV W d = R at *
  generalize ctV W [] d.1.1 = e1 at *
  generalize ckTy W d.1.1 d.1.2 = e2 at *
  generalize d.2 = p at *
  obtain ⟨a0, a1, a2, a3, a4⟩ : W0.cell? ⟨w.heap.size, 0, none⟩ = some (.slice A1 n1 c1) ∧ W0.cell? ⟨w.heap.size, 1, none⟩ = some (.int .i64 k) ∧ W0.cell? ⟨w.heap.size, 2, none⟩ = some (.int .i64 h) ∧ W0.cell? ⟨w.heap.size, 3, none⟩ = some (.slice A2 n2 c2) ∧ W0.cell? ⟨w.heap.size, 4, none⟩ = some (.bool p) := ⟨x0.cell 0, x0.cell 1, x0.cell 2, x0.cell 3, x0.cell 4⟩
  clear x0
  go_enter Tryz.func21, Tryz.ntmps21
  go_wp2_with fail
  try rw [hW]
  clear hW
  go_wp2_with fail
  refine HCX.out.mono ?_
  rintro e w1 ⟨rfl, hb1⟩
  replace a0 := (hb1.cell (cell_lt a0)).trans a0
  replace a1 := (hb1.cell (cell_lt a1)).trans a1
  replace a2 := (hb1.cell (cell_lt a2)).trans a2
  replace a3 := (hb1.cell (cell_lt a3)).trans a3
  replace a4 := (hb1.cell (cell_lt a4)).trans a4
  have HB1 := Lib.hid (HB.out.trans (hb1.mono HB.out.size))
  have HF := Lib.hid (HCT.out w1 hb1)
  clear hb1 HCX HCT
  by_cases hz : e1 = 0
  case' neg =>
    have dz : (e1 != 0) = true := by simpa using hz
    have HQ := Lib.hid (show e1 = R by rw [HE.out, if_neg hz])
    clear hz HE HF a0 a1 a2 a3 a4
    go_wp2_with fail
    go_ret
    exact ⟨ret_int HQ.out, HB1.out⟩
  have HQ := Lib.hid (show R = if k = 2 ∧ (p = true → n1 = 0) then e2 else 1 by rw [HE.out, if_pos hz])
  subst hz
  have dz : ((0 : Int) != 0) = false := by decide
  clear HE
  by_cases hk2 : k = 2
  case' neg =>
    have dk : (k != 2) = true := by simpa using hk2
    have HR := Lib.hid (show 1 = R by rw [HQ.out, if_neg (fun e => hk2 e.1)])
    clear hk2 HQ HF
    go_wp2_with fail
    go_ret
    exact ⟨ret_int HR.out, HB1.out⟩
  subst hk2
  have dk : ((2 : Int) != 2) = false := by decide
  by_cases hp : p = true ∧ 0 < n1
  · obtain ⟨rfl, h0⟩ := hp
    have dn : decide ((0 : Int) < (n1 : Int)) = true := by simp; omega
    have HR := Lib.hid (show 1 = R by rw [HQ.out, if_neg (fun e => by have := e.2 rfl; omega)])
    clear HQ HF
    go_wp2_with fail
    go_ret
    exact ⟨ret_int HR.out, HB1.out⟩
  · have HR := Lib.hid (show e2 = R by
      have hq : p = true → n1 = 0 := fun e => by
        by_cases h0 : n1 = 0
        · exact h0
        · exact absurd ⟨e, by omega⟩ hp
      rw [HQ.out, if_pos ⟨rfl, hq⟩])
    clear HQ
    cases p with
    | false =>
      clear hp
      go_wp2_with fail
      refine HF.out.mono ?_
      rintro e w2 ⟨rfl, hb2⟩
      have HB2 := Lib.hid (HB1.out.trans (hb2.mono HB1.out.size))
      clear hb2 HF
      go_wp2_with fail
      go_ret
      exact ⟨ret_int HR.out, HB2.out⟩
    | true =>
      have h0 : ¬ 0 < n1 := fun h => hp ⟨rfl, h⟩
      have dn : decide ((0 : Int) < (n1 : Int)) = false := by simp; omega
      clear hp
      go_wp2_with fail
      refine HF.out.mono ?_
      rintro e w2 ⟨rfl, hb2⟩
      have HB2 := Lib.hid (HB1.out.trans (hb2.mono HB1.out.size))
      clear hb2 HF
      go_wp2_with fail
      go_ret
      exact ⟨ret_int HR.out, HB2.out⟩
theorem vaC (l : List MP) (t : T) (Am : Option Addr) (nm cm : Nat) (k h : Int) (A : Option Addr) (len cap : Nat) (As Ac : Option Addr) (ns cs nc cc : Nat) (w : World) (hm : PL w l Am nm cm) (hr : Rd w t (.agg #[.int .i64 k, .int .i64 h, .slice A len cap])) (hh : kdQ t = 6 → 0 ≤ h ∧ h < nm) :
    Calls Tryz.prog 39 #[.agg #[.slice As ns cs, .slice Am nm cm, .slice Ac nc cc], .agg #[.int .i64 k, .int .i64 h, .slice A len cap]] w fun e w' => e = .returned (.bool (vaV l t)) ∧ Below w.heap.size w w' := by
  obtain ⟨W0, hW⟩ : ∃ W0, (w.alloc (.cells #[.slice As ns cs, .slice Am nm cm, .slice Ac nc cc] 51)).alloc (.cells #[.int .i64 k, .int .i64 h, .slice A len cap] 39) = W0 := ⟨_, rfl⟩
  have hb : Below w.heap.size w W0 := by rw [← hW]; exact ((Below.refl _ _).alloc (Nat.le_refl _) _).alloc (by simp) _
  have x0 : Box W0 w.heap.size 51 #[.slice As ns cs, .slice Am nm cm, .slice Ac nc cc] := by rw [← hW]; exact (Box.new _ _ _).alloc _
  have x1 : Box W0 (w.heap.size + 1) 39 #[.int .i64 k, .int .i64 h, .slice A len cap] := by rw [← hW]; exact (Box.new (w.alloc _) _ _).at (by simp)
  obtain ⟨a0, a1, a2⟩ := x0.three
  obtain ⟨c0, c1, c2⟩ := x1.three
  have HB := Lib.hid hb
  have hv : vaV l t = ((k == 4 && len == 0) || (k == 6 && (l.getD h.toNat (([], .node 0 0 []), false)).2)) := by
    obtain ⟨kt, ht, xs⟩ := t
    obtain ⟨A', n', c', ev, g1, g2, g3, _⟩ := Rd_node.1 hr
    simp only [Value.agg.injEq, Array.mk.injEq, List.cons.injEq, and_true, Value.int.injEq, true_and, Value.slice.injEq] at ev
    obtain ⟨rfl, rfl, rfl, rfl, rfl⟩ := ev
    rw [vaV, g3]
  have hkt : kdQ t = k := (rdF_kind hr).1
  rw [hkt] at hh
  rw [hv]
  clear hv hkt
  by_cases h4 : k = 4
  · subst h4
    have d6 : ((4 : Int) == 6) = false := by decide
    by_cases hl : len = 0
    · subst hl
      clear hh hm hr x0 x1
      go_enter Tryz.func39, Tryz.ntmps39
      go_wp2_with fail
      try rw [hW]
      clear hW
      go_wp2_with fail
      go_ret
      exact ⟨rfl, HB.out⟩
    · have dl : ((len : Int) == 0) = false := by simpa using hl
      have dl' : (len == 0) = false := by simpa using hl
      have HR := Lib.hid (show ((((4 : Int) == 4) && len == 0) || ((4 : Int) == 6 && (l.getD h.toNat (([], .node 0 0 []), false)).2)) = false by rw [dl', d6]; rfl)
      clear hh hm hr x0 x1 dl' hl
      go_enter Tryz.func39, Tryz.ntmps39
      go_wp2_with fail
      try rw [hW]
      clear hW
      go_wp2_with fail
      go_ret
      exact ⟨by rw [HR.out]; rfl, HB.out⟩
  · have d4 : (k == 4) = false := by simpa using h4
    by_cases h6 : k = 6
    · subst h6
      obtain ⟨h0, hlt⟩ := hh rfl
      obtain ⟨i, rfl⟩ : ∃ i : Nat, h = i := ⟨h.toNat, by omega⟩
      obtain ⟨x, hx⟩ := at_of hm.len (show i < nm by omega)
      obtain ⟨b, o, A1, n1, c1', k1, g1, A2, n2, c2', rfl, e0, e1, e2, e3, e4, _, _⟩ := (hm.at_ i x hx).keep hb
      have hcap := hm.cap
      have hle := hm.le
      unfold maxLen at hcap
      have hi1 : (i : Int) < nm := by omega
      have HR := Lib.hid (show ((((6 : Int) == 4) && len == 0) || ((6 : Int) == 6 && (l.getD (i : Int).toNat (([], .node 0 0 []), false)).2)) = x.2 by
        rw [List.getD_eq_getElem?_getD, show (i : Int).toNat = i from rfl, hx]
        simp)
      clear hh hm hr x0 x1 hx
      go_enter Tryz.func39, Tryz.ntmps39
      go_wp2_with fail
      try rw [hW]
      clear hW
      go_wp2_with fail
      go_ret
      exact ⟨by rw [HR.out]; rfl, HB.out⟩
    · have d6 : (k == 6) = false := by simpa using h6
      have HR := Lib.hid (show ((k == 4 && len == 0) || (k == 6 && (l.getD h.toNat (([], .node 0 0 []), false)).2)) = false by rw [d4, d6]; rfl)
      clear hh hm hr x0 x1
      go_enter Tryz.func39, Tryz.ntmps39
      go_wp2_with fail
      try rw [hW]
      clear hW
      go_wp2_with fail
      go_ret
      exact ⟨by rw [HR.out]; rfl, HB.out⟩
end Go.Proofs.YtbbjjdnnlnabaaaGreat
