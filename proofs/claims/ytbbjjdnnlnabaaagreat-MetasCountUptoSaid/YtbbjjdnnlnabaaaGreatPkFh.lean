/- Texts of one proof, put together. No statement is proved here. -/
import Derived.Test.YtbbjjdnnlnabaaaGreatPkFg
import Derived.Test.YtbbjjdnnlnabaaaGreatPkKs
import Derived.Test.YtbbjjdnnlnabaaaGreatPkEk
import Derived.Test.YtbbjjdnnlnabaaaGreatZt
namespace Go.Proofs.YtbbjjdnnlnabaaaGreat
open Go.ChangeShapes Go.WideShapes Go.ChangeAt Go.RowKit
set_option linter.unusedVariables false
set_option linter.unusedSimpArgs false
set_option maxRecDepth 100000
set_option maxHeartbeats 16000000
theorem eVaC (l : List MP) (t : T) (Am : Option Addr) (nm cm : Nat) (k h : Int) (A : Option Addr) (len cap : Nat) (w : World) (hm : PL w l Am nm cm) (hr : Rd w t (.agg #[.int .i64 k, .int .i64 h, .slice A len cap])) (hh : kdQ t = 6 → 0 ≤ h ∧ h < nm) :
    Calls Tryz.prog 43 #[.agg #[.int .i64 k, .int .i64 h, .slice A len cap], .slice Am nm cm] w fun e w' => e = .returned (.bool (vaV l t)) ∧ Below w.heap.size w w' := by
  obtain ⟨W0, hW⟩ : ∃ W0, w.alloc (.cells #[.int .i64 k, .int .i64 h, .slice A len cap] 39) = W0 := ⟨_, rfl⟩
  have hb : Below w.heap.size w W0 := by rw [← hW]; exact (Below.refl _ _).alloc (Nat.le_refl _) _
  have x1 : Box W0 w.heap.size 39 #[.int .i64 k, .int .i64 h, .slice A len cap] := by rw [← hW]; exact Box.new _ _ _
  obtain ⟨c0, c1, c2⟩ := x1.three
  have HB := Lib.hid hb
  have hv : vaV l t = ((k == 4 && len == 0) || (k == 6 && (l.getD h.toNat (([], .node 0 0 []), false)).2)) := by
    obtain ⟨kt, ht, xs⟩ := t
    obtain ⟨A', n', c', ev, g1, g2, g3, _⟩ := Rd_node.1 hr
    simp only [Value.agg.injEq, Array.mk.injEq, List.cons.injEq, and_true, Value.int.injEq, true_and, Value.slice.injEq] at ev
    obtain ⟨rfl, rfl, rfl, rfl, rfl⟩ := ev
    rw [vaV, g3]
  have hkt : kdQ t = k := (rdF_kind hr).1
  rw [hkt] at hh
  rw [hv]
  clear hv hkt
  by_cases h4 : k = 4
  · subst h4
    have d6 : ((4 : Int) == 6) = false := by decide
    by_cases hl : len = 0
    · subst hl
      clear hh hm hr x1
      go_enter Tryz.func43, Tryz.ntmps43
      go_wp2_with fail
      try rw [hW]
      clear hW
      go_wp2_with fail
      go_ret
      exact ⟨rfl, HB.out⟩
    · have dl : ((len : Int) == 0) = false := by simpa using hl
      have dl' : (len == 0) = false := by simpa using hl
      have HR := Lib.hid (show ((((4 : Int) == 4) && len == 0) || ((4 : Int) == 6 && (l.getD h.toNat (([], .node 0 0 []), false)).2)) = false by rw [dl', d6]; rfl)
      clear hh hm hr x1 dl' hl
      go_enter Tryz.func43, Tryz.ntmps43
      go_wp2_with fail
      try rw [hW]
      clear hW
      go_wp2_with fail
      go_ret
      exact ⟨by rw [HR.out]; rfl, HB.out⟩
  · have d4 : (k == 4) = false := by simpa using h4
    by_cases h6 : k = 6
    · subst h6
      obtain ⟨h0, hlt⟩ := hh rfl
      obtain ⟨i, rfl⟩ : ∃ i : Nat, h = i := ⟨h.toNat, by omega⟩
      obtain ⟨x, hx⟩ := at_of hm.len (show i < nm by omega)
      obtain ⟨b, o, A1, n1, c1', k1, g1, A2, n2, c2', rfl, e0, e1, e2, e3, e4, _, _⟩ := (hm.at_ i x hx).keep hb
      have hcap := hm.cap
      have hle := hm.le
      unfold maxLen at hcap
      have hi1 : (i : Int) < nm := by omega
      have HR := Lib.hid (show ((((6 : Int) == 4) && len == 0) || ((6 : Int) == 6 && (l.getD (i : Int).toNat (([], .node 0 0 []), false)).2)) = x.2 by
        rw [List.getD_eq_getElem?_getD, show (i : Int).toNat = i from rfl, hx]
        simp)
      clear hh hm hr x1 hx
      go_enter Tryz.func43, Tryz.ntmps43
      go_wp2_with fail
      try rw [hW]
      clear hW
      go_wp2_with fail
      go_ret
      exact ⟨by rw [HR.out]; rfl, HB.out⟩
    · have d6 : (k == 6) = false := by simpa using h6
      have HR := Lib.hid (show ((k == 4 && len == 0) || (k == 6 && (l.getD h.toNat (([], .node 0 0 []), false)).2)) = false by rw [d4, d6]; rfl)
      clear hh hm hr x1
      go_enter Tryz.func43, Tryz.ntmps43
      go_wp2_with fail
      try rw [hW]
      clear hW
      go_wp2_with fail
      go_ret
      exact ⟨by rw [HR.out]; rfl, HB.out⟩
theorem ePlC (sg : List T) (l : List MP) (ext dn : List T) (d : MP) (t : T) (As : Option Addr) (ns cs : Nat) (Am : Option Addr) (nm cm : Nat) (Ac : Option Addr) (nc cc : Nat) (Ad : Option Addr) (i cd : Nat) (A1 : Option Addr) (n1 c1 : Nat) (k h : Int) (A2 : Option Addr) (n2 c2 : Nat) (kt ht : Int) (At : Option Addr) (nt ct : Nat) (w : World)
    (hs : DL w sg As ns cs) (hm : PL w l Am nm cm) (hx : CLV w ext Ac nc cc) (hth : ThI dn w Ad i cd) (hd1 : CLV w d.1.1 A1 n1 c1) (hd2 : Rd w d.1.2 (.agg #[.int .i64 k, .int .i64 h, .slice A2 n2 c2])) (htt : Rd w t (.agg #[.int .i64 kt, .int .i64 ht, .slice At nt ct]))
    (hl : LoV ⟨sg, msP l⟩ ext) (hl1 : LwV d.1.1) (hl2 : myB d.1.2 = true → okT loV d.1.2) (hlt : myB t = true → okT loV t) (hn1 : n1 ≤ 1000) (hnc : nc ≤ 90000)
    (hz : SzE ⟨sg, msP l⟩ ext) (hzd : ∀ x ∈ dn, nd x ≤ 1048576) (hz1 : ∀ x ∈ d.1.1, nd x ≤ 1048576) (hz2 : nd d.1.2 ≤ 1048576) (hzt : nd t ≤ 1048576) :
    Calls Tryz.prog 25 #[.slice As ns cs, .slice Am nm cm, .slice Ac nc cc, .agg #[.slice A1 n1 c1, .int .i64 k, .int .i64 h, .slice A2 n2 c2, .bool d.2], .slice Ad i cd, .agg #[.int .i64 kt, .int .i64 ht, .slice At nt ct]] w fun e w' => e = .returned (.int .i64 (plV ⟨sg, msP l⟩ l ext dn d t)) ∧ Below w.heap.size w w' := by
  obtain ⟨W0, hW⟩ : ∃ W0, (w.alloc (.cells #[.slice A1 n1 c1, .int .i64 k, .int .i64 h, .slice A2 n2 c2, .bool d.2] 42)).alloc (.cells #[.int .i64 kt, .int .i64 ht, .slice At nt ct] 39) = W0 := ⟨_, rfl⟩
  have hb : Below w.heap.size w W0 := by rw [← hW]; exact ((Below.refl _ _).alloc (Nat.le_refl _) _).alloc (by simp) _
  have XD := Lib.hid (show Box W0 w.heap.size 42 #[.slice A1 n1 c1, .int .i64 k, .int .i64 h, .slice A2 n2 c2, .bool d.2] by rw [← hW]; exact (Box.new _ _ _).alloc _)
  have XT := Lib.hid (show Box W0 (w.heap.size + 1) 39 #[.int .i64 kt, .int .i64 ht, .slice At nt ct] by rw [← hW]; exact (Box.new (w.alloc _) _ _).at (by simp))
  have hd1l := hd1.len
  have hxl := hx.len
  have HCX := Lib.hid (rCtxC (n := 0) W0 ⟨hth.keep hb, fun x hx => by have := hzd x hx; omega⟩ hd1l hd1.le hd1.cap (by omega) (hd1.keep hb).at_ (fun x hx => by have := hz1 x hx; omega) (fun x hx hm => okT_mono (by unfold loV; omega) _ (hl1 x hx hm)))
  have HFI : Hid (∀ (W' : World) (n : Int), Below W0.heap.size W0 W' → Calls Tryz.prog 41 #[.agg #[.int .i64 k, .int .i64 h, .slice A2 n2 c2], .slice Ad i cd, .int .i64 n] W' (FzF (fun _ => False) (fiR dn n d.1.2) W')) := Lib.hid fun W' n h' => rFillC W' (fun b z => z.elim) (clv_rx (Z := fun _ => False) ⟨hth.len, hth.le, hth.cap, hth.at_⟩ (hb.trans (h'.mono hb.size)) (fun b z => z.elim)) (rx_any hd2 (hb.trans (h'.mono hb.size)) (fun b z => z.elim)) (by omega) (fun x hx => by have := hzd x hx; omega) hth.ok (fun hm => okT_mono (by unfold loV; omega) _ (hl2 hm))
  have HPV : Hid (∀ (cx : List T) (c : Nat) (a : T), cxL dn 0 d.1.1 = .ok (cx, c) → fiR dn (cx.length : Nat) d.1.2 = .ok a → plV ⟨sg, msP l⟩ l ext dn d t = if ckT ⟨sg, msP l⟩ (ext ++ cx) t a = 0 then (if d.2 = true ∧ vaV l t = false then 3 else 0) else ckT ⟨sg, msP l⟩ (ext ++ cx) t a) := Lib.hid fun cx c a e1 e2 => by rw [plV, e1]; simp only [e2]
  have HPE : Hid (∀ e, cxL dn 0 d.1.1 = .error e → plV ⟨sg, msP l⟩ l ext dn d t = e) := Lib.hid fun e e1 => by rw [plV, e1]
  have HPF : Hid (∀ (cx : List T) (c : Nat) (e : Int), cxL dn 0 d.1.1 = .ok (cx, c) → fiR dn (cx.length : Nat) d.1.2 = .error e → plV ⟨sg, msP l⟩ l ext dn d t = e) := Lib.hid fun cx c e e1 e2 => by rw [plV, e1]; simp only [e2]
  have HCK : Hid (∀ (cx : List T) (c : Nat) (a : T), cxL dn 0 d.1.1 = .ok (cx, c) → fiR dn (cx.length : Nat) d.1.2 = .ok a → ∀ (W' : World) (A7 : Option Addr) (c7 : Nat) (k3 h3 : Int) (A3 : Option Addr) (n3 c3 : Nat), Below W0.heap.size W0 W' → CLV W' (ext ++ cx) A7 (nc + cx.length) c7 → Rd W' a (.agg #[.int .i64 k3, .int .i64 h3, .slice A3 n3 c3]) →
      Calls Tryz.prog 42 #[.slice As ns cs, .slice Am nm cm, .slice A7 (nc + cx.length) c7, .agg #[.int .i64 kt, .int .i64 ht, .slice At nt ct], .agg #[.int .i64 k3, .int .i64 h3, .slice A3 n3 c3]] W' fun e w' => e = .returned (.int .i64 (ckT ⟨sg, msP l⟩ (ext ++ cx) t a)) ∧ Below W'.heap.size W' w') := Lib.hid fun cx c a e1 e2 W' A7 c7 k3 h3 A3 n3 c3 h' hcl ha => by
    have hb' := hb.trans (h'.mono hb.size)
    have hcl1 := (ea_at (F := fun i t => fiR dn (wrap64 (0 + (i : Int))) t) d.1.1 0 0 cx c e1).1
    have hlo := cx_lowN hth.ok hl1 (by omega) e1
    refine eCheckTermB (B := 70368744177664) (Int.le_refl _) ⟨sg, msP l⟩ (ext ++ cx) t a As ns cs Am nm cm A7 (nc + cx.length) c7 _ _ W' ⟨hs.keep hb', hm.ml.keep hb', hcl⟩ (Rd.keep hb' _ _ htt) ha (fun hy => ?_) ⟨hz.sg, hz.ms, fun x hx => by
      rcases List.mem_append.1 hx with hx | hx
      · exact hz.cx x hx
      · have := ((myB_iff x).1 (hlo x hx).1).2.1; omega⟩ hzt (by have := ((myB_iff a).1 (fiR_ok2 e2).2.2).2.1; omega) hlt (fun hma => fi_lowN hth.ok (hl2 (fiR_ok2 e2).2.1) (by omega) e2)
    obtain ⟨y1, y2, y3, y4, y5⟩ := (mayV_iff _ _ _).1 hy
    refine ⟨fun x hx => ⟨y4 x hx, hl.sg x hx (y4 x hx)⟩, fun m hm => ⟨fun e he => ⟨(y5 m hm).1 e he, (hl.ms m hm).1 e he ((y5 m hm).1 e he)⟩, ⟨(y5 m hm).2, (hl.ms m hm).2 (y5 m hm).2⟩⟩, fun x hx => ⟨y2 x hx, ?_⟩, by unfold loV; omega⟩
    rcases List.mem_append.1 hx with hx' | hx'
    · exact okT_mono (by unfold loV; omega) _ (hl.cx x hx' (y2 x hx))
    · exact (hlo x hx').2
  have HVA : Hid (∀ (cx : List T) (a : T), ckT ⟨sg, msP l⟩ (ext ++ cx) t a = 0 → ∀ W' : World, Below W0.heap.size W0 W' → Calls Tryz.prog 43 #[.agg #[.int .i64 kt, .int .i64 ht, .slice At nt ct], .slice Am nm cm] W' fun e w' => e = .returned (.bool (vaV l t)) ∧ Below W'.heap.size W' w') := Lib.hid fun cx a h0 W' h' =>
    eVaC l t Am nm cm kt ht At nt ct W' (hm.keep (hb.trans (h'.mono hb.size))) (Rd.keep (hb.trans (h'.mono hb.size)) _ _ htt) (fun h6 => by
      obtain ⟨k1, k2⟩ := ckT_okN h0
      have ny := ((myB_iff t).1 (((mayV_iff _ _ _).1 k1).2.2.1 t (by simp))).1
      have hsc := tm_scoped t _ _ ny k2
      obtain ⟨kk, hh, xs⟩ := t
      obtain ⟨A', n', c', ev, _⟩ := Rd_node.1 htt
      simp only [Value.agg.injEq, Array.mk.injEq, List.cons.injEq, and_true, Value.int.injEq, true_and, Value.slice.injEq] at ev
      obtain ⟨rfl, rfl, rfl, rfl, rfl⟩ := ev
      rw [kdQ] at h6
      rw [scC] at hsc
      have := hsc.2.1 h6
      have hml := hm.ml.len
      rw [hml] at this
      exact ⟨headV ny, this⟩)
  have HLX : Hid (∀ (cx : List T) (c : Nat), cxL dn 0 d.1.1 = .ok (cx, c) → cx.length ≤ 1000000) := Lib.hid fun cx c e1 => by
    have := (ea_at (F := fun i t => fiR dn (wrap64 (0 + (i : Int))) t) d.1.1 0 0 cx c e1).1
    omega
  have HLN : Hid (∀ (cx : List T) (c : Nat), cxL dn 0 d.1.1 = .ok (cx, c) → n1 = cx.length) := Lib.hid fun cx c e1 => by
    have := (ea_at (F := fun i t => fiR dn (wrap64 (0 + (i : Int))) t) d.1.1 0 0 cx c e1).1
    omega
  have HXX := Lib.hid (fun (W' : World) (h' : Below W0.heap.size W0 W') => hx.keep (hb.trans (h'.mono hb.size)))
  have HB := Lib.hid hb
  have H0 := Lib.hid (Below.refl W0.heap.size W0)
  clear hs hm hx hth hd1 hd2 htt hl hl1 hl2 hlt hb hd1l hxl hz hzd hz1 hz2 hzt
  generalize plV ⟨sg, msP l⟩ l ext dn d t = R at *
  generalize vaV l t = rv at *
  obtain ⟨rcx, hrcx⟩ : ∃ r, cxL dn 0 d.1.1 = r := ⟨_, rfl⟩
  rw [hrcx] at HCX HPV HPE HPF HCK HLX HLN
  clear hrcx
  have d0 : W0.cell? ⟨w.heap.size, 0, none⟩ = some (.slice A1 n1 c1) := XD.out.cell 0
  go_enter Tryz.func25, Tryz.ntmps25
  go_wp2_with fail
  try rw [hW]
  clear hW
  try go_wp2_with fail
  refine HCX.out.mono ?_
  intro e w1 hE
  clear HCX d0
  cases rcx with
  | error ec =>
    obtain ⟨rfl, hne, hb1⟩ := hE
    have HQ := Lib.hid (show ec = R from (HPE.out ec rfl).symm)
    have HB1 := Lib.hid (HB.out.trans (hb1.mono HB.out.size))
    have dz : (ec != 0) = true := by simpa using hne
    clear hne hb1 HPV HPE HPF HCK HFI HVA HXX XD XT
    go_wp2_with fail
    go_ret
    exact ⟨ret_int HQ.out, HB1.out⟩
  | ok pcx =>
    obtain ⟨cx, ccx⟩ := pcx
    obtain ⟨A9, n9, c9, rfl, hrl, hb1⟩ := hE
    have hcl9 := rxl_anyN hrl
    have hn9 := hcl9.len
    subst hn9
    have hlc : cx.length ≤ 1000000 := HLX.out cx ccx rfl
    have HC9 := Lib.hid hcl9
    have HB1 := Lib.hid hb1
    replace XD := Lib.hid (XD.out.keep hb1 XD.out.lt)
    replace XT := Lib.hid (XT.out.keep hb1 XT.out.lt)
    clear hb1 hcl9 hrl
    replace HFI := Lib.hid (HFI.out w1 (n1 : Nat) HB1.out)
    have hcn := HLN.out cx ccx rfl
    obtain ⟨rfi, hrfi⟩ : ∃ r, fiR dn (cx.length : Nat) d.1.2 = r := ⟨_, rfl⟩
    rw [show fiR dn (n1 : Nat) d.1.2 = rfi by rw [hcn]; exact hrfi] at HFI
    have hcl2 : cx.length ≤ 1000 := by omega
    clear hcn
    clear HLN
    replace HPV := Lib.hid (fun a e2 => HPV.out cx ccx a rfl e2)
    replace HPF := Lib.hid (fun e e2 => HPF.out cx ccx e rfl e2)
    replace HCK := Lib.hid (fun a e2 => HCK.out cx ccx a rfl e2)
    replace HVA := Lib.hid (fun a => HVA.out cx a)
    rw [hrfi] at HPV HPF HCK
    clear hrfi HPE
    have d0 : w1.cell? ⟨w.heap.size, 0, none⟩ = some (.slice A1 n1 c1) := XD.out.cell 0
    have d1 : w1.cell? ⟨w.heap.size, 1, none⟩ = some (.int .i64 k) := XD.out.cell 1
    have d2 : w1.cell? ⟨w.heap.size, 2, none⟩ = some (.int .i64 h) := XD.out.cell 2
    have d3 : w1.cell? ⟨w.heap.size, 3, none⟩ = some (.slice A2 n2 c2) := XD.out.cell 3
    have dz : ((0 : Int) != 0) = false := by decide
    go_wp2_with fail
    refine HFI.out.mono ?_
    intro e w2 hE
    clear HFI d0 d1 d2 d3
    cases rfi with
    | error ec =>
      obtain ⟨rfl, hne, hb2⟩ := hE
      have HQ := Lib.hid (show ec = R from (HPF.out ec rfl).symm)
      have HB2 := Lib.hid ((HB.out.trans (HB1.out.mono HB.out.size)).trans (hb2.mono (HB.out.trans (HB1.out.mono HB.out.size)).size))
      have dz1 : (ec != 0) = true := by simpa using hne
      have HB3 := Lib.hid (HB2.out.alloc HB2.out.size (.cells #[.int .i64 0, .int .i64 0, .slice none 0 0] 39))
      clear hne hb2 HPV HPF HCK HVA HXX XD XT
      rw [show zT = .agg #[.int .i64 0, .int .i64 0, .slice none 0 0] from rfl]
      go_wp2_with fail
      go_ret
      exact ⟨ret_int HQ.out, HB3.out⟩
    | ok a =>
      have hE2 : ∃ k h A n c, e = .returned (.tuple #[.agg #[.int .i64 k, .int .i64 h, .slice A n c], .int .i64 0]) ∧ RX (fun _ => False) w2 a (.agg #[.int .i64 k, .int .i64 h, .slice A n c]) ∧ Below w1.heap.size w1 w2 := hE
      clear hE
      obtain ⟨k3, h3, A3, n3, c3, rfl, hra, hb2⟩ := hE2
      have hw3 : Below w2.heap.size w2 (w2.alloc (.cells #[.int .i64 k3, .int .i64 h3, .slice A3 n3 c3] 39)) := (Below.refl _ _).alloc (Nat.le_refl _) _
      have HB2 := Lib.hid (HB1.out.trans (hb2.mono HB1.out.size))
      have HB3 := Lib.hid (HB2.out.trans (hw3.mono HB2.out.size))
      have XA := Lib.hid (show Box (w2.alloc (.cells #[.int .i64 k3, .int .i64 h3, .slice A3 n3 c3] 39)) w2.heap.size 39 #[.int .i64 k3, .int .i64 h3, .slice A3 n3 c3] from Box.new _ _ _)
      have HRA := Lib.hid (Rd.keep hw3 _ _ (RX.rd hra))
      have HLC := Lib.hid hlc
      have HC3 := Lib.hid ((HC9.out.keep hb2).keep hw3)
      replace XD := Lib.hid ((XD.out.keep hb2 XD.out.lt).keep hw3 (XD.out.keep hb2 XD.out.lt).lt)
      replace XT := Lib.hid ((XT.out.keep hb2 XT.out.lt).keep hw3 (XT.out.keep hb2 XT.out.lt).lt)
      clear hw3 hb2 hra HC9 HB1 HPF
      replace HPV := Lib.hid (HPV.out a rfl)
      replace HCK := Lib.hid (HCK.out a rfl)
      replace HVA := Lib.hid (HVA.out a)
      obtain ⟨rk, hrk⟩ : ∃ r, ckT ⟨sg, msP l⟩ (ext ++ cx) t a = r := ⟨_, rfl⟩
      rw [hrk] at HPV HCK HVA
      clear hrk
      obtain ⟨w3, hW3⟩ : ∃ w3, w2.alloc (.cells #[.int .i64 k3, .int .i64 h3, .slice A3 n3 c3] 39) = w3 := ⟨_, rfl⟩
      rw [hW3] at HB3 XA HRA HC3 XD XT
      have HXE := Lib.hid (HXX.out w3 HB3.out)
      clear HXX HB2
      go_wp2_with fail
      try rw [hW3]
      clear hW3
      try go_wp2_with fail
      have t0 : w3.cell? ⟨w.heap.size + 1, 0, none⟩ = some (.int .i64 kt) := XT.out.cell 0
      have t1 : w3.cell? ⟨w.heap.size + 1, 1, none⟩ = some (.int .i64 ht) := XT.out.cell 1
      have t2 : w3.cell? ⟨w.heap.size + 1, 2, none⟩ = some (.slice At nt ct) := XT.out.cell 2
      have a0 : w3.cell? ⟨w2.heap.size, 0, none⟩ = some (.int .i64 k3) := XA.out.cell 0
      have a1 : w3.cell? ⟨w2.heap.size, 1, none⟩ = some (.int .i64 h3) := XA.out.cell 1
      have a2 : w3.cell? ⟨w2.heap.size, 2, none⟩ = some (.slice A3 n3 c3) := XA.out.cell 2
      have HKS : Hid (∀ w' : World, Below w3.heap.size w3 w' → (fun w' => w'.cell? ⟨w.heap.size + 1, 0, none⟩ = some (.int .i64 kt) ∧ w'.cell? ⟨w.heap.size + 1, 1, none⟩ = some (.int .i64 ht) ∧ w'.cell? ⟨w.heap.size + 1, 2, none⟩ = some (.slice At nt ct) ∧ w'.cell? ⟨w2.heap.size, 0, none⟩ = some (.int .i64 k3) ∧ w'.cell? ⟨w2.heap.size, 1, none⟩ = some (.int .i64 h3) ∧ w'.cell? ⟨w2.heap.size, 2, none⟩ = some (.slice A3 n3 c3)) w') := Lib.hid fun w' h => ⟨(h.cell (cell_lt t0)).trans t0, (h.cell (cell_lt t1)).trans t1, (h.cell (cell_lt t2)).trans t2, (h.cell (cell_lt a0)).trans a0, (h.cell (cell_lt a1)).trans a1, (h.cell (cell_lt a2)).trans a2⟩
      have hbd : Below w3.heap.size w3 w3.drew := (Below.refl _ w3).drew
      refine zzR HKS hbd (fun hS => ?_)
      simp only [List.size_toArray, List.length_cons, List.length_nil, Nat.reduceAdd]
      refine zzT (i := 0) (v := .slice As ns cs) rfl hS ?_
      try simp only [Act.put, zzP]
      refine zzT (i := 1) (v := .slice Am nm cm) rfl hS ?_
      try simp only [Act.put, zzP]
      refine zzT (i := 2) (v := .slice Ac nc cc) rfl hS ?_
      try simp only [Act.put, zzP]
      refine zzT (i := 4) (v := .slice A9 cx.length c9) rfl hS ?_
      try simp only [Act.put, zzP]
      refine zzT (i := 6) (v := .agg #[.int .i64 kt, .int .i64 ht, .slice At nt ct]) rfl hS ?_
      try simp only [Act.put, zzP]
      refine zzT (i := 7) (v := .agg #[.int .i64 k3, .int .i64 h3, .slice A3 n3 c3]) rfl hS ?_
      try simp only [Act.put, zzP]
      refine wpAnyH_ready (rs := [3]) (by kernel_rfl) (by simp) ?_
      refine AllReadyH.cons rfl (fun KN hK => ?_) AllReadyH.nil
      obtain ⟨A8, c8, v8, cs8, hrun8, hrow8, hb8⟩ := rowT_new HXE.out (by omega) hbd
      have hb8' : Below w3.heap.size w3 v8 := hbd.trans (hb8.mono hbd.size)
      refine Lib.wp_append_run _ (.const (.slice none 0 0)) (.tmp 44) 24 24 rfl _ _ rfl rfl _ _ hrun8 ?_
      refine hK.out _ _ (HKS.out _ hb8') (fun hS => ?_)
      clear hK KN
      try simp only [Act.put, zzP]
      refine wpAnyH_ready (rs := [5]) (by kernel_rfl) (by simp) ?_
      refine AllReadyH.cons rfl (fun KN hK => ?_) AllReadyH.nil
      obtain ⟨A7, c7, v7, cs7, hrun7, hrow7, hb7⟩ := rowT_app hrow8 HC3.out (by have := HLC.out; omega) hb8'
      refine Lib.wp_append_run _ (.tmp 45) (.tmp 46) 24 24 rfl _ _ rfl rfl _ _ hrun7 ?_
      refine hK.out _ _ (HKS.out _ hb7) (fun hS => ?_)
      clear hK KN
      try simp only [Act.put, zzP]
      refine wpAnyH_ready (rs := [8]) (by kernel_rfl) (by simp) ?_
      refine AllReadyH.cons rfl (fun KN hK => ?_) AllReadyH.nil
      go_simp
      refine (HCK.out v7 A7 c7 k3 h3 A3 n3 c3 (HB3.out.trans (hb7.mono HB3.out.size)) (hrow7.lst hb7) (Rd.keep hb7 _ _ HRA.out)).mono ?_
      rintro e v9 ⟨rfl, hb9⟩
      replace hbd : Below w3.heap.size w3 v9 := hb7.trans (hb9.mono hb7.size)
      clear hb9 hb7 hb8 hb8' hrow8 hrow7 hrun8 hrun7
      refine hK.out _ _ (HKS.out _ hbd) (fun hS => ?_)
      clear hK KN
      try simp only [Act.put, zzP]
      refine zzT (i := 9) (v := .int .i64 rk) rfl hS ?_
      try simp only [Act.put, zzP]
      refine wpAnyH_done (by kernel_rfl) ?_ _
      try simp only [List.setIfInBounds_toArray]
      try simp only [zzP]
      have HBF := Lib.hid (HB3.out.trans (hbd.mono HB3.out.size))
      replace XD := Lib.hid (XD.out.keep hbd XD.out.lt)
      replace XT := Lib.hid (XT.out.keep hbd XT.out.lt)
      clear hS HKS t0 t1 t2 a0 a1 a2 hbd
      have HBW := Lib.hid (HB.out.trans (HBF.out.mono HB.out.size))
      by_cases hz : rk = 0
      case' neg =>
        have dk : (rk != 0) = true := by simpa using hz
        have HQ := Lib.hid (show rk = R by rw [HPV.out, if_neg hz])
        clear hz HPV HVA HCK
        go_wp2_with fail
        go_ret
        exact ⟨ret_int HQ.out, HBW.out⟩
      subst hz
      have HQ := Lib.hid (show R = if d.2 = true ∧ rv = false then 3 else 0 by rw [HPV.out, if_pos rfl])
      have HV := Lib.hid (HVA.out rfl v9 HBF.out)
      have t0 : v9.cell? ⟨w.heap.size + 1, 0, none⟩ = some (.int .i64 kt) := XT.out.cell 0
      have t1 : v9.cell? ⟨w.heap.size + 1, 1, none⟩ = some (.int .i64 ht) := XT.out.cell 1
      have t2 : v9.cell? ⟨w.heap.size + 1, 2, none⟩ = some (.slice At nt ct) := XT.out.cell 2
      clear HPV HVA HCK XA HRA HC3 HXE
      go_wp2_with fail
      refine HV.out.mono ?_
      rintro e v10 ⟨rfl, hb10⟩
      have HBX := Lib.hid (HBW.out.trans (hb10.mono HBW.out.size))
      have d4 : v10.cell? ⟨w.heap.size, 4, none⟩ = some (.bool d.2) := (XD.out.keep hb10 XD.out.lt).cell 4
      clear hb10 HV t0 t1 t2 XD XT
      generalize d.2 = pd at *
      cases pd with
      | false =>
        have HR := Lib.hid (show 0 = R by rw [HQ.out]; rfl)
        clear HQ
        go_wp2_with fail
        go_ret
        exact ⟨ret_int HR.out, HBX.out⟩
      | true =>
        cases rv with
        | false =>
          have HR := Lib.hid (show 3 = R by rw [HQ.out]; rfl)
          clear HQ
          go_wp2_with fail
          go_ret
          exact ⟨ret_int HR.out, HBX.out⟩
        | true =>
          have HR := Lib.hid (show 0 = R by rw [HQ.out]; rfl)
          clear HQ
          go_wp2_with fail
          go_ret
          exact ⟨ret_int HR.out, HBX.out⟩
end Go.Proofs.YtbbjjdnnlnabaaaGreat
