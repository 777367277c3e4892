/- Texts of one proof, put together. No statement is proved here. -/
import Derived.Test.YtbbjjdnnlnabaaaGreatPkNe
import Derived.Test.YtbbjjdnnlnabaaaGreatPkNa
import Derived.Test.YtbbjjdnnlnabaaaGreatPkB
import Derived.Test.YtbbjjdnnlnabaaaGreatZt
namespace Go.Proofs.YtbbjjdnnlnabaaaGreat
open Go.ChangeShapes Go.WideShapes Go.ChangeAt Go.RowKit
set_option linter.unusedVariables false
set_option linter.unusedSimpArgs false
set_option maxRecDepth 100000
set_option maxHeartbeats 16000000
theorem rxl_anyN {X : Nat → Prop} {w : World} {xs : List T} {A : Option Addr} {n c : Nat} (h : RXL X w xs A n c) : CLV w xs A n c :=
  rxl_clv ⟨h.len, h.le, h.cap, fun i t ht => RdFAt.moveX (fun b hb' hl => ⟨fun e => e.elim, rfl⟩) (h.at_ i t ht)⟩
theorem fiR_ok2 {th : List T} {n : Int} {t t' : T} (h : fiR th n t = .ok t') : flT th t n = .ok t' ∧ myB t = true ∧ myB t' = true := by
  unfold fiR at h
  split at h
  · rename_i hc
    simp only [Bool.and_eq_true] at hc
    cases hq : flT th t n with
    | error e => rw [hq] at h; cases h
    | ok u =>
      rw [hq] at h
      simp only at h
      split at h
      · rename_i hu
        cases h
        exact ⟨rfl, hc.2, hu⟩
      · cases h
  · cases h
theorem fiR_thB {th : List T} {n : Int} {t t' : T} (h : fiR th n t = .ok t') : thB th = true := by
  unfold fiR at h
  split at h
  · rename_i hc
    simp only [Bool.and_eq_true] at hc
    exact hc.1.1.1
  · cases h
theorem fi_lowN {dn : List T} {n : Int} {t t' : T} (hth : ∀ x ∈ dn, myB x = true → okT 2199023255552 x) (hlt : okT loV t) (hn : 0 ≤ n ∧ n ≤ 1000) (hf : fiR dn n t = .ok t') : okT 70368744177664 t' := by
  obtain ⟨f1, f2, f3⟩ := fiR_ok2 hf
  have hb := thB_all (fiR_thB hf)
  have hd := ((myB_iff t).1 f2).2.2
  have := fl_heads (th := dn) (fun x hx => hth x hx (hb x hx)) t n t' hn.1 (by omega) (okT_mono (by unfold loV; omega) _ hlt) f1
  exact okT_mono (by unfold hB; omega) _ this
theorem cx_lowN {dn xs ys : List T} {c : Nat} (hth : ∀ x ∈ dn, myB x = true → okT 2199023255552 x) (hd : LwV xs) (hl : xs.length ≤ 1000) (h : cxL dn 0 xs = .ok (ys, c)) : ∀ y ∈ ys, myB y = true ∧ okT 70368744177664 y := fun y hy => by
  obtain ⟨j, hj⟩ := List.getElem?_of_mem hy
  obtain ⟨h1, h2⟩ := ea_at (F := fun i t => fiR dn (wrap64 (0 + (i : Int))) t) xs 0 0 ys c h
  obtain ⟨x, hx⟩ : ∃ x, xs[j]? = some x := ⟨_, List.getElem?_eq_getElem (by have := (List.getElem?_eq_some_iff.1 hj).1; omega)⟩
  obtain ⟨y', hy', hf⟩ := h2 j x hx
  rw [hj] at hy'
  cases hy'
  have hj2 := (List.getElem?_eq_some_iff.1 hx).1
  rw [wrap_smallN (by omega) (by omega)] at hf
  obtain ⟨f1, f2, f3⟩ := fiR_ok2 hf
  exact ⟨f3, fi_lowN hth (hd x (List.mem_of_getElem? hx) f2) (by omega) hf⟩
theorem plC (sg : List T) (l : List MP) (ext dn : List T) (d : MP) (t : T) (As : Option Addr) (ns cs : Nat) (Am : Option Addr) (nm cm : Nat) (Ac : Option Addr) (nc cc : Nat) (Ad : Option Addr) (i cd : Nat) (A1 : Option Addr) (n1 c1 : Nat) (k h : Int) (A2 : Option Addr) (n2 c2 : Nat) (kt ht : Int) (At : Option Addr) (nt ct : Nat) (w : World)
    (hs : DL w sg As ns cs) (hm : PL w l Am nm cm) (hx : CLV w ext Ac nc cc) (hth : ThI dn w Ad i cd) (hd1 : CLV w d.1.1 A1 n1 c1) (hd2 : Rd w d.1.2 (.agg #[.int .i64 k, .int .i64 h, .slice A2 n2 c2])) (htt : Rd w t (.agg #[.int .i64 kt, .int .i64 ht, .slice At nt ct]))
    (hl : LoV ⟨sg, msP l⟩ ext) (hl1 : LwV d.1.1) (hl2 : myB d.1.2 = true → okT loV d.1.2) (hlt : myB t = true → okT loV t) (hn1 : n1 ≤ 1000) (hnc : nc ≤ 1000000) :
    Calls Tryz.prog 24 #[.agg #[.slice As ns cs, .slice Am nm cm, .slice Ac nc cc], .slice Ad i cd, .agg #[.slice A1 n1 c1, .int .i64 k, .int .i64 h, .slice A2 n2 c2, .bool d.2], .agg #[.int .i64 kt, .int .i64 ht, .slice At nt ct]] w fun e w' => e = .returned (.int .i64 (plV ⟨sg, msP l⟩ l ext dn d t)) ∧ Below w.heap.size w w' := by
  obtain ⟨W0, hW⟩ : ∃ W0, ((w.alloc (.cells #[.slice As ns cs, .slice Am nm cm, .slice Ac nc cc] 51)).alloc (.cells #[.slice A1 n1 c1, .int .i64 k, .int .i64 h, .slice A2 n2 c2, .bool d.2] 42)).alloc (.cells #[.int .i64 kt, .int .i64 ht, .slice At nt ct] 39) = W0 := ⟨_, rfl⟩
  have hb : Below w.heap.size w W0 := by rw [← hW]; exact (((Below.refl _ _).alloc (Nat.le_refl _) _).alloc (by simp) _).alloc (by simp; omega) _
  have XP := Lib.hid (show Box W0 w.heap.size 51 #[.slice As ns cs, .slice Am nm cm, .slice Ac nc cc] by rw [← hW]; exact ((Box.new _ _ _).alloc _).alloc _)
  have XD := Lib.hid (show Box W0 (w.heap.size + 1) 42 #[.slice A1 n1 c1, .int .i64 k, .int .i64 h, .slice A2 n2 c2, .bool d.2] by rw [← hW]; exact ((Box.new (w.alloc _) _ _).at (by simp)).alloc _)
  have XT := Lib.hid (show Box W0 (w.heap.size + 1 + 1) 39 #[.int .i64 kt, .int .i64 ht, .slice At nt ct] by rw [← hW]; exact (Box.new ((w.alloc _).alloc _) _ _).at (by simp))
  have hd1l := hd1.len
  have hxl := hx.len
  have HCX := Lib.hid (CtxC (n := 0) W0 (hth.keep hb) hd1l hd1.le hd1.cap (by omega) (hd1.keep hb).at_ (fun x hx hm => okT_mono (by unfold loV; omega) _ (hl1 x hx hm)))
  have HFI : Hid (∀ (W' : World) (n : Int), Below W0.heap.size W0 W' → Calls Tryz.prog 36 #[.agg #[.int .i64 k, .int .i64 h, .slice A2 n2 c2], .slice Ad i cd, .int .i64 n] W' (FnE (fiR dn n d.1.2) W')) := Lib.hid fun W' n h' => FillC W' (hth.keep (hb.trans (h'.mono hb.size))) (Rd.keep (hb.trans (h'.mono hb.size)) _ _ hd2) (fun hm => okT_mono (by unfold loV; omega) _ (hl2 hm))
  have HPV : Hid (∀ (cx : List T) (c : Nat) (a : T), cxL dn 0 d.1.1 = .ok (cx, c) → fiR dn (cx.length : Nat) d.1.2 = .ok a → plV ⟨sg, msP l⟩ l ext dn d t = if ckT ⟨sg, msP l⟩ (ext ++ cx) t a = 0 then (if d.2 = true ∧ vaV l t = false then 3 else 0) else ckT ⟨sg, msP l⟩ (ext ++ cx) t a) := Lib.hid fun cx c a e1 e2 => by rw [plV, e1]; simp only [e2]
  have HPE : Hid (∀ e, cxL dn 0 d.1.1 = .error e → plV ⟨sg, msP l⟩ l ext dn d t = e) := Lib.hid fun e e1 => by rw [plV, e1]
  have HPF : Hid (∀ (cx : List T) (c : Nat) (e : Int), cxL dn 0 d.1.1 = .ok (cx, c) → fiR dn (cx.length : Nat) d.1.2 = .error e → plV ⟨sg, msP l⟩ l ext dn d t = e) := Lib.hid fun cx c e e1 e2 => by rw [plV, e1]; simp only [e2]
  have HCK : Hid (∀ (cx : List T) (c : Nat) (a : T), cxL dn 0 d.1.1 = .ok (cx, c) → fiR dn (cx.length : Nat) d.1.2 = .ok a → ∀ (W' : World) (A7 : Option Addr) (c7 : Nat) (k3 h3 : Int) (A3 : Option Addr) (n3 c3 : Nat), Below W0.heap.size W0 W' → CLV W' (ext ++ cx) A7 (nc + cx.length) c7 → Rd W' a (.agg #[.int .i64 k3, .int .i64 h3, .slice A3 n3 c3]) →
      Calls Tryz.prog 37 #[.slice As ns cs, .slice Am nm cm, .slice A7 (nc + cx.length) c7, .agg #[.int .i64 kt, .int .i64 ht, .slice At nt ct], .agg #[.int .i64 k3, .int .i64 h3, .slice A3 n3 c3]] W' fun e w' => e = .returned (.int .i64 (ckT ⟨sg, msP l⟩ (ext ++ cx) t a)) ∧ Below W'.heap.size W' w') := Lib.hid fun cx c a e1 e2 W' A7 c7 k3 h3 A3 n3 c3 h' hcl ha => by
    have hb' := hb.trans (h'.mono hb.size)
    have hcl1 := (ea_at (F := fun i t => fiR dn (wrap64 (0 + (i : Int))) t) d.1.1 0 0 cx c e1).1
    have hlo := cx_lowN hth.ok hl1 (by omega) e1
    refine vCheckTermB (B := 70368744177664) (Int.le_refl _) ⟨sg, msP l⟩ (ext ++ cx) t a As ns cs Am nm cm A7 (nc + cx.length) c7 _ _ W' ⟨hs.keep hb', hm.ml.keep hb', hcl⟩ (Rd.keep hb' _ _ htt) ha (fun hy => ?_) hlt (fun hma => fi_lowN hth.ok (hl2 (fiR_ok2 e2).2.1) (by omega) e2)
    obtain ⟨y1, y2, y3, y4, y5⟩ := (mayV_iff _ _ _).1 hy
    refine ⟨fun x hx => ⟨y4 x hx, hl.sg x hx (y4 x hx)⟩, fun m hm => ⟨fun e he => ⟨(y5 m hm).1 e he, (hl.ms m hm).1 e he ((y5 m hm).1 e he)⟩, ⟨(y5 m hm).2, (hl.ms m hm).2 (y5 m hm).2⟩⟩, fun x hx => ⟨y2 x hx, ?_⟩, by unfold loV; omega⟩
    rcases List.mem_append.1 hx with hx' | hx'
    · exact okT_mono (by unfold loV; omega) _ (hl.cx x hx' (y2 x hx))
    · exact (hlo x hx').2
  have HVA : Hid (∀ (cx : List T) (a : T), ckT ⟨sg, msP l⟩ (ext ++ cx) t a = 0 → ∀ W' : World, Below W0.heap.size W0 W' → Calls Tryz.prog 39 #[.agg #[.slice As ns cs, .slice Am nm cm, .slice Ac nc cc], .agg #[.int .i64 kt, .int .i64 ht, .slice At nt ct]] W' fun e w' => e = .returned (.bool (vaV l t)) ∧ Below W'.heap.size W' w') := Lib.hid fun cx a h0 W' h' =>
    vaC l t Am nm cm kt ht At nt ct As Ac ns cs nc cc W' (hm.keep (hb.trans (h'.mono hb.size))) (Rd.keep (hb.trans (h'.mono hb.size)) _ _ htt) (fun h6 => by
      obtain ⟨k1, k2⟩ := ckT_okN h0
      have ny := ((myB_iff t).1 (((mayV_iff _ _ _).1 k1).2.2.1 t (by simp))).1
      have hsc := tm_scoped t _ _ ny k2
      obtain ⟨kk, hh, xs⟩ := t
      obtain ⟨A', n', c', ev, _⟩ := Rd_node.1 htt
      simp only [Value.agg.injEq, Array.mk.injEq, List.cons.injEq, and_true, Value.int.injEq, true_and, Value.slice.injEq] at ev
      obtain ⟨rfl, rfl, rfl, rfl, rfl⟩ := ev
      rw [kdQ] at h6
      rw [scC] at hsc
      have := hsc.2.1 h6
      have hml := hm.ml.len
      rw [hml] at this
      exact ⟨headV ny, this⟩)
  have HLX : Hid (∀ (cx : List T) (c : Nat), cxL dn 0 d.1.1 = .ok (cx, c) → cx.length ≤ 1000000) := Lib.hid fun cx c e1 => by
    have := (ea_at (F := fun i t => fiR dn (wrap64 (0 + (i : Int))) t) d.1.1 0 0 cx c e1).1
    omega
  have HXX := Lib.hid (fun (W' : World) (h' : Below W0.heap.size W0 W') => hx.keep (hb.trans (h'.mono hb.size)))
  have HB := Lib.hid hb
  have H0 := Lib.hid (Below.refl W0.heap.size W0)
  clear hs hm hx hth hd1 hd2 htt hl hl1 hl2 hlt hb hd1l hxl
  generalize plV ⟨sg, msP l⟩ l ext dn d t = R at *
  generalize vaV l t = rv at *
  obtain ⟨rcx, hrcx⟩ : ∃ r, cxL dn 0 d.1.1 = r := ⟨_, rfl⟩
  rw [hrcx] at HCX HPV HPE HPF HCK HLX
  clear hrcx
  have p0 : W0.cell? ⟨w.heap.size, 0, none⟩ = some (.slice As ns cs) := XP.out.cell 0
  have p1 : W0.cell? ⟨w.heap.size, 1, none⟩ = some (.slice Am nm cm) := XP.out.cell 1
  have p2 : W0.cell? ⟨w.heap.size, 2, none⟩ = some (.slice Ac nc cc) := XP.out.cell 2
  have d0 : W0.cell? ⟨w.heap.size + 1, 0, none⟩ = some (.slice A1 n1 c1) := XD.out.cell 0
  have d1 : W0.cell? ⟨w.heap.size + 1, 1, none⟩ = some (.int .i64 k) := XD.out.cell 1
  have d2 : W0.cell? ⟨w.heap.size + 1, 2, none⟩ = some (.int .i64 h) := XD.out.cell 2
  have d3 : W0.cell? ⟨w.heap.size + 1, 3, none⟩ = some (.slice A2 n2 c2) := XD.out.cell 3
  have d4 : W0.cell? ⟨w.heap.size + 1, 4, none⟩ = some (.bool d.2) := XD.out.cell 4
  have t0 : W0.cell? ⟨w.heap.size + 1 + 1, 0, none⟩ = some (.int .i64 kt) := XT.out.cell 0
  have t1 : W0.cell? ⟨w.heap.size + 1 + 1, 1, none⟩ = some (.int .i64 ht) := XT.out.cell 1
  have t2 : W0.cell? ⟨w.heap.size + 1 + 1, 2, none⟩ = some (.slice At nt ct) := XT.out.cell 2
  go_enter Tryz.func24, Tryz.ntmps24
  go_wp2_with fail
  try rw [hW]
  clear hW
  try go_wp2_with fail
  refine HCX.out.mono ?_
  intro e w1 hE
  clear HCX p0 p1 p2 d0 d1 d2 d3 d4 t0 t1 t2
  cases rcx with
  | error ec =>
    obtain ⟨rfl, hne, hb1⟩ := hE
    have HQ := Lib.hid (show ec = R from (HPE.out ec rfl).symm)
    have HB1 := Lib.hid (HB.out.trans (hb1.mono HB.out.size))
    have dz : (ec != 0) = true := by simpa using hne
    clear hne hb1 HPV HPE HPF HCK HFI HVA HXX XP XD XT
    go_wp2_with fail
    go_ret
    exact ⟨ret_int HQ.out, HB1.out⟩
  | ok pcx =>
    obtain ⟨cx, ccx⟩ := pcx
    obtain ⟨A9, n9, c9, rfl, hrl, hb1⟩ := hE
    have hcl9 := rxl_anyN hrl
    have hn9 := hcl9.len
    subst hn9
    have hlc : cx.length ≤ 1000000 := HLX.out cx ccx rfl
    have HC9 := Lib.hid hcl9
    have HB1 := Lib.hid hb1
    replace XP := Lib.hid (XP.out.keep hb1 XP.out.lt)
    replace XD := Lib.hid (XD.out.keep hb1 XD.out.lt)
    replace XT := Lib.hid (XT.out.keep hb1 XT.out.lt)
    clear hb1 hcl9 hrl
    replace HFI := Lib.hid (HFI.out w1 (cx.length : Nat) HB1.out)
    obtain ⟨rfi, hrfi⟩ : ∃ r, fiR dn (cx.length : Nat) d.1.2 = r := ⟨_, rfl⟩
    rw [hrfi] at HFI
    replace HPV := Lib.hid (fun a e2 => HPV.out cx ccx a rfl e2)
    replace HPF := Lib.hid (fun e e2 => HPF.out cx ccx e rfl e2)
    replace HCK := Lib.hid (fun a e2 => HCK.out cx ccx a rfl e2)
    replace HVA := Lib.hid (fun a => HVA.out cx a)
    rw [hrfi] at HPV HPF HCK
    clear hrfi HPE
    have d0 : w1.cell? ⟨w.heap.size + 1, 0, none⟩ = some (.slice A1 n1 c1) := XD.out.cell 0
    have d1 : w1.cell? ⟨w.heap.size + 1, 1, none⟩ = some (.int .i64 k) := XD.out.cell 1
    have d2 : w1.cell? ⟨w.heap.size + 1, 2, none⟩ = some (.int .i64 h) := XD.out.cell 2
    have d3 : w1.cell? ⟨w.heap.size + 1, 3, none⟩ = some (.slice A2 n2 c2) := XD.out.cell 3
    have dz : ((0 : Int) != 0) = false := by decide
    go_wp2_with fail
    refine HFI.out.mono ?_
    intro e w2 hE
    clear HFI d0 d1 d2 d3
    cases rfi with
    | error ec =>
      obtain ⟨rfl, hne, hb2⟩ := hE
      have HQ := Lib.hid (show ec = R from (HPF.out ec rfl).symm)
      have HB2 := Lib.hid ((HB.out.trans (HB1.out.mono HB.out.size)).trans (hb2.mono (HB.out.trans (HB1.out.mono HB.out.size)).size))
      have dz1 : (ec != 0) = true := by simpa using hne
      have HB3 := Lib.hid (HB2.out.alloc HB2.out.size (.cells #[.int .i64 0, .int .i64 0, .slice none 0 0] 39))
      clear hne hb2 HPV HPF HCK HVA HXX XP XD XT
      rw [show zT = .agg #[.int .i64 0, .int .i64 0, .slice none 0 0] from rfl]
      go_wp2_with fail
      go_ret
      exact ⟨ret_int HQ.out, HB3.out⟩
    | ok a =>
      obtain ⟨k3, h3, A3, n3, c3, rfl, hra, hb2⟩ := (show TEnd a 0 w1 e w2 from hE)
      have hw3 : Below w2.heap.size w2 (w2.alloc (.cells #[.int .i64 k3, .int .i64 h3, .slice A3 n3 c3] 39)) := (Below.refl _ _).alloc (Nat.le_refl _) _
      have HB2 := Lib.hid (HB1.out.trans (hb2.mono HB1.out.size))
      have HB3 := Lib.hid (HB2.out.trans (hw3.mono HB2.out.size))
      have XA := Lib.hid (show Box (w2.alloc (.cells #[.int .i64 k3, .int .i64 h3, .slice A3 n3 c3] 39)) w2.heap.size 39 #[.int .i64 k3, .int .i64 h3, .slice A3 n3 c3] from Box.new _ _ _)
      have HRA := Lib.hid (Rd.keep hw3 _ _ (RdF.rd _ _ hra))
      have HLC := Lib.hid hlc
      have HC3 := Lib.hid ((HC9.out.keep hb2).keep hw3)
      replace XP := Lib.hid ((XP.out.keep hb2 XP.out.lt).keep hw3 (XP.out.keep hb2 XP.out.lt).lt)
      replace XD := Lib.hid ((XD.out.keep hb2 XD.out.lt).keep hw3 (XD.out.keep hb2 XD.out.lt).lt)
      replace XT := Lib.hid ((XT.out.keep hb2 XT.out.lt).keep hw3 (XT.out.keep hb2 XT.out.lt).lt)
      clear hw3 hb2 hra hE HC9 HB1 HPF
      replace HPV := Lib.hid (HPV.out a rfl)
      replace HCK := Lib.hid (HCK.out a rfl)
      replace HVA := Lib.hid (HVA.out a)
      obtain ⟨rk, hrk⟩ : ∃ r, ckT ⟨sg, msP l⟩ (ext ++ cx) t a = r := ⟨_, rfl⟩
      rw [hrk] at HPV HCK HVA
      clear hrk
      obtain ⟨w3, hW3⟩ : ∃ w3, w2.alloc (.cells #[.int .i64 k3, .int .i64 h3, .slice A3 n3 c3] 39) = w3 := ⟨_, rfl⟩
      rw [hW3] at HB3 XA HRA HC3 XP XD XT
      have HXE := Lib.hid (HXX.out w3 HB3.out)
      clear HXX HB2
      go_wp2_with fail
      try rw [hW3]
      clear hW3
      try go_wp2_with fail
      have p0 : w3.cell? ⟨w.heap.size, 0, none⟩ = some (.slice As ns cs) := XP.out.cell 0
      have p1 : w3.cell? ⟨w.heap.size, 1, none⟩ = some (.slice Am nm cm) := XP.out.cell 1
      have p2 : w3.cell? ⟨w.heap.size, 2, none⟩ = some (.slice Ac nc cc) := XP.out.cell 2
      have t0 : w3.cell? ⟨w.heap.size + 1 + 1, 0, none⟩ = some (.int .i64 kt) := XT.out.cell 0
      have t1 : w3.cell? ⟨w.heap.size + 1 + 1, 1, none⟩ = some (.int .i64 ht) := XT.out.cell 1
      have t2 : w3.cell? ⟨w.heap.size + 1 + 1, 2, none⟩ = some (.slice At nt ct) := XT.out.cell 2
      have a0 : w3.cell? ⟨w2.heap.size, 0, none⟩ = some (.int .i64 k3) := XA.out.cell 0
      have a1 : w3.cell? ⟨w2.heap.size, 1, none⟩ = some (.int .i64 h3) := XA.out.cell 1
      have a2 : w3.cell? ⟨w2.heap.size, 2, none⟩ = some (.slice A3 n3 c3) := XA.out.cell 2
      have HKS : Hid (∀ w' : World, Below w3.heap.size w3 w' → (fun w' => w'.cell? ⟨w.heap.size, 0, none⟩ = some (.slice As ns cs) ∧ w'.cell? ⟨w.heap.size, 1, none⟩ = some (.slice Am nm cm) ∧ w'.cell? ⟨w.heap.size, 2, none⟩ = some (.slice Ac nc cc) ∧ w'.cell? ⟨w.heap.size + 1 + 1, 0, none⟩ = some (.int .i64 kt) ∧ w'.cell? ⟨w.heap.size + 1 + 1, 1, none⟩ = some (.int .i64 ht) ∧ w'.cell? ⟨w.heap.size + 1 + 1, 2, none⟩ = some (.slice At nt ct) ∧ w'.cell? ⟨w2.heap.size, 0, none⟩ = some (.int .i64 k3) ∧ w'.cell? ⟨w2.heap.size, 1, none⟩ = some (.int .i64 h3) ∧ w'.cell? ⟨w2.heap.size, 2, none⟩ = some (.slice A3 n3 c3)) w') := Lib.hid fun w' h => ⟨(h.cell (cell_lt p0)).trans p0, (h.cell (cell_lt p1)).trans p1, (h.cell (cell_lt p2)).trans p2, (h.cell (cell_lt t0)).trans t0, (h.cell (cell_lt t1)).trans t1, (h.cell (cell_lt t2)).trans t2, (h.cell (cell_lt a0)).trans a0, (h.cell (cell_lt a1)).trans a1, (h.cell (cell_lt a2)).trans a2⟩
      have hbd : Below w3.heap.size w3 w3.drew := (Below.refl _ w3).drew
      refine zzR HKS hbd (fun hS => ?_)
      simp only [List.size_toArray, List.length_cons, List.length_nil, Nat.reduceAdd]
      refine zzT (i := 0) (v := .pointer (some ⟨w.heap.size, 0, none⟩)) rfl hS ?_
      try simp only [Act.put, zzP]
      refine zzT (i := 1) (v := .slice As ns cs) rfl hS ?_
      try simp only [Act.put, zzP]
      refine zzT (i := 2) (v := .pointer (some ⟨w.heap.size, 1, none⟩)) rfl hS ?_
      try simp only [Act.put, zzP]
      refine zzT (i := 3) (v := .slice Am nm cm) rfl hS ?_
      try simp only [Act.put, zzP]
      refine zzT (i := 4) (v := .pointer (some ⟨w.heap.size, 2, none⟩)) rfl hS ?_
      try simp only [Act.put, zzP]
      refine zzT (i := 5) (v := .slice Ac nc cc) rfl hS ?_
      try simp only [Act.put, zzP]
      refine zzT (i := 6) (v := .slice A9 cx.length c9) rfl hS ?_
      try simp only [Act.put, zzP]
      refine zzT (i := 9) (v := .agg #[.int .i64 kt, .int .i64 ht, .slice At nt ct]) rfl hS ?_
      try simp only [Act.put, zzP]
      refine zzT (i := 10) (v := .agg #[.int .i64 k3, .int .i64 h3, .slice A3 n3 c3]) rfl hS ?_
      try simp only [Act.put, zzP]
      refine wpAnyH_ready (rs := [7]) (by kernel_rfl) (by simp) ?_
      refine AllReadyH.cons rfl (fun KN hK => ?_) AllReadyH.nil
      go_simp
      have hb7 : Below w3.heap.size w3 (w3.alloc (.cells #[.slice Ac nc cc, .slice A9 cx.length c9] 24)).drew := ((Below.refl _ w3).alloc (Nat.le_refl _) _).drew
      refine hK.out _ _ (HKS.out _ hb7) (fun hS => ?_)
      clear hK KN
      try simp only [Act.put, zzP]
      have xz : Box (w3.alloc (.cells #[.slice Ac nc cc, .slice A9 cx.length c9] 24)).drew w3.heap.size 24 #[.slice Ac nc cc, .slice A9 cx.length c9] := Box.drewI (Box.new _ _ _)
      have e0 : ((w3.alloc (.cells #[.slice Ac nc cc, .slice A9 cx.length c9] 24)).drew).cell? ⟨w3.heap.size, 0, none⟩ = some (.slice Ac nc cc) := xz.cell 0
      have e1 : ((w3.alloc (.cells #[.slice Ac nc cc, .slice A9 cx.length c9] 24)).drew).cell? ⟨w3.heap.size, 1, none⟩ = some (.slice A9 cx.length c9) := xz.cell 1
      generalize (w3.alloc (.cells #[.slice Ac nc cc, .slice A9 cx.length c9] 24)).drew = v7 at *
      refine wpAnyH_ready (rs := [8]) (by kernel_rfl) (by simp) ?_
      refine AllReadyH.cons rfl (fun KN hK => ?_) AllReadyH.nil
      go_simp
      refine (yConcat (HXE.out.keep hb7) (HC3.out.keep hb7) e0 e1 (by have := HC3.out.le; have := HC3.out.cap; have := HLC.out; omega)).mono ?_
      rintro e v8 ⟨A8, c8, rfl, hcl7, hb8⟩
      have hb8' : Below w3.heap.size w3 v8 := hb7.trans (hb8.mono hb7.size)
      refine hK.out _ _ (HKS.out _ hb8') (fun hS => ?_)
      clear hK KN
      try simp only [Act.put, zzP]
      clear hb8 hb7 xz e0 e1
      refine wpAnyH_ready (rs := [11]) (by kernel_rfl) (by simp) ?_
      refine AllReadyH.cons rfl (fun KN hK => ?_) AllReadyH.nil
      go_simp
      refine (HCK.out v8 A8 c8 k3 h3 A3 n3 c3 (HB3.out.trans (hb8'.mono HB3.out.size)) hcl7 (Rd.keep hb8' _ _ HRA.out)).mono ?_
      rintro e v9 ⟨rfl, hb9⟩
      replace hbd : Below w3.heap.size w3 v9 := hb8'.trans (hb9.mono hb8'.size)
      clear hb9 hb8' 
      refine hK.out _ _ (HKS.out _ hbd) (fun hS => ?_)
      clear hK KN
      try simp only [Act.put, zzP]
      refine zzT (i := 12) (v := .int .i64 rk) rfl hS ?_
      try simp only [Act.put, zzP]
      refine wpAnyH_done (by kernel_rfl) ?_ _
      try simp only [List.setIfInBounds_toArray]
      try simp only [zzP]
      have HBF := Lib.hid (HB3.out.trans (hbd.mono HB3.out.size))
      replace XP := Lib.hid (XP.out.keep hbd XP.out.lt)
      replace XD := Lib.hid (XD.out.keep hbd XD.out.lt)
      replace XT := Lib.hid (XT.out.keep hbd XT.out.lt)
      clear hS HKS p0 p1 p2 t0 t1 t2 a0 a1 a2 hbd hcl7
      have HBW := Lib.hid (HB.out.trans (HBF.out.mono HB.out.size))
      by_cases hz : rk = 0
      case' neg =>
        have dk : (rk != 0) = true := by simpa using hz
        have HQ := Lib.hid (show rk = R by rw [HPV.out, if_neg hz])
        clear hz HPV HVA HCK
        go_wp2_with fail
        go_ret
        exact ⟨ret_int HQ.out, HBW.out⟩
      subst hz
      have HQ := Lib.hid (show R = if d.2 = true ∧ rv = false then 3 else 0 by rw [HPV.out, if_pos rfl])
      have HV := Lib.hid (HVA.out rfl v9 HBF.out)
      have d4 : v9.cell? ⟨w.heap.size + 1, 4, none⟩ = some (.bool d.2) := XD.out.cell 4
      have p0 : v9.cell? ⟨w.heap.size, 0, none⟩ = some (.slice As ns cs) := XP.out.cell 0
      have p1 : v9.cell? ⟨w.heap.size, 1, none⟩ = some (.slice Am nm cm) := XP.out.cell 1
      have p2 : v9.cell? ⟨w.heap.size, 2, none⟩ = some (.slice Ac nc cc) := XP.out.cell 2
      have t0 : v9.cell? ⟨w.heap.size + 1 + 1, 0, none⟩ = some (.int .i64 kt) := XT.out.cell 0
      have t1 : v9.cell? ⟨w.heap.size + 1 + 1, 1, none⟩ = some (.int .i64 ht) := XT.out.cell 1
      have t2 : v9.cell? ⟨w.heap.size + 1 + 1, 2, none⟩ = some (.slice At nt ct) := XT.out.cell 2
      clear HPV HVA HCK XP XD XT XA HRA HC3 HXE
      generalize d.2 = pd at *
      cases pd with
      | false =>
        have HR := Lib.hid (show 0 = R by rw [HQ.out]; rfl)
        clear HV HQ
        go_wp2_with fail
        go_ret
        exact ⟨ret_int HR.out, HBW.out⟩
      | true =>
        go_wp2_with fail
        refine HV.out.mono ?_
        rintro e v10 ⟨rfl, hb10⟩
        have HBX := Lib.hid (HBW.out.trans (hb10.mono HBW.out.size))
        clear hb10 HV p0 p1 p2 t0 t1 t2 d4
        cases rv with
        | false =>
          have HR := Lib.hid (show 3 = R by rw [HQ.out]; rfl)
          clear HQ
          go_wp2_with fail
          go_ret
          exact ⟨ret_int HR.out, HBX.out⟩
        | true =>
          have HR := Lib.hid (show 0 = R by rw [HQ.out]; rfl)
          clear HQ
          go_wp2_with fail
          go_ret
          exact ⟨ret_int HR.out, HBX.out⟩
end Go.Proofs.YtbbjjdnnlnabaaaGreat
namespace Go.Proofs.YtbbjjdnnlnabaaaGreat
open Go.ChangeShapes Go.WideShapes Go.ChangeAt Go.RowKit Go.Shelf
set_option linter.unusedVariables false
set_option linter.unusedSimpArgs false
set_option maxRecDepth 100000
set_option maxHeartbeats 16000000
attribute [local go_sem] Oper.semAt_some
def LoP (ds : List MP) : Prop := ∀ d ∈ ds, LwV d.1.1 ∧ (myB d.1.2 = true → okT loV d.1.2) ∧ d.1.1.length ≤ 1000
theorem LoP.at_ {ds : List MP} (h : LoP ds) {i : Nat} {d : MP} (hd : ds[i]? = some d) : LwV d.1.1 ∧ (myB d.1.2 = true → okT loV d.1.2) ∧ d.1.1.length ≤ 1000 := h d (List.mem_of_getElem? hd)
theorem LoP.ms {ds : List MP} (h : LoP ds) : ∀ m ∈ msP ds, (∀ e ∈ m.1, myB e = true → okT loV e) ∧ (myB m.2 = true → okT loV m.2) := fun m hm => by
  obtain ⟨d, hd, rfl⟩ := List.mem_map.1 hm
  exact ⟨(h d hd).1, (h d hd).2.1⟩
theorem LoP.take {ds : List MP} (h : LoP ds) (i : Nat) : LoP (ds.take i) := fun d hd => h d (List.mem_of_mem_take hd)
theorem ml_cap {w : World} {ms : List (List T × T)} {A : Option Addr} {n c : Nat} (h : ML w ms A n c) : ML w ms A n n := ⟨h.len, Nat.le_refl _, by have := h.le; have := h.cap; omega, h.at_⟩
theorem dcC (sg : List T) (ds : List MP) (As : Option Addr) (ns cs : Nat) (Am : Option Addr) (nm cm : Nat) (w : World) (hs : DL w sg As ns cs) (hm : PL w ds Am nm cm) (hls : LwV sg) (hlp : LoP ds) :
    Calls Tryz.prog 9 #[.slice As ns cs, .slice Am nm cm] w (FiE (dcV sg ds) w) := by
  have hcap := hm.cap
  have hle := hm.le
  unfold maxLen at hcap
  have HS := Lib.hid hs; clear hs
  have HM := Lib.hid hm; clear hm
  have HLS := Lib.hid hls; clear hls
  have HLP := Lib.hid hlp; clear hlp
  have hb3 : ∀ (a b c : Obj), Below w.heap.size w (((w.alloc a).alloc b).alloc c) := fun a b c => (((Below.refl _ _).alloc (Nat.le_refl _) _).alloc (by simp) _).alloc (by simp; omega) _
  by_cases hbig : 40 < nm
  · have d1 : decide ((40 : Int) < (nm : Int)) = true := by simp; omega
    have HE := Lib.hid (show dcV sg ds = (0, 4) by unfold dcV; rw [if_pos (by rw [HM.out.len]; omega)])
    have HB := Lib.hid (hb3 (.cells #[.slice As ns cs] 22) (.cells #[.int .i64 0] 3) (.cells #[.int .i64 4] 29)); clear hb3
    go_enter Tryz.func9, Tryz.ntmps9
    go_wp2_with fail
    refine bodyPost_ret (v := .tuple #[.int .i64 0, .int .i64 4]) (by simp [results, Tryz.results9, go_sem]) rfl ?_
    exact FiE.of0 HE.out (by simpa using HB.out)
  have d1 : decide ((40 : Int) < (nm : Int)) = false := by simp; omega
  clear hb3
  have HE := Lib.hid (show dcV sg ds = fiG (fun i d => deV ⟨sg, msP (ds.take i)⟩ d) 0 ds by unfold dcV; rw [if_neg (by rw [HM.out.len]; omega)])
  refine (callsIn_wide (n := 8)).1 (callsIn_of_wp_marks Tryz.func9 rfl trivial ?_ rfl)
  simp only [Tryz.ntmps9, List.size_toArray, List.length_cons, List.length_nil, Nat.reduceAdd, Nat.reduceSub, Array.replicate_succ, Array.replicate_zero, List.push_toArray, List.append_toArray, List.nil_append, List.cons_append]
  gi_wp2_with (refine ⟨trivial, ?_⟩; gi_at_call 20; refine (callsIn_wide.2 (eachMC _ _ _ _)).mono ?_; rintro e w' ⟨rfl, rfl⟩)
  obtain ⟨W0, hW0⟩ : ∃ W0, (((w.alloc (.cells #[.slice As ns cs] 22)).alloc (.cells #[.int .i64 0] 3)).alloc (.cells #[.int .i64 0] 29)).alloc (.cells #[.slice Am nm cm] 23) = W0 := ⟨_, rfl⟩
  rw [hW0]
  have hbW : Below w.heap.size w W0 := by
    rw [← hW0]; exact ((((Below.refl _ w).alloc (Nat.le_refl _) _).alloc (by simp) _).alloc (by simp; omega) _).alloc (by simp; omega) _
  have bx0 : Box W0 w.heap.size 22 #[.slice As ns cs] := by
    rw [← hW0]; exact (((Box.new w _ _).alloc _).alloc _).alloc _
  have bx1 : Box W0 (w.heap.size + 1) 3 #[.int .i64 0] := by
    rw [← hW0]; exact (((Box.new (w.alloc _) _ _).at (b' := w.heap.size + 1) (by simp)).alloc _).alloc _
  have bx2 : Box W0 (w.heap.size + 1 + 1) 29 #[.int .i64 0] := by
    rw [← hW0]; exact ((Box.new ((w.alloc _).alloc _) _ _).at (b' := w.heap.size + 1 + 1) (by simp)).alloc _
  have bx3 : Box W0 (w.heap.size + 1 + 1 + 1) 23 #[.slice Am nm cm] := by
    rw [← hW0]; exact (Box.new (((w.alloc _).alloc _).alloc _) _ _).at (b' := w.heap.size + 1 + 1 + 1) (by simp)
  clear hW0
  have hl3 := bx3.lt
  have HBX := Lib.hid (And.intro bx0 (And.intro bx1 bx2))
  have HBW := Lib.hid hbW
  refine wpIn_rangeFunc_ownH rfl (by omega) (gf := 29) (lb := #[.pointer (some ⟨w.heap.size + 1 + 1 + 1, 0, none⟩)]) rfl trivial (enters_of Tryz.func29 (by kernel_rfl) rfl)
    (eachMStops 7 w W0 ds Am nm cm _ HM.out hbW bx3) (fun h k => h.trans k) (fun W l o o' h1 h2 h3 h4 => belowK_b (Nat.le_refl _) W l o o' h1 h2 h3 h4) (Below.refl _ _) (fun _ => rfl)
    (fun pre W => Below W0.heap.size W0 W ∧ Hid (∀ x ∈ pre, ∀ d, ds[x.i]? = some d → deV ⟨sg, msP (ds.take x.i)⟩ d = 0))
    (fun cd pre W => cd = .ret ∧ Below w.heap.size w W ∧ ∃ i e, Box W (w.heap.size + 1) 3 #[.int .i64 (i : Nat)] ∧ Box W (w.heap.size + 1 + 1) 29 #[.int .i64 e] ∧ Hid (∃ pre' x d, pre = pre' ++ [x] ∧ (∀ y ∈ pre', ∀ d, ds[y.i]? = some d → deV ⟨sg, msP (ds.take y.i)⟩ d = 0) ∧ x.i = i ∧ ds[i]? = some d ∧ deV ⟨sg, msP (ds.take i)⟩ d = e ∧ e ≠ 0))
    (fun s A B row hs hg hr => ⟨below_kept hs.1 hg hr (by omega) hs.1.size, hs.2⟩)
    (fun _ s A B row hs hg hr => by obtain ⟨h1, h2, i, e, h3, h4, h5⟩ := hs; exact ⟨h1, below_kept h2 hg hr (by have := hbW.size; omega) h2.size, i, e, h3.kept hg hr, h4.kept hg hr, h5⟩) ⟨Below.refl _ _, Lib.hid fun x hx => by cases hx⟩
    (fun x a' W => ∃ By, W0.heap.size ≤ By ∧ Box W By 42 #[.slice x.A1 x.n1 x.c1, .int .i64 x.k, .int .i64 x.h, .slice x.A2 x.n2 x.c2, .bool x.p] ∧ a' = { tmps := #[.slice As ns cs, .slice Am nm cm, .pointer (some ⟨w.heap.size, 0, none⟩), undef, .pointer (some ⟨w.heap.size + 1, 0, none⟩), .pointer (some ⟨w.heap.size + 1 + 1, 0, none⟩), .slice Am x.i x.i, .pointer (some ⟨By, 0, none⟩), undef, .slice Am nm cm, .int .i64 nm, .bool false, .slice Am nm cm, .func (.func 29) #[] #[.pointer (some ⟨w.heap.size + 1 + 1 + 1, 0, none⟩)], .slice Am x.i x.i, .agg #[.slice x.A1 x.n1 x.c1, .int .i64 x.k, .int .i64 x.h, .slice x.A2 x.n2 x.c2, .bool x.p], undef, undef, undef, undef, undef, undef, undef, undef, undef], defers := [] })
    (fun _ _ _ A B row hs hg hr => by obtain ⟨By, h2, h4, h5⟩ := hs; exact ⟨By, h2, h4.kept hg hr, h5⟩) ?assign ?body ?done ?stop
  case assign =>
    rintro l pre x W K ⟨hB, hM⟩ hK
    simp only [encM, List.zip_toArray, List.zip_cons_cons, List.zip_nil_right, List.foldl_toArray, List.foldl_cons, List.foldl_nil, List.setIfInBounds_toArray, List.set_cons_succ, List.set_cons_zero]
    gi_wp2
    have hsz := hB.size
    have hbA : Below W.heap.size W (W.alloc (.cells #[.slice x.A1 x.n1 x.c1, .int .i64 x.k, .int .i64 x.h, .slice x.A2 x.n2 x.c2, .bool x.p] 42)) := (Below.refl _ _).alloc (Nat.le_refl _) _
    exact hK _ _ (keepsFrom_of_below hbA) (hbA.mono hsz) ⟨hB.trans (hbA.mono hsz), hM⟩ ⟨W.heap.size, by omega, Box.new _ _ _, rfl⟩
  case body =>
    rintro l pre x a' W hl ⟨r, hr⟩ ⟨hB, hM⟩ ⟨By, hBy, hbn, rfl⟩ _
    obtain ⟨⟨d, p⟩, hd⟩ : ∃ d, ds[x.i]? = some d := by
      obtain ⟨d, hd, _⟩ := x.ok
      exact ⟨_, hd⟩
    have hok := x.ok
    rw [hd] at hok
    obtain ⟨d', hd', hd1, hd2⟩ := hok
    have hxp : p = x.p := by cases hd'; rfl
    cases hd'
    have hWb := HBW.out.trans (hB.mono HBW.out.size)
    have hil : x.i < nm := by have := (List.getElem?_eq_some_iff.1 hd).1; rw [HM.out.len] at this; exact this
    obtain ⟨l1, l2, l3⟩ := LoP.at_ HLP.out hd
    have hnl := hd1.len
    dsimp only at l1 l2 l3
    have HC := Lib.hid (deC ⟨sg, msP (ds.take x.i)⟩ (d, x.p) As ns cs Am x.i x.i x.A1 x.n1 x.c1 x.k x.h x.A2 x.n2 x.c2 W (HS.out.keep hWb) (ml_cap (((HM.out.take (Nat.le_of_lt hil)).ml).keep hWb)) (hd1.keep hWb) (Rd.keep hWb _ _ hd2) ⟨HLS.out, (LoP.take HLP.out x.i).ms, l1⟩ l2 (by omega))
    have HD := Lib.hid hd
    obtain ⟨R, hR⟩ : ∃ R, deV ⟨sg, msP (ds.take x.i)⟩ (d, x.p) = R := ⟨_, rfl⟩
    rw [hR] at HC
    have HR := Lib.hid hR
    have HBB := Lib.hid hB
    have HMM := Lib.hid hM.out
    have b0 : W.cell? ⟨w.heap.size, 0, none⟩ = some (.slice As ns cs) := (HBX.out.1.keep hB HBX.out.1.lt).cell 0
    have q0 : W.cell? ⟨By, 0, none⟩ = some (.slice x.A1 x.n1 x.c1) := hbn.cell 0
    have q1 : W.cell? ⟨By, 1, none⟩ = some (.int .i64 x.k) := hbn.cell 1
    have q2 : W.cell? ⟨By, 2, none⟩ = some (.int .i64 x.h) := hbn.cell 2
    have q3 : W.cell? ⟨By, 3, none⟩ = some (.slice x.A2 x.n2 x.c2) := hbn.cell 3
    have q4 : W.cell? ⟨By, 4, none⟩ = some (.bool x.p) := hbn.cell 4
    have XI := Lib.hid (show x.i = x.i from rfl)
    clear hd hd1 hd2 l1 l2 l3 hnl hR hM hWb hxp
    gi_wp2_with fail
    refine ⟨trivial, ?_⟩
    refine (CallsIn.inRound l (callsIn_wide.2 HC.out)).mono ?_
    rintro e w1 ⟨rfl, hb1⟩
    have hsz := HBB.out.size
    have HB1 := Lib.hid (HBB.out.trans (hb1.mono hsz))
    have HK1 := Lib.hid (keepsFrom_of_below (B := W0.heap.size) hb1)
    have HKp := Lib.hid (hb1.mono hsz)
    clear hb1 b0 q0 q1 q2 q3 q4 HC
    by_cases hz : R = 0
    · have dz : (R != 0) = false := by simpa using hz
      have HZ := Lib.hid hz; clear hz
      gi_wp2_with fail
      refine ⟨HK1.out, HKp.out, HB1.out, Lib.hid fun y hy d0 hd0 => ?_⟩
      rcases List.mem_append.1 hy with hy | hy
      · exact HMM.out y hy d0 hd0
      · rw [List.mem_singleton.1 hy] at hd0 ⊢
        rw [HD.out] at hd0
        cases hd0
        rw [HR.out]; exact HZ.out
    · have dz : (R != 0) = true := by simpa using hz
      have HZ := Lib.hid hz; clear hz
      have y1 := HBX.out.2.1.keep HB1.out HBX.out.2.1.lt
      have y2 := HBX.out.2.2.keep HB1.out HBX.out.2.2.lt
      have Y1 := Lib.hid y1
      have Y2 := Lib.hid y2
      obtain ⟨c1, f1⟩ := y1.one
      obtain ⟨c2, f2⟩ := y2.one
      have HB1w := Lib.hid (HBW.out.trans (HB1.out.mono HBW.out.size))
      clear y1 y2
      gi_wp2_with fail
      refine ⟨HK1.out.trans ?_, rfl, ?_, x.i, R, ?_, ?_, Lib.hid ⟨pre, x, (d, x.p), rfl, HMM.out, rfl, HD.out, HR.out, HZ.out⟩⟩
      · exact ((KeepsOthers.setCell _ _ _).trans (KeepsOthers.setCell _ _ _)).from _
      · exact (HB1w.out.setCell (p := ⟨w.heap.size + 1, 0, none⟩) (by dsimp only; omega) _).setCell (p := ⟨w.heap.size + 1 + 1, 0, none⟩) (by dsimp only; omega) _
      · exact (Y1.out.set _).other (a := ⟨w.heap.size + 1 + 1, 0, none⟩) (by dsimp only; omega) _
      · exact (Y2.out.other (a := ⟨w.heap.size + 1, 0, none⟩) (by dsimp only; omega) _).set _
  case done =>
    rintro D ys W hD hS ⟨hB, hM⟩ hK
    have y1 := HBX.out.2.1.keep hB HBX.out.2.1.lt
    have y2 := HBX.out.2.2.keep hB HBX.out.2.2.lt
    have hl1 := y1.lt
    have hl2 := y2.lt
    obtain ⟨c1, f1⟩ := y1.one
    obtain ⟨c2, f2⟩ := y2.one
    have z1 : Box ((W.setCell ⟨w.heap.size + 1, 0, none⟩ (.int .i64 0)).setCell ⟨w.heap.size + 1 + 1, 0, none⟩ (.int .i64 0)) (w.heap.size + 1) 3 #[.int .i64 0] := (y1.set _).other (a := ⟨w.heap.size + 1 + 1, 0, none⟩) (by dsimp only; omega) _
    have z2 : Box ((W.setCell ⟨w.heap.size + 1, 0, none⟩ (.int .i64 0)).setCell ⟨w.heap.size + 1 + 1, 0, none⟩ (.int .i64 0)) (w.heap.size + 1 + 1) 29 #[.int .i64 0] := (y2.other (a := ⟨w.heap.size + 1, 0, none⟩) (by dsimp only; omega) _).set _
    have hBw : Below w.heap.size w ((W.setCell ⟨w.heap.size + 1, 0, none⟩ (.int .i64 0)).setCell ⟨w.heap.size + 1 + 1, 0, none⟩ (.int .i64 0)) := ((HBW.out.trans (hB.mono HBW.out.size)).setCell (p := ⟨w.heap.size + 1, 0, none⟩) (by dsimp only; omega) _).setCell (p := ⟨w.heap.size + 1 + 1, 0, none⟩) (by dsimp only; omega) _
    have hK' := (((KeepsOthers.setCell W ⟨w.heap.size + 1, 0, none⟩ (.int .i64 0)).trans (KeepsOthers.setCell _ ⟨w.heap.size + 1 + 1, 0, none⟩ (.int .i64 0))).same D _ hK rfl)
    have HF := Lib.hid (show fiG (fun i d => deV ⟨sg, msP (ds.take i)⟩ d) 0 ds = (0, 0) from fiG_none ds 0 fun j d hj => by
      have hjl := (List.getElem?_eq_some_iff.1 hj).1
      rw [HM.out.len] at hjl
      have hm0 : j ∈ ys.map (·.i) := by rw [hS]; exact List.mem_range.2 hjl
      obtain ⟨y, hy, hyi⟩ := List.mem_map.1 hm0
      have := hM.out y hy d (by rw [hyi]; exact hj)
      rw [hyi] at this
      rw [Nat.zero_add]
      exact this)
    clear hM y1 y2
    gi_wp2_with fail
    have hB' := below_putObj hBw (show w.heap.size ≤ D by have := HBW.out.size; omega) (.deferred none)
    have e1 := (z1.kept (B := 0) (grownBy_putObj' _ D (.deferred none)) (fun r e => by cases e; exact ⟨Nat.zero_le _, _, hK', rfl⟩)).one
    have e2 := (z2.kept (B := 0) (grownBy_putObj' _ D (.deferred none)) (fun r e => by cases e; exact ⟨Nat.zero_le _, _, hK', rfl⟩)).one
    refine ⟨by simp, .inl ⟨_, _, rfl, run_takeDeferred hK', ?_⟩⟩
    refine ⟨.tuple #[.int .i64 0, .int .i64 0], by simp [results, Tryz.results9, go_sem, e1.1, e2.1], ?_⟩
    exact FiE.of0 (by rw [HE.out, HF.out]) hB'
  case stop =>
    rintro D cd pre W hD hS ⟨rfl, hBw, i, e, y1, y2, hH⟩ hK
    have HF := Lib.hid (show fiG (fun i d => deV ⟨sg, msP (ds.take i)⟩ d) 0 ds = (i, e) by
      obtain ⟨pre', x, d, rfl, hall, hxi, hdi, hde, hne⟩ := hH.out
      have hlen : pre'.length = i := by
        rw [List.map_append, List.length_append, List.length_singleton, List.range_succ] at hS
        have := List.append_inj hS (by simp)
        have h2 : x.i = pre'.length := by simpa using this.2
        omega
      have := fiG_first (g := fun i d => deV ⟨sg, msP (ds.take i)⟩ d) hne ds 0 i d (fun j d0 hj hd0 => by
        have hm0 : j ∈ pre'.map (·.i) := by
          rw [List.map_append, List.length_append, List.length_singleton, List.range_succ] at hS
          rw [(List.append_inj hS (by simp)).1]
          exact List.mem_range.2 (by omega)
        obtain ⟨y, hy, hyi⟩ := List.mem_map.1 hm0
        have := hall y hy d0 (by rw [hyi]; exact hd0)
        rw [hyi] at this
        rw [Nat.zero_add]
        exact this) hdi (by rw [Nat.zero_add]; exact hde)
      rwa [Nat.zero_add] at this)
    clear hH
    gi_wp2
    have hB' := below_putObj hBw (show w.heap.size ≤ D by have := HBW.out.size; omega) (.deferred none)
    have e1 := (y1.kept (B := 0) (grownBy_putObj' _ D (.deferred none)) (fun r e => by cases e; exact ⟨Nat.zero_le _, _, hK, rfl⟩)).one
    have e2 := (y2.kept (B := 0) (grownBy_putObj' _ D (.deferred none)) (fun r e => by cases e; exact ⟨Nat.zero_le _, _, hK, rfl⟩)).one
    refine ⟨by simp, .inl ⟨_, _, rfl, run_takeDeferred hK, ?_⟩⟩
    refine ⟨.tuple #[.int .i64 i, .int .i64 e], by simp [results, Tryz.results9, go_sem, e1.1, e2.1], ?_⟩
    exact FiE.of (by rw [HE.out, HF.out]) hB'
end Go.Proofs.YtbbjjdnnlnabaaaGreat
