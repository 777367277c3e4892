/- Texts of one proof, put together. No statement is proved here. -/
import Derived.Test.YtbbjjdnnlnabaaaGreatPkVe
import Derived.Test.YtbbjjdnnlnabaaaGreatZt
namespace Go.Proofs.YtbbjjdnnlnabaaaGreat
open Go.ChangeShapes Go.WideShapes Go.ChangeAt Go.RowKit
set_option linter.unusedVariables false
set_option linter.unusedSimpArgs false
set_option maxRecDepth 100000
set_option maxHeartbeats 16000000
theorem cm_meta {W : WV} {cx : List T} {i : Nat} {xs : List T} {md : List T × T} (hi : W.ms[i]? = some md) : cmV W cx (.node 6 (i : Int) xs) =
    if xs.length = md.1.length then (if mtV W xs [] cx md.1 = 0 then apV md.2 xs cx.length else .error (mtV W xs [] cx md.1)) else .error 3 := by
  have hl := (List.getElem?_eq_some_iff.1 hi).1
  have hmd : mdV W (i : Int) = md := by unfold mdV; rw [Int.toNat_natCast, List.getD_eq_getElem?_getD, hi]; rfl
  rw [cmV, if_neg (by omega), if_pos rfl, if_pos (by omega), hmd]
theorem cm_meta_no {W : WV} {cx : List T} {h : Int} {xs : List T} (hh : W.ms.length ≤ h) : cmV W cx (.node 6 h xs) = .error 2 := by
  rw [cmV, if_neg (by omega), if_pos rfl, if_neg (by omega)]
theorem mt_cons {W : WV} {x e : T} {xs dn cx es : List T} : mtV W (x :: xs) dn cx (e :: es) = if apE e dn cx.length = 0 then (if tmV W x cx (apT e dn cx.length) = 0 then mtV W xs (dn ++ [x]) cx es else tmV W x cx (apT e dn cx.length)) else apE e dn cx.length := by
  rw [mtV]
  rfl
theorem take_snocV {xs : List T} {j : Nat} {x : T} (hx : xs[j]? = some x) : xs.take (j + 1) = xs.take j ++ [x] := by
  have hl := (List.getElem?_eq_some_iff.1 hx).1
  rw [List.take_succ_eq_append_getElem hl, (List.getElem?_eq_some_iff.1 hx).2]
structure MeIv (W : WV) (xs cx es : List T) (As : Option Addr) (ns cs : Nat) (Am : Option Addr) (nm cm : Nat) (Ac : Option Addr) (nc cc : Nat) (h : Int) (A : Option Addr) (n c : Nat) (Ad : Option Addr) (ndd cd : Nat) (kt gt : Int) (At : Option Addr) (nt ct : Nat) (pb : Bool) (Bd : Nat) (w : World) (j : Nat) (wr : World) : Prop where
  cb : Box wr w.heap.size 75 #[.slice As ns cs, .slice Am nm cm, .slice Ac nc cc]
  tb : Box wr (w.heap.size + 1) 39 #[.int .i64 6, .int .i64 h, .slice A n c]
  rb : Box wr (w.heap.size + 1 + 1) 39 #[.int .i64 0, .int .i64 0, .slice none 0 0]
  db : Box wr Bd 42 #[.slice Ad ndd cd, .int .i64 kt, .int .i64 gt, .slice At nt ct, .bool pb]
  below : Below w.heap.size w wr
  eq : mtV W xs [] cx es = mtV W (xs.drop j) (xs.take j) cx (es.drop j)
theorem vMetaC {W : WV} {h : Int} {xs : List T} (ih : ∀ x ∈ xs, TmC W x) : HdC 94 W 6 h xs := by
  intro cx B As ns cs Am nm cm Ac nc cc A n c w0 w hE hbm hsum hlen hb0 hk hv
  have hccap := hk.cx.cap
  have hcle := hk.cx.le
  have hcl := hk.cx.len
  have hscap := hk.sg.cap
  have hsle := hk.sg.le
  have hsl := hk.sg.len
  have hmcap := hk.ms.cap
  have hmle := hk.ms.le
  have hml := hk.ms.len
  unfold maxLen at hccap hscap hmcap
  have h0 := headV hbm.nod
  have hx : CLV w0 xs A n c := by
    obtain ⟨A', n', c', e, _, _, h3, h4, h5, h6⟩ := Rd_node.1 hv
    have e' : A = A' ∧ n = n' ∧ c = c' := by simpa using e
    obtain ⟨rfl, rfl, rfl⟩ := e'
    exact ⟨h3, h4, h5, h6⟩
  obtain ⟨W0, hW⟩ : ∃ W0, ((w.alloc (.cells #[.slice As ns cs, .slice Am nm cm, .slice Ac nc cc] 75)).alloc (.cells #[.int .i64 6, .int .i64 h, .slice A n c] 39)).alloc (.cells #[.int .i64 0, .int .i64 0, .slice none 0 0] 39) = W0 := ⟨_, rfl⟩
  have hb : Below w.heap.size w W0 := by rw [← hW]; exact (((Below.refl _ _).alloc (Nat.le_refl _) _).alloc (by simp) _).alloc (by simp; omega) _
  have x0 : Box W0 w.heap.size 75 #[.slice As ns cs, .slice Am nm cm, .slice Ac nc cc] := by rw [← hW]; exact ((Box.new _ _ _).alloc _).alloc _
  have x1 : Box W0 (w.heap.size + 1) 39 #[.int .i64 6, .int .i64 h, .slice A n c] := by rw [← hW]; exact ((Box.new (w.alloc _) _ _).at (by simp)).alloc _
  have x2 : Box W0 (w.heap.size + 1 + 1) 39 #[.int .i64 0, .int .i64 0, .slice none 0 0] := by rw [← hW]; exact (Box.new ((w.alloc _).alloc _) _ _).at (by simp)
  have HB0 := Lib.hid hb0
  have HB := Lib.hid (hb0.trans (hb.mono hb0.size))
  have HK := Lib.hid hk
  have HX := Lib.hid hx
  have HE := Lib.hid hE
  have HBM := Lib.hid hbm
  have HSUM := Lib.hid hsum
  have HLEN := Lib.hid hlen
  have HIH := Lib.hid ih
  have HBW := Lib.hid hb
  have HW := Lib.hid hW; clear hW hv hk hx hE hbm hsum hlen ih hb0 hb
  obtain ⟨c0, c1, c2⟩ := x0.three
  obtain ⟨d0, d1, d2⟩ := x1.three
  obtain ⟨r0, r1, r2⟩ := x2.three
  have f0 := x2.frozen 0
  have f1 := x2.frozen 1
  have f2 := x2.frozen 2
  have lz := x2.lt
  by_cases hlt : (nm : Int) ≤ h
  · have hd : decide (h ≥ (nm : Int)) = true := by simpa using hlt
    have HEQ := Lib.hid (cm_meta_no (W := W) (xs := xs) (cx := cx) (h := h) (by omega))
    have hW := HW.out
    go_enter Tryz.func94, Tryz.ntmps94
    go_wp2_with fail
    clear HW hW
    refine bodyPost_ret (v := .tuple #[.agg #[.int .i64 0, .int .i64 0, .slice none 0 0], .int .i64 2]) (by simp [results, Tryz.results94, go_sem, r0, r1, r2]) rfl ?_
    first | exact spE_err0 HEQ.out HBW.out | exact spE_err HEQ.out HBW.out (p := w.heap.size + 1 + 1) (by omega) _ _ _
  have hd : decide (h ≥ (nm : Int)) = false := by simpa using hlt
  obtain ⟨i, rfl⟩ : ∃ i : Nat, h = (i : Int) := ⟨h.toNat, by omega⟩
  obtain ⟨md, hen⟩ := at_of HK.out.ms.len (show i < nm by omega)
  replace HBM := Lib.hid (HBM.out.bd (fun e9 => by have h9 := List.mem_of_getElem? hen; rw [e9] at h9; cases h9))
  have HEQ := Lib.hid (cm_meta (W := W) (cx := cx) (xs := xs) hen)
  obtain ⟨bc, oc, Ad, ndd, cd, ke, he, Ae, ne, ce, pb, eA, e0, e1, e2, e3, e4, hlx, hre⟩ := HK.out.ms.at_ i md hen
  subst eA
  have hbm := HE.out.ms md (List.mem_of_getElem? hen)
  replace e0 := (HB.out.cell (cell_lt e0)).trans e0
  replace e1 := (HB.out.cell (cell_lt e1)).trans e1
  replace e2 := (HB.out.cell (cell_lt e2)).trans e2
  replace e3 := (HB.out.cell (cell_lt e3)).trans e3
  replace e4 := (HB.out.cell (cell_lt e4)).trans e4
  have hs00 := HB0.out.size
  have HLX := Lib.hid hlx
  have HRE := Lib.hid hre
  have HMD := Lib.hid hbm
  have hdcap := hlx.cap
  have hdle := hlx.le
  have hdl := hlx.len
  unfold maxLen at hdcap
  clear hen hlx hre hbm
  have hi0 : (0 : Int) ≤ i := by omega
  have hi1 : (i : Int) < nm := by omega
  have hnn := HX.out.len
  have hncap := HX.out.cap
  have hnle := HX.out.le
  unfold maxLen at hncap
  obtain ⟨es, tt⟩ := md
  have hW := HW.out
  go_enter Tryz.func94, Tryz.ntmps94
  go_wp2_with fail
  clear HW hW
  have HKS : Hid (∀ w' : World, Below W0.heap.size W0 w' → (fun w' => w'.cell? ⟨w.heap.size, 1, none⟩ = some (.slice (some ⟨bc, oc, none⟩) nm cm) ∧ w'.cell? ⟨w.heap.size, 2, none⟩ = some (.slice Ac nc cc) ∧ w'.cell? ⟨w.heap.size + 1, 1, none⟩ = some (.int .i64 i) ∧ w'.cell? ⟨bc, oc + i * 5, none⟩ = some (.slice Ad ndd cd) ∧ w'.cell? ⟨bc, oc + i * 5 + 1, none⟩ = some (.int .i64 ke) ∧ w'.cell? ⟨bc, oc + i * 5 + 2, none⟩ = some (.int .i64 he) ∧ w'.cell? ⟨bc, oc + i * 5 + 3, none⟩ = some (.slice Ae ne ce) ∧ w'.cell? ⟨bc, oc + i * 5 + 4, none⟩ = some (.bool pb)) w') := Lib.hid fun w' h => ⟨(h.cell (cell_lt c1)).trans c1, (h.cell (cell_lt c2)).trans c2, (h.cell (cell_lt d1)).trans d1, (h.cell (cell_lt e0)).trans e0, (h.cell (cell_lt e1)).trans e1, (h.cell (cell_lt e2)).trans e2, (h.cell (cell_lt e3)).trans e3, (h.cell (cell_lt e4)).trans e4⟩
  have hbd : Below W0.heap.size W0 W0.drew := (Below.refl _ W0).drew
  refine zzR HKS hbd (fun hS => ?_)
  simp only [List.size_toArray, List.length_cons, List.length_nil, Nat.reduceAdd]
  refine zzT (i := 0) (v := .pointer (some ⟨w.heap.size, 1, none⟩)) rfl hS ?_
  try simp only [Act.put, List.setIfInBounds_toArray]
  refine zzT (i := 1) (v := .slice (some ⟨bc, oc, none⟩) nm cm) rfl hS ?_
  try simp only [Act.put]
  refine zzT (i := 2) (v := .pointer (some ⟨w.heap.size + 1, 1, none⟩)) rfl hS ?_
  try simp only [Act.put]
  refine zzT (i := 3) (v := .int .i64 i) rfl hS ?_
  try simp only [Act.put]
  refine zzT (i := 4) (v := .pointer (some ⟨bc, oc + i * 5, none⟩)) rfl hS ?_
  try simp only [Act.put]
  refine zzT (i := 5) (v := .agg #[.slice Ad ndd cd, .int .i64 ke, .int .i64 he, .slice Ae ne ce, .bool pb]) rfl hS ?_
  try simp only [Act.put]
  refine zzT (i := 6) (v := .pointer (some ⟨w.heap.size, 2, none⟩)) rfl hS ?_
  try simp only [Act.put]
  refine zzT (i := 7) (v := .slice Ac nc cc) rfl hS ?_
  try simp only [Act.put]
  refine zzT (i := 8) (v := .int .i64 nc) rfl hS ?_
  try simp only [Act.put]
  refine wpAnyH_ready (rs := [9]) (by kernel_rfl) (by simp) ?_
  refine AllReadyH.cons rfl (fun KN hK => ?_) AllReadyH.nil
  go_simp
  have hb5 : Below W0.heap.size W0 (W0.alloc (.cells #[.slice none 0 0, .int .i64 0, .int .i64 0, .slice none 0 0, .bool false] 42)).drew := ((Below.refl _ W0).alloc (Nat.le_refl _) _).drew
  refine hK.out _ _ (HKS.out _ hb5) (fun hS => ?_)
  clear hK KN
  try simp only [Act.put, zzP]
  have xd : Box (W0.alloc (.cells #[.slice none 0 0, .int .i64 0, .int .i64 0, .slice none 0 0, .bool false] 42)).drew W0.heap.size 42 #[.slice none 0 0, .int .i64 0, .int .i64 0, .slice none 0 0, .bool false] := Box.drewI (Box.new _ _ _)
  obtain ⟨Bd, hBd⟩ : ∃ p, W0.heap.size = p := ⟨_, rfl⟩
  rw [hBd] at xd
  try rw [hBd]
  have hlB : w.heap.size + 1 + 1 < Bd := by omega
  have HBD := Lib.hid hBd
  clear hBd
  generalize (W0.alloc (.cells #[.slice none 0 0, .int .i64 0, .int .i64 0, .slice none 0 0, .bool false] 42)).drew = W5 at *
  have z0 : W5.cell? ⟨Bd, 0, none⟩ = some (.slice none 0 0) := xd.cell 0
  have z1 : W5.cell? ⟨Bd, 1, none⟩ = some (.int .i64 0) := xd.cell 1
  have z2 : W5.cell? ⟨Bd, 2, none⟩ = some (.int .i64 0) := xd.cell 2
  have z3 : W5.cell? ⟨Bd, 3, none⟩ = some (.slice none 0 0) := xd.cell 3
  have z4 : W5.cell? ⟨Bd, 4, none⟩ = some (.bool false) := xd.cell 4
  have u0 := xd.frozen 0
  have u1 := xd.frozen 1
  have u2 := xd.frozen 2
  have u3 := xd.frozen 3
  have u4 := xd.frozen 4
  refine wpAnyH_ready (rs := [10]) (by kernel_rfl) (by simp) ?_
  refine AllReadyH.cons rfl (fun KN hK => ?_) AllReadyH.nil
  go_simp
  have hBle : W0.heap.size ≤ Bd := by rw [HBD.out]; exact Nat.le_refl _
  have hbF : Below W0.heap.size W0 (((((W5.setCell ⟨Bd, 0, none⟩ (.slice Ad ndd cd)).setCell ⟨Bd, 1, none⟩ (.int .i64 ke)).setCell ⟨Bd, 2, none⟩ (.int .i64 he)).setCell ⟨Bd, 3, none⟩ (.slice Ae ne ce)).setCell ⟨Bd, 4, none⟩ (.bool pb)) := ((((hb5.setCell hBle _).setCell hBle _).setCell hBle _).setCell hBle _).setCell hBle _
  refine hK.out _ _ (HKS.out _ hbF) (fun hS => ?_)
  clear hK KN
  try simp only [Act.put, zzP]
  have yd : Box (((((W5.setCell ⟨Bd, 0, none⟩ (.slice Ad ndd cd)).setCell ⟨Bd, 1, none⟩ (.int .i64 ke)).setCell ⟨Bd, 2, none⟩ (.int .i64 he)).setCell ⟨Bd, 3, none⟩ (.slice Ae ne ce)).setCell ⟨Bd, 4, none⟩ (.bool pb)) Bd 42 #[.slice Ad ndd cd, .int .i64 ke, .int .i64 he, .slice Ae ne ce, .bool pb] := by simpa using ((((xd.setAt 0 (.slice Ad ndd cd)).setAt 1 (.int .i64 ke)).setAt 2 (.int .i64 he)).setAt 3 (.slice Ae ne ce)).setAt 4 (.bool pb)
  clear z0 z1 z2 z3 z4 u0 u1 u2 u3 u4 xd hb5
  generalize ((((W5.setCell ⟨Bd, 0, none⟩ (.slice Ad ndd cd)).setCell ⟨Bd, 1, none⟩ (.int .i64 ke)).setCell ⟨Bd, 2, none⟩ (.int .i64 he)).setCell ⟨Bd, 3, none⟩ (.slice Ae ne ce)).setCell ⟨Bd, 4, none⟩ (.bool pb) = W6 at *
  refine zzT (i := 11) (v := .int .i64 nc) rfl hS ?_
  try simp only [Act.put, List.setIfInBounds_toArray]
  refine wpAnyH_done (by kernel_rfl) ?_ _
  try simp only [List.setIfInBounds_toArray]
  have yc := x0.keep hbF x0.lt
  have ym := x1.keep hbF x1.lt
  have yr := x2.keep hbF x2.lt
  have HBW6 := Lib.hid (HBW.out.trans (hbF.mono HBW.out.size))
  have lz6 := yd.lt
  clear hS HKS hbd hbF x0 x1 x2 c0 c1 c2 d0 d1 d2 r0 r1 r2 f0 f1 f2 e0 e1 e2 e3 e4 lz HB HBW
  obtain ⟨m0, m1, m2⟩ := ym.three
  obtain ⟨r0, r1, r2⟩ := yr.three
  have f0 := yr.frozen 0
  have f1 := yr.frozen 1
  have f2 := yr.frozen 2
  have q0 : W6.cell? ⟨Bd, 0, none⟩ = some (.slice Ad ndd cd) := yd.cell 0
  by_cases hne : n = ndd
  case' neg =>
    have hd2 : ((n : Int) != (ndd : Int)) = true := by simp; omega
    have HEQ2 := Lib.hid (HEQ.out.trans (if_neg (show ¬ xs.length = es.length by omega)))
    go_wp2_with fail
    refine bodyPost_ret (v := .tuple #[.agg #[.int .i64 0, .int .i64 0, .slice none 0 0], .int .i64 3]) (by simp [results, Tryz.results94, go_sem, r0, r1, r2]) rfl ?_
    first | exact spE_err0 HEQ2.out HBW6.out | exact spE_err HEQ2.out HBW6.out (p := w.heap.size + 1 + 1) (by omega) _ _ _
  subst hne
  have HEQ2 := Lib.hid (HEQ.out.trans (if_pos (show xs.length = es.length by omega)))
  have HI0 : Hid (MeIv W xs cx es As ns cs (some ⟨bc, oc, none⟩) nm cm Ac nc cc i A n c Ad n cd ke he Ae ne ce pb Bd w 0 W6) := Lib.hid ⟨yc, ym, yr, yd, HBW6.out, by rw [List.drop_zero, List.take_zero, List.drop_zero]⟩
  clear HEQ yc ym yr yd
  go_wp2_with fail
  clear m0 m1 m2 r0 r1 r2 f0 f1 f2 q0 HBW6
  go_loopw [40] (fun i' wr => ∃ (j : Nat), j ≤ n ∧ i' = .int .i64 j ∧ Hid (MeIv W xs cx es As ns cs (some ⟨bc, oc, none⟩) nm cm Ac nc cc i A n c Ad n cd ke he Ae ne ce pb Bd w j wr)) (fun i _ => n - (Go.RowKit.intOf i).toNat)
  case atStart => exact ⟨0, Nat.zero_le _, rfl, HI0⟩
  case round =>
    clear HI0
    obtain ⟨j, hj, rfl, HI⟩ := hrel
    by_cases hlt2 : j < n
    · obtain ⟨x, hxj⟩ := at_of HX.out.len hlt2
      have hel : es.length = n := hdl
      obtain ⟨en, hej⟩ := at_of hel hlt2
      have HBX := Lib.hid (HBM.out.arg (List.mem_of_getElem? hxj))
      have HBE := Lib.hid (HMD.out.1 en (List.mem_of_getElem? hej))
      have hB0w := Lib.hid (HB0.out.trans (HI.out.below.mono HB0.out.size))
      obtain ⟨ba, oa, kx, gx, Ax, nx, cx', eA, v0, v1, v2, hrx⟩ := ((HX.out.keep hB0w.out).at_ j x hxj).full
      obtain ⟨be, oe, ke2, ge2, Ae2, ne2, ce2, eE, e0, e1, e2, hre⟩ := ((HLX.out.keep hB0w.out).at_ j en hej).full
      have eA0 := eA
      subst eA eE
      have heq := HI.out.eq
      rw [drop_at hxj, drop_at hej, mt_cons] at heq
      have HME := Lib.hid heq
      have HXJ := Lib.hid hxj
      have hnl := nd_mem (List.mem_of_getElem? hxj)
      have hBh : B + (1 + nd x) * dlV ≤ hiV := by have := HSUM.out; rw [nd] at this; unfold dlV hiV at *; omega
      have hLh : cx.length + nd x ≤ 1000000 := by have := HLEN.out; rw [nd] at this; omega
      obtain ⟨Wa, hWa⟩ : ∃ Wa, wr.alloc (.cells #[.int .i64 ke2, .int .i64 ge2, .slice Ae2 ne2 ce2] 39) = Wa := ⟨_, rfl⟩
      have hbA : Below wr.heap.size wr Wa := by rw [← hWa]; exact (Below.refl _ _).alloc (Nat.le_refl _) _
      have xa : Box Wa wr.heap.size 39 #[.int .i64 ke2, .int .i64 ge2, .slice Ae2 ne2 ce2] := by rw [← hWa]; exact Box.new _ _ _
      have zc := HI.out.cb.keep hbA HI.out.cb.lt
      have zt := HI.out.tb.keep hbA HI.out.tb.lt
      have zr := HI.out.rb.keep hbA HI.out.rb.lt
      have zd := HI.out.db.keep hbA HI.out.db.lt
      have HBA := Lib.hid (HI.out.below.trans (hbA.mono HI.out.below.size))
      have HB0A := Lib.hid (hB0w.out.trans (hbA.mono hB0w.out.size))
      have HRX := Lib.hid (Rd.keep hbA _ _ hrx)
      have HREN := Lib.hid (Rd.keep hbA _ _ hre)
      have HVC := Lib.hid (And.intro ((hbA.cell (cell_lt v0)).trans v0) (And.intro ((hbA.cell (cell_lt v1)).trans v1) ((hbA.cell (cell_lt v2)).trans v2)))
      have hj0 : (0 : Int) ≤ j := by omega
      have hj1 : (j : Int) < n := by omega
      have hj3 : (j : Int) ≤ (c : Int) := by omega
      obtain ⟨ee, hee⟩ : ∃ e, apE en (xs.take j) nc = e := ⟨_, rfl⟩
      have HEE := Lib.hid hee
      have HAP : Hid (∀ W' : World, Below Wa.heap.size Wa W' → Calls Tryz.prog 103 #[.agg #[.int .i64 ke2, .int .i64 ge2, .slice Ae2 ne2 ce2], .agg #[.slice (some ⟨ba, oa, none⟩) j j, .int .i64 nc]] W' (TEnd (apT en (xs.take j) nc) ee W')) := Lib.hid fun W' h' => by
        rw [← hee]
        exact ApplyC (Rd.keep h' _ _ HREN.out) (by rw [List.length_take, hnn]; omega) (Nat.le_refl _) (by unfold maxLen; omega) (fun q u hu => by
          have hq : q < j := by have := (List.getElem?_eq_some_iff.1 hu).1; rw [List.length_take] at this; omega
          rw [List.getElem?_take_of_lt hq] at hu
          exact RdAt.keep (HB0A.out.trans (h'.mono HB0A.out.size)) (HX.out.at_ q u hu)) (fun _ => lo_of HBE.out (by decide)) (fun y hy _ => lo_of (HBM.out.arg (List.mem_of_mem_take hy)) (by decide))
      clear hee hxj hej heq hrx hre hnl
      obtain ⟨t0, t1, t2⟩ := zt.three
      obtain ⟨a0, a1, a2⟩ := xa.three
      have lzA := zd.lt
      have lzr := zr.lt
      go_wp2_with fail
      clear e0 e1 e2 v0 v1 v2
      have HKS : Hid (∀ w' : World, Below Wa.heap.size Wa w' → (fun w' => w'.cell? ⟨wr.heap.size, 0, none⟩ = some (.int .i64 ke2) ∧ w'.cell? ⟨wr.heap.size, 1, none⟩ = some (.int .i64 ge2) ∧ w'.cell? ⟨wr.heap.size, 2, none⟩ = some (.slice Ae2 ne2 ce2) ∧ w'.cell? ⟨w.heap.size + 1, 2, none⟩ = some (.slice (some ⟨ba, oa, none⟩) n c)) w') := Lib.hid fun w' h => ⟨(h.cell (cell_lt a0)).trans a0, (h.cell (cell_lt a1)).trans a1, (h.cell (cell_lt a2)).trans a2, (h.cell (cell_lt t2)).trans t2⟩
      have hbd : Below Wa.heap.size Wa Wa.drew := (Below.refl _ Wa).drew
      refine zzR HKS hbd (fun hS => ?_)
      simp only [List.size_toArray, List.length_cons, List.length_nil, Nat.reduceAdd]
      refine zzT (i := 0) (v := .agg #[.int .i64 ke2, .int .i64 ge2, .slice Ae2 ne2 ce2]) rfl hS ?_
      try simp only [Act.put, List.setIfInBounds_toArray]
      refine zzT (i := 1) (v := .pointer (some ⟨w.heap.size + 1, 2, none⟩)) rfl hS ?_
      try simp only [Act.put]
      refine zzT (i := 2) (v := .slice (some ⟨ba, oa, none⟩) n c) rfl hS ?_
      try simp only [Act.put]
      refine zzT (i := 3) (v := .int .i64 j) rfl hS ?_
      try simp only [Act.put]
      refine zzT (i := 4) (v := .int .i64 j) rfl hS ?_
      try simp only [Act.put]
      refine zzT (i := 5) (v := .slice (some ⟨ba, oa, none⟩) j j) rfl hS ?_
      try simp only [Act.put]
      refine zzT (i := 6) (v := .int .i64 nc) rfl hS ?_
      try simp only [Act.put]
      refine zzT (i := 7) (v := .agg #[.slice (some ⟨ba, oa, none⟩) j j, .int .i64 nc]) rfl hS ?_
      try simp only [Act.put]
      refine wpAnyH_ready (rs := [8, 12]) (by kernel_rfl) (by simp) ?_
      refine AllReadyH.cons rfl (fun KN hK => ?_) (AllReadyH.cons rfl (fun KN hK => ?_) AllReadyH.nil)
      · go_simp
        refine (HAP.out _ hbd).mono ?_
        rintro e w8 ⟨k3, h3, A3, n3, c3, rfl, hrd, hb8⟩
        have hb8' : Below Wa.heap.size Wa w8 := hbd.trans (hb8.mono hbd.size)
        have hrd8 : RdF (fun b => Wa.heap.size ≤ b) w8 (apT en (xs.take j) nc) (.agg #[.int .i64 k3, .int .i64 h3, .slice A3 n3 c3]) := hrd
        refine hK.out _ _ (HKS.out _ hb8') (fun hS => ?_)
        clear hK KN
        try simp only [Act.put, zzP]
        clear hb8 hrd
        refine zzT (i := 9) (v := .tuple #[.agg #[.int .i64 k3, .int .i64 h3, .slice A3 n3 c3], .int .i64 ee]) rfl hS ?_
        try simp only [Act.put, List.setIfInBounds_toArray]
        refine zzT (i := 10) (v := .agg #[.int .i64 k3, .int .i64 h3, .slice A3 n3 c3]) rfl hS ?_
        try simp only [Act.put]
        refine zzT (i := 11) (v := .int .i64 ee) rfl hS ?_
        try simp only [Act.put]
        refine wpAnyH_ready (rs := [12]) (by kernel_rfl) (by simp) ?_
        refine AllReadyH.cons rfl (fun KN hK => ?_) AllReadyH.nil
        go_simp
        have hb9 : Below Wa.heap.size Wa (w8.alloc (.cells #[.int .i64 0, .int .i64 0, .slice none 0 0] 39)) := hb8'.alloc hb8'.size _
        refine hK.out _ _ (HKS.out _ hb9) (fun hS => ?_)
        clear hK KN
        try simp only [Act.put, zzP]
        have xz : Box (w8.alloc (.cells #[.int .i64 0, .int .i64 0, .slice none 0 0] 39)) w8.heap.size 39 #[.int .i64 0, .int .i64 0, .slice none 0 0] := Box.new _ _ _
        have hrd9 : RdF (fun b => Wa.heap.size ≤ b ∧ b ≠ w8.heap.size) (w8.alloc (.cells #[.int .i64 0, .int .i64 0, .slice none 0 0] 39)) (apT en (xs.take j) nc) (.agg #[.int .i64 k3, .int .i64 h3, .slice A3 n3 c3]) := RdF.moveX (fun b hok hl => ⟨⟨hok, by omega⟩, Below.heap_alloc _ _ _ hl⟩) _ _ hrd8
        have hpl : Wa.heap.size ≤ w8.heap.size := hb8'.size
        clear hrd8 hb8'
        generalize w8.alloc (.cells #[.int .i64 0, .int .i64 0, .slice none 0 0] 39) = w9 at *
        generalize w8.heap.size = pB at *
        obtain ⟨z0, z1, z2⟩ := xz.three
        have u0 := xz.frozen 0
        have u1 := xz.frozen 1
        have u2 := xz.frozen 2
        refine wpAnyH_ready (rs := [13]) (by kernel_rfl) (by simp) ?_
        refine AllReadyH.cons rfl (fun KN hK => ?_) AllReadyH.nil
        go_simp
        have hbF := below_set3 hb9 (a := pB) hpl (.int .i64 k3) (.int .i64 h3) (.slice A3 n3 c3)
        refine hK.out _ _ (HKS.out _ hbF) (fun hS => ?_)
        clear hK KN
        try simp only [Act.put, zzP]
        have xB := xz.put3 (.int .i64 k3) (.int .i64 h3) (.slice A3 n3 c3)
        have hrdF : RdF (fun b => Wa.heap.size ≤ b ∧ b ≠ pB) (((w9.setCell ⟨pB, 0, none⟩ (.int .i64 k3)).setCell ⟨pB, 1, none⟩ (.int .i64 h3)).setCell ⟨pB, 2, none⟩ (.slice A3 n3 c3)) (apT en (xs.take j) nc) (.agg #[.int .i64 k3, .int .i64 h3, .slice A3 n3 c3]) := RdF.moveX (fun b hok hl => ⟨hok, heap_other3 _ _ _ _ _ _ hok.2⟩) _ _ hrd9
        clear hrd9 xz hb9 z0 z1 z2 u0 u1 u2
        generalize ((w9.setCell ⟨pB, 0, none⟩ (.int .i64 k3)).setCell ⟨pB, 1, none⟩ (.int .i64 h3)).setCell ⟨pB, 2, none⟩ (.slice A3 n3 c3) = Wf at *
        refine zzT (i := 14) (v := .int .i64 ee) rfl hS ?_
        try simp only [Act.put, List.setIfInBounds_toArray]
        refine wpAnyH_done (by kernel_rfl) ?_ _
        try simp only [List.setIfInBounds_toArray]
        have HBF := Lib.hid (HBA.out.trans (hbF.mono HBA.out.size))
        have yc := zc.keep hbF zc.lt
        have ym := zt.keep hbF zt.lt
        have yr := zr.keep hbF zr.lt
        have yd := zd.keep hbF zd.lt
        have HRX2 := Lib.hid (Rd.keep hbF _ _ HRX.out)
        have v0 := (hbF.cell (cell_lt HVC.out.1)).trans HVC.out.1
        have v1 := (hbF.cell (cell_lt HVC.out.2.1)).trans HVC.out.2.1
        have v2 := (hbF.cell (cell_lt HVC.out.2.2)).trans HVC.out.2.2
        have HB0F := Lib.hid (HB0A.out.trans (hbF.mono HB0A.out.size))
        clear hS HKS hbd HAP zc zt zr zd t0 t1 t2 a0 a1 a2 hbF hpl xa
        obtain ⟨y0, y1, y2⟩ := xB.three
        obtain ⟨r0, r1, r2⟩ := yr.three
        have f0 := yr.frozen 0
        have f1 := yr.frozen 1
        have f2 := yr.frozen 2
        by_cases hz2 : ee = 0
        · subst hz2
          have hbr : BdV (B + dlV) (apT en (xs.take j) nc) := bd_ap (HBE.out.mono HE.out.lo) (fun y hy => (HBM.out.arg (List.mem_of_mem_take hy)).mono HE.out.lo) HEE.out
          have HTC := Lib.hid (fun W' (h' : Below Wf.heap.size Wf W') => HIH.out x (List.mem_of_getElem? HXJ.out) cx (apT en (xs.take j) nc) (B + dlV) As ns cs (some ⟨bc, oc, none⟩) nm cm Ac nc cc _ _ W' (HE.out.mono (by unfold dlV; omega)) HBX.out.wk hbr (by unfold dlV hiV at *; omega) hLh (HK.out.keep (HB0F.out.trans (h'.mono HB0F.out.size))) (Rd.keep h' _ _ HRX2.out) (Rd.keep h' _ _ (RdF.rd _ _ hrdF)))
          have HME1 := Lib.hid (HME.out.trans (if_pos (by rw [hcl]; exact HEE.out)))
          rw [hcl] at HME1
          obtain ⟨e4, he4⟩ : ∃ e, tmV W x cx (apT en (xs.take j) nc) = e := ⟨_, rfl⟩
          have HE4 := Lib.hid he4
          rw [he4] at HTC
          clear hbr he4
          obtain ⟨s0, s1, s2⟩ := yc.three
          obtain ⟨m0, m1, m2⟩ := ym.three
          have p0 := Past.cell s0
          have p1 := Past.cell s1
          have p2 := Past.cell s2
          have p3 := Past.cell m2
          have p4 := Past.cell v0
          have p5 := Past.cell v1
          have p6 := Past.cell v2
          have p7 := Past.cell y0
          have p8 := Past.cell y1
          have p9 := Past.cell y2
          go_wp2_with fail
          clear s0 s1 s2 m0 m1 m2 v0 v1 v2 y0 y1 y2 r0 r1 r2 f0 f1 f2
          refine wp_region_past (by kernel_rfl) (by kernel_rfl) ?_
          repeat (go_big_quiet_step ((exact calls_past (HTC.out _ (Past.h _)))))
          refine wpQuiet_nil ?_
          rintro _ ⟨zz, rfl⟩
          obtain ⟨W9, hb9⟩ := zz
          dsimp only
          clear p0 p1 p2 p3 p4 p5 p6 p7 p8 p9 HTC
          have HB9 := Lib.hid (HBF.out.trans (hb9.mono HBF.out.size))
          replace yc := yc.keep hb9 yc.lt
          replace ym := ym.keep hb9 ym.lt
          replace yr := yr.keep hb9 yr.lt
          replace yd := yd.keep hb9 yd.lt
          obtain ⟨r0, r1, r2⟩ := yr.three
          have f0 := yr.frozen 0
          have f1 := yr.frozen 1
          have f2 := yr.frozen 2
          clear hb9
          by_cases hz4 : e4 = 0
          · subst hz4
            go_wp2_with fail
            go_roundw
            case measure => simp [Go.RowKit.intOf]; omega
            case rel =>
              refine ⟨j + 1, by omega, by go_num, Lib.hid ⟨yc, ym, yr, yd, HB9.out, ?_⟩⟩
              rw [HME1.out, if_pos HE4.out, take_snocV HXJ.out]
          · have hd4 : (e4 != 0) = true := by simpa using hz4
            have HE5 := Lib.hid (show mtV W xs [] cx es = e4 by rw [HME1.out, if_neg (by rw [HE4.out]; exact hz4), HE4.out])
            have HEQ3 := Lib.hid (HEQ2.out.trans (if_neg (by rw [HE5.out]; exact hz4)))
            rw [HE5.out] at HEQ3
            go_wp2_with fail
            refine bodyPost_ret (v := .tuple #[.agg #[.int .i64 0, .int .i64 0, .slice none 0 0], .int .i64 e4]) (by simp [results, Tryz.results94, go_sem, r0, r1, r2]) rfl ?_
            first | exact spE_err0 HEQ3.out HB9.out | exact spE_err HEQ3.out HB9.out (p := w.heap.size + 1 + 1) (by omega) _ _ _
        · have hd2 : (ee != 0) = true := by simpa using hz2
          have HE5 := Lib.hid (show mtV W xs [] cx es = ee by rw [HME.out, if_neg (by rw [hcl, HEE.out]; exact hz2), hcl, HEE.out])
          have HEQ3 := Lib.hid (HEQ2.out.trans (if_neg (by rw [HE5.out]; exact hz2)))
          rw [HE5.out] at HEQ3
          go_wp2_with fail
          refine bodyPost_ret (v := .tuple #[.agg #[.int .i64 0, .int .i64 0, .slice none 0 0], .int .i64 ee]) (by simp [results, Tryz.results94, go_sem, r0, r1, r2]) rfl ?_
          first | exact spE_err0 HEQ3.out HBF.out | exact spE_err HEQ3.out HBF.out (p := w.heap.size + 1 + 1) (by omega) _ _ _
      · go_simp
        have hb7 : Below Wa.heap.size Wa (Wa.alloc (.cells #[.int .i64 0, .int .i64 0, .slice none 0 0] 39)).drew := ((Below.refl _ Wa).alloc (Nat.le_refl _) _).drew
        refine hK.out _ _ (HKS.out _ hb7) (fun hS => ?_)
        clear hK KN
        try simp only [Act.put, zzP]
        have xz : Box (Wa.alloc (.cells #[.int .i64 0, .int .i64 0, .slice none 0 0] 39)).drew Wa.heap.size 39 #[.int .i64 0, .int .i64 0, .slice none 0 0] := Box.drewI (Box.new _ _ _)
        obtain ⟨pB, hpB0⟩ : ∃ p, Wa.heap.size = p := ⟨_, rfl⟩
        have hpl : Wa.heap.size ≤ pB := by omega
        have hplt : pB < (Wa.alloc (.cells #[.int .i64 0, .int .i64 0, .slice none 0 0] 39)).drew.heap.size := by rw [← hpB0]; exact xz.lt
        rw [hpB0] at xz
        try rw [hpB0]
        have hpB1 := Lib.hid hpB0
        clear hpB0
        generalize (Wa.alloc (.cells #[.int .i64 0, .int .i64 0, .slice none 0 0] 39)).drew = w7 at *
        refine wpAnyH_ready (rs := [8]) (by kernel_rfl) (by simp) ?_
        refine AllReadyH.cons rfl (fun KN hK => ?_) AllReadyH.nil
        go_simp
        refine (HAP.out _ hb7).mono ?_
        rintro e w8 ⟨k3, h3, A3, n3, c3, rfl, hrd, hb8⟩
        have hb8' : Below Wa.heap.size Wa w8 := hb7.trans (hb8.mono hb7.size)
        have hrd8 : RdF (fun b => Wa.heap.size ≤ b ∧ b ≠ pB) w8 (apT en (xs.take j) nc) (.agg #[.int .i64 k3, .int .i64 h3, .slice A3 n3 c3]) := RdF.moveX (fun b hok hl => ⟨⟨by have := hb7.size; omega, by omega⟩, rfl⟩) _ _ hrd
        have xz8 := xz.keep hb8 xz.lt
        refine hK.out _ _ (HKS.out _ hb8') (fun hS => ?_)
        clear hK KN
        try simp only [Act.put, zzP]
        clear hb8 hrd xz hb7
        refine zzT (i := 9) (v := .tuple #[.agg #[.int .i64 k3, .int .i64 h3, .slice A3 n3 c3], .int .i64 ee]) rfl hS ?_
        try simp only [Act.put, List.setIfInBounds_toArray]
        refine zzT (i := 10) (v := .agg #[.int .i64 k3, .int .i64 h3, .slice A3 n3 c3]) rfl hS ?_
        try simp only [Act.put]
        refine zzT (i := 11) (v := .int .i64 ee) rfl hS ?_
        try simp only [Act.put]
        obtain ⟨z0, z1, z2⟩ := xz8.three
        have u0 := xz8.frozen 0
        have u1 := xz8.frozen 1
        have u2 := xz8.frozen 2
        refine wpAnyH_ready (rs := [13]) (by kernel_rfl) (by simp) ?_
        refine AllReadyH.cons rfl (fun KN hK => ?_) AllReadyH.nil
        go_simp
        have hbF := below_set3 hb8' (a := pB) hpl (.int .i64 k3) (.int .i64 h3) (.slice A3 n3 c3)
        refine hK.out _ _ (HKS.out _ hbF) (fun hS => ?_)
        clear hK KN
        try simp only [Act.put, zzP]
        have xB := xz8.put3 (.int .i64 k3) (.int .i64 h3) (.slice A3 n3 c3)
        have hrdF : RdF (fun b => Wa.heap.size ≤ b ∧ b ≠ pB) (((w8.setCell ⟨pB, 0, none⟩ (.int .i64 k3)).setCell ⟨pB, 1, none⟩ (.int .i64 h3)).setCell ⟨pB, 2, none⟩ (.slice A3 n3 c3)) (apT en (xs.take j) nc) (.agg #[.int .i64 k3, .int .i64 h3, .slice A3 n3 c3]) := RdF.moveX (fun b hok hl => ⟨hok, heap_other3 _ _ _ _ _ _ hok.2⟩) _ _ hrd8
        clear hrd8 xz8 hb8' z0 z1 z2 u0 u1 u2 hplt hpB1
        generalize ((w8.setCell ⟨pB, 0, none⟩ (.int .i64 k3)).setCell ⟨pB, 1, none⟩ (.int .i64 h3)).setCell ⟨pB, 2, none⟩ (.slice A3 n3 c3) = Wf at *
        refine zzT (i := 14) (v := .int .i64 ee) rfl hS ?_
        try simp only [Act.put, List.setIfInBounds_toArray]
        refine wpAnyH_done (by kernel_rfl) ?_ _
        try simp only [List.setIfInBounds_toArray]
        have HBF := Lib.hid (HBA.out.trans (hbF.mono HBA.out.size))
        have yc := zc.keep hbF zc.lt
        have ym := zt.keep hbF zt.lt
        have yr := zr.keep hbF zr.lt
        have yd := zd.keep hbF zd.lt
        have HRX2 := Lib.hid (Rd.keep hbF _ _ HRX.out)
        have v0 := (hbF.cell (cell_lt HVC.out.1)).trans HVC.out.1
        have v1 := (hbF.cell (cell_lt HVC.out.2.1)).trans HVC.out.2.1
        have v2 := (hbF.cell (cell_lt HVC.out.2.2)).trans HVC.out.2.2
        have HB0F := Lib.hid (HB0A.out.trans (hbF.mono HB0A.out.size))
        clear hS HKS hbd HAP zc zt zr zd t0 t1 t2 a0 a1 a2 hbF hpl xa
        obtain ⟨y0, y1, y2⟩ := xB.three
        obtain ⟨r0, r1, r2⟩ := yr.three
        have f0 := yr.frozen 0
        have f1 := yr.frozen 1
        have f2 := yr.frozen 2
        by_cases hz2 : ee = 0
        · subst hz2
          have hbr : BdV (B + dlV) (apT en (xs.take j) nc) := bd_ap (HBE.out.mono HE.out.lo) (fun y hy => (HBM.out.arg (List.mem_of_mem_take hy)).mono HE.out.lo) HEE.out
          have HTC := Lib.hid (fun W' (h' : Below Wf.heap.size Wf W') => HIH.out x (List.mem_of_getElem? HXJ.out) cx (apT en (xs.take j) nc) (B + dlV) As ns cs (some ⟨bc, oc, none⟩) nm cm Ac nc cc _ _ W' (HE.out.mono (by unfold dlV; omega)) HBX.out.wk hbr (by unfold dlV hiV at *; omega) hLh (HK.out.keep (HB0F.out.trans (h'.mono HB0F.out.size))) (Rd.keep h' _ _ HRX2.out) (Rd.keep h' _ _ (RdF.rd _ _ hrdF)))
          have HME1 := Lib.hid (HME.out.trans (if_pos (by rw [hcl]; exact HEE.out)))
          rw [hcl] at HME1
          obtain ⟨e4, he4⟩ : ∃ e, tmV W x cx (apT en (xs.take j) nc) = e := ⟨_, rfl⟩
          have HE4 := Lib.hid he4
          rw [he4] at HTC
          clear hbr he4
          obtain ⟨s0, s1, s2⟩ := yc.three
          obtain ⟨m0, m1, m2⟩ := ym.three
          have p0 := Past.cell s0
          have p1 := Past.cell s1
          have p2 := Past.cell s2
          have p3 := Past.cell m2
          have p4 := Past.cell v0
          have p5 := Past.cell v1
          have p6 := Past.cell v2
          have p7 := Past.cell y0
          have p8 := Past.cell y1
          have p9 := Past.cell y2
          go_wp2_with fail
          clear s0 s1 s2 m0 m1 m2 v0 v1 v2 y0 y1 y2 r0 r1 r2 f0 f1 f2
          refine wp_region_past (by kernel_rfl) (by kernel_rfl) ?_
          repeat (go_big_quiet_step ((exact calls_past (HTC.out _ (Past.h _)))))
          refine wpQuiet_nil ?_
          rintro _ ⟨zz, rfl⟩
          obtain ⟨W9, hb9⟩ := zz
          dsimp only
          clear p0 p1 p2 p3 p4 p5 p6 p7 p8 p9 HTC
          have HB9 := Lib.hid (HBF.out.trans (hb9.mono HBF.out.size))
          replace yc := yc.keep hb9 yc.lt
          replace ym := ym.keep hb9 ym.lt
          replace yr := yr.keep hb9 yr.lt
          replace yd := yd.keep hb9 yd.lt
          obtain ⟨r0, r1, r2⟩ := yr.three
          have f0 := yr.frozen 0
          have f1 := yr.frozen 1
          have f2 := yr.frozen 2
          clear hb9
          by_cases hz4 : e4 = 0
          · subst hz4
            go_wp2_with fail
            go_roundw
            case measure => simp [Go.RowKit.intOf]; omega
            case rel =>
              refine ⟨j + 1, by omega, by go_num, Lib.hid ⟨yc, ym, yr, yd, HB9.out, ?_⟩⟩
              rw [HME1.out, if_pos HE4.out, take_snocV HXJ.out]
          · have hd4 : (e4 != 0) = true := by simpa using hz4
            have HE5 := Lib.hid (show mtV W xs [] cx es = e4 by rw [HME1.out, if_neg (by rw [HE4.out]; exact hz4), HE4.out])
            have HEQ3 := Lib.hid (HEQ2.out.trans (if_neg (by rw [HE5.out]; exact hz4)))
            rw [HE5.out] at HEQ3
            go_wp2_with fail
            refine bodyPost_ret (v := .tuple #[.agg #[.int .i64 0, .int .i64 0, .slice none 0 0], .int .i64 e4]) (by simp [results, Tryz.results94, go_sem, r0, r1, r2]) rfl ?_
            first | exact spE_err0 HEQ3.out HB9.out | exact spE_err HEQ3.out HB9.out (p := w.heap.size + 1 + 1) (by omega) _ _ _
        · have hd2 : (ee != 0) = true := by simpa using hz2
          have HE5 := Lib.hid (show mtV W xs [] cx es = ee by rw [HME.out, if_neg (by rw [hcl, HEE.out]; exact hz2), hcl, HEE.out])
          have HEQ3 := Lib.hid (HEQ2.out.trans (if_neg (by rw [HE5.out]; exact hz2)))
          rw [HE5.out] at HEQ3
          go_wp2_with fail
          refine bodyPost_ret (v := .tuple #[.agg #[.int .i64 0, .int .i64 0, .slice none 0 0], .int .i64 ee]) (by simp [results, Tryz.results94, go_sem, r0, r1, r2]) rfl ?_
          first | exact spE_err0 HEQ3.out HBF.out | exact spE_err HEQ3.out HBF.out (p := w.heap.size + 1 + 1) (by omega) _ _ _
    · obtain rfl : j = n := by omega
      have heq := HI.out.eq
      rw [drop_all HX.out.len (Nat.le_refl _), mtV] at heq
      have HEQ3 := Lib.hid (HEQ2.out.trans (if_pos heq))
      have hB0w := Lib.hid (HB0.out.trans (HI.out.below.mono HB0.out.size))
      have HAP : Hid (Calls Tryz.prog 103 #[.agg #[.int .i64 ke, .int .i64 he, .slice Ae ne ce], .agg #[.slice A j c, .int .i64 nc]] wr (TEnd (apT tt xs nc) (apE tt xs nc) wr)) := Lib.hid
        (ApplyC (Rd.keep hB0w.out _ _ HRE.out) hnn hnle HX.out.cap (fun q u hu => RdAt.keep hB0w.out (HX.out.at_ q u hu)) (fun _ => lo_of HMD.out.2 (by decide)) (fun y hy _ => lo_of (HBM.out.arg hy) (by decide)))
      have HER := Lib.hid (show erV (apV tt xs nc) = apE tt xs nc by unfold apV; split; (rename_i h; rw [h]; rfl); rfl)
      have HOK := Lib.hid (show ∀ t, apV tt xs nc = .ok t → t = apT tt xs nc by intro t; unfold apV; split; (intro e; cases e; rfl); (intro e; cases e))
      rw [hcl] at HEQ3
      obtain ⟨R, hR⟩ : ∃ R, apV tt xs nc = R := ⟨_, rfl⟩
      rw [hR] at HEQ3 HER HOK
      rw [← HER.out] at HAP
      obtain ⟨m0, m1, m2⟩ := HI.out.tb.three
      have q1 : wr.cell? ⟨Bd, 1, none⟩ = some (.int .i64 ke) := HI.out.db.cell 1
      have q2 : wr.cell? ⟨Bd, 2, none⟩ = some (.int .i64 he) := HI.out.db.cell 2
      have q3 : wr.cell? ⟨Bd, 3, none⟩ = some (.slice Ae ne ce) := HI.out.db.cell 3
      clear heq hR
      go_wp2_with fail
      refine HAP.out.mono ?_
      rintro e w8 ⟨k4, h4, A4, n4, c4, rfl, hrd, hb8⟩
      have z2 := HI.out.rb.keep hb8 HI.out.rb.lt
      obtain ⟨r0, r1, r2⟩ := z2.three
      have f0 := z2.frozen 0
      have f1 := z2.frozen 1
      have f2 := z2.frozen 2
      have y := z2.put3 (.int .i64 k4) (.int .i64 h4) (.slice A4 n4 c4)
      have HRD := Lib.hid hrd
      have HB8 := Lib.hid (HI.out.below.trans (hb8.mono HI.out.below.size))
      have lzr := HI.out.rb.lt
      clear hrd hb8 m0 m1 m2 q1 q2 q3 HAP
      obtain ⟨y0, y1, y2⟩ := y.three
      clear y
      go_wp2_with fail
      refine bodyPost_ret (v := .tuple #[.agg #[.int .i64 k4, .int .i64 h4, .slice A4 n4 c4], .int .i64 (erV R)]) (by simp [results, Tryz.results94, go_sem, y0, y1, y2]) rfl ?_
      rw [HEQ3.out]
      exact spE_moved (p := w.heap.size + 1 + 1) (m := wr.heap.size) (fun t e => by
        rw [HOK.out t e]
        exact RdF.moveX (fun b hok hl => ⟨.inr (by omega), rfl⟩) _ _ HRD.out) HB8.out (by omega) (by omega) _ _ _ _ rfl
theorem cm_none {W : WV} {cx : List T} {k h : Int} {xs : List T} (h4 : k ≠ 4) (h5 : k ≠ 5) (h6 : k ≠ 6) : cmV W cx (.node k h xs) = .error 3 := by
  rw [cmV, if_neg (by omega), if_neg h6]
theorem kind_cases {k h : Int} {n : Nat} (e : okN k h n = true) : 0 ≤ k ∧ k < 7 := by
  rcases okN_cases e with ⟨e, _⟩ | ⟨e, _⟩ | ⟨e, _⟩ | ⟨e, _⟩ | ⟨e, _⟩ | ⟨e, _⟩ | ⟨e, _⟩ <;> omega
theorem idxV0 (W : World) : (Instr.index 121 (.agg #[.nilFunc, .nilFunc, .nilFunc, .nilFunc, .func (.func 92) #[] #[], .func (.func 93) #[] #[], .func (.func 94) #[] #[]]) (.int .i64 0)).run Tryz.prog W = .ok (.nilFunc) W := by kernel_rfl
theorem idxV1 (W : World) : (Instr.index 121 (.agg #[.nilFunc, .nilFunc, .nilFunc, .nilFunc, .func (.func 92) #[] #[], .func (.func 93) #[] #[], .func (.func 94) #[] #[]]) (.int .i64 1)).run Tryz.prog W = .ok (.nilFunc) W := by kernel_rfl
theorem idxV2 (W : World) : (Instr.index 121 (.agg #[.nilFunc, .nilFunc, .nilFunc, .nilFunc, .func (.func 92) #[] #[], .func (.func 93) #[] #[], .func (.func 94) #[] #[]]) (.int .i64 2)).run Tryz.prog W = .ok (.nilFunc) W := by kernel_rfl
theorem idxV3 (W : World) : (Instr.index 121 (.agg #[.nilFunc, .nilFunc, .nilFunc, .nilFunc, .func (.func 92) #[] #[], .func (.func 93) #[] #[], .func (.func 94) #[] #[]]) (.int .i64 3)).run Tryz.prog W = .ok (.nilFunc) W := by kernel_rfl
theorem idxV4 (W : World) : (Instr.index 121 (.agg #[.nilFunc, .nilFunc, .nilFunc, .nilFunc, .func (.func 92) #[] #[], .func (.func 93) #[] #[], .func (.func 94) #[] #[]]) (.int .i64 4)).run Tryz.prog W = .ok (.func (.func 92) #[] #[]) W := by kernel_rfl
theorem idxV5 (W : World) : (Instr.index 121 (.agg #[.nilFunc, .nilFunc, .nilFunc, .nilFunc, .func (.func 92) #[] #[], .func (.func 93) #[] #[], .func (.func 94) #[] #[]]) (.int .i64 5)).run Tryz.prog W = .ok (.func (.func 93) #[] #[]) W := by kernel_rfl
theorem idxV6 (W : World) : (Instr.index 121 (.agg #[.nilFunc, .nilFunc, .nilFunc, .nilFunc, .func (.func 92) #[] #[], .func (.func 93) #[] #[], .func (.func 94) #[] #[]]) (.int .i64 6)).run Tryz.prog W = .ok (.func (.func 94) #[] #[]) W := by kernel_rfl
theorem nilV (f : FuncId) (W : World) : (binOp .eql 120 (.func (.func f) #[] #[]) .nilFunc).run Tryz.prog W = .ok (.bool false) W := by kernel_rfl
theorem nilV0 (W : World) : (binOp .eql 120 .nilFunc .nilFunc).run Tryz.prog W = .ok (.bool true) W := by kernel_rfl
theorem vComesC {W : WV} {k h : Int} {xs : List T} (ih : ∀ x ∈ xs, TmC W x) : HdC 72 W k h xs := by
  intro cx B As ns cs Am nm cm Ac nc cc A n c w0 w hE hbm hsum hlen hb0 hk hv
  obtain ⟨W0, hW⟩ : ∃ W0, ((w.alloc (.cells #[.slice As ns cs, .slice Am nm cm, .slice Ac nc cc] 75)).alloc (.cells #[.int .i64 k, .int .i64 h, .slice A n c] 39)).alloc (.cells #[.int .i64 0, .int .i64 0, .slice none 0 0] 39) = W0 := ⟨_, rfl⟩
  have hb : Below w.heap.size w W0 := by rw [← hW]; exact (((Below.refl _ _).alloc (Nat.le_refl _) _).alloc (by simp) _).alloc (by simp; omega) _
  have x0 : Box W0 w.heap.size 75 #[.slice As ns cs, .slice Am nm cm, .slice Ac nc cc] := by rw [← hW]; exact ((Box.new _ _ _).alloc _).alloc _
  have x1 : Box W0 (w.heap.size + 1) 39 #[.int .i64 k, .int .i64 h, .slice A n c] := by rw [← hW]; exact ((Box.new (w.alloc _) _ _).at (by simp)).alloc _
  have x2 : Box W0 (w.heap.size + 1 + 1) 39 #[.int .i64 0, .int .i64 0, .slice none 0 0] := by rw [← hW]; exact (Box.new ((w.alloc _).alloc _) _ _).at (by simp)
  have hb0' := hb0.trans (hb.mono hb0.size)
  have lz := x2.lt
  have hs0 := hb0.size
  obtain ⟨c0, c1, c2⟩ := x0.three
  obtain ⟨d0, d1, d2⟩ := x1.three
  obtain ⟨r0, r1, r2⟩ := x2.three
  have f0 := x2.frozen 0
  have f1 := x2.frozen 1
  have f2 := x2.frozen 2
  have HBW := Lib.hid hb
  have key : (k = 4 ∨ k = 5 ∨ k = 6) ∨ (k ≠ 4 ∧ k ≠ 5 ∧ k ≠ 6) := by omega
  rcases key with hk3 | hk3
  · have hfin : ∀ (w8 : World) (k4 h4 : Int) (A4 : Option Addr) (n4 c4 : Nat), (∀ t, cmV W cx (.node k h xs) = .ok t → RdF (fun b => (b < w0.heap.size ∧ b < W0.heap.size) ∨ W0.heap.size ≤ b) w8 t (.agg #[.int .i64 k4, .int .i64 h4, .slice A4 n4 c4])) → Below W0.heap.size W0 w8 →
        SpE (fun b => b < w0.heap.size) (cmV W cx (.node k h xs)) w (.returned (.tuple #[.agg #[.int .i64 k4, .int .i64 h4, .slice A4 n4 c4], .int .i64 (erV (cmV W cx (.node k h xs)))])) (((w8.setCell ⟨w.heap.size + 1 + 1, 0, none⟩ (.int .i64 k4)).setCell ⟨w.heap.size + 1 + 1, 1, none⟩ (.int .i64 h4)).setCell ⟨w.heap.size + 1 + 1, 2, none⟩ (.slice A4 n4 c4)) := fun w8 k4 h4 A4 n4 c4 hr hb8 =>
      spE_moved (p := w.heap.size + 1 + 1) (m := W0.heap.size) (fun t e => RdF.moveX (fun b hok hl => ⟨by rcases hok with h | h; exact .inl ⟨h.1, by have := h.1; omega⟩; exact .inr h, rfl⟩) _ _ (hr t e)) (hb.trans (hb8.mono hb.size)) (by omega) (by omega) _ _ _ _ rfl
    have HFIN := Lib.hid hfin
    have HX2 := Lib.hid x2
    clear hfin hb x0 x1 x2
    rcases hk3 with rfl | rfl | rfl
    case' inl =>
      have hnl := nilV
      have hix := idxV4
      have HC := Lib.hid (vVarC ih cx B As ns cs Am nm cm Ac nc cc A n c w0 W0 hE hbm hsum hlen hb0' hk hv)
    case' inr.inl =>
      have hnl := nilV
      have hix := idxV5
      have HC := Lib.hid (vConstC ih cx B As ns cs Am nm cm Ac nc cc A n c w0 W0 hE hbm hsum hlen hb0' hk hv)
    case' inr.inr =>
      have hnl := nilV
      have hix := idxV6
      have HC := Lib.hid (vMetaC ih cx B As ns cs Am nm cm Ac nc cc A n c w0 W0 hE hbm hsum hlen hb0' hk hv)
    all_goals
      clear hE hbm hsum hlen hb0' hk hv hb0
      generalize cmV W cx _ = R at *
      go_enter Tryz.func72, Tryz.ntmps72
      go_wp2_with fail
      clear hW
      refine HC.out.mono ?_
      rintro e w8 ⟨k4, h4, A4, n4, c4, rfl, hrd, hb8⟩
      have z2 := HX2.out.keep hb8 HX2.out.lt
      clear r0 r1 r2 f0 f1 f2 c0 c1 c2 d0 d1 d2
      obtain ⟨r0, r1, r2⟩ := z2.three
      have f0 := z2.frozen 0
      have f1 := z2.frozen 1
      have f2 := z2.frozen 2
      obtain ⟨y0, y1, y2⟩ := (z2.put3 (.int .i64 k4) (.int .i64 h4) (.slice A4 n4 c4)).three
      have HRD := Lib.hid hrd
      have HB8 := Lib.hid hb8
      clear z2 hrd hb8
      go_wp2_with fail
      refine bodyPost_ret (v := .tuple #[.agg #[.int .i64 k4, .int .i64 h4, .slice A4 n4 c4], .int .i64 (erV R)]) (by simp [results, Tryz.results72, go_sem, y0, y1, y2]) rfl ?_
      exact HFIN.out w8 k4 h4 A4 n4 c4 HRD.out HB8.out
  · have HEQ := Lib.hid (cm_none (W := W) (cx := cx) (h := h) (xs := xs) hk3.1 hk3.2.1 hk3.2.2)
    have hkc := kind_cases (nodV hbm.nod).1
    have hk7 : k = 0 ∨ k = 1 ∨ k = 2 ∨ k = 3 := by omega
    clear hE hbm hsum hlen hb0' hk hv hb0 hkc hb
    have hnl := nilV0
    have hi0 := idxV0
    have hi1 := idxV1
    have hi2 := idxV2
    have hi3 := idxV3
    rcases hk7 with rfl | rfl | rfl | rfl
    all_goals
      go_enter Tryz.func72, Tryz.ntmps72
      go_wp2_with fail
      clear hW
      refine bodyPost_ret (v := .tuple #[.agg #[.int .i64 0, .int .i64 0, .slice none 0 0], .int .i64 3]) (by simp [results, Tryz.results72, go_sem, r0, r1, r2]) rfl ?_
      first | exact spE_err0 HEQ.out HBW.out | exact spE_err HEQ.out HBW.out (p := w.heap.size + 1 + 1) (by omega) _ _ _
end Go.Proofs.YtbbjjdnnlnabaaaGreat
