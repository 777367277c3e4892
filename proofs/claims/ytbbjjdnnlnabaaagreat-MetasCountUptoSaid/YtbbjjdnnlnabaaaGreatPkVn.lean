/- Texts of one proof, put together. No statement is proved here. -/
import Derived.Test.YtbbjjdnnlnabaaaGreatPkVj
import Derived.Test.YtbbjjdnnlnabaaaGreatZt
namespace Go.Proofs.YtbbjjdnnlnabaaaGreat
open Go.ChangeShapes Go.WideShapes Go.ChangeAt Go.RowKit
set_option linter.unusedVariables false
set_option linter.unusedSimpArgs false
set_option maxRecDepth 100000
set_option maxHeartbeats 16000000
def TpC (f : FuncId) (F : T → List T → Int) (W : WV) (a : T) : Prop := ∀ (cx : List T) (As : Option Addr) (ns cs : Nat) (Am : Option Addr) (nm cm : Nat) (Ac : Option Addr) (nc cc : Nat) (k h : Int) (A : Option Addr) (n c : Nat) (w : World),
  EnvV W cx loV → WkV W a → cx.length + nd a ≤ 1000000 → CkV w W cx As ns cs Am nm cm Ac nc cc → Rd w a (.agg #[.int .i64 k, .int .i64 h, .slice A n c]) →
    Calls Tryz.prog f #[.agg #[.slice As ns cs, .slice Am nm cm, .slice Ac nc cc], .agg #[.int .i64 k, .int .i64 h, .slice A n c]] w (ByQ (F a cx) w)
theorem vPiTC {W : WV} {x y : T} {h : Int} (ihx : TpC 47 (tyV W) W x) (ihy : TpC 47 (tyV W) W y) (cx : List T) (As : Option Addr) (ns cs : Nat) (Am : Option Addr) (nm cm : Nat) (Ac : Option Addr) (nc cc : Nat) (A : Option Addr) (n c : Nat) (w : World)
    (hE : EnvV W cx loV) (hba : WkV W (.node 1 h [x, y])) (hlen : cx.length + nd (.node 1 h [x, y]) ≤ 1000000) (hk : CkV w W cx As ns cs Am nm cm Ac nc cc) (ha : Rd w (.node 1 h [x, y]) (.agg #[.int .i64 1, .int .i64 h, .slice A n c])) :
    Calls Tryz.prog 82 #[.agg #[.slice As ns cs, .slice Am nm cm, .slice Ac nc cc], .agg #[.int .i64 1, .int .i64 h, .slice A n c], .func (.func 47) #[] #[]] w (ByQ (if tyV W x cx = 0 then tyV W y (cx ++ [x]) else tyV W x cx) w) := by
  obtain ⟨W0, hW⟩ : ∃ W0, (w.alloc (.cells #[.slice As ns cs, .slice Am nm cm, .slice Ac nc cc] 75)).alloc (.cells #[.int .i64 1, .int .i64 h, .slice A n c] 39) = W0 := ⟨_, rfl⟩
  have hb : Below w.heap.size w W0 := by rw [← hW]; exact ((Below.refl _ _).alloc (Nat.le_refl _) _).alloc (by simp) _
  have x0 : Box W0 w.heap.size 75 #[.slice As ns cs, .slice Am nm cm, .slice Ac nc cc] := by rw [← hW]; exact (Box.new _ _ _).alloc _
  have x1 : Box W0 (w.heap.size + 1) 39 #[.int .i64 1, .int .i64 h, .slice A n c] := by rw [← hW]; exact (Box.new (w.alloc _) _ _).at (by simp)
  obtain ⟨c0, c1, c2⟩ := x0.three
  obtain ⟨d0, d1, d2⟩ := x1.three
  obtain ⟨bb, ob, cb, ev, hc2, hcm2, ⟨kp, gp, Ap, np, cp, p0, p1, p2, hrp⟩, ⟨kq, gq, Aq, nq, cq, q0, q1, q2, hrq⟩⟩ := rd_pi ha
  have ev' : A = some ⟨bb, ob, none⟩ ∧ n = 2 ∧ c = cb := by simpa using ev
  obtain ⟨rfl, rfl, rfl⟩ := ev'
  unfold maxLen at hcm2
  replace p0 := (hb.cell (cell_lt p0)).trans p0
  replace p1 := (hb.cell (cell_lt p1)).trans p1
  replace p2 := (hb.cell (cell_lt p2)).trans p2
  replace q0 := (hb.cell (cell_lt q0)).trans q0
  replace q1 := (hb.cell (cell_lt q1)).trans q1
  replace q2 := (hb.cell (cell_lt q2)).trans q2
  have hcl := hk.cx.len
  have hbx := hba.arg (show x ∈ [x, y] by simp)
  have hby := hba.arg (show y ∈ [x, y] by simp)
  rw [nd, ndL, ndL, ndL] at hlen
  have HTX : Hid (∀ W' : World, Below W0.heap.size W0 W' → Calls Tryz.prog 47 #[.agg #[.slice As ns cs, .slice Am nm cm, .slice Ac nc cc], .agg #[.int .i64 kp, .int .i64 gp, .slice Ap np cp]] W' fun e w' => e = .returned (.int .i64 (tyV W x cx)) ∧ Below W'.heap.size W' w') := Lib.hid fun W' h' =>
    ihx cx As ns cs Am nm cm Ac nc cc _ _ _ _ _ W' hE hbx (by omega) (hk.keep (hb.trans (h'.mono hb.size))) (Rd.keep (hb.trans (h'.mono hb.size)) _ _ hrp)
  have HMO : Hid (∀ W' : World, Below W0.heap.size W0 W' → Calls Tryz.prog 91 #[.agg #[.slice As ns cs, .slice Am nm cm, .slice Ac nc cc], .agg #[.int .i64 kp, .int .i64 gp, .slice Ap np cp]] W' (MoreV As Am ns cs nm cm nc (cx ++ [x]) W')) := Lib.hid fun W' h' =>
    moreC cx x As Am Ac ns cs nm cm nc cc _ _ _ _ _ W' (hk.cx.keep (hb.trans (h'.mono hb.size))) (Rd.keep (hb.trans (h'.mono hb.size)) _ _ hrp) (by omega)
  have HTY : Hid (∀ (W' : World) (g cap : Nat), Below W0.heap.size W0 W' → CLV W' (cx ++ [x]) (some ⟨g, 0, none⟩) (nc + 1) cap → tyV W x cx = 0 → Calls Tryz.prog 47 #[.agg #[.slice As ns cs, .slice Am nm cm, .slice (some ⟨g, 0, none⟩) (nc + 1) cap], .agg #[.int .i64 kq, .int .i64 gq, .slice Aq nq cq]] W' (ByQ (tyV W y (cx ++ [x])) W')) := Lib.hid fun W' g cap h' hcl' hz0 =>
    have hb' := hb.trans (h'.mono hb.size)
    ihy (cx ++ [x]) As ns cs Am nm cm _ _ _ _ _ _ _ _ W' (hE.more ⟨hbx.my, ty_low hbx.my (by omega) hz0⟩) hby (by rw [List.length_append, List.length_singleton]; omega) ⟨hk.sg.keep hb', hk.ms.keep hb', hcl'⟩ (Rd.keep hb' _ _ hrq)
  have HB := Lib.hid hb
  have X0 := Lib.hid x0
  have X1 := Lib.hid x1
  generalize tyV W y (cx ++ [x]) = R at *
  generalize tyV W x cx = e1 at *
  obtain ⟨Z, hZ⟩ : ∃ Z, (if e1 = 0 then R else e1) = Z := ⟨_, rfl⟩
  rw [hZ]
  have HZ := Lib.hid hZ; clear hZ
  have HQ := Lib.hid (And.intro q0 (And.intro q1 q2))
  have HP := Lib.hid (And.intro p0 (And.intro p1 p2))
  have v0 := Past.cell c0
  have v1 := Past.cell c1
  have v2 := Past.cell c2
  have v3 := Past.cell d2
  have v4 := Past.cell p0
  have v5 := Past.cell p1
  have v6 := Past.cell p2
  clear hE hba hlen hk ha hbx hby hrp hrq ev hb x0 x1 ihx ihy q0 q1 q2
  go_enter Tryz.func82, Tryz.ntmps82
  go_wp2_with fail
  try rw [hW]
  clear hW c0 c1 c2 d0 d1 d2 p0 p1 p2
  refine wp_region_past (by kernel_rfl) (by kernel_rfl) ?_
  repeat (go_big_quiet_step ((exact calls_past (HTX.out _ (Past.h _)))))
  refine wpQuiet_nil ?_
  rintro _ ⟨z1, rfl⟩
  obtain ⟨W4, hb4⟩ := z1
  dsimp only
  clear v0 v1 v2 v3 v4 v5 v6 HTX
  have HB4 := Lib.hid (HB.out.trans (hb4.mono HB.out.size))
  obtain ⟨c0, c1, c2⟩ := (X0.out.keep hb4 X0.out.lt).three
  obtain ⟨d0, d1, d2⟩ := (X1.out.keep hb4 X1.out.lt).three
  have p0 := (hb4.cell (cell_lt HP.out.1)).trans HP.out.1
  have p1 := (hb4.cell (cell_lt HP.out.2.1)).trans HP.out.2.1
  have p2 := (hb4.cell (cell_lt HP.out.2.2)).trans HP.out.2.2
  have q0 := (hb4.cell (cell_lt HQ.out.1)).trans HQ.out.1
  have q1 := (hb4.cell (cell_lt HQ.out.2.1)).trans HQ.out.2.1
  have q2 := (hb4.cell (cell_lt HQ.out.2.2)).trans HQ.out.2.2
  by_cases hz : e1 = 0
  case' neg =>
    have hd : (e1 != 0) = true := by simpa using hz
    clear hb4
    go_wp2_with fail
    go_ret
    exact ⟨ret_int (by rw [← HZ.out, if_neg hz]), HB4.out⟩
  subst hz
  have HZ1 := Lib.hid (show R = Z by rw [← HZ.out, if_pos rfl])
  have HB4b := Lib.hid hb4
  clear hb4 X0 X1 HP HQ
  go_wp2_with fail
  have HKS : Hid (∀ w' : World, Below W4.heap.size W4 w' → (fun w' => w'.cell? ⟨w.heap.size, 0, none⟩ = some (.slice As ns cs) ∧ w'.cell? ⟨w.heap.size, 1, none⟩ = some (.slice Am nm cm) ∧ w'.cell? ⟨w.heap.size, 2, none⟩ = some (.slice Ac nc cc) ∧ w'.cell? ⟨w.heap.size + 1, 2, none⟩ = some (.slice (some ⟨bb, ob, none⟩) 2 c) ∧ w'.cell? ⟨bb, ob, none⟩ = some (.int .i64 kp) ∧ w'.cell? ⟨bb, ob + 1, none⟩ = some (.int .i64 gp) ∧ w'.cell? ⟨bb, ob + 2, none⟩ = some (.slice Ap np cp) ∧ w'.cell? ⟨bb, ob + 3, none⟩ = some (.int .i64 kq) ∧ w'.cell? ⟨bb, ob + 4, none⟩ = some (.int .i64 gq) ∧ w'.cell? ⟨bb, ob + 5, none⟩ = some (.slice Aq nq cq)) w') := Lib.hid fun w' h => ⟨(h.cell (cell_lt c0)).trans c0, (h.cell (cell_lt c1)).trans c1, (h.cell (cell_lt c2)).trans c2, (h.cell (cell_lt d2)).trans d2, (h.cell (cell_lt p0)).trans p0, (h.cell (cell_lt p1)).trans p1, (h.cell (cell_lt p2)).trans p2, (h.cell (cell_lt q0)).trans q0, (h.cell (cell_lt q1)).trans q1, (h.cell (cell_lt q2)).trans q2⟩
  have hbd : Below W4.heap.size W4 W4.drew := (Below.refl _ W4).drew
  refine zzR HKS hbd (fun hS => ?_)
  simp only [List.size_toArray, List.length_cons, List.length_nil, Nat.reduceAdd]
  refine zzT (i := 0) (v := .func (.func 47) #[] #[]) rfl hS ?_
  try simp only [Act.put, List.setIfInBounds_toArray]
  refine zzT (i := 1) (v := .agg #[.slice As ns cs, .slice Am nm cm, .slice Ac nc cc]) rfl hS ?_
  try simp only [Act.put]
  refine zzT (i := 2) (v := .pointer (some ⟨w.heap.size + 1, 2, none⟩)) rfl hS ?_
  try simp only [Act.put]
  refine zzT (i := 3) (v := .slice (some ⟨bb, ob, none⟩) 2 c) rfl hS ?_
  try simp only [Act.put]
  refine zzT (i := 4) (v := .pointer (some ⟨bb, ob, none⟩)) rfl hS ?_
  try simp only [Act.put]
  refine zzT (i := 5) (v := .agg #[.int .i64 kp, .int .i64 gp, .slice Ap np cp]) rfl hS ?_
  try simp only [Act.put]
  refine zzT (i := 7) (v := .pointer (some ⟨w.heap.size + 1, 2, none⟩)) rfl hS ?_
  try simp only [Act.put]
  refine zzT (i := 8) (v := .slice (some ⟨bb, ob, none⟩) 2 c) rfl hS ?_
  try simp only [Act.put]
  refine zzT (i := 9) (v := .pointer (some ⟨bb, ob + 3, none⟩)) rfl hS ?_
  try simp only [Act.put]
  refine zzT (i := 10) (v := .agg #[.int .i64 kq, .int .i64 gq, .slice Aq nq cq]) rfl hS ?_
  try simp only [Act.put]
  refine wpAnyH_ready (rs := [6]) (by kernel_rfl) (by simp) ?_
  refine AllReadyH.cons rfl (fun KN hK => ?_) AllReadyH.nil
  go_simp
  refine (HMO.out _ (HB4b.out.trans (hbd.mono HB4b.out.size))).mono ?_
  rintro e w8 ⟨g8, cap8, rfl, hcl8, hb8⟩
  have hb8' : Below W4.heap.size W4 w8 := hbd.trans (hb8.mono hbd.size)
  refine hK.out _ _ (HKS.out _ hb8') (fun hS => ?_)
  clear hK KN
  try simp only [Act.put, zzP]
  clear hb8
  refine wpAnyH_ready (rs := [11]) (by kernel_rfl) (by simp) ?_
  refine AllReadyH.cons rfl (fun KN hK => ?_) AllReadyH.nil
  go_simp
  refine (HTY.out w8 g8 cap8 (HB4b.out.trans (hb8'.mono HB4b.out.size)) hcl8 (by first | trivial | rfl)).mono ?_
  rintro e w9 ⟨rfl, hb9⟩
  have hb9' : Below W4.heap.size W4 w9 := hb8'.trans (hb9.mono hb8'.size)
  refine hK.out _ _ (HKS.out _ hb9') (fun hS => ?_)
  clear hK KN
  try simp only [Act.put, zzP]
  refine zzT (i := 12) (v := .int .i64 R) rfl hS ?_
  try simp only [Act.put, List.setIfInBounds_toArray]
  refine wpAnyH_done (by kernel_rfl) ?_ _
  try simp only [List.setIfInBounds_toArray]
  try simp only [zzP]
  have HBF := Lib.hid (HB4.out.trans (hb9'.mono HB4.out.size))
  clear hS HKS hbd hb9' hb9 hb8' hcl8 c0 c1 c2 d0 d1 d2 p0 p1 p2 q0 q1 q2
  go_wp2_with fail
  refine bodyPost_ret (v := .int .i64 R) (by simp [results, Tryz.results82, go_sem]) rfl ?_
  exact ⟨ret_int HZ1.out, HBF.out⟩
theorem vFamC {W : WV} {h : Int} {xs : List T} (cx : List T) (As : Option Addr) (ns cs : Nat) (Am : Option Addr) (nm cm : Nat) (Ac : Option Addr) (nc cc : Nat) (A : Option Addr) (n c : Nat) (w : World)
    (hE : EnvV W cx loV) (hba : WkV W (.node 2 h xs)) (hlen : cx.length + nd (.node 2 h xs) ≤ 1000000) (hk : CkV w W cx As ns cs Am nm cm Ac nc cc) (hv : Rd w (.node 2 h xs) (.agg #[.int .i64 2, .int .i64 h, .slice A n c])) :
    Calls Tryz.prog 62 #[.agg #[.slice As ns cs, .slice Am nm cm, .slice Ac nc cc], .agg #[.int .i64 2, .int .i64 h, .slice A n c]] w (ByQ (faV W h xs cx) w) := by
  have hscap := hk.sg.cap
  have hsle := hk.sg.le
  have hsl := hk.sg.len
  unfold maxLen at hscap
  have h0 := headV hba.nod
  have hx : CLV w xs A n c := by
    obtain ⟨A', n', c', e, _, _, h3, h4, h5, h6⟩ := Rd_node.1 hv
    have e' : A = A' ∧ n = n' ∧ c = c' := by simpa using e
    obtain ⟨rfl, rfl, rfl⟩ := e'
    exact ⟨h3, h4, h5, h6⟩
  have hnd := ((myB_iff _).1 hba.my).2.1
  obtain ⟨W0, hW⟩ : ∃ W0, (w.alloc (.cells #[.slice As ns cs, .slice Am nm cm, .slice Ac nc cc] 75)).alloc (.cells #[.int .i64 2, .int .i64 h, .slice A n c] 39) = W0 := ⟨_, rfl⟩
  have hb : Below w.heap.size w W0 := by rw [← hW]; exact ((Below.refl _ _).alloc (Nat.le_refl _) _).alloc (by simp) _
  have x0 : Box W0 w.heap.size 75 #[.slice As ns cs, .slice Am nm cm, .slice Ac nc cc] := by rw [← hW]; exact (Box.new _ _ _).alloc _
  have x1 : Box W0 (w.heap.size + 1) 39 #[.int .i64 2, .int .i64 h, .slice A n c] := by rw [← hW]; exact (Box.new (w.alloc _) _ _).at (by simp)
  obtain ⟨c0, c1, c2⟩ := x0.three
  obtain ⟨d0, d1, d2⟩ := x1.three
  have HB := Lib.hid hb
  have X0 := Lib.hid x0
  have X1 := Lib.hid x1
  have HK := Lib.hid hk
  have HX := Lib.hid hx
  have HE := Lib.hid hE
  have HBM := Lib.hid hba
  have HND := Lib.hid hnd
  have HLEN := Lib.hid hlen
  obtain ⟨Z, hZ⟩ : ∃ Z, faV W h xs cx = Z := ⟨_, rfl⟩
  rw [hZ]
  have HZ := Lib.hid hZ
  clear hZ hE hba hlen hk hv hx hb x0 x1 hnd
  by_cases hlt : (ns : Int) ≤ h
  case' pos =>
    have hd : decide (h ≥ (ns : Int)) = true := by simpa using hlt
    have HEQ := Lib.hid (show 2 = Z by rw [← HZ.out, fa_no (by omega)])
    go_enter Tryz.func62, Tryz.ntmps62
    go_wp2_with fail
    clear hW
    go_ret
    exact ⟨ret_int HEQ.out, HB.out⟩
  have hd : decide (h ≥ (ns : Int)) = false := by simpa using hlt
  obtain ⟨i, rfl⟩ : ∃ i : Nat, h = (i : Int) := ⟨h.toNat, by omega⟩
  obtain ⟨en, hen⟩ := at_of HK.out.sg.len (show i < ns by omega)
  have HEN := Lib.hid hen
  obtain ⟨bc, oc, s1, ke, he, Ae, ne, ce, eA, e9, e0, e1, e2, hre⟩ := HK.out.sg.at_ i en hen
  subst eA
  replace e0 := (HB.out.cell (cell_lt e0)).trans e0
  replace e1 : W0.cell? ⟨bc, oc + i * 4 + 1 + 1, none⟩ = some (.int .i64 he) := (HB.out.cell (cell_lt e1)).trans e1
  replace e2 : W0.cell? ⟨bc, oc + i * 4 + 1 + 2, none⟩ = some (.slice Ae ne ce) := (HB.out.cell (cell_lt e2)).trans e2
  have hbe := HE.out.sg en (List.mem_of_getElem? hen)
  have HBE := Lib.hid hbe
  have HRE := Lib.hid hre
  clear hen hre hbe e9
  have hi0 : (0 : Int) ≤ i := by omega
  have hi1 : (i : Int) < ns := by omega
  have HKI : Hid (Calls Tryz.prog 83 #[.agg #[.int .i64 ke, .int .i64 he, .slice Ae ne ce]] W0 fun e w' => e = .returned (.bool (kiB en)) ∧ Below W0.heap.size W0 w') := Lib.hid (kindC en _ W0 (Rd.keep HB.out _ _ HRE.out))
  obtain ⟨r, hr⟩ : ∃ r, kiB en = r := ⟨_, rfl⟩
  rw [hr] at HKI
  go_enter Tryz.func62, Tryz.ntmps62
  go_wp2_with fail
  clear hW
  refine HKI.out.mono ?_
  clear HKI
  rintro e W1 ⟨rfl, hb1⟩
  replace e0 := (hb1.cell (cell_lt e0)).trans e0
  replace e1 := (hb1.cell (cell_lt e1)).trans e1
  replace e2 := (hb1.cell (cell_lt e2)).trans e2
  have HB1 := Lib.hid (HB.out.trans (hb1.mono HB.out.size))
  have lz1 := (X1.out.keep hb1 X1.out.lt).lt
  clear c0 c1 c2 d0 d1 d2
  obtain ⟨c0, c1, c2⟩ := (X0.out.keep hb1 X0.out.lt).three
  obtain ⟨d0, d1, d2⟩ := (X1.out.keep hb1 X1.out.lt).three
  clear hb1
  cases r
  case' false =>
    have HEQ := Lib.hid (show 2 = Z by rw [← HZ.out, fa_ki HEN.out hr])
    go_wp2_with fail
    go_ret
    exact ⟨ret_int HEQ.out, HB1.out⟩
  have HEQ := Lib.hid (show knV (spV W xs cx en) = Z by rw [← HZ.out, fa_go HEN.out hr])
  have HSP : Hid (∀ (W2 : World), Below W1.heap.size W1 W2 → Calls Tryz.prog 84 #[.agg #[.slice (some ⟨bc, oc, none⟩) ns cs, .slice Am nm cm, .slice Ac nc cc], .agg #[.int .i64 ke, .int .i64 he, .slice Ae ne ce], .slice A n c] W2 (SpE (fun b => b < w.heap.size) (spV W xs cx en) W2)) := Lib.hid fun W2 h2 =>
    vSpineC (fun x _ => vTermC W x) HE.out (fun x hx => HBM.out.arg hx) HBE.out (Int.le_refl _) (by have := HND.out; rw [nd] at this; unfold dlV hiV loV; omega) (by have := HLEN.out; rw [nd] at this; omega) W2 (HK.out.keep (HB1.out.trans (h2.mono HB1.out.size))) (HX.out.keep (HB1.out.trans (h2.mono HB1.out.size))) (RdF.moveX (fun b hok hl => ⟨hok, (HB1.out.trans (h2.mono HB1.out.size)).block b hl⟩) _ _ (rdF_anyQ _ _ HRE.out))
  have HNE := Lib.hid (fun e (he : spV W xs cx en = .error e) => sp_err _ _ _ _ _ he)
  generalize spV W xs cx en = R at *
  clear hr HZ
  go_wp2_with fail
  have HKS : Hid (∀ w' : World, Below W1.heap.size W1 w' → (fun w' => w'.cell? ⟨w.heap.size, 0, none⟩ = some (.slice (some ⟨bc, oc, none⟩) ns cs) ∧ w'.cell? ⟨w.heap.size, 1, none⟩ = some (.slice Am nm cm) ∧ w'.cell? ⟨w.heap.size, 2, none⟩ = some (.slice Ac nc cc) ∧ w'.cell? ⟨w.heap.size + 1, 1, none⟩ = some (.int .i64 i) ∧ w'.cell? ⟨w.heap.size + 1, 2, none⟩ = some (.slice A n c) ∧ w'.cell? ⟨bc, oc + i * 4 + 1, none⟩ = some (.int .i64 ke) ∧ w'.cell? ⟨bc, oc + i * 4 + 1 + 1, none⟩ = some (.int .i64 he) ∧ w'.cell? ⟨bc, oc + i * 4 + 1 + 2, none⟩ = some (.slice Ae ne ce)) w') := Lib.hid fun w' h => ⟨(h.cell (cell_lt c0)).trans c0, (h.cell (cell_lt c1)).trans c1, (h.cell (cell_lt c2)).trans c2, (h.cell (cell_lt d1)).trans d1, (h.cell (cell_lt d2)).trans d2, (h.cell (cell_lt e0)).trans e0, (h.cell (cell_lt e1)).trans e1, (h.cell (cell_lt e2)).trans e2⟩
  have hbd : Below W1.heap.size W1 W1.drew := (Below.refl _ W1).drew
  refine zzR HKS hbd (fun hS => ?_)
  simp only [List.size_toArray, List.length_cons, List.length_nil, Nat.reduceAdd]
  refine zzT (i := 0) (v := .agg #[.slice (some ⟨bc, oc, none⟩) ns cs, .slice Am nm cm, .slice Ac nc cc]) rfl hS ?_
  try simp only [Act.put, List.setIfInBounds_toArray]
  refine zzT (i := 1) (v := .pointer (some ⟨w.heap.size, 0, none⟩)) rfl hS ?_
  try simp only [Act.put]
  refine zzT (i := 2) (v := .slice (some ⟨bc, oc, none⟩) ns cs) rfl hS ?_
  try simp only [Act.put]
  refine zzT (i := 3) (v := .pointer (some ⟨w.heap.size + 1, 1, none⟩)) rfl hS ?_
  try simp only [Act.put]
  refine zzT (i := 4) (v := .int .i64 i) rfl hS ?_
  try simp only [Act.put]
  refine zzT (i := 5) (v := .pointer (some ⟨bc, oc + i * 4, none⟩)) rfl hS ?_
  try simp only [Act.put]
  refine zzT (i := 6) (v := .pointer (some ⟨bc, oc + i * 4 + 1, none⟩)) rfl hS ?_
  try simp only [Act.put]
  refine zzT (i := 7) (v := .agg #[.int .i64 ke, .int .i64 he, .slice Ae ne ce]) rfl hS ?_
  try simp only [Act.put]
  refine zzT (i := 8) (v := .pointer (some ⟨w.heap.size + 1, 2, none⟩)) rfl hS ?_
  try simp only [Act.put]
  refine zzT (i := 9) (v := .slice A n c) rfl hS ?_
  try simp only [Act.put]
  refine wpAnyH_ready (rs := [10, 14]) (by kernel_rfl) (by simp) ?_
  refine AllReadyH.cons rfl (fun KN hK => ?_) (AllReadyH.cons rfl (fun KN hK => ?_) AllReadyH.nil)
  · go_simp
    refine (HSP.out _ hbd).mono ?_
    rintro e w8 ⟨k3, h3, A3, n3, c3, rfl, hrd, hb8⟩
    have hb8' : Below W1.heap.size W1 w8 := hbd.trans (hb8.mono hbd.size)
    have hrd8 := (fun t (e : R = .ok t) => (rdF_kind (RdF.rd _ _ (hrd t e))).1 : ∀ t, R = .ok t → kdQ t = k3)
    refine hK.out _ _ (HKS.out _ hb8') (fun hS => ?_)
    clear hK KN
    try simp only [Act.put, zzP]
    clear hb8 hrd
    refine zzT (i := 11) (v := .tuple #[.agg #[.int .i64 k3, .int .i64 h3, .slice A3 n3 c3], .int .i64 (erV R)]) rfl hS ?_
    try simp only [Act.put, List.setIfInBounds_toArray]
    refine zzT (i := 12) (v := .agg #[.int .i64 k3, .int .i64 h3, .slice A3 n3 c3]) rfl hS ?_
    try simp only [Act.put]
    refine zzT (i := 13) (v := .int .i64 (erV R)) rfl hS ?_
    try simp only [Act.put]
    refine wpAnyH_ready (rs := [14]) (by kernel_rfl) (by simp) ?_
    refine AllReadyH.cons rfl (fun KN hK => ?_) AllReadyH.nil
    go_simp
    have hb9 : Below W1.heap.size W1 (w8.alloc (.cells #[.int .i64 0, .int .i64 0, .slice none 0 0] 39)) := hb8'.alloc hb8'.size _
    refine hK.out _ _ (HKS.out _ hb9) (fun hS => ?_)
    clear hK KN
    try simp only [Act.put, zzP]
    have xz : Box (w8.alloc (.cells #[.int .i64 0, .int .i64 0, .slice none 0 0] 39)) w8.heap.size 39 #[.int .i64 0, .int .i64 0, .slice none 0 0] := Box.new _ _ _
    have hrd9 := hrd8
    have hpl : W1.heap.size ≤ w8.heap.size := hb8'.size
    clear hrd8 hb8'
    generalize w8.alloc (.cells #[.int .i64 0, .int .i64 0, .slice none 0 0] 39) = w9 at *
    generalize w8.heap.size = pB at *
    obtain ⟨z0, z1, z2⟩ := xz.three
    have u0 := xz.frozen 0
    have u1 := xz.frozen 1
    have u2 := xz.frozen 2
    refine wpAnyH_ready (rs := [15]) (by kernel_rfl) (by simp) ?_
    refine AllReadyH.cons rfl (fun KN hK => ?_) AllReadyH.nil
    go_simp
    have hbF := below_set3 hb9 (a := pB) hpl (.int .i64 k3) (.int .i64 h3) (.slice A3 n3 c3)
    refine hK.out _ _ (HKS.out _ hbF) (fun hS => ?_)
    clear hK KN
    try simp only [Act.put, zzP]
    have xB := xz.put3 (.int .i64 k3) (.int .i64 h3) (.slice A3 n3 c3)
    have hrdF := hrd9
    clear hrd9 xz hb9 z0 z1 z2 u0 u1 u2
    generalize ((w9.setCell ⟨pB, 0, none⟩ (.int .i64 k3)).setCell ⟨pB, 1, none⟩ (.int .i64 h3)).setCell ⟨pB, 2, none⟩ (.slice A3 n3 c3) = Wf at *
    refine zzT (i := 16) (v := .int .i64 (erV R)) rfl hS ?_
    try simp only [Act.put, List.setIfInBounds_toArray]
    refine wpAnyH_done (by kernel_rfl) ?_ _
    try simp only [List.setIfInBounds_toArray]
    try simp only [zzP]
    have HBF := Lib.hid (HB1.out.trans (hbF.mono HB1.out.size))
    obtain ⟨y0, y1, y2⟩ := xB.three
    clear hS HKS hbd hbF hpl c0 c1 c2 d0 d1 d2 e0 e1 e2 xB HSP
    cases R with
    | error er =>
      have hd2 : (er != 0) = true := by simpa using HNE.out er rfl
      have HE5 := Lib.hid (show er = Z from HEQ.out)
      clear hrdF
      simp only [erV]
      go_wp2_with fail
      go_ret
      exact ⟨ret_int HE5.out, HBF.out⟩
    | ok t =>
      have hkt := hrdF t rfl
      have HE5 := Lib.hid (show (if kdQ t = 0 then 0 else 3) = Z from HEQ.out)
      clear hrdF
      simp only [erV]
      by_cases hk0 : k3 = 0
      · subst hk0
        have HE6 := Lib.hid (show 0 = Z by rw [← HE5.out, if_pos hkt])
        clear hkt
        go_wp2_with fail
        go_ret
        exact ⟨ret_int HE6.out, HBF.out⟩
      · have hd3 : (k3 != 0) = true := by simpa using hk0
        have HE6 := Lib.hid (show 3 = Z by rw [← HE5.out, if_neg (by rw [hkt]; exact hk0)])
        clear hkt
        go_wp2_with fail
        go_ret
        exact ⟨ret_int HE6.out, HBF.out⟩
  · go_simp
    have hb7 : Below W1.heap.size W1 (W1.alloc (.cells #[.int .i64 0, .int .i64 0, .slice none 0 0] 39)).drew := ((Below.refl _ W1).alloc (Nat.le_refl _) _).drew
    refine hK.out _ _ (HKS.out _ hb7) (fun hS => ?_)
    clear hK KN
    try simp only [Act.put, zzP]
    have xz : Box (W1.alloc (.cells #[.int .i64 0, .int .i64 0, .slice none 0 0] 39)).drew W1.heap.size 39 #[.int .i64 0, .int .i64 0, .slice none 0 0] := Box.drewI (Box.new _ _ _)
    obtain ⟨pB, hpB0⟩ : ∃ p, W1.heap.size = p := ⟨_, rfl⟩
    have hpl : W1.heap.size ≤ pB := by omega
    have hplt : pB < (W1.alloc (.cells #[.int .i64 0, .int .i64 0, .slice none 0 0] 39)).drew.heap.size := by rw [← hpB0]; exact xz.lt
    rw [hpB0] at xz
    try rw [hpB0]
    have hpB1 := Lib.hid hpB0
    clear hpB0
    generalize (W1.alloc (.cells #[.int .i64 0, .int .i64 0, .slice none 0 0] 39)).drew = w7 at *
    refine wpAnyH_ready (rs := [10]) (by kernel_rfl) (by simp) ?_
    refine AllReadyH.cons rfl (fun KN hK => ?_) AllReadyH.nil
    go_simp
    refine (HSP.out _ hb7).mono ?_
    rintro e w8 ⟨k3, h3, A3, n3, c3, rfl, hrd, hb8⟩
    have hb8' : Below W1.heap.size W1 w8 := hb7.trans (hb8.mono hb7.size)
    have hrd8 := (fun t (e : R = .ok t) => (rdF_kind (RdF.rd _ _ (hrd t e))).1 : ∀ t, R = .ok t → kdQ t = k3)
    have xz8 := xz.keep hb8 xz.lt
    refine hK.out _ _ (HKS.out _ hb8') (fun hS => ?_)
    clear hK KN
    try simp only [Act.put, zzP]
    clear hb8 hrd xz hb7
    refine zzT (i := 11) (v := .tuple #[.agg #[.int .i64 k3, .int .i64 h3, .slice A3 n3 c3], .int .i64 (erV R)]) rfl hS ?_
    try simp only [Act.put, List.setIfInBounds_toArray]
    refine zzT (i := 12) (v := .agg #[.int .i64 k3, .int .i64 h3, .slice A3 n3 c3]) rfl hS ?_
    try simp only [Act.put]
    refine zzT (i := 13) (v := .int .i64 (erV R)) rfl hS ?_
    try simp only [Act.put]
    obtain ⟨z0, z1, z2⟩ := xz8.three
    have u0 := xz8.frozen 0
    have u1 := xz8.frozen 1
    have u2 := xz8.frozen 2
    refine wpAnyH_ready (rs := [15]) (by kernel_rfl) (by simp) ?_
    refine AllReadyH.cons rfl (fun KN hK => ?_) AllReadyH.nil
    go_simp
    have hbF := below_set3 hb8' (a := pB) hpl (.int .i64 k3) (.int .i64 h3) (.slice A3 n3 c3)
    refine hK.out _ _ (HKS.out _ hbF) (fun hS => ?_)
    clear hK KN
    try simp only [Act.put, zzP]
    have xB := xz8.put3 (.int .i64 k3) (.int .i64 h3) (.slice A3 n3 c3)
    have hrdF := hrd8
    clear hrd8 xz8 hb8' z0 z1 z2 u0 u1 u2 hplt hpB1
    generalize ((w8.setCell ⟨pB, 0, none⟩ (.int .i64 k3)).setCell ⟨pB, 1, none⟩ (.int .i64 h3)).setCell ⟨pB, 2, none⟩ (.slice A3 n3 c3) = Wf at *
    refine zzT (i := 16) (v := .int .i64 (erV R)) rfl hS ?_
    try simp only [Act.put, List.setIfInBounds_toArray]
    refine wpAnyH_done (by kernel_rfl) ?_ _
    try simp only [List.setIfInBounds_toArray]
    try simp only [zzP]
    have HBF := Lib.hid (HB1.out.trans (hbF.mono HB1.out.size))
    obtain ⟨y0, y1, y2⟩ := xB.three
    clear hS HKS hbd hbF hpl c0 c1 c2 d0 d1 d2 e0 e1 e2 xB HSP
    cases R with
    | error er =>
      have hd2 : (er != 0) = true := by simpa using HNE.out er rfl
      have HE5 := Lib.hid (show er = Z from HEQ.out)
      clear hrdF
      simp only [erV]
      go_wp2_with fail
      go_ret
      exact ⟨ret_int HE5.out, HBF.out⟩
    | ok t =>
      have hkt := hrdF t rfl
      have HE5 := Lib.hid (show (if kdQ t = 0 then 0 else 3) = Z from HEQ.out)
      clear hrdF
      simp only [erV]
      by_cases hk0 : k3 = 0
      · subst hk0
        have HE6 := Lib.hid (show 0 = Z by rw [← HE5.out, if_pos hkt])
        clear hkt
        go_wp2_with fail
        go_ret
        exact ⟨ret_int HE6.out, HBF.out⟩
      · have hd3 : (k3 != 0) = true := by simpa using hk0
        have HE6 := Lib.hid (show 3 = Z by rw [← HE5.out, if_neg (by rw [hkt]; exact hk0)])
        clear hkt
        go_wp2_with fail
        go_ret
        exact ⟨ret_int HE6.out, HBF.out⟩
theorem piTypeW {R : Int} {k h : Int} {A : Option Addr} {n c : Nat} {As Am Ac : Option Addr} {ns cs nm cm nc cc : Nat} (w : World) (hf : ∀ W' : World, Below w.heap.size w W' → Calls Tryz.prog 82 #[.agg #[.slice As ns cs, .slice Am nm cm, .slice Ac nc cc], .agg #[.int .i64 k, .int .i64 h, .slice A n c], .func (.func 47) #[] #[]] W' (ByQ R W')) :
    Calls Tryz.prog 61 #[.agg #[.slice As ns cs, .slice Am nm cm, .slice Ac nc cc], .agg #[.int .i64 k, .int .i64 h, .slice A n c]] w (ByQ R w) := by
  obtain ⟨W0, hW⟩ : ∃ W0, (w.alloc (.cells #[.slice As ns cs, .slice Am nm cm, .slice Ac nc cc] 75)).alloc (.cells #[.int .i64 k, .int .i64 h, .slice A n c] 39) = W0 := ⟨_, rfl⟩
  have hb : Below w.heap.size w W0 := by rw [← hW]; exact ((Below.refl _ _).alloc (Nat.le_refl _) _).alloc (by simp) _
  have x0 : Box W0 w.heap.size 75 #[.slice As ns cs, .slice Am nm cm, .slice Ac nc cc] := by rw [← hW]; exact (Box.new _ _ _).alloc _
  have x1 : Box W0 (w.heap.size + 1) 39 #[.int .i64 k, .int .i64 h, .slice A n c] := by rw [← hW]; exact (Box.new (w.alloc _) _ _).at (by simp)
  obtain ⟨c0, c1, c2⟩ := x0.three
  obtain ⟨d0, d1, d2⟩ := x1.three
  have HB := Lib.hid hb
  have HF := Lib.hid (hf W0 hb)
  clear hf hb x0 x1
  go_enter Tryz.func61, Tryz.ntmps61
  go_wp2_with fail
  clear hW
  refine HF.out.mono ?_
  rintro e w1 ⟨rfl, hb1⟩
  have HB1 := Lib.hid (HB.out.trans (hb1.mono HB.out.size))
  clear hb1 HF
  go_wp2_with fail
  go_ret
  exact ⟨rfl, HB1.out⟩
theorem typW {R : Int} {k h : Int} {A : Option Addr} {n c : Nat} {As Am Ac : Option Addr} {ns cs nm cm nc cc : Nat} (w : World) (hf : ∀ W' : World, Below w.heap.size w W' → Calls Tryz.prog 60 #[.agg #[.slice As ns cs, .slice Am nm cm, .slice Ac nc cc], .agg #[.nilFunc, .func (.func 61) #[] #[], .func (.func 62) #[] #[], .nilFunc, .nilFunc, .nilFunc, .nilFunc], .agg #[.int .i64 k, .int .i64 h, .slice A n c]] W' (ByQ R W')) :
    Calls Tryz.prog 47 #[.agg #[.slice As ns cs, .slice Am nm cm, .slice Ac nc cc], .agg #[.int .i64 k, .int .i64 h, .slice A n c]] w (ByQ R w) := by
  obtain ⟨W0, hW⟩ : ∃ W0, (w.alloc (.cells #[.slice As ns cs, .slice Am nm cm, .slice Ac nc cc] 75)).alloc (.cells #[.int .i64 k, .int .i64 h, .slice A n c] 39) = W0 := ⟨_, rfl⟩
  have hb : Below w.heap.size w W0 := by rw [← hW]; exact ((Below.refl _ _).alloc (Nat.le_refl _) _).alloc (by simp) _
  have x0 : Box W0 w.heap.size 75 #[.slice As ns cs, .slice Am nm cm, .slice Ac nc cc] := by rw [← hW]; exact (Box.new _ _ _).alloc _
  have x1 : Box W0 (w.heap.size + 1) 39 #[.int .i64 k, .int .i64 h, .slice A n c] := by rw [← hW]; exact (Box.new (w.alloc _) _ _).at (by simp)
  obtain ⟨c0, c1, c2⟩ := x0.three
  obtain ⟨d0, d1, d2⟩ := x1.three
  have HB := Lib.hid hb
  have HF := Lib.hid (hf W0 hb)
  clear hf hb x0 x1
  go_enter Tryz.func47, Tryz.ntmps47
  go_wp2_with fail
  clear hW
  refine HF.out.mono ?_
  rintro e w1 ⟨rfl, hb1⟩
  have HB1 := Lib.hid (HB.out.trans (hb1.mono HB.out.size))
  clear hb1 HF
  go_wp2_with fail
  go_ret
  exact ⟨rfl, HB1.out⟩
theorem bd_kind {W : WV} {k h : Int} {xs : List T} (b : WkV W (.node k h xs)) : k = 0 ∨ k = 1 ∨ k = 2 ∨ k = 3 ∨ k = 4 ∨ k = 5 ∨ k = 6 := by
  have := kind_cases (nodV b.nod).1
  omega
theorem vTypC (W : WV) (a : T) : TpC 47 (tyV W) W a := by
  induction a using T.ind with
  | step k h xs ih =>
    intro cx As ns cs Am nm cm Ac nc cc k' h' A n c w hE hba hlen hk hv
    obtain ⟨rfl, rfl⟩ : k = k' ∧ h = h' := rdF_kind hv
    refine typW w fun W1 h1 => ?_
    have hk1 := hk.keep h1
    have hv1 := Rd.keep h1 _ _ hv
    rcases bd_kind hba with rfl | rfl | rfl | rfl | rfl | rfl | rfl
    · rw [ty_no W (by omega) (by omega)]; exact byN0 _ _ _ _ _ _ _ _ _ _ _ _ _ _ _ _ _ _ _ _
    · obtain ⟨rfl, x, y, rfl, _, _⟩ := piV hba.nod
      rw [ty_pi]
      refine byPiType _ _ _ _ _ _ _ _ _ _ _ _ _ _ _ _ _ _ _ _ _ fun W2 h2 => piTypeW W2 fun W3 h3 => ?_
      have h23 := h2.trans (h3.mono h2.size)
      exact vPiTC (ih x (by simp)) (ih y (by simp)) cx As ns cs Am nm cm Ac nc cc A n c W3 hE hba hlen (hk1.keep h23) (Rd.keep h23 _ _ hv1)
    · rw [ty_fam]
      refine byFam _ _ _ _ _ _ _ _ _ _ _ _ _ _ _ _ _ _ _ _ _ fun W2 h2 => ?_
      exact vFamC cx As ns cs Am nm cm Ac nc cc A n c W2 hE hba hlen (hk1.keep h2) (Rd.keep h2 _ _ hv1)
    · rw [ty_no W (by omega) (by omega)]; exact byN3 _ _ _ _ _ _ _ _ _ _ _ _ _ _ _ _ _ _ _ _
    · rw [ty_no W (by omega) (by omega)]; exact byN4 _ _ _ _ _ _ _ _ _ _ _ _ _ _ _ _ _ _ _ _
    · rw [ty_no W (by omega) (by omega)]; exact byN5 _ _ _ _ _ _ _ _ _ _ _ _ _ _ _ _ _ _ _ _
    · rw [ty_no W (by omega) (by omega)]; exact byN6 _ _ _ _ _ _ _ _ _ _ _ _ _ _ _ _ _ _ _ _
def ckTy (W : WV) (cx : List T) (a : T) : Int := if mayV W cx [a] = true then tyV W a cx else 1
theorem vCheckTypeW (W : WV) (cx : List T) (m : T) (As : Option Addr) (ns cs : Nat) (Am : Option Addr) (nm cm : Nat) (Ac : Option Addr) (nc cc : Nat) (vm : Value) (w : World) (hk : CkV w W cx As ns cs Am nm cm Ac nc cc) (hm : Rd w m vm)
    (hL : LoV W cx) (hlm : myB m = true → W.ms = [] ∨ okT loV m) :
    Calls Tryz.prog 31 #[.slice As ns cs, .slice Am nm cm, .slice Ac nc cc, vm] w fun e w' => e = .returned (.int .i64 (ckTy W cx m)) ∧ Below w.heap.size w w' := by
  obtain ⟨k, h, A, n, c, rfl⟩ := hm.full
  obtain ⟨W0, hW⟩ : ∃ W0, (w.alloc (.cells #[.int .i64 k, .int .i64 h, .slice A n c] 39)).alloc (.cells #[.slice As ns cs, .slice Am nm cm, .slice Ac nc cc] 75) = W0 := ⟨_, rfl⟩
  have hb : Below w.heap.size w W0 := by rw [← hW]; exact ((Below.refl _ _).alloc (Nat.le_refl _) _).alloc (by simp) _
  have x0 : Box W0 w.heap.size 39 #[.int .i64 k, .int .i64 h, .slice A n c] := by rw [← hW]; exact (Box.new _ _ _).alloc _
  have x2 : Box W0 (w.heap.size + 1) 75 #[.slice As ns cs, .slice Am nm cm, .slice Ac nc cc] := by rw [← hW]; exact (Box.new (w.alloc _) _ _).at (by simp)
  obtain ⟨W4, hW4⟩ : ∃ W4, W0.alloc (.cells #[.int .i64 k, .int .i64 h, .slice A n c] 39) = W4 := ⟨_, rfl⟩
  have hb4 : Below W0.heap.size W0 W4 := by rw [← hW4]; exact (Below.refl _ _).alloc (Nat.le_refl _) _
  have x4 : Box W4 W0.heap.size 39 #[.int .i64 k, .int .i64 h, .slice A n c] := by rw [← hW4]; exact Box.new _ _ _
  have hbw := hb.trans (hb4.mono hb.size)
  have HMY := Lib.hid (vMayC W cx [m] As Am Ac _ ns cs nm cm nc cc 1 1 W4 (hk.keep hbw).sg (hk.keep hbw).ms (hk.keep hbw).cx (clv_one x4 (Rd.keep hbw _ _ hm)))
  have X0 := Lib.hid (x0.keep hb4 x0.lt)
  have X2 := Lib.hid (x2.keep hb4 x2.lt)
  have HB := Lib.hid hbw
  have HTM : Hid (mayV W cx [m] = true → ∀ W' : World, Below W4.heap.size W4 W' → Calls Tryz.prog 47 #[.agg #[.slice As ns cs, .slice Am nm cm, .slice Ac nc cc], .agg #[.int .i64 k, .int .i64 h, .slice A n c]] W' (ByQ (tyV W m cx) W')) := Lib.hid fun hy W' h' => by
    obtain ⟨y1, y2, y3, y4, y5⟩ := (mayV_iff W cx [m]).1 hy
    have ym := y3 m (by simp)
    have hnd := ((myB_iff m).1 ym).2.1
    exact vTypC W m cx As ns cs Am nm cm Ac nc cc _ _ _ _ _ W' (env_of hL hy) ⟨ym, hlm ym⟩ (by omega) (hk.keep (hbw.trans (h'.mono hbw.size))) (Rd.keep (hbw.trans (h'.mono hbw.size)) _ _ hm)
  obtain ⟨c0, c1, c2⟩ := x0.three
  obtain ⟨e0, e1, e2⟩ := x2.three
  have HCT : Hid (ckTy W cx m = if mayV W cx [m] = true then tyV W m cx else 1) := Lib.hid rfl
  generalize ckTy W cx m = R at *
  generalize tyV W m cx = S at *
  clear hk hm hL hlm hb hb4 hbw x0 x2 x4
  generalize mayV W cx [m] = r at *
  go_enter Tryz.func31, Tryz.ntmps31
  go_wp2_with fail
  clear hW hW4
  refine HMY.out.mono ?_
  rintro e w1 ⟨rfl, hb1⟩
  have HB1 := Lib.hid (HB.out.trans (hb1.mono HB.out.size))
  obtain ⟨p0, p1, p2⟩ := (X0.out.keep hb1 X0.out.lt).three
  obtain ⟨s0, s1, s2⟩ := (X2.out.keep hb1 X2.out.lt).three
  cases r
  · have HC := Lib.hid (show 1 = R by rw [HCT.out]; rfl)
    clear hb1 HTM HCT
    go_wp2_with fail
    go_ret
    exact ⟨ret_int HC.out, HB1.out⟩
  · have HC := Lib.hid (show S = R by rw [HCT.out]; rfl)
    have HT := Lib.hid (HTM.out rfl w1 hb1)
    clear hb1 HTM HCT
    go_wp2_with fail
    refine HT.out.mono ?_
    rintro e w3 ⟨rfl, hb3⟩
    have HB3 := Lib.hid (HB1.out.trans (hb3.mono HB1.out.size))
    clear hb3 HT
    go_wp2_with fail
    go_ret
    exact ⟨ret_int HC.out, HB3.out⟩
theorem vCheckTypeC (W : WV) (cx : List T) (m : T) (As : Option Addr) (ns cs : Nat) (Am : Option Addr) (nm cm : Nat) (Ac : Option Addr) (nc cc : Nat) (vm : Value) (w : World) (hk : CkV w W cx As ns cs Am nm cm Ac nc cc) (hm : Rd w m vm)
    (hL : LoV W cx) (hlm : myB m = true → okT loV m) :
    Calls Tryz.prog 31 #[.slice As ns cs, .slice Am nm cm, .slice Ac nc cc, vm] w fun e w' => e = .returned (.int .i64 (ckTy W cx m)) ∧ Below w.heap.size w w' :=
  vCheckTypeW W cx m As ns cs Am nm cm Ac nc cc vm w hk hm hL fun h => .inr (hlm h)
end Go.Proofs.YtbbjjdnnlnabaaaGreat
