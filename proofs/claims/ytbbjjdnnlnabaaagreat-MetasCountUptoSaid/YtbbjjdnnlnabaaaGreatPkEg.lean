/- Texts of one proof, put together. No statement is proved here. -/
import Derived.Test.YtbbjjdnnlnabaaaGreatPkEf
import Derived.Test.YtbbjjdnnlnabaaaGreatZt
namespace Go.Proofs.YtbbjjdnnlnabaaaGreat
open Go.ChangeShapes Go.WideShapes Go.ChangeAt Go.RowKit
set_option linter.unusedVariables false
set_option linter.unusedSimpArgs false
set_option maxRecDepth 100000
set_option maxHeartbeats 16000000
structure MeIe (W : WV) (xs cx es : List T) (h : Int) (A : Option Addr) (n c : Nat) (Ad : Option Addr) (ndd cd : Nat) (kt gt : Int) (At : Option Addr) (nt ct : Nat) (pb : Bool) (Bd : Nat) (w : World) (j : Nat) (wr : World) : Prop where
  tb : Box wr w.heap.size 39 #[.int .i64 6, .int .i64 h, .slice A n c]
  rb : Box wr (w.heap.size + 1) 39 #[.int .i64 0, .int .i64 0, .slice none 0 0]
  db : Box wr Bd 42 #[.slice Ad ndd cd, .int .i64 kt, .int .i64 gt, .slice At nt ct, .bool pb]
  below : Below w.heap.size w wr
  eq : mtV W xs [] cx es = mtV W (xs.drop j) (xs.take j) cx (es.drop j)
theorem spX_mvZ {Z : Nat → Prop} {w wr : World} {r : Except Int T} {k h : Int} {A : Option Addr} {n c : Nat} {p : Nat} (hr : ∀ t, r = .ok t → RX (fun b => Z b ∨ b = p) wr t (.agg #[.int .i64 k, .int .i64 h, .slice A n c])) (hb : Below w.heap.size w wr) (hp : w.heap.size ≤ p) (u0 u1 u2 : Value) :
    SpX Z r w (.returned (.tuple #[.agg #[.int .i64 k, .int .i64 h, .slice A n c], .int .i64 (erV r)])) (((wr.setCell ⟨p, 0, none⟩ u0).setCell ⟨p, 1, none⟩ u1).setCell ⟨p, 2, none⟩ u2) :=
  ⟨k, h, A, n, c, rfl, fun t e => RdF.moveX (fun b hok hl => ⟨fun z => hok (.inl z), heap_other3 _ _ _ _ _ _ (fun e => hok (.inr e))⟩) _ _ (hr t e), below_set3 hb hp _ _ _⟩
def ApX (Z : Nat → Prop) (t : T) (ec : Int) (w : World) (e : Ending) (w' : World) : Prop :=
  ∃ k h A n c, e = .returned (.tuple #[.agg #[.int .i64 k, .int .i64 h, .slice A n c], .int .i64 ec]) ∧ (∀ t', (Except.ok t : Except Int T) = .ok t' → RX Z w' t' (.agg #[.int .i64 k, .int .i64 h, .slice A n c])) ∧ Below w.heap.size w w'
theorem rzn_x {Z : Nat → Prop} {t : T} {ec : Int} {w w' : World} {e : Ending} (h : RZn Z t ec w e w') : ApX Z t ec w e w' := by
  obtain ⟨k, g, A, n, c, he, hr, hb⟩ := h
  exact ⟨k, g, A, n, c, he, (fun t' e' => by cases e'; exact hr), hb⟩
theorem clv_take {Z : Nat → Prop} {w : World} {xs : List T} {A : Option Addr} {n c j : Nat} (h : RXL Z w xs A n c) (hj : j ≤ n) : RXL Z w (xs.take j) A j c :=
  ⟨by rw [List.length_take, h.len]; omega, by have := h.le; omega, h.cap, fun q u hu => by
    have hq : q < j := by have := (List.getElem?_eq_some_iff.1 hu).1; rw [List.length_take] at this; omega
    rw [List.getElem?_take_of_lt hq] at hu
    exact h.at_ q u hu⟩
theorem eMetaC {W : WV} {h : Int} {xs : List T} (ih : ∀ x ∈ xs, TmE W x) (cx : List T) (B : Int) (As : Option Addr) (ns cs : Nat) (Am : Option Addr) (nm cm : Nat) (Ac : Option Addr) (nc cc pw : Nat) (A : Option Addr) (n c : Nat) (Z : Nat → Prop) (w0 w : World)
    (hE : EnvV W cx B) (hbm : WkV W (.node 6 h xs)) (hsum : B + nd (.node 6 h xs) * dlV ≤ hiV) (hlen : cx.length + nd (.node 6 h xs) ≤ 100000) (hb0 : Below w0.heap.size w0 w) (hk : CkV w0 W cx As ns cs Am nm cm Ac nc cc) (hp : PwE w0 pw As ns cs Am nm cm) (hv : Rd w0 (.node 6 h xs) (.agg #[.int .i64 6, .int .i64 h, .slice A n c])) (hZ : ∀ b, Z b → w0.heap.size ≤ b ∧ b < w.heap.size) :
    Calls Tryz.prog 99 #[.pointer (some ⟨pw, 0, none⟩), .slice Ac nc cc, .agg #[.int .i64 6, .int .i64 h, .slice A n c]] w (SpX Z (cmV W cx (.node 6 h xs)) w) := by
  have hccap := hk.cx.cap
  have hcl := hk.cx.len
  have hmcap := hk.ms.cap
  have hmle := hk.ms.le
  have hml := hk.ms.len
  unfold maxLen at hccap hmcap
  have h0 := headV hbm.nod
  have hx : CLV w0 xs A n c := by
    obtain ⟨A', n', c', e, _, _, h3, h4, h5, h6⟩ := Rd_node.1 hv
    have e' : A = A' ∧ n = n' ∧ c = c' := by simpa using e
    obtain ⟨rfl, rfl, rfl⟩ := e'
    exact ⟨h3, h4, h5, h6⟩
  obtain ⟨i, rfl⟩ : ∃ i : Nat, h = i := ⟨h.toNat, by omega⟩
  obtain ⟨W0, hW⟩ : ∃ W0, (w.alloc (.cells #[.int .i64 6, .int .i64 (i : Int), .slice A n c] 39)).alloc (.cells #[.int .i64 0, .int .i64 0, .slice none 0 0] 39) = W0 := ⟨_, rfl⟩
  have hb : Below w.heap.size w W0 := by rw [← hW]; exact ((Below.refl _ _).alloc (Nat.le_refl _) _).alloc (by simp) _
  have x1 : Box W0 w.heap.size 39 #[.int .i64 6, .int .i64 (i : Int), .slice A n c] := by rw [← hW]; exact (Box.new _ _ _).alloc _
  have x2 : Box W0 (w.heap.size + 1) 39 #[.int .i64 0, .int .i64 0, .slice none 0 0] := by rw [← hW]; exact (Box.new (w.alloc _) _ _).at (by simp)
  obtain ⟨d0, d1, d2⟩ := x1.three
  have hbz := hb0.trans (hb.mono hb0.size)
  have s1 : W0.cell? ⟨pw, 1, none⟩ = some (.slice Am nm cm) := (hp.keep hbz hp.lt).cell 1
  have HB := Lib.hid hb
  by_cases hlt : i < nm
  case' neg =>
    have dg : decide ((i : Int) ≥ (nm : Int)) = true := by simp; omega
    have dg2 : decide ((nm : Int) ≤ (i : Int)) = true := by simp; omega
    have hge : nm ≤ i := by omega
    have HQ := Lib.hid (cm_meta_no (W := W) (cx := cx) (xs := xs) (h := (i : Int)) (by omega))
    clear hE hbm hsum hlen hk hp ih hb x1 hx hv hb0 hbz hZ
    go_enter Tryz.func99, Tryz.ntmps99
    go_wp2_with fail
    try rw [hW]
    clear hW
    try go_wp2_with fail
    have HKS : Hid (∀ w' : World, Below W0.heap.size W0 w' → (fun w' => w'.cell? ⟨w.heap.size, 1, none⟩ = some (.int .i64 (i : Int)) ∧ w'.cell? ⟨pw, 1, none⟩ = some (.slice Am nm cm)) w') := Lib.hid fun w' h => ⟨(h.cell (cell_lt d1)).trans d1, (h.cell (cell_lt s1)).trans s1⟩
    have hbd : Below W0.heap.size W0 W0.drew := (Below.refl _ W0).drew
    refine zzR HKS hbd (fun hS => ?_)
    simp only [List.size_toArray, List.length_cons, List.length_nil, Nat.reduceAdd]
    refine zzT (i := 0) (v := .pointer (some ⟨w.heap.size, 1, none⟩)) rfl hS ?_
    try simp only [Act.put, zzP]
    refine zzT (i := 1) (v := .int .i64 (i : Int)) rfl hS ?_
    try simp only [Act.put, zzP]
    refine zzT (i := 2) (v := .pointer (some ⟨pw, 0, none⟩)) rfl hS ?_
    try simp only [Act.put, zzP]
    refine zzT (i := 3) (v := .pointer (some ⟨pw, 0, none⟩)) rfl hS ?_
    try simp only [Act.put, zzP]
    refine zzT (i := 4) (v := .pointer (some ⟨pw, 1, none⟩)) rfl hS ?_
    try simp only [Act.put, zzP]
    refine zzT (i := 5) (v := .slice Am nm cm) rfl hS ?_
    try simp only [Act.put, zzP]
    refine zzT (i := 6) (v := .int .i64 nm) rfl hS ?_
    try simp only [Act.put, zzP]
    refine zzT (i := 7) (v := .bool true) rfl hS ?_
    try simp only [Act.put, zzP]
    refine wpAnyH_done (by kernel_rfl) ?_ _
    try simp only [List.setIfInBounds_toArray]
    try simp only [zzP]
    have HBF := Lib.hid (HB.out.trans (hbd.mono HB.out.size))
    have yr := x2.keep hbd x2.lt
    replace s1 := (hbd.cell (cell_lt s1)).trans s1
    clear hS HKS hbd x2 d0 d1 d2 HB
    generalize W0.drew = W1 at *
    obtain ⟨r0, r1, r2⟩ := yr.three
    have f0 := yr.frozen 0
    have f1 := yr.frozen 1
    have f2 := yr.frozen 2
    have lz := yr.lt
    clear yr
    go_wp2_with fail
    refine bodyPost_ret (v := .tuple #[.agg #[.int .i64 0, .int .i64 0, .slice none 0 0], .int .i64 2]) (by simp [results, Tryz.results99, go_sem, r0, r1, r2]) rfl ?_
    first | exact spX_no HQ.out HBF.out _ (by omega) _ _ _ | exact spX_no0 HQ.out HBF.out
  have dg : decide ((i : Int) ≥ (nm : Int)) = false := by simp; omega
  have dg2 : decide ((nm : Int) ≤ (i : Int)) = false := by simp; omega
  have hge : ¬ nm ≤ i := by omega
  obtain ⟨md, hen⟩ := at_of hml hlt
  have HWM := Lib.hid hbm
  have HBM := Lib.hid (hbm.bd (fun e9 => by have h9 := List.mem_of_getElem? hen; rw [e9] at h9; cases h9))
  have HEQ := Lib.hid (cm_meta (W := W) (cx := cx) (xs := xs) hen)
  obtain ⟨bc, oc, Ad, ndd, cd, ke, he, Ae, ne, ce, pb, eA, e0, e1, e2, e3, e4, hlx, hre⟩ := hk.ms.at_ i md hen
  subst eA
  have hmd := hE.ms md (List.mem_of_getElem? hen)
  replace e0 := (hbz.cell (cell_lt e0)).trans e0
  replace e1 := (hbz.cell (cell_lt e1)).trans e1
  replace e2 := (hbz.cell (cell_lt e2)).trans e2
  replace e3 := (hbz.cell (cell_lt e3)).trans e3
  replace e4 := (hbz.cell (cell_lt e4)).trans e4
  have HB0 := Lib.hid hb0
  have HK := Lib.hid hk
  have HPW := Lib.hid hp
  have HX := Lib.hid hx
  have HE := Lib.hid hE
  have HSUM := Lib.hid hsum
  have HLEN := Lib.hid hlen
  have HIH := Lib.hid ih
  have HZ := Lib.hid hZ
  have HLX := Lib.hid hlx
  have HRE := Lib.hid hre
  have HMD := Lib.hid hmd
  have hdcap := hlx.cap
  have hdle := hlx.le
  have hdl := hlx.len
  have hnn := hx.len
  have hncap := hx.cap
  have hnle := hx.le
  unfold maxLen at hdcap hncap
  have hi0 : (0 : Int) ≤ i := by omega
  have hi1 : (i : Int) < nm := by omega
  obtain ⟨es, tt⟩ := md
  clear hE hbm hsum hlen hk hp ih hlx hre hmd hen hx hv hb0 hbz hZ hb hlt
  go_enter Tryz.func99, Tryz.ntmps99
  go_wp2_with fail
  try rw [hW]
  clear hW
  try go_wp2_with fail
  have HKS : Hid (∀ w' : World, Below W0.heap.size W0 w' → (fun w' => w'.cell? ⟨w.heap.size, 1, none⟩ = some (.int .i64 (i : Int)) ∧ w'.cell? ⟨pw, 1, none⟩ = some (.slice (some ⟨bc, oc, none⟩) nm cm)) w') := Lib.hid fun w' h => ⟨(h.cell (cell_lt d1)).trans d1, (h.cell (cell_lt s1)).trans s1⟩
  have hbd : Below W0.heap.size W0 W0.drew := (Below.refl _ W0).drew
  refine zzR HKS hbd (fun hS => ?_)
  simp only [List.size_toArray, List.length_cons, List.length_nil, Nat.reduceAdd]
  refine zzT (i := 0) (v := .pointer (some ⟨w.heap.size, 1, none⟩)) rfl hS ?_
  try simp only [Act.put, zzP]
  refine zzT (i := 1) (v := .int .i64 (i : Int)) rfl hS ?_
  try simp only [Act.put, zzP]
  refine zzT (i := 2) (v := .pointer (some ⟨pw, 0, none⟩)) rfl hS ?_
  try simp only [Act.put, zzP]
  refine zzT (i := 3) (v := .pointer (some ⟨pw, 0, none⟩)) rfl hS ?_
  try simp only [Act.put, zzP]
  refine zzT (i := 4) (v := .pointer (some ⟨pw, 1, none⟩)) rfl hS ?_
  try simp only [Act.put, zzP]
  refine zzT (i := 5) (v := .slice (some ⟨bc, oc, none⟩) nm cm) rfl hS ?_
  try simp only [Act.put, zzP]
  refine zzT (i := 6) (v := .int .i64 nm) rfl hS ?_
  try simp only [Act.put, zzP]
  refine zzT (i := 7) (v := .bool false) rfl hS ?_
  try simp only [Act.put, zzP]
  refine wpAnyH_done (by kernel_rfl) ?_ _
  try simp only [List.setIfInBounds_toArray]
  try simp only [zzP]
  have HB1 := Lib.hid (HB.out.trans (hbd.mono HB.out.size))
  replace x1 := x1.keep hbd x1.lt
  replace x2 := x2.keep hbd x2.lt
  replace d1 := (hbd.cell (cell_lt d1)).trans d1
  replace d2 := (hbd.cell (cell_lt d2)).trans d2
  replace s1 := (hbd.cell (cell_lt s1)).trans s1
  replace e0 := (hbd.cell (cell_lt e0)).trans e0
  replace e1 := (hbd.cell (cell_lt e1)).trans e1
  replace e2 := (hbd.cell (cell_lt e2)).trans e2
  replace e3 := (hbd.cell (cell_lt e3)).trans e3
  replace e4 := (hbd.cell (cell_lt e4)).trans e4
  clear hS HKS d0 HB hbd
  generalize W0.drew = W1 at *
  have lz1 := x2.lt
  go_wp2_with fail
  have HKS : Hid (∀ w' : World, Below W1.heap.size W1 w' → (fun w' => w'.cell? ⟨w.heap.size, 1, none⟩ = some (.int .i64 (i : Int)) ∧ w'.cell? ⟨pw, 1, none⟩ = some (.slice (some ⟨bc, oc, none⟩) nm cm) ∧ w'.cell? ⟨bc, oc + i * 5, none⟩ = some (.slice Ad ndd cd) ∧ w'.cell? ⟨bc, oc + i * 5 + 1, none⟩ = some (.int .i64 ke) ∧ w'.cell? ⟨bc, oc + i * 5 + 2, none⟩ = some (.int .i64 he) ∧ w'.cell? ⟨bc, oc + i * 5 + 3, none⟩ = some (.slice Ae ne ce) ∧ w'.cell? ⟨bc, oc + i * 5 + 4, none⟩ = some (.bool pb)) w') := Lib.hid fun w' h => ⟨(h.cell (cell_lt d1)).trans d1, (h.cell (cell_lt s1)).trans s1, (h.cell (cell_lt e0)).trans e0, (h.cell (cell_lt e1)).trans e1, (h.cell (cell_lt e2)).trans e2, (h.cell (cell_lt e3)).trans e3, (h.cell (cell_lt e4)).trans e4⟩
  have hbd : Below W1.heap.size W1 W1.drew := (Below.refl _ W1).drew
  refine zzR HKS hbd (fun hS => ?_)
  simp only [List.size_toArray, List.length_cons, List.length_nil, Nat.reduceAdd]
  refine zzT (i := 0) (v := .pointer (some ⟨pw, 0, none⟩)) rfl hS ?_
  try simp only [Act.put, zzP]
  refine zzT (i := 1) (v := .pointer (some ⟨pw, 0, none⟩)) rfl hS ?_
  try simp only [Act.put, zzP]
  refine zzT (i := 2) (v := .pointer (some ⟨pw, 1, none⟩)) rfl hS ?_
  try simp only [Act.put, zzP]
  refine zzT (i := 3) (v := .slice (some ⟨bc, oc, none⟩) nm cm) rfl hS ?_
  try simp only [Act.put, zzP]
  refine zzT (i := 4) (v := .pointer (some ⟨w.heap.size, 1, none⟩)) rfl hS ?_
  try simp only [Act.put, zzP]
  refine zzT (i := 5) (v := .int .i64 (i : Int)) rfl hS ?_
  try simp only [Act.put, zzP]
  refine zzT (i := 6) (v := .pointer (some ⟨bc, oc + i * 5, none⟩)) rfl hS ?_
  try simp only [Act.put, zzP]
  refine zzT (i := 7) (v := .agg #[.slice Ad ndd cd, .int .i64 ke, .int .i64 he, .slice Ae ne ce, .bool pb]) rfl hS ?_
  try simp only [Act.put, zzP]
  refine wpAnyH_ready (rs := [8]) (by kernel_rfl) (by simp) ?_
  refine AllReadyH.cons rfl (fun KN hK => ?_) AllReadyH.nil
  go_simp
  have hb5 : Below W1.heap.size W1 (W1.alloc (.cells #[.slice none 0 0, .int .i64 0, .int .i64 0, .slice none 0 0, .bool false] 42)).drew := ((Below.refl _ W1).alloc (Nat.le_refl _) _).drew
  refine hK.out _ _ (HKS.out _ hb5) (fun hS => ?_)
  clear hK KN
  try simp only [Act.put, zzP]
  have xd : Box (W1.alloc (.cells #[.slice none 0 0, .int .i64 0, .int .i64 0, .slice none 0 0, .bool false] 42)).drew W1.heap.size 42 #[.slice none 0 0, .int .i64 0, .int .i64 0, .slice none 0 0, .bool false] := Box.drewI (Box.new _ _ _)
  obtain ⟨Bd, hBd⟩ : ∃ p, W1.heap.size = p := ⟨_, rfl⟩
  rw [hBd] at xd
  try rw [hBd]
  have hlB : w.heap.size + 1 < Bd := by omega
  have HBD := Lib.hid hBd
  clear hBd
  generalize (W1.alloc (.cells #[.slice none 0 0, .int .i64 0, .int .i64 0, .slice none 0 0, .bool false] 42)).drew = W5 at *
  have z0 : W5.cell? ⟨Bd, 0, none⟩ = some (.slice none 0 0) := xd.cell 0
  have z1 : W5.cell? ⟨Bd, 1, none⟩ = some (.int .i64 0) := xd.cell 1
  have z2 : W5.cell? ⟨Bd, 2, none⟩ = some (.int .i64 0) := xd.cell 2
  have z3 : W5.cell? ⟨Bd, 3, none⟩ = some (.slice none 0 0) := xd.cell 3
  have z4 : W5.cell? ⟨Bd, 4, none⟩ = some (.bool false) := xd.cell 4
  have u0 := xd.frozen 0
  have u1 := xd.frozen 1
  have u2 := xd.frozen 2
  have u3 := xd.frozen 3
  have u4 := xd.frozen 4
  refine wpAnyH_ready (rs := [9]) (by kernel_rfl) (by simp) ?_
  refine AllReadyH.cons rfl (fun KN hK => ?_) AllReadyH.nil
  go_simp
  have hBle : W1.heap.size ≤ Bd := by rw [HBD.out]; exact Nat.le_refl _
  have hbF : Below W1.heap.size W1 (((((W5.setCell ⟨Bd, 0, none⟩ (.slice Ad ndd cd)).setCell ⟨Bd, 1, none⟩ (.int .i64 ke)).setCell ⟨Bd, 2, none⟩ (.int .i64 he)).setCell ⟨Bd, 3, none⟩ (.slice Ae ne ce)).setCell ⟨Bd, 4, none⟩ (.bool pb)) := ((((hb5.setCell hBle _).setCell hBle _).setCell hBle _).setCell hBle _).setCell hBle _
  refine hK.out _ _ (HKS.out _ hbF) (fun hS => ?_)
  clear hK KN
  try simp only [Act.put, zzP]
  have yd : Box (((((W5.setCell ⟨Bd, 0, none⟩ (.slice Ad ndd cd)).setCell ⟨Bd, 1, none⟩ (.int .i64 ke)).setCell ⟨Bd, 2, none⟩ (.int .i64 he)).setCell ⟨Bd, 3, none⟩ (.slice Ae ne ce)).setCell ⟨Bd, 4, none⟩ (.bool pb)) Bd 42 #[.slice Ad ndd cd, .int .i64 ke, .int .i64 he, .slice Ae ne ce, .bool pb] := by simpa using ((((xd.setAt 0 (.slice Ad ndd cd)).setAt 1 (.int .i64 ke)).setAt 2 (.int .i64 he)).setAt 3 (.slice Ae ne ce)).setAt 4 (.bool pb)
  clear z0 z1 z2 z3 z4 u0 u1 u2 u3 u4 xd hb5
  generalize ((((W5.setCell ⟨Bd, 0, none⟩ (.slice Ad ndd cd)).setCell ⟨Bd, 1, none⟩ (.int .i64 ke)).setCell ⟨Bd, 2, none⟩ (.int .i64 he)).setCell ⟨Bd, 3, none⟩ (.slice Ae ne ce)).setCell ⟨Bd, 4, none⟩ (.bool pb) = W6 at *
  refine wpAnyH_done (by kernel_rfl) ?_ _
  try simp only [List.setIfInBounds_toArray]
  try simp only [zzP]
  have ym := x1.keep hbF x1.lt
  have yr := x2.keep hbF x2.lt
  have HBW6 := Lib.hid (HB1.out.trans (hbF.mono HB1.out.size))
  have lz6 := yd.lt
  clear hS HKS hbd hbF x1 x2 d1 d2 s1 e0 e1 e2 e3 e4 HB1
  obtain ⟨m0, m1, m2⟩ := ym.three
  obtain ⟨r0, r1, r2⟩ := yr.three
  have f0 := yr.frozen 0
  have f1 := yr.frozen 1
  have f2 := yr.frozen 2
  have lz := yr.lt
  have q0 : W6.cell? ⟨Bd, 0, none⟩ = some (.slice Ad ndd cd) := yd.cell 0
  by_cases hne : n = ndd
  case' neg =>
    have hd2 : ((n : Int) != (ndd : Int)) = true := by simp; omega
    have HEQ2 := Lib.hid (HEQ.out.trans (if_neg (show ¬ xs.length = es.length by omega)))
    go_wp2_with fail
    refine bodyPost_ret (v := .tuple #[.agg #[.int .i64 0, .int .i64 0, .slice none 0 0], .int .i64 3]) (by simp [results, Tryz.results99, go_sem, r0, r1, r2]) rfl ?_
    first | exact spX_no HEQ2.out HBW6.out _ (by omega) _ _ _ | exact spX_no0 HEQ2.out HBW6.out
  subst hne
  have HEQ2 := Lib.hid (HEQ.out.trans (if_pos (show xs.length = es.length by omega)))
  have HI0 : Hid (MeIe W xs cx es (i : Int) A n c Ad n cd ke he Ae ne ce pb Bd w 0 W6) := Lib.hid ⟨ym, yr, yd, HBW6.out, by rw [List.drop_zero, List.take_zero, List.drop_zero]⟩
  clear HEQ ym yr yd
  go_wp2_with fail
  clear m0 m1 m2 r0 r1 r2 f0 f1 f2 q0 HBW6
  go_loopw [9] (fun i' wr => ∃ (j : Nat), j ≤ n ∧ i' = .int .i64 j ∧ Hid (MeIe W xs cx es (i : Int) A n c Ad n cd ke he Ae ne ce pb Bd w j wr)) (fun i _ => n - (Go.RowKit.intOf i).toNat)
  case atStart => exact ⟨0, Nat.zero_le _, rfl, HI0⟩
  case round =>
    clear HI0
    obtain ⟨j, hj, rfl, HI⟩ := hrel
    by_cases hlt2 : j < n
    · obtain ⟨x, hxj⟩ := at_of HX.out.len hlt2
      have hel : es.length = n := hdl
      obtain ⟨en, hej⟩ := at_of hel hlt2
      have HBX := Lib.hid (HBM.out.arg (List.mem_of_getElem? hxj))
      have HWX := Lib.hid (HWM.out.arg (List.mem_of_getElem? hxj))
      have HBE := Lib.hid (HMD.out.1 en (List.mem_of_getElem? hej))
      have hB0w := Lib.hid (HB0.out.trans (HI.out.below.mono HB0.out.size))
      obtain ⟨ba, oa, kx, gx, Ax, nx, cx', eA, v0, v1, v2, hrx⟩ := ((HX.out.keep hB0w.out).at_ j x hxj).full
      obtain ⟨be, oe, ke2, ge2, Ae2, ne2, ce2, eE, e0, e1, e2, hre⟩ := (HLX.out.at_ j en hej).full
      replace e0 := (hB0w.out.cell (cell_lt e0)).trans e0
      replace e1 := (hB0w.out.cell (cell_lt e1)).trans e1
      replace e2 := (hB0w.out.cell (cell_lt e2)).trans e2
      subst eA eE
      have heq := HI.out.eq
      rw [drop_at hxj, drop_at hej, mt_cons] at heq
      have HME := Lib.hid heq
      have HXJ := Lib.hid hxj
      have hnl := nd_mem (List.mem_of_getElem? hxj)
      have hBh : B + (1 + nd x) * dlV ≤ hiV := by have := HSUM.out; rw [nd] at this; unfold dlV hiV at *; omega
      have hLh : cx.length + nd x ≤ 100000 := by have := HLEN.out; rw [nd] at this; omega
      have HRX := Lib.hid hrx
      have HVC := Lib.hid (And.intro v0 (And.intro v1 v2))
      have hj0 : (0 : Int) ≤ j := by omega
      have hj1 : (j : Int) < n := by omega
      have hj3 : (j : Int) ≤ (c : Int) := by omega
      obtain ⟨ee, hee⟩ : ∃ e, apE en (xs.take j) nc = e := ⟨_, rfl⟩
      have HEE := Lib.hid hee
      have HAP : Hid (∀ (Z' : Nat → Prop) (W' : World), Below wr.heap.size wr W' → (∀ b, Z' b → w.heap.size ≤ b ∧ b < W'.heap.size) → Calls Tryz.prog 76 #[.agg #[.int .i64 ke2, .int .i64 ge2, .slice Ae2 ne2 ce2], .agg #[.slice (some ⟨ba, oa, none⟩) j c, .int .i64 nc]] W' (ApX Z' (apT en (xs.take j) nc) ee W')) := Lib.hid fun Z' W' h' hz => by
        rw [← hee]
        have hbw := HB0.out.trans ((HI.out.below.trans (h'.mono HI.out.below.size)).mono HB0.out.size)
        exact (rApplyX (Z := Z') (fun b z => (hz b z).2) (rx_any (Z := Z') hre hbw (fun b z => by have := (hz b z).1; have := HB0.out.size; omega)) (clv_take (clv_rx HX.out hbw (fun b z => by have := (hz b z).1; have := HB0.out.size; omega)) (by omega)) (by have := ((myB_iff _).1 HBE.out.my).2.1; omega) (fun y hy => by have := ((myB_iff _).1 (HBM.out.arg (List.mem_of_mem_take hy)).my).2.1; omega) (fun _ => lo_of HBE.out (by decide)) (fun y hy _ => lo_of (HBM.out.arg (List.mem_of_mem_take hy)) (by decide))).mono (fun e w' h => rzn_x h)
      clear hee hxj hej heq hrx hre hnl
      obtain ⟨m0, m1, m2⟩ := HI.out.tb.three
      have q0 : wr.cell? ⟨Bd, 0, none⟩ = some (.slice (some ⟨be, oe, none⟩) n cd) := HI.out.db.cell 0
      have hlz := HI.out.rb.lt
      have hl0 := HI.out.below.size
      go_wp2_with fail
      clear m0 m1 v0 v1 v2
      have HKS : Hid (∀ w' : World, Below wr.heap.size wr w' → (fun w' => w'.cell? ⟨Bd, 0, none⟩ = some (.slice (some ⟨be, oe, none⟩) n cd) ∧ w'.cell? ⟨be, oe + j * 3, none⟩ = some (.int .i64 ke2) ∧ w'.cell? ⟨be, oe + j * 3 + 1, none⟩ = some (.int .i64 ge2) ∧ w'.cell? ⟨be, oe + j * 3 + 2, none⟩ = some (.slice Ae2 ne2 ce2) ∧ w'.cell? ⟨w.heap.size, 2, none⟩ = some (.slice (some ⟨ba, oa, none⟩) n c)) w') := Lib.hid fun w' h => ⟨(h.cell (cell_lt q0)).trans q0, (h.cell (cell_lt e0)).trans e0, (h.cell (cell_lt e1)).trans e1, (h.cell (cell_lt e2)).trans e2, (h.cell (cell_lt m2)).trans m2⟩
      have hbd : Below wr.heap.size wr wr.drew := (Below.refl _ wr).drew
      refine zzR HKS hbd (fun hS => ?_)
      simp only [List.size_toArray, List.length_cons, List.length_nil, Nat.reduceAdd]
      refine zzT (i := 0) (v := .pointer (some ⟨Bd, 0, none⟩)) rfl hS ?_
      try simp only [Act.put, zzP]
      refine zzT (i := 1) (v := .slice (some ⟨be, oe, none⟩) n cd) rfl hS ?_
      try simp only [Act.put, zzP]
      refine zzT (i := 2) (v := .int .i64 j) rfl hS ?_
      try simp only [Act.put, zzP]
      refine zzT (i := 3) (v := .pointer (some ⟨be, oe + j * 3, none⟩)) rfl hS ?_
      try simp only [Act.put, zzP]
      refine zzT (i := 4) (v := .agg #[.int .i64 ke2, .int .i64 ge2, .slice Ae2 ne2 ce2]) rfl hS ?_
      try simp only [Act.put, zzP]
      refine zzT (i := 5) (v := .pointer (some ⟨w.heap.size, 2, none⟩)) rfl hS ?_
      try simp only [Act.put, zzP]
      refine zzT (i := 6) (v := .slice (some ⟨ba, oa, none⟩) n c) rfl hS ?_
      try simp only [Act.put, zzP]
      refine zzT (i := 7) (v := .int .i64 j) rfl hS ?_
      try simp only [Act.put, zzP]
      refine zzT (i := 8) (v := .slice (some ⟨ba, oa, none⟩) j c) rfl hS ?_
      try simp only [Act.put, zzP]
      refine zzT (i := 9) (v := .slice Ac nc cc) rfl hS ?_
      try simp only [Act.put, zzP]
      refine zzT (i := 10) (v := .int .i64 nc) rfl hS ?_
      try simp only [Act.put, zzP]
      refine zzT (i := 11) (v := .agg #[.slice (some ⟨ba, oa, none⟩) j c, .int .i64 nc]) rfl hS ?_
      try simp only [Act.put, zzP]
      refine wpAnyH_ready (rs := [12, 16]) (by kernel_rfl) (by simp) ?_
      refine AllReadyH.cons rfl (fun KN hK => ?_) (AllReadyH.cons rfl (fun KN hK => ?_) AllReadyH.nil)
      · go_simp
        refine (HAP.out (fun b => b = w.heap.size + 1) _ hbd (fun b z => by have := hbd.size; omega)).mono ?_
        rintro e v0 ⟨k3, h3, A3, n3, c3, rfl, hS9, hb6⟩
        replace hbd : Below wr.heap.size wr v0 := hbd.trans (hb6.mono hbd.size)
        clear hb6
        refine hK.out _ _ (HKS.out _ hbd) (fun hS => ?_)
        clear hK KN
        try simp only [Act.put, zzP]
        refine zzT (i := 13) (v := .tuple #[.agg #[.int .i64 k3, .int .i64 h3, .slice A3 n3 c3], .int .i64 ee]) rfl hS ?_
        try simp only [Act.put, zzP]
        refine zzT (i := 14) (v := .agg #[.int .i64 k3, .int .i64 h3, .slice A3 n3 c3]) rfl hS ?_
        try simp only [Act.put, zzP]
        refine zzT (i := 15) (v := .int .i64 ee) rfl hS ?_
        try simp only [Act.put, zzP]
        refine wpAnyH_ready (rs := [16]) (by kernel_rfl) (by simp) ?_
        refine AllReadyH.cons rfl (fun KN hK => ?_) AllReadyH.nil
        go_simp
        have hbn : Below wr.heap.size wr (v0.alloc (.cells #[.int .i64 0, .int .i64 0, .slice none 0 0] 39)) := hbd.alloc hbd.size _
        refine hK.out _ _ (HKS.out _ hbn) (fun hS => ?_)
        clear hK KN
        try simp only [Act.put, zzP]
        have xz : Box (v0.alloc (.cells #[.int .i64 0, .int .i64 0, .slice none 0 0] 39)) v0.heap.size 39 #[.int .i64 0, .int .i64 0, .slice none 0 0] := Box.new _ _ _
        have hpl0 : wr.heap.size ≤ v0.heap.size := hbd.size
        replace hS9 : ∀ t, (Except.ok (apT en (xs.take j) nc) : Except Int T) = .ok t → RX (fun b => b = w.heap.size + 1 ∨ b = v0.heap.size) (v0.alloc (.cells #[.int .i64 0, .int .i64 0, .slice none 0 0] 39)) t (.agg #[.int .i64 k3, .int .i64 h3, .slice A3 n3 c3]) := fun t e => (hS9 t e).keepE (show Below v0.heap.size v0 (v0.alloc (.cells #[.int .i64 0, .int .i64 0, .slice none 0 0] 39)) from (Below.refl _ _).alloc (Nat.le_refl _) _) (fun b z => z.elim .inl (fun e => .inr (by omega)))
        obtain ⟨pB, hpB0⟩ : ∃ p, v0.heap.size = p := ⟨_, rfl⟩
        rw [hpB0] at xz hS9
        try rw [hpB0]
        have hpl : wr.heap.size ≤ pB := by omega
        clear hpB0 hbd hpl0
        generalize v0.alloc (.cells #[.int .i64 0, .int .i64 0, .slice none 0 0] 39) = wN at *
        have hbd := hbn
        clear hbn
        obtain ⟨z0, z1, z2⟩ := xz.three
        have u0 := xz.frozen 0
        have u1 := xz.frozen 1
        have u2 := xz.frozen 2
        refine wpAnyH_ready (rs := [17]) (by kernel_rfl) (by simp) ?_
        refine AllReadyH.cons rfl (fun KN hK => ?_) AllReadyH.nil
        go_simp
        have hbF := below_set3 hbd (a := pB) hpl (.int .i64 k3) (.int .i64 h3) (.slice A3 n3 c3)
        refine hK.out _ _ (HKS.out _ hbF) (fun hS => ?_)
        clear hK KN
        try simp only [Act.put, zzP]
        have xB := xz.put3 (.int .i64 k3) (.int .i64 h3) (.slice A3 n3 c3)
        have hrdF : ∀ t, (Except.ok (apT en (xs.take j) nc) : Except Int T) = .ok t → RX (fun b => b = w.heap.size + 1) (((wN.setCell ⟨pB, 0, none⟩ (.int .i64 k3)).setCell ⟨pB, 1, none⟩ (.int .i64 h3)).setCell ⟨pB, 2, none⟩ (.slice A3 n3 c3)) t (.agg #[.int .i64 k3, .int .i64 h3, .slice A3 n3 c3]) := fun t e => RdF.moveX (fun b hok hl => ⟨fun z => hok (.inl z), heap_other3 _ _ _ _ _ _ (fun e => hok (.inr e))⟩) _ _ (hS9 t e)
        clear hS9 xz hbd z0 z1 z2 u0 u1 u2
        generalize ((wN.setCell ⟨pB, 0, none⟩ (.int .i64 k3)).setCell ⟨pB, 1, none⟩ (.int .i64 h3)).setCell ⟨pB, 2, none⟩ (.slice A3 n3 c3) = Wf at *
        refine zzT (i := 18) (v := .int .i64 ee) rfl hS ?_
        try simp only [Act.put, zzP]
        refine wpAnyH_done (by kernel_rfl) ?_ _
        try simp only [List.setIfInBounds_toArray]
        try simp only [zzP]
        have HBF := Lib.hid (HI.out.below.trans (hbF.mono HI.out.below.size))
        have ym := HI.out.tb.keep hbF HI.out.tb.lt
        have yr := HI.out.rb.keep hbF HI.out.rb.lt
        have yd := HI.out.db.keep hbF HI.out.db.lt
        have HRX2 := Lib.hid (Rd.keep hbF _ _ HRX.out)
        have v0 := (hbF.cell (cell_lt HVC.out.1)).trans HVC.out.1
        have v1 := (hbF.cell (cell_lt HVC.out.2.1)).trans HVC.out.2.1
        have v2 := (hbF.cell (cell_lt HVC.out.2.2)).trans HVC.out.2.2
        have HB0F := Lib.hid (hB0w.out.trans (hbF.mono hB0w.out.size))
        have HRA := Lib.hid (RX.rd (hrdF _ rfl))
        clear hS HKS HAP hbF hpl hrdF m2 q0 e0 e1 e2
        obtain ⟨y0, y1, y2⟩ := xB.three
        obtain ⟨r0, r1, r2⟩ := yr.three
        have f0 := yr.frozen 0
        have f1 := yr.frozen 1
        have f2 := yr.frozen 2
        have lz := yr.lt
        clear xB
        by_cases hz2 : ee = 0
        · subst hz2
          have hbr : BdV (B + dlV) (apT en (xs.take j) nc) := bd_ap (HBE.out.mono HE.out.lo) (fun y hy => (HBM.out.arg (List.mem_of_mem_take hy)).mono HE.out.lo) HEE.out
          have HTC := Lib.hid (fun W' (h' : Below Wf.heap.size Wf W') => HIH.out x (List.mem_of_getElem? HXJ.out) cx (apT en (xs.take j) nc) (B + dlV) As ns cs (some ⟨bc, oc, none⟩) nm cm Ac nc cc pw _ _ W' (HE.out.mono (by unfold dlV; omega)) HWX.out hbr (by unfold dlV hiV at *; omega) hLh (HK.out.keep (HB0F.out.trans (h'.mono HB0F.out.size))) (HPW.out.keep (HB0F.out.trans (h'.mono HB0F.out.size)) HPW.out.lt) (Rd.keep h' _ _ HRX2.out) (Rd.keep h' _ _ HRA.out))
          have HME1 := Lib.hid (HME.out.trans (if_pos (by rw [hcl]; exact HEE.out)))
          rw [hcl] at HME1
          obtain ⟨e4, he4⟩ : ∃ e, tmV W x cx (apT en (xs.take j) nc) = e := ⟨_, rfl⟩
          have HE4 := Lib.hid he4
          rw [he4] at HTC
          clear hbr he4
          obtain ⟨m0, m1, m2⟩ := ym.three
          go_wp2_with fail
          have HKS : Hid (∀ w' : World, Below Wf.heap.size Wf w' → (fun w' => w'.cell? ⟨w.heap.size, 2, none⟩ = some (.slice (some ⟨ba, oa, none⟩) n c) ∧ w'.cell? ⟨ba, oa + j * 3, none⟩ = some (.int .i64 kx) ∧ w'.cell? ⟨ba, oa + j * 3 + 1, none⟩ = some (.int .i64 gx) ∧ w'.cell? ⟨ba, oa + j * 3 + 2, none⟩ = some (.slice Ax nx cx') ∧ w'.cell? ⟨pB, 0, none⟩ = some (.int .i64 k3) ∧ w'.cell? ⟨pB, 1, none⟩ = some (.int .i64 h3) ∧ w'.cell? ⟨pB, 2, none⟩ = some (.slice A3 n3 c3)) w') := Lib.hid fun w' h => ⟨(h.cell (cell_lt m2)).trans m2, (h.cell (cell_lt v0)).trans v0, (h.cell (cell_lt v1)).trans v1, (h.cell (cell_lt v2)).trans v2, (h.cell (cell_lt y0)).trans y0, (h.cell (cell_lt y1)).trans y1, (h.cell (cell_lt y2)).trans y2⟩
          have hbd : Below Wf.heap.size Wf Wf.drew := (Below.refl _ Wf).drew
          refine zzR HKS hbd (fun hS => ?_)
          simp only [List.size_toArray, List.length_cons, List.length_nil, Nat.reduceAdd]
          refine zzT (i := 0) (v := .pointer (some ⟨pw, 0, none⟩)) rfl hS ?_
          try simp only [Act.put, zzP]
          refine zzT (i := 1) (v := .slice Ac nc cc) rfl hS ?_
          try simp only [Act.put, zzP]
          refine zzT (i := 2) (v := .pointer (some ⟨w.heap.size, 2, none⟩)) rfl hS ?_
          try simp only [Act.put, zzP]
          refine zzT (i := 3) (v := .slice (some ⟨ba, oa, none⟩) n c) rfl hS ?_
          try simp only [Act.put, zzP]
          refine zzT (i := 4) (v := .int .i64 j) rfl hS ?_
          try simp only [Act.put, zzP]
          refine zzT (i := 5) (v := .pointer (some ⟨ba, oa + j * 3, none⟩)) rfl hS ?_
          try simp only [Act.put, zzP]
          refine zzT (i := 6) (v := .agg #[.int .i64 kx, .int .i64 gx, .slice Ax nx cx']) rfl hS ?_
          try simp only [Act.put, zzP]
          refine zzT (i := 7) (v := .agg #[.int .i64 k3, .int .i64 h3, .slice A3 n3 c3]) rfl hS ?_
          try simp only [Act.put, zzP]
          refine wpAnyH_ready (rs := [8]) (by kernel_rfl) (by simp) ?_
          refine AllReadyH.cons rfl (fun KN hK => ?_) AllReadyH.nil
          go_simp
          refine (HTC.out _ hbd).mono ?_
          rintro e w9 ⟨rfl, hb6⟩
          replace hbd : Below Wf.heap.size Wf w9 := hbd.trans (hb6.mono hbd.size)
          clear hb6
          refine hK.out _ _ (HKS.out _ hbd) (fun hS => ?_)
          clear hK KN
          try simp only [Act.put, zzP]
          refine zzT (i := 9) (v := .int .i64 e4) rfl hS ?_
          try simp only [Act.put, zzP]
          refine wpAnyH_done (by kernel_rfl) ?_ _
          try simp only [List.setIfInBounds_toArray]
          try simp only [zzP]
          have HB9 := Lib.hid (HBF.out.trans (hbd.mono HBF.out.size))
          replace ym := ym.keep hbd ym.lt
          replace yr := yr.keep hbd yr.lt
          replace yd := yd.keep hbd yd.lt
          clear hS HKS hbd HTC r0 r1 r2 f0 f1 f2 lz m0 m1 m2 v0 v1 v2 y0 y1 y2
          obtain ⟨r0, r1, r2⟩ := yr.three
          have f0 := yr.frozen 0
          have f1 := yr.frozen 1
          have f2 := yr.frozen 2
          have lz := yr.lt
          by_cases hz4 : e4 = 0
          · subst hz4
            go_wp2_with fail
            go_roundw
            case measure => simp [Go.RowKit.intOf]; omega
            case rel =>
              refine ⟨j + 1, by omega, by go_num, Lib.hid ⟨ym, yr, yd, HB9.out, ?_⟩⟩
              rw [HME1.out, if_pos HE4.out, take_snocV HXJ.out]
          · have hd4 : (e4 != 0) = true := by simpa using hz4
            have HE5 := Lib.hid (show mtV W xs [] cx es = e4 by rw [HME1.out, if_neg (by rw [HE4.out]; exact hz4), HE4.out])
            have HEQ3 := Lib.hid (HEQ2.out.trans (if_neg (by rw [HE5.out]; exact hz4)))
            rw [HE5.out] at HEQ3
            go_wp2_with fail
            refine bodyPost_ret (v := .tuple #[.agg #[.int .i64 0, .int .i64 0, .slice none 0 0], .int .i64 e4]) (by simp [results, Tryz.results99, go_sem, r0, r1, r2]) rfl ?_
            first | exact spX_no HEQ3.out HB9.out _ (by omega) _ _ _ | exact spX_no0 HEQ3.out HB9.out
        · have hd2 : (ee != 0) = true := by simpa using hz2
          have HE5 := Lib.hid (show mtV W xs [] cx es = ee by rw [HME.out, if_neg (by rw [hcl, HEE.out]; exact hz2), hcl, HEE.out])
          have HEQ3 := Lib.hid (HEQ2.out.trans (if_neg (by rw [HE5.out]; exact hz2)))
          rw [HE5.out] at HEQ3
          go_wp2_with fail
          refine bodyPost_ret (v := .tuple #[.agg #[.int .i64 0, .int .i64 0, .slice none 0 0], .int .i64 ee]) (by simp [results, Tryz.results99, go_sem, r0, r1, r2]) rfl ?_
          first | exact spX_no HEQ3.out HBF.out _ (by omega) _ _ _ | exact spX_no0 HEQ3.out HBF.out
      · go_simp
        have hbn : Below wr.heap.size wr ((wr.alloc (.cells #[.int .i64 0, .int .i64 0, .slice none 0 0] 39)).drew) := ((Below.refl _ wr).alloc (Nat.le_refl _) _).drew
        refine hK.out _ _ (HKS.out _ hbn) (fun hS => ?_)
        clear hK KN
        try simp only [Act.put, zzP]
        have xz : Box ((wr.alloc (.cells #[.int .i64 0, .int .i64 0, .slice none 0 0] 39)).drew) wr.heap.size 39 #[.int .i64 0, .int .i64 0, .slice none 0 0] := Box.drewI (Box.new _ _ _)
        have hpl0 : wr.heap.size ≤ wr.heap.size := Nat.le_refl _
        obtain ⟨pB, hpB0⟩ : ∃ p, wr.heap.size = p := ⟨_, rfl⟩
        rw [hpB0] at xz
        try rw [hpB0]
        have hpl : wr.heap.size ≤ pB := by omega
        clear hpB0 hbd hpl0
        generalize (wr.alloc (.cells #[.int .i64 0, .int .i64 0, .slice none 0 0] 39)).drew = wN at *
        have hbd := hbn
        clear hbn
        refine wpAnyH_ready (rs := [12]) (by kernel_rfl) (by simp) ?_
        refine AllReadyH.cons rfl (fun KN hK => ?_) AllReadyH.nil
        go_simp
        refine (HAP.out (fun b => b = w.heap.size + 1 ∨ b = pB) _ hbd (fun b z => by have := xz.lt; have := hbd.size; rcases z with z | z <;> omega)).mono ?_
        rintro e v1 ⟨k3, h3, A3, n3, c3, rfl, hS9, hb6⟩
        replace hbd : Below wr.heap.size wr v1 := hbd.trans (hb6.mono hbd.size)
        replace xz := xz.keep hb6 xz.lt
        clear hb6
        refine hK.out _ _ (HKS.out _ hbd) (fun hS => ?_)
        clear hK KN
        try simp only [Act.put, zzP]
        refine zzT (i := 13) (v := .tuple #[.agg #[.int .i64 k3, .int .i64 h3, .slice A3 n3 c3], .int .i64 ee]) rfl hS ?_
        try simp only [Act.put, zzP]
        refine zzT (i := 14) (v := .agg #[.int .i64 k3, .int .i64 h3, .slice A3 n3 c3]) rfl hS ?_
        try simp only [Act.put, zzP]
        refine zzT (i := 15) (v := .int .i64 ee) rfl hS ?_
        try simp only [Act.put, zzP]
        obtain ⟨z0, z1, z2⟩ := xz.three
        have u0 := xz.frozen 0
        have u1 := xz.frozen 1
        have u2 := xz.frozen 2
        refine wpAnyH_ready (rs := [17]) (by kernel_rfl) (by simp) ?_
        refine AllReadyH.cons rfl (fun KN hK => ?_) AllReadyH.nil
        go_simp
        have hbF := below_set3 hbd (a := pB) hpl (.int .i64 k3) (.int .i64 h3) (.slice A3 n3 c3)
        refine hK.out _ _ (HKS.out _ hbF) (fun hS => ?_)
        clear hK KN
        try simp only [Act.put, zzP]
        have xB := xz.put3 (.int .i64 k3) (.int .i64 h3) (.slice A3 n3 c3)
        have hrdF : ∀ t, (Except.ok (apT en (xs.take j) nc) : Except Int T) = .ok t → RX (fun b => b = w.heap.size + 1) (((v1.setCell ⟨pB, 0, none⟩ (.int .i64 k3)).setCell ⟨pB, 1, none⟩ (.int .i64 h3)).setCell ⟨pB, 2, none⟩ (.slice A3 n3 c3)) t (.agg #[.int .i64 k3, .int .i64 h3, .slice A3 n3 c3]) := fun t e => RdF.moveX (fun b hok hl => ⟨fun z => hok (.inl z), heap_other3 _ _ _ _ _ _ (fun e => hok (.inr e))⟩) _ _ (hS9 t e)
        clear hS9 xz hbd z0 z1 z2 u0 u1 u2
        generalize ((v1.setCell ⟨pB, 0, none⟩ (.int .i64 k3)).setCell ⟨pB, 1, none⟩ (.int .i64 h3)).setCell ⟨pB, 2, none⟩ (.slice A3 n3 c3) = Wf at *
        refine zzT (i := 18) (v := .int .i64 ee) rfl hS ?_
        try simp only [Act.put, zzP]
        refine wpAnyH_done (by kernel_rfl) ?_ _
        try simp only [List.setIfInBounds_toArray]
        try simp only [zzP]
        have HBF := Lib.hid (HI.out.below.trans (hbF.mono HI.out.below.size))
        have ym := HI.out.tb.keep hbF HI.out.tb.lt
        have yr := HI.out.rb.keep hbF HI.out.rb.lt
        have yd := HI.out.db.keep hbF HI.out.db.lt
        have HRX2 := Lib.hid (Rd.keep hbF _ _ HRX.out)
        have v0 := (hbF.cell (cell_lt HVC.out.1)).trans HVC.out.1
        have v1 := (hbF.cell (cell_lt HVC.out.2.1)).trans HVC.out.2.1
        have v2 := (hbF.cell (cell_lt HVC.out.2.2)).trans HVC.out.2.2
        have HB0F := Lib.hid (hB0w.out.trans (hbF.mono hB0w.out.size))
        have HRA := Lib.hid (RX.rd (hrdF _ rfl))
        clear hS HKS HAP hbF hpl hrdF m2 q0 e0 e1 e2
        obtain ⟨y0, y1, y2⟩ := xB.three
        obtain ⟨r0, r1, r2⟩ := yr.three
        have f0 := yr.frozen 0
        have f1 := yr.frozen 1
        have f2 := yr.frozen 2
        have lz := yr.lt
        clear xB
        by_cases hz2 : ee = 0
        · subst hz2
          have hbr : BdV (B + dlV) (apT en (xs.take j) nc) := bd_ap (HBE.out.mono HE.out.lo) (fun y hy => (HBM.out.arg (List.mem_of_mem_take hy)).mono HE.out.lo) HEE.out
          have HTC := Lib.hid (fun W' (h' : Below Wf.heap.size Wf W') => HIH.out x (List.mem_of_getElem? HXJ.out) cx (apT en (xs.take j) nc) (B + dlV) As ns cs (some ⟨bc, oc, none⟩) nm cm Ac nc cc pw _ _ W' (HE.out.mono (by unfold dlV; omega)) HWX.out hbr (by unfold dlV hiV at *; omega) hLh (HK.out.keep (HB0F.out.trans (h'.mono HB0F.out.size))) (HPW.out.keep (HB0F.out.trans (h'.mono HB0F.out.size)) HPW.out.lt) (Rd.keep h' _ _ HRX2.out) (Rd.keep h' _ _ HRA.out))
          have HME1 := Lib.hid (HME.out.trans (if_pos (by rw [hcl]; exact HEE.out)))
          rw [hcl] at HME1
          obtain ⟨e4, he4⟩ : ∃ e, tmV W x cx (apT en (xs.take j) nc) = e := ⟨_, rfl⟩
          have HE4 := Lib.hid he4
          rw [he4] at HTC
          clear hbr he4
          obtain ⟨m0, m1, m2⟩ := ym.three
          go_wp2_with fail
          have HKS : Hid (∀ w' : World, Below Wf.heap.size Wf w' → (fun w' => w'.cell? ⟨w.heap.size, 2, none⟩ = some (.slice (some ⟨ba, oa, none⟩) n c) ∧ w'.cell? ⟨ba, oa + j * 3, none⟩ = some (.int .i64 kx) ∧ w'.cell? ⟨ba, oa + j * 3 + 1, none⟩ = some (.int .i64 gx) ∧ w'.cell? ⟨ba, oa + j * 3 + 2, none⟩ = some (.slice Ax nx cx') ∧ w'.cell? ⟨pB, 0, none⟩ = some (.int .i64 k3) ∧ w'.cell? ⟨pB, 1, none⟩ = some (.int .i64 h3) ∧ w'.cell? ⟨pB, 2, none⟩ = some (.slice A3 n3 c3)) w') := Lib.hid fun w' h => ⟨(h.cell (cell_lt m2)).trans m2, (h.cell (cell_lt v0)).trans v0, (h.cell (cell_lt v1)).trans v1, (h.cell (cell_lt v2)).trans v2, (h.cell (cell_lt y0)).trans y0, (h.cell (cell_lt y1)).trans y1, (h.cell (cell_lt y2)).trans y2⟩
          have hbd : Below Wf.heap.size Wf Wf.drew := (Below.refl _ Wf).drew
          refine zzR HKS hbd (fun hS => ?_)
          simp only [List.size_toArray, List.length_cons, List.length_nil, Nat.reduceAdd]
          refine zzT (i := 0) (v := .pointer (some ⟨pw, 0, none⟩)) rfl hS ?_
          try simp only [Act.put, zzP]
          refine zzT (i := 1) (v := .slice Ac nc cc) rfl hS ?_
          try simp only [Act.put, zzP]
          refine zzT (i := 2) (v := .pointer (some ⟨w.heap.size, 2, none⟩)) rfl hS ?_
          try simp only [Act.put, zzP]
          refine zzT (i := 3) (v := .slice (some ⟨ba, oa, none⟩) n c) rfl hS ?_
          try simp only [Act.put, zzP]
          refine zzT (i := 4) (v := .int .i64 j) rfl hS ?_
          try simp only [Act.put, zzP]
          refine zzT (i := 5) (v := .pointer (some ⟨ba, oa + j * 3, none⟩)) rfl hS ?_
          try simp only [Act.put, zzP]
          refine zzT (i := 6) (v := .agg #[.int .i64 kx, .int .i64 gx, .slice Ax nx cx']) rfl hS ?_
          try simp only [Act.put, zzP]
          refine zzT (i := 7) (v := .agg #[.int .i64 k3, .int .i64 h3, .slice A3 n3 c3]) rfl hS ?_
          try simp only [Act.put, zzP]
          refine wpAnyH_ready (rs := [8]) (by kernel_rfl) (by simp) ?_
          refine AllReadyH.cons rfl (fun KN hK => ?_) AllReadyH.nil
          go_simp
          refine (HTC.out _ hbd).mono ?_
          rintro e w9 ⟨rfl, hb6⟩
          replace hbd : Below Wf.heap.size Wf w9 := hbd.trans (hb6.mono hbd.size)
          clear hb6
          refine hK.out _ _ (HKS.out _ hbd) (fun hS => ?_)
          clear hK KN
          try simp only [Act.put, zzP]
          refine zzT (i := 9) (v := .int .i64 e4) rfl hS ?_
          try simp only [Act.put, zzP]
          refine wpAnyH_done (by kernel_rfl) ?_ _
          try simp only [List.setIfInBounds_toArray]
          try simp only [zzP]
          have HB9 := Lib.hid (HBF.out.trans (hbd.mono HBF.out.size))
          replace ym := ym.keep hbd ym.lt
          replace yr := yr.keep hbd yr.lt
          replace yd := yd.keep hbd yd.lt
          clear hS HKS hbd HTC r0 r1 r2 f0 f1 f2 lz m0 m1 m2 v0 v1 v2 y0 y1 y2
          obtain ⟨r0, r1, r2⟩ := yr.three
          have f0 := yr.frozen 0
          have f1 := yr.frozen 1
          have f2 := yr.frozen 2
          have lz := yr.lt
          by_cases hz4 : e4 = 0
          · subst hz4
            go_wp2_with fail
            go_roundw
            case measure => simp [Go.RowKit.intOf]; omega
            case rel =>
              refine ⟨j + 1, by omega, by go_num, Lib.hid ⟨ym, yr, yd, HB9.out, ?_⟩⟩
              rw [HME1.out, if_pos HE4.out, take_snocV HXJ.out]
          · have hd4 : (e4 != 0) = true := by simpa using hz4
            have HE5 := Lib.hid (show mtV W xs [] cx es = e4 by rw [HME1.out, if_neg (by rw [HE4.out]; exact hz4), HE4.out])
            have HEQ3 := Lib.hid (HEQ2.out.trans (if_neg (by rw [HE5.out]; exact hz4)))
            rw [HE5.out] at HEQ3
            go_wp2_with fail
            refine bodyPost_ret (v := .tuple #[.agg #[.int .i64 0, .int .i64 0, .slice none 0 0], .int .i64 e4]) (by simp [results, Tryz.results99, go_sem, r0, r1, r2]) rfl ?_
            first | exact spX_no HEQ3.out HB9.out _ (by omega) _ _ _ | exact spX_no0 HEQ3.out HB9.out
        · have hd2 : (ee != 0) = true := by simpa using hz2
          have HE5 := Lib.hid (show mtV W xs [] cx es = ee by rw [HME.out, if_neg (by rw [hcl, HEE.out]; exact hz2), hcl, HEE.out])
          have HEQ3 := Lib.hid (HEQ2.out.trans (if_neg (by rw [HE5.out]; exact hz2)))
          rw [HE5.out] at HEQ3
          go_wp2_with fail
          refine bodyPost_ret (v := .tuple #[.agg #[.int .i64 0, .int .i64 0, .slice none 0 0], .int .i64 ee]) (by simp [results, Tryz.results99, go_sem, r0, r1, r2]) rfl ?_
          first | exact spX_no HEQ3.out HBF.out _ (by omega) _ _ _ | exact spX_no0 HEQ3.out HBF.out
    · obtain rfl : j = n := by omega
      have heq := HI.out.eq
      rw [drop_all HX.out.len (Nat.le_refl _), mtV] at heq
      have HEQ3 := Lib.hid (HEQ2.out.trans (if_pos heq))
      have hB0w := Lib.hid (HB0.out.trans (HI.out.below.mono HB0.out.size))
      have hlz := HI.out.rb.lt
      have HAP : Hid (Calls Tryz.prog 76 #[.agg #[.int .i64 ke, .int .i64 he, .slice Ae ne ce], .agg #[.slice A j c, .int .i64 nc]] wr (RZn (fun b => Z b ∨ b = w.heap.size + 1) (apT tt xs nc) (apE tt xs nc) wr)) := Lib.hid
        (rApplyX (fun b z => by have := HI.out.below.size; rcases z with z | z; (have := HZ.out b z; omega); omega) (rx_any HRE.out hB0w.out (fun b z => by have := HB0.out.size; rcases z with z | z; (exact (HZ.out b z).1); omega)) (clv_rx HX.out hB0w.out (fun b z => by have := HB0.out.size; rcases z with z | z; (exact (HZ.out b z).1); omega)) (by have := ((myB_iff _).1 HMD.out.2.my).2.1; omega) (fun y hy => by have := ((myB_iff _).1 (HBM.out.arg hy).my).2.1; omega) (fun _ => lo_of HMD.out.2 (by decide)) (fun y hy _ => lo_of (HBM.out.arg hy) (by decide)))
      have HER := Lib.hid (show erV (apV tt xs nc) = apE tt xs nc by unfold apV; split; (rename_i h; rw [h]; rfl); rfl)
      have HOK := Lib.hid (show ∀ t, apV tt xs nc = .ok t → t = apT tt xs nc by intro t; unfold apV; split; (intro e; cases e; rfl); (intro e; cases e))
      rw [hcl] at HEQ3
      obtain ⟨R, hR⟩ : ∃ R, apV tt xs nc = R := ⟨_, rfl⟩
      rw [hR] at HEQ3 HER HOK
      rw [← HER.out] at HAP
      obtain ⟨m0, m1, m2⟩ := HI.out.tb.three
      have q1 : wr.cell? ⟨Bd, 1, none⟩ = some (.int .i64 ke) := HI.out.db.cell 1
      have q2 : wr.cell? ⟨Bd, 2, none⟩ = some (.int .i64 he) := HI.out.db.cell 2
      have q3 : wr.cell? ⟨Bd, 3, none⟩ = some (.slice Ae ne ce) := HI.out.db.cell 3
      clear heq hR
      go_wp2_with fail
      refine HAP.out.mono ?_
      rintro e w8 ⟨k4, h4, A4, n4, c4, rfl, hrd, hb8⟩
      have HB8 := Lib.hid (HI.out.below.trans (hb8.mono HI.out.below.size))
      have z2 := HI.out.rb.keep hb8 HI.out.rb.lt
      clear m0 m1 m2 q1 q2 q3 HAP
      obtain ⟨W9, hW9⟩ : ∃ W9, w8.alloc (.cells #[.int .i64 k4, .int .i64 h4, .slice A4 n4 c4] 39) = W9 := ⟨_, rfl⟩
      have hb9 : Below w8.heap.size w8 W9 := by rw [← hW9]; exact (Below.refl _ _).alloc (Nat.le_refl _) _
      have x9 : Box W9 w8.heap.size 39 #[.int .i64 k4, .int .i64 h4, .slice A4 n4 c4] := by rw [← hW9]; exact Box.new _ _ _
      have HB9 := Lib.hid (HB8.out.trans (hb9.mono HB8.out.size))
      have z9 := z2.keep hb9 z2.lt
      have HRD := Lib.hid (hrd.keepE (Z' := fun b => Z b ∨ b = w.heap.size + 1) hb9 (fun b z => .inl z))
      have y := z9.put3 (.int .i64 k4) (.int .i64 h4) (.slice A4 n4 c4)
      obtain ⟨p0, p1, p2⟩ := x9.three
      obtain ⟨y0, y1, y2⟩ := y.three
      obtain ⟨r0, r1, r2⟩ := z9.three
      have f0 := z9.frozen 0
      have f1 := z9.frozen 1
      have f2 := z9.frozen 2
      have lz := z9.lt
      have hne9 : w.heap.size + 1 ≠ w8.heap.size := by have := z2.lt; omega
      clear hrd hb8 hb9 z2 z9 x9 y
      go_wp2_with fail
      trace_state
      refine bodyPost_ret (v := .tuple #[.agg #[.int .i64 k4, .int .i64 h4, .slice A4 n4 c4], .int .i64 (erV R)]) (by simp [results, Tryz.results99, go_sem, y0, y1, y2]) rfl ?_
      rw [HEQ3.out]
      exact spX_mvZ (p := w.heap.size + 1) (fun t e => by
        rw [HOK.out t e]
        exact HRD.out) HB9.out (by omega) _ _ _
end Go.Proofs.YtbbjjdnnlnabaaaGreat
