/- Texts of one proof, put together. No statement is proved here. -/
import Derived.Test.YtbbjjdnnlnabaaaGreatPkEb
import Derived.Test.YtbbjjdnnlnabaaaGreatPkVj
import Derived.Test.YtbbjjdnnlnabaaaGreatZt
namespace Go.Proofs.YtbbjjdnnlnabaaaGreat
open Go.ChangeShapes Go.WideShapes Go.ChangeAt Go.RowKit
set_option linter.unusedVariables false
set_option linter.unusedSimpArgs false
set_option maxRecDepth 100000
set_option maxHeartbeats 16000000
def TpE (f : FuncId) (F : T → List T → Int) (W : WV) (a : T) : Prop := ∀ (cx : List T) (As : Option Addr) (ns cs : Nat) (Am : Option Addr) (nm cm : Nat) (Ac : Option Addr) (nc cc pw : Nat) (va : Value) (w : World),
  EnvV W cx loV → WkV W a → cx.length + nd a ≤ 100000 → CkV w W cx As ns cs Am nm cm Ac nc cc → PwE w pw As ns cs Am nm cm → Rd w a va →
    Calls Tryz.prog f #[.pointer (some ⟨pw, 0, none⟩), .slice Ac nc cc, va] w (ByQ (F a cx) w)
theorem ePiTC {W : WV} {x y : T} {h : Int} (ihx : TpE 49 (tyV W) W x) (ihy : TpE 49 (tyV W) W y) (cx : List T) (As : Option Addr) (ns cs : Nat) (Am : Option Addr) (nm cm : Nat) (Ac : Option Addr) (nc cc pw : Nat) (A : Option Addr) (n c : Nat) (w : World)
    (hE : EnvV W cx loV) (hba : WkV W (.node 1 h [x, y])) (hlen : cx.length + nd (.node 1 h [x, y]) ≤ 100000) (hk : CkV w W cx As ns cs Am nm cm Ac nc cc) (hp : PwE w pw As ns cs Am nm cm) (ha : Rd w (.node 1 h [x, y]) (.agg #[.int .i64 1, .int .i64 h, .slice A n c])) :
    Calls Tryz.prog 49 #[.pointer (some ⟨pw, 0, none⟩), .slice Ac nc cc, .agg #[.int .i64 1, .int .i64 h, .slice A n c]] w (ByQ (tyV W (.node 1 h [x, y]) cx) w) := by
  obtain ⟨bb, ob, cb, ev, hc2, hcm2, ⟨kp, gp, Ap, np, cp, p0, p1, p2, hrp⟩, ⟨kq, gq, Aq, nq, cq, q0, q1, q2, hrq⟩⟩ := rd_pi ha
  have ev' : A = some ⟨bb, ob, none⟩ ∧ n = 2 ∧ c = cb := by simpa using ev
  obtain ⟨rfl, rfl, rfl⟩ := ev'
  unfold maxLen at hcm2
  obtain ⟨W0, hW⟩ : ∃ W0, w.alloc (.cells #[.int .i64 1, .int .i64 h, .slice (some ⟨bb, ob, none⟩) 2 c] 39) = W0 := ⟨_, rfl⟩
  have hb : Below w.heap.size w W0 := by rw [← hW]; exact (Below.refl _ _).alloc (Nat.le_refl _) _
  have x1 : Box W0 w.heap.size 39 #[.int .i64 1, .int .i64 h, .slice (some ⟨bb, ob, none⟩) 2 c] := by rw [← hW]; exact Box.new _ _ _
  obtain ⟨d0, d1, d2⟩ := x1.three
  replace p0 := (hb.cell (cell_lt p0)).trans p0
  replace p1 := (hb.cell (cell_lt p1)).trans p1
  replace p2 := (hb.cell (cell_lt p2)).trans p2
  replace q0 := (hb.cell (cell_lt q0)).trans q0
  replace q1 := (hb.cell (cell_lt q1)).trans q1
  replace q2 := (hb.cell (cell_lt q2)).trans q2
  have HB := Lib.hid hb
  have hcl := hk.cx.len
  rw [nd, ndL, ndL, ndL] at hlen
  have hxm : WkV W x := hba.arg (by simp)
  have hym : WkV W y := hba.arg (by simp)
  obtain ⟨R1, hR1⟩ : ∃ R, tyV W x cx = R := ⟨_, rfl⟩
  obtain ⟨R2, hR2⟩ : ∃ R, tyV W y (cx ++ [x]) = R := ⟨_, rfl⟩
  obtain ⟨R, hR⟩ : ∃ R, tyV W (.node 1 h [x, y]) cx = R := ⟨_, rfl⟩
  have HEQ := Lib.hid (show R = if R1 = 0 then R2 else R1 by rw [← hR, ty_pi, hR1, hR2])
  rw [hR]
  clear hR
  have HTX := Lib.hid (ihx cx As ns cs Am nm cm Ac nc cc pw _ W0 hE hxm (by omega) (hk.keep hb) (hp.keep hb hp.lt) (Rd.keep hb _ _ hrp))
  rw [hR1] at HTX
  have HLX : Hid (R1 = 0 → okT loV x) := Lib.hid fun e => ty_low hxm.my (by omega) (hR1.trans e)
  have HMO : Hid (∀ W' : World, Below W0.heap.size W0 W' → Calls Tryz.prog 64 #[.slice Ac nc cc, .agg #[.int .i64 kp, .int .i64 gp, .slice Ap np cp]] W' (MoE (cx ++ [x]) nc W')) := Lib.hid fun W' h' =>
    eMoreC cx x Ac nc cc _ W' (hk.cx.keep (hb.trans (h'.mono hb.size))) (Rd.keep (hb.trans (h'.mono hb.size)) _ _ hrp) (by omega)
  have HTM : Hid (R1 = 0 → ∀ (W' : World) (g cap : Nat), Below W0.heap.size W0 W' → CLV W' (cx ++ [x]) (some ⟨g, 0, none⟩) (nc + 1) cap → Calls Tryz.prog 49 #[.pointer (some ⟨pw, 0, none⟩), .slice (some ⟨g, 0, none⟩) (nc + 1) cap, .agg #[.int .i64 kq, .int .i64 gq, .slice Aq nq cq]] W' (ByQ R2 W')) := Lib.hid fun e W' g cap h' hcl' => by
    have hb' := hb.trans (h'.mono hb.size)
    have := ihy (cx ++ [x]) As ns cs Am nm cm _ _ _ pw _ W' (hE.more ⟨hxm.my, HLX.out e⟩) hym (by rw [List.length_append, List.length_singleton]; omega) ⟨hk.sg.keep hb', hk.ms.keep hb', hcl'⟩ (hp.keep hb' hp.lt) (Rd.keep hb' _ _ hrq)
    rw [hR2] at this
    exact this
  clear ev hE hba hlen hk hp ha hrp hrq hcl hb hxm hym hR1 hR2 ihx ihy HLX
  go_enter Tryz.func49, Tryz.ntmps49
  go_wp2_with fail
  try rw [hW]
  clear hW
  go_wp2_with fail
  refine HTX.out.mono ?_
  rintro e w3 ⟨rfl, hb3⟩
  replace d2 := (hb3.cell (cell_lt d2)).trans d2
  replace p0 := (hb3.cell (cell_lt p0)).trans p0
  replace p1 := (hb3.cell (cell_lt p1)).trans p1
  replace p2 := (hb3.cell (cell_lt p2)).trans p2
  replace q0 := (hb3.cell (cell_lt q0)).trans q0
  replace q1 := (hb3.cell (cell_lt q1)).trans q1
  replace q2 := (hb3.cell (cell_lt q2)).trans q2
  have HB3 := Lib.hid (HB.out.trans (hb3.mono HB.out.size))
  by_cases hz : R1 = 0
  case' neg =>
    have dz : (R1 != 0) = true := by simpa using hz
    have HQ := Lib.hid (show R1 = R by rw [HEQ.out, if_neg hz])
    clear d0 d1 d2 p0 p1 p2 q0 q1 q2 hb3
    go_wp2_with fail
    go_ret
    exact ⟨ret_int HQ.out, HB3.out⟩
  replace HTM := Lib.hid (fun (W' : World) (g cap : Nat) (h' : Below w3.heap.size w3 W') => HTM.out hz W' g cap (hb3.trans (h'.mono hb3.size)))
  replace HMO := Lib.hid (fun (W' : World) (h' : Below w3.heap.size w3 W') => HMO.out W' (hb3.trans (h'.mono hb3.size)))
  have HQ := Lib.hid (show R2 = R by rw [HEQ.out, if_pos hz])
  subst hz
  have dz : ((0 : Int) != 0) = false := by decide
  clear d0 d1 hb3 HTX
  go_wp2_with fail
  clear dz
  have HKS : Hid (∀ w' : World, Below w3.heap.size w3 w' → (fun w' => w'.cell? ⟨w.heap.size, 2, none⟩ = some (.slice (some ⟨bb, ob, none⟩) 2 c) ∧ w'.cell? ⟨bb, ob, none⟩ = some (.int .i64 kp) ∧ w'.cell? ⟨bb, ob + 1, none⟩ = some (.int .i64 gp) ∧ w'.cell? ⟨bb, ob + 2, none⟩ = some (.slice Ap np cp) ∧ w'.cell? ⟨bb, ob + 3, none⟩ = some (.int .i64 kq) ∧ w'.cell? ⟨bb, ob + 4, none⟩ = some (.int .i64 gq) ∧ w'.cell? ⟨bb, ob + 5, none⟩ = some (.slice Aq nq cq)) w') := Lib.hid fun w' h => ⟨(h.cell (cell_lt d2)).trans d2, (h.cell (cell_lt p0)).trans p0, (h.cell (cell_lt p1)).trans p1, (h.cell (cell_lt p2)).trans p2, (h.cell (cell_lt q0)).trans q0, (h.cell (cell_lt q1)).trans q1, (h.cell (cell_lt q2)).trans q2⟩
  have hbd : Below w3.heap.size w3 w3.drew := (Below.refl _ w3).drew
  refine zzR HKS hbd (fun hS => ?_)
  simp only [List.size_toArray, List.length_cons, List.length_nil, Nat.reduceAdd]
  refine zzT (i := 0) (v := .pointer (some ⟨pw, 0, none⟩)) rfl hS ?_
  try simp only [Act.put, zzP]
  refine zzT (i := 1) (v := .slice Ac nc cc) rfl hS ?_
  try simp only [Act.put, zzP]
  refine zzT (i := 2) (v := .pointer (some ⟨w.heap.size, 2, none⟩)) rfl hS ?_
  try simp only [Act.put, zzP]
  refine zzT (i := 3) (v := .slice (some ⟨bb, ob, none⟩) 2 c) rfl hS ?_
  try simp only [Act.put, zzP]
  refine zzT (i := 4) (v := .pointer (some ⟨bb, ob, none⟩)) rfl hS ?_
  try simp only [Act.put, zzP]
  refine zzT (i := 5) (v := .agg #[.int .i64 kp, .int .i64 gp, .slice Ap np cp]) rfl hS ?_
  try simp only [Act.put, zzP]
  refine zzT (i := 7) (v := .pointer (some ⟨w.heap.size, 2, none⟩)) rfl hS ?_
  try simp only [Act.put, zzP]
  refine zzT (i := 8) (v := .slice (some ⟨bb, ob, none⟩) 2 c) rfl hS ?_
  try simp only [Act.put, zzP]
  refine zzT (i := 9) (v := .pointer (some ⟨bb, ob + 3, none⟩)) rfl hS ?_
  try simp only [Act.put, zzP]
  refine zzT (i := 10) (v := .agg #[.int .i64 kq, .int .i64 gq, .slice Aq nq cq]) rfl hS ?_
  try simp only [Act.put, zzP]
  refine wpAnyH_ready (rs := [6]) (by kernel_rfl) (by simp) ?_
  refine AllReadyH.cons rfl (fun KN hK => ?_) AllReadyH.nil
  go_simp
  refine (HMO.out _ hbd).mono ?_
  rintro e v7 ⟨g, cap, rfl, hcl7, hb6⟩
  replace hbd : Below w3.heap.size w3 v7 := hbd.trans (hb6.mono hbd.size)
  clear hb6
  refine hK.out _ _ (HKS.out _ hbd) (fun hS => ?_)
  clear hK KN
  try simp only [Act.put, zzP]
  refine wpAnyH_ready (rs := [11]) (by kernel_rfl) (by simp) ?_
  refine AllReadyH.cons rfl (fun KN hK => ?_) AllReadyH.nil
  go_simp
  refine (HTM.out v7 g cap hbd hcl7).mono ?_
  rintro e v8 ⟨rfl, hb6⟩
  replace hbd : Below w3.heap.size w3 v8 := hbd.trans (hb6.mono hbd.size)
  clear hb6
  refine hK.out _ _ (HKS.out _ hbd) (fun hS => ?_)
  clear hK KN
  try simp only [Act.put, zzP]
  refine zzT (i := 12) (v := .int .i64 R2) rfl hS ?_
  try simp only [Act.put, zzP]
  refine wpAnyH_done (by kernel_rfl) ?_ _
  try simp only [List.setIfInBounds_toArray]
  try simp only [zzP]
  have HBF := Lib.hid (HB3.out.trans (hbd.mono HB3.out.size))
  clear hS HKS hbd hcl7
  go_wp2_with fail
  go_ret
  exact ⟨ret_int HQ.out, HBF.out⟩
end Go.Proofs.YtbbjjdnnlnabaaaGreat
