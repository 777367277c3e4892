/-
  Texts of one proof, put together. No statement is proved here.
-/
import Derived.Test.YtloeainlpcnhnaaGreatPkEA
import Derived.Test.YtloeainlpcnhnaaGreatPkVA
/-
  The document's own typ and kind of layer 10 of a Pi. No statement is proved here.
-/
namespace Go.Proofs.YtloeainlpcnhnaaGreat
open Go.ChangeShapes Go.WideShapes Go.ChangeAt Go.RowKit
set_option linter.unusedVariables false
/-- the contract of typ, or kind, for one term -/
def TpE (f : FuncId) (F : T → List T → Int) (W : WV) (a : T) : Prop := ∀ (cx : List T) (As : Option Addr) (ns cs : Nat) (Am : Option Addr) (nm cm : Nat) (Ac : Option Addr) (nc cc pw : Nat) (va : Value) (w : World),
  EnvV W cx loV → WkV W a → cx.length + nd a ≤ 100000 → CkV w W cx As ns cs Am nm cm Ac nc cc → PwE w pw As ns cs Am nm cm → Rd w a va →
    Calls Tryz.prog f #[.pointer (some ⟨pw, 0, none⟩), .slice Ac nc cc, va] w (ByQ (F a cx) w)
set_option maxRecDepth 100000 in
set_option maxHeartbeats 16000000 in
theorem ePiTC {W : WV} {x y : T} {h : Int} (ihx : TpE 62 (tyV W) W x) (ihy : TpE 62 (tyV W) W y) (cx : List T) (As : Option Addr) (ns cs : Nat) (Am : Option Addr) (nm cm : Nat) (Ac : Option Addr) (nc cc pw : Nat) (A : Option Addr) (n c : Nat) (w : World)
    (hE : EnvV W cx loV) (hba : WkV W (.node 1 h [x, y])) (hlen : cx.length + nd (.node 1 h [x, y]) ≤ 100000) (hk : CkV w W cx As ns cs Am nm cm Ac nc cc) (hp : PwE w pw As ns cs Am nm cm) (ha : Rd w (.node 1 h [x, y]) (.agg #[.int .i64 1, .int .i64 h, .slice A n c])) :
    Calls Tryz.prog 62 #[.pointer (some ⟨pw, 0, none⟩), .slice Ac nc cc, .agg #[.int .i64 1, .int .i64 h, .slice A n c]] w (ByQ (tyV W (.node 1 h [x, y]) cx) w) := by
  obtain ⟨bb, ob, cb, ev, hc2, hcm2, ⟨kp, gp, Ap, np, cp, p0, p1, p2, hrp⟩, ⟨kq, gq, Aq, nq, cq, q0, q1, q2, hrq⟩⟩ := rd_pi ha
  have ev' : A = some ⟨bb, ob, none⟩ ∧ n = 2 ∧ c = cb := by simpa using ev
  obtain ⟨rfl, rfl, rfl⟩ := ev'
  unfold maxLen at hcm2
  obtain ⟨W0, hW⟩ : ∃ W0, w.alloc (.cells #[.int .i64 1, .int .i64 h, .slice (some ⟨bb, ob, none⟩) 2 c] 44) = W0 := ⟨_, rfl⟩
  have hb : Below w.heap.size w W0 := by rw [← hW]; exact (Below.refl _ _).alloc (Nat.le_refl _) _
  have x1 : Box W0 w.heap.size 44 #[.int .i64 1, .int .i64 h, .slice (some ⟨bb, ob, none⟩) 2 c] := by rw [← hW]; exact Box.new _ _ _
  obtain ⟨d0, d1, d2⟩ := x1.three
  replace p0 := (hb.cell (cell_lt p0)).trans p0
  replace p1 := (hb.cell (cell_lt p1)).trans p1
  replace p2 := (hb.cell (cell_lt p2)).trans p2
  replace q0 := (hb.cell (cell_lt q0)).trans q0
  replace q1 := (hb.cell (cell_lt q1)).trans q1
  replace q2 := (hb.cell (cell_lt q2)).trans q2
  have HB := Lib.hid hb
  have hcl := hk.cx.len
  rw [nd, ndL, ndL, ndL] at hlen
  have hxm : WkV W x := hba.arg (by simp)
  have hym : WkV W y := hba.arg (by simp)
  obtain ⟨R1, hR1⟩ : ∃ R, tyV W x cx = R := ⟨_, rfl⟩
  obtain ⟨R2, hR2⟩ : ∃ R, tyV W y (cx ++ [x]) = R := ⟨_, rfl⟩
  obtain ⟨R, hR⟩ : ∃ R, tyV W (.node 1 h [x, y]) cx = R := ⟨_, rfl⟩
  have HEQ := Lib.hid (show R = if R1 = 0 then R2 else R1 by rw [← hR, ty_pi, hR1, hR2])
  rw [hR]
  clear hR
  have HTX := Lib.hid (ihx cx As ns cs Am nm cm Ac nc cc pw _ W0 hE hxm (by omega) (hk.keep hb) (hp.keep hb hp.lt) (Rd.keep hb _ _ hrp))
  rw [hR1] at HTX
  have HLX : Hid (R1 = 0 → okT loV x) := Lib.hid fun e => ty_low hxm.my (by omega) (hR1.trans e)
  have HMO : Hid (∀ W' : World, Below W0.heap.size W0 W' → Calls Tryz.prog 85 #[.slice Ac nc cc, .agg #[.int .i64 kp, .int .i64 gp, .slice Ap np cp]] W' (MoE (cx ++ [x]) nc W')) := Lib.hid fun W' h' =>
    eMoreC cx x Ac nc cc _ W' (hk.cx.keep (hb.trans (h'.mono hb.size))) (Rd.keep (hb.trans (h'.mono hb.size)) _ _ hrp) (by omega)
  have HTM : Hid (R1 = 0 → ∀ (W' : World) (g cap : Nat), Below W0.heap.size W0 W' → CLV W' (cx ++ [x]) (some ⟨g, 0, none⟩) (nc + 1) cap → Calls Tryz.prog 62 #[.pointer (some ⟨pw, 0, none⟩), .slice (some ⟨g, 0, none⟩) (nc + 1) cap, .agg #[.int .i64 kq, .int .i64 gq, .slice Aq nq cq]] W' (ByQ R2 W')) := Lib.hid fun e W' g cap h' hcl' => by
    have hb' := hb.trans (h'.mono hb.size)
    have := ihy (cx ++ [x]) As ns cs Am nm cm _ _ _ pw _ W' (hE.more ⟨hxm.my, HLX.out e⟩) hym (by rw [List.length_append, List.length_singleton]; omega) ⟨hk.sg.keep hb', hk.ms.keep hb', hcl'⟩ (hp.keep hb' hp.lt) (Rd.keep hb' _ _ hrq)
    rw [hR2] at this
    exact this
  clear ev hE hba hlen hk hp ha hrp hrq hcl hb hxm hym hR1 hR2 ihx ihy HLX
  go_enter Tryz.func62, Tryz.ntmps62
  go_wp2_with fail
  try rw [hW]
  clear hW
  go_wp2_with fail
  refine HTX.out.mono ?_
  rintro e w3 ⟨rfl, hb3⟩
  replace d2 := (hb3.cell (cell_lt d2)).trans d2
  replace p0 := (hb3.cell (cell_lt p0)).trans p0
  replace p1 := (hb3.cell (cell_lt p1)).trans p1
  replace p2 := (hb3.cell (cell_lt p2)).trans p2
  replace q0 := (hb3.cell (cell_lt q0)).trans q0
  replace q1 := (hb3.cell (cell_lt q1)).trans q1
  replace q2 := (hb3.cell (cell_lt q2)).trans q2
  have HB3 := Lib.hid (HB.out.trans (hb3.mono HB.out.size))
  by_cases hz : R1 = 0
  case' neg =>
    have dz : (R1 != 0) = true := by simpa using hz
    have HQ := Lib.hid (show R1 = R by rw [HEQ.out, if_neg hz])
    clear d0 d1 d2 p0 p1 p2 q0 q1 q2 hb3
    go_wp2_with fail
    go_ret
    exact ⟨ret_int HQ.out, HB3.out⟩
  replace HTM := Lib.hid (fun (W' : World) (g cap : Nat) (h' : Below w3.heap.size w3 W') => HTM.out hz W' g cap (hb3.trans (h'.mono hb3.size)))
  replace HMO := Lib.hid (fun (W' : World) (h' : Below w3.heap.size w3 W') => HMO.out W' (hb3.trans (h'.mono hb3.size)))
  have HQ := Lib.hid (show R2 = R by rw [HEQ.out, if_pos hz])
  subst hz
  have dz : ((0 : Int) != 0) = false := by decide
  clear d0 d1 hb3 HTX
  go_wp2_with fail
  clear dz
  have HKS : Hid (∀ w' : World, Below w3.heap.size w3 w' → (fun w' => w'.cell? ⟨w.heap.size, 2, none⟩ = some (.slice (some ⟨bb, ob, none⟩) 2 c) ∧ w'.cell? ⟨bb, ob, none⟩ = some (.int .i64 kp) ∧ w'.cell? ⟨bb, ob + 1, none⟩ = some (.int .i64 gp) ∧ w'.cell? ⟨bb, ob + 2, none⟩ = some (.slice Ap np cp) ∧ w'.cell? ⟨bb, ob + 3, none⟩ = some (.int .i64 kq) ∧ w'.cell? ⟨bb, ob + 4, none⟩ = some (.int .i64 gq) ∧ w'.cell? ⟨bb, ob + 5, none⟩ = some (.slice Aq nq cq)) w') := Lib.hid fun w' h => ⟨(h.cell (cell_lt d2)).trans d2, (h.cell (cell_lt p0)).trans p0, (h.cell (cell_lt p1)).trans p1, (h.cell (cell_lt p2)).trans p2, (h.cell (cell_lt q0)).trans q0, (h.cell (cell_lt q1)).trans q1, (h.cell (cell_lt q2)).trans q2⟩
  have hbd : Below w3.heap.size w3 w3.drew := (Below.refl _ w3).drew
  refine wp_region_held_drew (S := fun w' => w'.cell? ⟨w.heap.size, 2, none⟩ = some (.slice (some ⟨bb, ob, none⟩) 2 c) ∧ w'.cell? ⟨bb, ob, none⟩ = some (.int .i64 kp) ∧ w'.cell? ⟨bb, ob + 1, none⟩ = some (.int .i64 gp) ∧ w'.cell? ⟨bb, ob + 2, none⟩ = some (.slice Ap np cp) ∧ w'.cell? ⟨bb, ob + 3, none⟩ = some (.int .i64 kq) ∧ w'.cell? ⟨bb, ob + 4, none⟩ = some (.int .i64 gq) ∧ w'.cell? ⟨bb, ob + 5, none⟩ = some (.slice Aq nq cq)) (by kernel_rfl) (HKS.out _ hbd) (fun hS => ?_)
  simp only [List.size_toArray, List.length_cons, List.length_nil, Nat.reduceAdd]
  refine wpAnyH_take (i := 0) (v := .pointer (some ⟨pw, 0, none⟩)) rfl (by kernel_rfl) (by kernel_rfl) (by kernel_rfl) (fun _ _ _ h => h) (Or.inl ⟨by kernel_rfl, ?_⟩) hS ?_
  · intro w' hSw
    obtain ⟨s0, s1, s2, s3, s4, s5, s6⟩ := hSw
    go_simp
  try simp only [Act.put, List.getElem_toArray, List.getElem_cons_zero, List.setIfInBounds_toArray, List.set_cons_zero, List.set_cons_succ]
  refine wpAnyH_take (i := 1) (v := .slice Ac nc cc) rfl (by kernel_rfl) (by kernel_rfl) (by kernel_rfl) (fun _ _ _ h => h) (Or.inl ⟨by kernel_rfl, ?_⟩) hS ?_
  · intro w' hSw
    obtain ⟨s0, s1, s2, s3, s4, s5, s6⟩ := hSw
    go_simp
  try simp only [Act.put, List.getElem_toArray, List.getElem_cons_succ, List.getElem_cons_zero, List.setIfInBounds_toArray, List.set_cons_zero, List.set_cons_succ]
  refine wpAnyH_take (i := 2) (v := .pointer (some ⟨w.heap.size, 2, none⟩)) rfl (by kernel_rfl) (by kernel_rfl) (by kernel_rfl) (fun _ _ _ h => h) (Or.inl ⟨by kernel_rfl, ?_⟩) hS ?_
  · intro w' hSw
    obtain ⟨s0, s1, s2, s3, s4, s5, s6⟩ := hSw
    go_simp
  try simp only [Act.put, List.getElem_toArray, List.getElem_cons_succ, List.getElem_cons_zero, List.setIfInBounds_toArray, List.set_cons_zero, List.set_cons_succ]
  refine wpAnyH_take (i := 3) (v := .slice (some ⟨bb, ob, none⟩) 2 c) rfl (by kernel_rfl) (by kernel_rfl) (by kernel_rfl) (fun _ _ _ h => h) (Or.inl ⟨by kernel_rfl, ?_⟩) hS ?_
  · intro w' hSw
    obtain ⟨s0, s1, s2, s3, s4, s5, s6⟩ := hSw
    go_simp
  try simp only [Act.put, List.getElem_toArray, List.getElem_cons_succ, List.getElem_cons_zero, List.setIfInBounds_toArray, List.set_cons_zero, List.set_cons_succ]
  refine wpAnyH_take (i := 4) (v := .pointer (some ⟨bb, ob, none⟩)) rfl (by kernel_rfl) (by kernel_rfl) (by kernel_rfl) (fun _ _ _ h => h) (Or.inl ⟨by kernel_rfl, ?_⟩) hS ?_
  · intro w' hSw
    obtain ⟨s0, s1, s2, s3, s4, s5, s6⟩ := hSw
    go_simp
  try simp only [Act.put, List.getElem_toArray, List.getElem_cons_succ, List.getElem_cons_zero, List.setIfInBounds_toArray, List.set_cons_zero, List.set_cons_succ]
  refine wpAnyH_take (i := 5) (v := .agg #[.int .i64 kp, .int .i64 gp, .slice Ap np cp]) rfl (by kernel_rfl) (by kernel_rfl) (by kernel_rfl) (fun _ _ _ h => h) (Or.inl ⟨by kernel_rfl, ?_⟩) hS ?_
  · intro w' hSw
    obtain ⟨s0, s1, s2, s3, s4, s5, s6⟩ := hSw
    go_simp
  try simp only [Act.put, List.getElem_toArray, List.getElem_cons_succ, List.getElem_cons_zero, List.setIfInBounds_toArray, List.set_cons_zero, List.set_cons_succ]
  refine wpAnyH_take (i := 7) (v := .pointer (some ⟨w.heap.size, 2, none⟩)) rfl (by kernel_rfl) (by kernel_rfl) (by kernel_rfl) (fun _ _ _ h => h) (Or.inl ⟨by kernel_rfl, ?_⟩) hS ?_
  · intro w' hSw
    obtain ⟨s0, s1, s2, s3, s4, s5, s6⟩ := hSw
    go_simp
  try simp only [Act.put, List.getElem_toArray, List.getElem_cons_succ, List.getElem_cons_zero, List.setIfInBounds_toArray, List.set_cons_zero, List.set_cons_succ]
  refine wpAnyH_take (i := 8) (v := .slice (some ⟨bb, ob, none⟩) 2 c) rfl (by kernel_rfl) (by kernel_rfl) (by kernel_rfl) (fun _ _ _ h => h) (Or.inl ⟨by kernel_rfl, ?_⟩) hS ?_
  · intro w' hSw
    obtain ⟨s0, s1, s2, s3, s4, s5, s6⟩ := hSw
    go_simp
  try simp only [Act.put, List.getElem_toArray, List.getElem_cons_succ, List.getElem_cons_zero, List.setIfInBounds_toArray, List.set_cons_zero, List.set_cons_succ]
  refine wpAnyH_take (i := 9) (v := .pointer (some ⟨bb, ob + 3, none⟩)) rfl (by kernel_rfl) (by kernel_rfl) (by kernel_rfl) (fun _ _ _ h => h) (Or.inl ⟨by kernel_rfl, ?_⟩) hS ?_
  · intro w' hSw
    obtain ⟨s0, s1, s2, s3, s4, s5, s6⟩ := hSw
    go_simp
  try simp only [Act.put, List.getElem_toArray, List.getElem_cons_succ, List.getElem_cons_zero, List.setIfInBounds_toArray, List.set_cons_zero, List.set_cons_succ]
  refine wpAnyH_take (i := 10) (v := .agg #[.int .i64 kq, .int .i64 gq, .slice Aq nq cq]) rfl (by kernel_rfl) (by kernel_rfl) (by kernel_rfl) (fun _ _ _ h => h) (Or.inl ⟨by kernel_rfl, ?_⟩) hS ?_
  · intro w' hSw
    obtain ⟨s0, s1, s2, s3, s4, s5, s6⟩ := hSw
    go_simp
  try simp only [Act.put, List.getElem_toArray, List.getElem_cons_succ, List.getElem_cons_zero, List.setIfInBounds_toArray, List.set_cons_zero, List.set_cons_succ]
  refine wpAnyH_ready (rs := [6]) (by kernel_rfl) (by simp) ?_
  refine AllReadyH.cons rfl (fun KN hK => ?_) AllReadyH.nil
  go_simp
  refine (HMO.out _ hbd).mono ?_
  rintro e v7 ⟨g, cap, rfl, hcl7, hb6⟩
  replace hbd : Below w3.heap.size w3 v7 := hbd.trans (hb6.mono hbd.size)
  clear hb6
  refine hK.out _ _ (HKS.out _ hbd) (fun hS => ?_)
  clear hK KN
  try simp only [Act.put, List.getElem_toArray, List.getElem_cons_succ, List.getElem_cons_zero, List.setIfInBounds_toArray, List.set_cons_zero, List.set_cons_succ]
  refine wpAnyH_ready (rs := [11]) (by kernel_rfl) (by simp) ?_
  refine AllReadyH.cons rfl (fun KN hK => ?_) AllReadyH.nil
  go_simp
  refine (HTM.out v7 g cap hbd hcl7).mono ?_
  rintro e v8 ⟨rfl, hb6⟩
  replace hbd : Below w3.heap.size w3 v8 := hbd.trans (hb6.mono hbd.size)
  clear hb6
  refine hK.out _ _ (HKS.out _ hbd) (fun hS => ?_)
  clear hK KN
  try simp only [Act.put, List.getElem_toArray, List.getElem_cons_succ, List.getElem_cons_zero, List.setIfInBounds_toArray, List.set_cons_zero, List.set_cons_succ]
  refine wpAnyH_take (i := 12) (v := .int .i64 R2) rfl (by kernel_rfl) (by kernel_rfl) (by kernel_rfl) (fun _ _ _ h => h) (Or.inl ⟨by kernel_rfl, ?_⟩) hS ?_
  · intro w' hSw
    obtain ⟨s0, s1, s2, s3, s4, s5, s6⟩ := hSw
    go_simp
  try simp only [Act.put, List.getElem_toArray, List.getElem_cons_succ, List.getElem_cons_zero, List.setIfInBounds_toArray, List.set_cons_zero, List.set_cons_succ]
  refine wpAnyH_done (by kernel_rfl) ?_ _
  try simp only [List.setIfInBounds_toArray]
  try simp only [List.getElem_toArray, List.getElem_cons_succ, List.getElem_cons_zero, List.setIfInBounds_toArray, List.set_cons_zero, List.set_cons_succ]
  have HBF := Lib.hid (HB3.out.trans (hbd.mono HB3.out.size))
  clear hS HKS hbd hcl7
  go_wp2_with fail
  go_ret
  exact ⟨ret_int HQ.out, HBF.out⟩
set_option maxRecDepth 100000 in
set_option maxHeartbeats 16000000 in
theorem ePiKC {W : WV} {x y : T} {h : Int} (ihx : TpE 62 (tyV W) W x) (ihy : TpE 61 (kiV W) W y) (cx : List T) (As : Option Addr) (ns cs : Nat) (Am : Option Addr) (nm cm : Nat) (Ac : Option Addr) (nc cc pw : Nat) (A : Option Addr) (n c : Nat) (w : World)
    (hE : EnvV W cx loV) (hba : WkV W (.node 1 h [x, y])) (hlen : cx.length + nd (.node 1 h [x, y]) ≤ 100000) (hk : CkV w W cx As ns cs Am nm cm Ac nc cc) (hp : PwE w pw As ns cs Am nm cm) (ha : Rd w (.node 1 h [x, y]) (.agg #[.int .i64 1, .int .i64 h, .slice A n c])) :
    Calls Tryz.prog 61 #[.pointer (some ⟨pw, 0, none⟩), .slice Ac nc cc, .agg #[.int .i64 1, .int .i64 h, .slice A n c]] w (ByQ (kiV W (.node 1 h [x, y]) cx) w) := by
  obtain ⟨bb, ob, cb, ev, hc2, hcm2, ⟨kp, gp, Ap, np, cp, p0, p1, p2, hrp⟩, ⟨kq, gq, Aq, nq, cq, q0, q1, q2, hrq⟩⟩ := rd_pi ha
  have ev' : A = some ⟨bb, ob, none⟩ ∧ n = 2 ∧ c = cb := by simpa using ev
  obtain ⟨rfl, rfl, rfl⟩ := ev'
  unfold maxLen at hcm2
  obtain ⟨W0, hW⟩ : ∃ W0, w.alloc (.cells #[.int .i64 1, .int .i64 h, .slice (some ⟨bb, ob, none⟩) 2 c] 44) = W0 := ⟨_, rfl⟩
  have hb : Below w.heap.size w W0 := by rw [← hW]; exact (Below.refl _ _).alloc (Nat.le_refl _) _
  have x1 : Box W0 w.heap.size 44 #[.int .i64 1, .int .i64 h, .slice (some ⟨bb, ob, none⟩) 2 c] := by rw [← hW]; exact Box.new _ _ _
  obtain ⟨d0, d1, d2⟩ := x1.three
  replace p0 := (hb.cell (cell_lt p0)).trans p0
  replace p1 := (hb.cell (cell_lt p1)).trans p1
  replace p2 := (hb.cell (cell_lt p2)).trans p2
  replace q0 := (hb.cell (cell_lt q0)).trans q0
  replace q1 := (hb.cell (cell_lt q1)).trans q1
  replace q2 := (hb.cell (cell_lt q2)).trans q2
  have HB := Lib.hid hb
  have hcl := hk.cx.len
  rw [nd, ndL, ndL, ndL] at hlen
  have hxm : WkV W x := hba.arg (by simp)
  have hym : WkV W y := hba.arg (by simp)
  obtain ⟨R1, hR1⟩ : ∃ R, tyV W x cx = R := ⟨_, rfl⟩
  obtain ⟨R2, hR2⟩ : ∃ R, kiV W y (cx ++ [x]) = R := ⟨_, rfl⟩
  obtain ⟨R, hR⟩ : ∃ R, kiV W (.node 1 h [x, y]) cx = R := ⟨_, rfl⟩
  have HEQ := Lib.hid (show R = if R1 = 0 then R2 else R1 by rw [← hR, ki_pi, hR1, hR2])
  rw [hR]
  clear hR
  have HTX := Lib.hid (ihx cx As ns cs Am nm cm Ac nc cc pw _ W0 hE hxm (by omega) (hk.keep hb) (hp.keep hb hp.lt) (Rd.keep hb _ _ hrp))
  rw [hR1] at HTX
  have HLX : Hid (R1 = 0 → okT loV x) := Lib.hid fun e => ty_low hxm.my (by omega) (hR1.trans e)
  have HMO : Hid (∀ W' : World, Below W0.heap.size W0 W' → Calls Tryz.prog 85 #[.slice Ac nc cc, .agg #[.int .i64 kp, .int .i64 gp, .slice Ap np cp]] W' (MoE (cx ++ [x]) nc W')) := Lib.hid fun W' h' =>
    eMoreC cx x Ac nc cc _ W' (hk.cx.keep (hb.trans (h'.mono hb.size))) (Rd.keep (hb.trans (h'.mono hb.size)) _ _ hrp) (by omega)
  have HTM : Hid (R1 = 0 → ∀ (W' : World) (g cap : Nat), Below W0.heap.size W0 W' → CLV W' (cx ++ [x]) (some ⟨g, 0, none⟩) (nc + 1) cap → Calls Tryz.prog 61 #[.pointer (some ⟨pw, 0, none⟩), .slice (some ⟨g, 0, none⟩) (nc + 1) cap, .agg #[.int .i64 kq, .int .i64 gq, .slice Aq nq cq]] W' (ByQ R2 W')) := Lib.hid fun e W' g cap h' hcl' => by
    have hb' := hb.trans (h'.mono hb.size)
    have := ihy (cx ++ [x]) As ns cs Am nm cm _ _ _ pw _ W' (hE.more ⟨hxm.my, HLX.out e⟩) hym (by rw [List.length_append, List.length_singleton]; omega) ⟨hk.sg.keep hb', hk.ms.keep hb', hcl'⟩ (hp.keep hb' hp.lt) (Rd.keep hb' _ _ hrq)
    rw [hR2] at this
    exact this
  clear ev hE hba hlen hk hp ha hrp hrq hcl hb hxm hym hR1 hR2 ihx ihy HLX
  go_enter Tryz.func61, Tryz.ntmps61
  go_wp2_with fail
  try rw [hW]
  clear hW
  go_wp2_with fail
  refine HTX.out.mono ?_
  rintro e w3 ⟨rfl, hb3⟩
  replace d2 := (hb3.cell (cell_lt d2)).trans d2
  replace p0 := (hb3.cell (cell_lt p0)).trans p0
  replace p1 := (hb3.cell (cell_lt p1)).trans p1
  replace p2 := (hb3.cell (cell_lt p2)).trans p2
  replace q0 := (hb3.cell (cell_lt q0)).trans q0
  replace q1 := (hb3.cell (cell_lt q1)).trans q1
  replace q2 := (hb3.cell (cell_lt q2)).trans q2
  have HB3 := Lib.hid (HB.out.trans (hb3.mono HB.out.size))
  by_cases hz : R1 = 0
  case' neg =>
    have dz : (R1 != 0) = true := by simpa using hz
    have HQ := Lib.hid (show R1 = R by rw [HEQ.out, if_neg hz])
    clear d0 d1 d2 p0 p1 p2 q0 q1 q2 hb3
    go_wp2_with fail
    go_ret
    exact ⟨ret_int HQ.out, HB3.out⟩
  replace HTM := Lib.hid (fun (W' : World) (g cap : Nat) (h' : Below w3.heap.size w3 W') => HTM.out hz W' g cap (hb3.trans (h'.mono hb3.size)))
  replace HMO := Lib.hid (fun (W' : World) (h' : Below w3.heap.size w3 W') => HMO.out W' (hb3.trans (h'.mono hb3.size)))
  have HQ := Lib.hid (show R2 = R by rw [HEQ.out, if_pos hz])
  subst hz
  have dz : ((0 : Int) != 0) = false := by decide
  clear d0 d1 hb3 HTX
  go_wp2_with fail
  clear dz
  have HKS : Hid (∀ w' : World, Below w3.heap.size w3 w' → (fun w' => w'.cell? ⟨w.heap.size, 2, none⟩ = some (.slice (some ⟨bb, ob, none⟩) 2 c) ∧ w'.cell? ⟨bb, ob, none⟩ = some (.int .i64 kp) ∧ w'.cell? ⟨bb, ob + 1, none⟩ = some (.int .i64 gp) ∧ w'.cell? ⟨bb, ob + 2, none⟩ = some (.slice Ap np cp) ∧ w'.cell? ⟨bb, ob + 3, none⟩ = some (.int .i64 kq) ∧ w'.cell? ⟨bb, ob + 4, none⟩ = some (.int .i64 gq) ∧ w'.cell? ⟨bb, ob + 5, none⟩ = some (.slice Aq nq cq)) w') := Lib.hid fun w' h => ⟨(h.cell (cell_lt d2)).trans d2, (h.cell (cell_lt p0)).trans p0, (h.cell (cell_lt p1)).trans p1, (h.cell (cell_lt p2)).trans p2, (h.cell (cell_lt q0)).trans q0, (h.cell (cell_lt q1)).trans q1, (h.cell (cell_lt q2)).trans q2⟩
  have hbd : Below w3.heap.size w3 w3.drew := (Below.refl _ w3).drew
  refine wp_region_held_drew (S := fun w' => w'.cell? ⟨w.heap.size, 2, none⟩ = some (.slice (some ⟨bb, ob, none⟩) 2 c) ∧ w'.cell? ⟨bb, ob, none⟩ = some (.int .i64 kp) ∧ w'.cell? ⟨bb, ob + 1, none⟩ = some (.int .i64 gp) ∧ w'.cell? ⟨bb, ob + 2, none⟩ = some (.slice Ap np cp) ∧ w'.cell? ⟨bb, ob + 3, none⟩ = some (.int .i64 kq) ∧ w'.cell? ⟨bb, ob + 4, none⟩ = some (.int .i64 gq) ∧ w'.cell? ⟨bb, ob + 5, none⟩ = some (.slice Aq nq cq)) (by kernel_rfl) (HKS.out _ hbd) (fun hS => ?_)
  simp only [List.size_toArray, List.length_cons, List.length_nil, Nat.reduceAdd]
  refine wpAnyH_take (i := 0) (v := .pointer (some ⟨pw, 0, none⟩)) rfl (by kernel_rfl) (by kernel_rfl) (by kernel_rfl) (fun _ _ _ h => h) (Or.inl ⟨by kernel_rfl, ?_⟩) hS ?_
  · intro w' hSw
    obtain ⟨s0, s1, s2, s3, s4, s5, s6⟩ := hSw
    go_simp
  try simp only [Act.put, List.getElem_toArray, List.getElem_cons_zero, List.setIfInBounds_toArray, List.set_cons_zero, List.set_cons_succ]
  refine wpAnyH_take (i := 1) (v := .slice Ac nc cc) rfl (by kernel_rfl) (by kernel_rfl) (by kernel_rfl) (fun _ _ _ h => h) (Or.inl ⟨by kernel_rfl, ?_⟩) hS ?_
  · intro w' hSw
    obtain ⟨s0, s1, s2, s3, s4, s5, s6⟩ := hSw
    go_simp
  try simp only [Act.put, List.getElem_toArray, List.getElem_cons_succ, List.getElem_cons_zero, List.setIfInBounds_toArray, List.set_cons_zero, List.set_cons_succ]
  refine wpAnyH_take (i := 2) (v := .pointer (some ⟨w.heap.size, 2, none⟩)) rfl (by kernel_rfl) (by kernel_rfl) (by kernel_rfl) (fun _ _ _ h => h) (Or.inl ⟨by kernel_rfl, ?_⟩) hS ?_
  · intro w' hSw
    obtain ⟨s0, s1, s2, s3, s4, s5, s6⟩ := hSw
    go_simp
  try simp only [Act.put, List.getElem_toArray, List.getElem_cons_succ, List.getElem_cons_zero, List.setIfInBounds_toArray, List.set_cons_zero, List.set_cons_succ]
  refine wpAnyH_take (i := 3) (v := .slice (some ⟨bb, ob, none⟩) 2 c) rfl (by kernel_rfl) (by kernel_rfl) (by kernel_rfl) (fun _ _ _ h => h) (Or.inl ⟨by kernel_rfl, ?_⟩) hS ?_
  · intro w' hSw
    obtain ⟨s0, s1, s2, s3, s4, s5, s6⟩ := hSw
    go_simp
  try simp only [Act.put, List.getElem_toArray, List.getElem_cons_succ, List.getElem_cons_zero, List.setIfInBounds_toArray, List.set_cons_zero, List.set_cons_succ]
  refine wpAnyH_take (i := 4) (v := .pointer (some ⟨bb, ob, none⟩)) rfl (by kernel_rfl) (by kernel_rfl) (by kernel_rfl) (fun _ _ _ h => h) (Or.inl ⟨by kernel_rfl, ?_⟩) hS ?_
  · intro w' hSw
    obtain ⟨s0, s1, s2, s3, s4, s5, s6⟩ := hSw
    go_simp
  try simp only [Act.put, List.getElem_toArray, List.getElem_cons_succ, List.getElem_cons_zero, List.setIfInBounds_toArray, List.set_cons_zero, List.set_cons_succ]
  refine wpAnyH_take (i := 5) (v := .agg #[.int .i64 kp, .int .i64 gp, .slice Ap np cp]) rfl (by kernel_rfl) (by kernel_rfl) (by kernel_rfl) (fun _ _ _ h => h) (Or.inl ⟨by kernel_rfl, ?_⟩) hS ?_
  · intro w' hSw
    obtain ⟨s0, s1, s2, s3, s4, s5, s6⟩ := hSw
    go_simp
  try simp only [Act.put, List.getElem_toArray, List.getElem_cons_succ, List.getElem_cons_zero, List.setIfInBounds_toArray, List.set_cons_zero, List.set_cons_succ]
  refine wpAnyH_take (i := 7) (v := .pointer (some ⟨w.heap.size, 2, none⟩)) rfl (by kernel_rfl) (by kernel_rfl) (by kernel_rfl) (fun _ _ _ h => h) (Or.inl ⟨by kernel_rfl, ?_⟩) hS ?_
  · intro w' hSw
    obtain ⟨s0, s1, s2, s3, s4, s5, s6⟩ := hSw
    go_simp
  try simp only [Act.put, List.getElem_toArray, List.getElem_cons_succ, List.getElem_cons_zero, List.setIfInBounds_toArray, List.set_cons_zero, List.set_cons_succ]
  refine wpAnyH_take (i := 8) (v := .slice (some ⟨bb, ob, none⟩) 2 c) rfl (by kernel_rfl) (by kernel_rfl) (by kernel_rfl) (fun _ _ _ h => h) (Or.inl ⟨by kernel_rfl, ?_⟩) hS ?_
  · intro w' hSw
    obtain ⟨s0, s1, s2, s3, s4, s5, s6⟩ := hSw
    go_simp
  try simp only [Act.put, List.getElem_toArray, List.getElem_cons_succ, List.getElem_cons_zero, List.setIfInBounds_toArray, List.set_cons_zero, List.set_cons_succ]
  refine wpAnyH_take (i := 9) (v := .pointer (some ⟨bb, ob + 3, none⟩)) rfl (by kernel_rfl) (by kernel_rfl) (by kernel_rfl) (fun _ _ _ h => h) (Or.inl ⟨by kernel_rfl, ?_⟩) hS ?_
  · intro w' hSw
    obtain ⟨s0, s1, s2, s3, s4, s5, s6⟩ := hSw
    go_simp
  try simp only [Act.put, List.getElem_toArray, List.getElem_cons_succ, List.getElem_cons_zero, List.setIfInBounds_toArray, List.set_cons_zero, List.set_cons_succ]
  refine wpAnyH_take (i := 10) (v := .agg #[.int .i64 kq, .int .i64 gq, .slice Aq nq cq]) rfl (by kernel_rfl) (by kernel_rfl) (by kernel_rfl) (fun _ _ _ h => h) (Or.inl ⟨by kernel_rfl, ?_⟩) hS ?_
  · intro w' hSw
    obtain ⟨s0, s1, s2, s3, s4, s5, s6⟩ := hSw
    go_simp
  try simp only [Act.put, List.getElem_toArray, List.getElem_cons_succ, List.getElem_cons_zero, List.setIfInBounds_toArray, List.set_cons_zero, List.set_cons_succ]
  refine wpAnyH_ready (rs := [6]) (by kernel_rfl) (by simp) ?_
  refine AllReadyH.cons rfl (fun KN hK => ?_) AllReadyH.nil
  go_simp
  refine (HMO.out _ hbd).mono ?_
  rintro e v7 ⟨g, cap, rfl, hcl7, hb6⟩
  replace hbd : Below w3.heap.size w3 v7 := hbd.trans (hb6.mono hbd.size)
  clear hb6
  refine hK.out _ _ (HKS.out _ hbd) (fun hS => ?_)
  clear hK KN
  try simp only [Act.put, List.getElem_toArray, List.getElem_cons_succ, List.getElem_cons_zero, List.setIfInBounds_toArray, List.set_cons_zero, List.set_cons_succ]
  refine wpAnyH_ready (rs := [11]) (by kernel_rfl) (by simp) ?_
  refine AllReadyH.cons rfl (fun KN hK => ?_) AllReadyH.nil
  go_simp
  refine (HTM.out v7 g cap hbd hcl7).mono ?_
  rintro e v8 ⟨rfl, hb6⟩
  replace hbd : Below w3.heap.size w3 v8 := hbd.trans (hb6.mono hbd.size)
  clear hb6
  refine hK.out _ _ (HKS.out _ hbd) (fun hS => ?_)
  clear hK KN
  try simp only [Act.put, List.getElem_toArray, List.getElem_cons_succ, List.getElem_cons_zero, List.setIfInBounds_toArray, List.set_cons_zero, List.set_cons_succ]
  refine wpAnyH_take (i := 12) (v := .int .i64 R2) rfl (by kernel_rfl) (by kernel_rfl) (by kernel_rfl) (fun _ _ _ h => h) (Or.inl ⟨by kernel_rfl, ?_⟩) hS ?_
  · intro w' hSw
    obtain ⟨s0, s1, s2, s3, s4, s5, s6⟩ := hSw
    go_simp
  try simp only [Act.put, List.getElem_toArray, List.getElem_cons_succ, List.getElem_cons_zero, List.setIfInBounds_toArray, List.set_cons_zero, List.set_cons_succ]
  refine wpAnyH_done (by kernel_rfl) ?_ _
  try simp only [List.setIfInBounds_toArray]
  try simp only [List.getElem_toArray, List.getElem_cons_succ, List.getElem_cons_zero, List.setIfInBounds_toArray, List.set_cons_zero, List.set_cons_succ]
  have HBF := Lib.hid (HB3.out.trans (hbd.mono HB3.out.size))
  clear hS HKS hbd hcl7
  go_wp2_with fail
  go_ret
  exact ⟨ret_int HQ.out, HBF.out⟩
end Go.Proofs.YtloeainlpcnhnaaGreat
/-
  The document's own typ of layer 10 of a Fam. No statement is proved here.
-/
namespace Go.Proofs.YtloeainlpcnhnaaGreat
open Go.ChangeShapes Go.WideShapes Go.ChangeAt Go.RowKit
set_option linter.unusedVariables false
set_option maxRecDepth 100000 in
set_option maxHeartbeats 16000000 in
theorem eFamC {W : WV} {h : Int} {xs : List T} (cx : List T) (As : Option Addr) (ns cs : Nat) (Am : Option Addr) (nm cm : Nat) (Ac : Option Addr) (nc cc pw : Nat) (A : Option Addr) (n c : Nat) (w : World)
    (hE : EnvV W cx loV) (hba : WkV W (.node 2 h xs)) (hlen : cx.length + nd (.node 2 h xs) ≤ 100000) (hk : CkV w W cx As ns cs Am nm cm Ac nc cc) (hp : PwE w pw As ns cs Am nm cm) (ha : Rd w (.node 2 h xs) (.agg #[.int .i64 2, .int .i64 h, .slice A n c])) :
    Calls Tryz.prog 62 #[.pointer (some ⟨pw, 0, none⟩), .slice Ac nc cc, .agg #[.int .i64 2, .int .i64 h, .slice A n c]] w (ByQ (tyV W (.node 2 h xs) cx) w) := by
  have hscap := hk.sg.cap
  have hsle := hk.sg.le
  have hsl := hk.sg.len
  unfold maxLen at hscap
  have h0 := headV hba.nod
  obtain ⟨i, rfl⟩ : ∃ i : Nat, h = i := ⟨h.toNat, by omega⟩
  obtain ⟨W0, hW⟩ : ∃ W0, w.alloc (.cells #[.int .i64 2, .int .i64 (i : Int), .slice A n c] 44) = W0 := ⟨_, rfl⟩
  have hb : Below w.heap.size w W0 := by rw [← hW]; exact (Below.refl _ _).alloc (Nat.le_refl _) _
  have x1 : Box W0 w.heap.size 44 #[.int .i64 2, .int .i64 (i : Int), .slice A n c] := by rw [← hW]; exact Box.new _ _ _
  obtain ⟨d0, d1, d2⟩ := x1.three
  have s0 : W0.cell? ⟨pw, 0, none⟩ = some (.slice As ns cs) := (hp.keep hb hp.lt).cell 0
  have HB := Lib.hid hb
  obtain ⟨RR, hR⟩ : ∃ R, tyV W (.node 2 (i : Int) xs) cx = R := ⟨_, rfl⟩
  have HR := Lib.hid (show faV W (i : Int) xs cx = RR by rw [← hR, ty_fam])
  rw [hR]
  clear hR
  by_cases hlt : i < ns
  case' neg =>
    have dg : decide ((i : Int) ≥ (ns : Int)) = true := by simp; omega
    have dg2 : decide ((ns : Int) ≤ (i : Int)) = true := by simp; omega
    have hge : ns ≤ i := by omega
    have HQ := Lib.hid (show 2 = RR by rw [← HR.out, fa_no (by omega)])
    clear hE hba hlen hk hp ha hb x1 HR
    go_enter Tryz.func62, Tryz.ntmps62
    go_wp2_with fail
    try rw [hW]
    clear hW
    try go_wp2_with fail
    have HKS : Hid (∀ w' : World, Below W0.heap.size W0 w' → (fun w' => w'.cell? ⟨w.heap.size, 1, none⟩ = some (.int .i64 (i : Int)) ∧ w'.cell? ⟨pw, 0, none⟩ = some (.slice As ns cs)) w') := Lib.hid fun w' h => ⟨(h.cell (cell_lt d1)).trans d1, (h.cell (cell_lt s0)).trans s0⟩
    have hbd : Below W0.heap.size W0 W0.drew := (Below.refl _ W0).drew
    refine wp_region_held_drew (S := fun w' => w'.cell? ⟨w.heap.size, 1, none⟩ = some (.int .i64 (i : Int)) ∧ w'.cell? ⟨pw, 0, none⟩ = some (.slice As ns cs)) (by kernel_rfl) (HKS.out _ hbd) (fun hS => ?_)
    simp only [List.size_toArray, List.length_cons, List.length_nil, Nat.reduceAdd]
    refine wpAnyH_take (i := 0) (v := .pointer (some ⟨w.heap.size, 1, none⟩)) rfl (by kernel_rfl) (by kernel_rfl) (by kernel_rfl) (fun _ _ _ h => h) (Or.inl ⟨by kernel_rfl, ?_⟩) hS ?_
    · intro w' hSw
      obtain ⟨s0, s1⟩ := hSw
      go_simp
    try simp only [Act.put, List.getElem_toArray, List.getElem_cons_zero, List.setIfInBounds_toArray, List.set_cons_zero, List.set_cons_succ]
    refine wpAnyH_take (i := 1) (v := .int .i64 (i : Int)) rfl (by kernel_rfl) (by kernel_rfl) (by kernel_rfl) (fun _ _ _ h => h) (Or.inl ⟨by kernel_rfl, ?_⟩) hS ?_
    · intro w' hSw
      obtain ⟨s0, s1⟩ := hSw
      go_simp
    try simp only [Act.put, List.getElem_toArray, List.getElem_cons_succ, List.getElem_cons_zero, List.setIfInBounds_toArray, List.set_cons_zero, List.set_cons_succ]
    refine wpAnyH_take (i := 2) (v := .pointer (some ⟨pw, 0, none⟩)) rfl (by kernel_rfl) (by kernel_rfl) (by kernel_rfl) (fun _ _ _ h => h) (Or.inl ⟨by kernel_rfl, ?_⟩) hS ?_
    · intro w' hSw
      obtain ⟨s0, s1⟩ := hSw
      go_simp
    try simp only [Act.put, List.getElem_toArray, List.getElem_cons_succ, List.getElem_cons_zero, List.setIfInBounds_toArray, List.set_cons_zero, List.set_cons_succ]
    refine wpAnyH_take (i := 3) (v := .pointer (some ⟨pw, 0, none⟩)) rfl (by kernel_rfl) (by kernel_rfl) (by kernel_rfl) (fun _ _ _ h => h) (Or.inl ⟨by kernel_rfl, ?_⟩) hS ?_
    · intro w' hSw
      obtain ⟨s0, s1⟩ := hSw
      go_simp
    try simp only [Act.put, List.getElem_toArray, List.getElem_cons_succ, List.getElem_cons_zero, List.setIfInBounds_toArray, List.set_cons_zero, List.set_cons_succ]
    refine wpAnyH_take (i := 4) (v := .pointer (some ⟨pw, 0, none⟩)) rfl (by kernel_rfl) (by kernel_rfl) (by kernel_rfl) (fun _ _ _ h => h) (Or.inl ⟨by kernel_rfl, ?_⟩) hS ?_
    · intro w' hSw
      obtain ⟨s0, s1⟩ := hSw
      go_simp
    try simp only [Act.put, List.getElem_toArray, List.getElem_cons_succ, List.getElem_cons_zero, List.setIfInBounds_toArray, List.set_cons_zero, List.set_cons_succ]
    refine wpAnyH_take (i := 5) (v := .slice As ns cs) rfl (by kernel_rfl) (by kernel_rfl) (by kernel_rfl) (fun _ _ _ h => h) (Or.inl ⟨by kernel_rfl, ?_⟩) hS ?_
    · intro w' hSw
      obtain ⟨s0, s1⟩ := hSw
      go_simp
    try simp only [Act.put, List.getElem_toArray, List.getElem_cons_succ, List.getElem_cons_zero, List.setIfInBounds_toArray, List.set_cons_zero, List.set_cons_succ]
    refine wpAnyH_take (i := 6) (v := .int .i64 ns) rfl (by kernel_rfl) (by kernel_rfl) (by kernel_rfl) (fun _ _ _ h => h) (Or.inl ⟨by kernel_rfl, ?_⟩) hS ?_
    · intro w' hSw
      obtain ⟨s0, s1⟩ := hSw
      go_simp
    try simp only [Act.put, List.getElem_toArray, List.getElem_cons_succ, List.getElem_cons_zero, List.setIfInBounds_toArray, List.set_cons_zero, List.set_cons_succ]
    refine wpAnyH_take (i := 7) (v := .bool true) rfl (by kernel_rfl) (by kernel_rfl) (by kernel_rfl) (fun _ _ _ h => h) (Or.inl ⟨by kernel_rfl, ?_⟩) hS ?_
    · intro w' hSw
      obtain ⟨s0, s1⟩ := hSw
      go_simp
    try simp only [Act.put, List.getElem_toArray, List.getElem_cons_succ, List.getElem_cons_zero, List.setIfInBounds_toArray, List.set_cons_zero, List.set_cons_succ]
    refine wpAnyH_done (by kernel_rfl) ?_ _
    try simp only [List.setIfInBounds_toArray]
    try simp only [List.getElem_toArray, List.getElem_cons_succ, List.getElem_cons_zero, List.setIfInBounds_toArray, List.set_cons_zero, List.set_cons_succ]
    have HBF := Lib.hid (HB.out.trans (hbd.mono HB.out.size))
    clear hS HKS hbd
    go_wp2_with fail
    go_ret
    exact ⟨ret_int HQ.out, HBF.out⟩
  have dg : decide ((i : Int) ≥ (ns : Int)) = false := by simp; omega
  have dg2 : decide ((ns : Int) ≤ (i : Int)) = false := by simp; omega
  have hge : ¬ ns ≤ i := by omega
  obtain ⟨e, he⟩ := at_of hsl hlt
  obtain ⟨bs, os, st, ke, ge, Ae, ne, ce, rfl, e0, e1, e2, e3, hre⟩ := hk.sg.at_ i e he
  replace e1 := (hb.cell (cell_lt e1)).trans e1
  replace e2 := (hb.cell (cell_lt e2)).trans e2
  replace e3 := (hb.cell (cell_lt e3)).trans e3
  have hi0 : (0 : Int) ≤ (i : Int) := by omega
  have hi1 : (i : Int) < (ns : Int) := by omega
  have hme := hE.sg e (List.mem_of_getElem? he)
  have HKI := Lib.hid (fun (W' : World) (h' : Below W0.heap.size W0 W') => rkindC e _ W' (Rd.keep (hb.trans (h'.mono hb.size)) _ _ hre) (by have := ((myB_iff e).1 hme.my).2.1; omega))
  obtain ⟨A', n', c', ev, _, _, g3, g4, g5, g6⟩ := Rd_node.1 ha
  have ev' : A = A' ∧ n = n' ∧ c = c' := by simpa using ev
  obtain ⟨rfl, rfl, rfl⟩ := ev'
  have hxl : CLV w xs A n c := ⟨g3, g4, g5, g6⟩
  have hnd := ((myB_iff _).1 hba.my).2.1
  rw [nd] at hlen hnd
  have HSP0 := Lib.hid (fun (Z : Nat → Prop) (W' : World) (h' : Below W0.heap.size W0 W') (hz : ∀ b, Z b → w.heap.size ≤ b ∧ b < W'.heap.size) => eSpineC (Z := Z) (W := W) (xs := xs) (cx := cx) (t := e) (B := loV) (B0 := loV) (ns := ns) (Am := Am) (nm := nm) (Ac := Ac) (fun x _ => eTermAll x) hE (fun x hx => hba.arg hx) hme (Int.le_refl _) (by unfold loV dlV hiV; omega) (by omega) W' (hk.keep (hb.trans (h'.mono hb.size))) (hp.keep (hb.trans (h'.mono hb.size)) hp.lt) (clv_rx hxl (hb.trans (h'.mono hb.size)) (fun b z => (hz b z).1)) (rx_any hre (hb.trans (h'.mono hb.size)) (fun b z => (hz b z).1)) (fun b z => (hz b z).2))
  obtain ⟨r, hr⟩ : ∃ r, kiB e = r := ⟨_, rfl⟩
  rw [hr] at HKI
  obtain ⟨R, hR⟩ : ∃ R, spV W xs cx e = R := ⟨_, rfl⟩
  rw [hR] at HSP0
  have HER := Lib.hid (show ∀ er, R = .error er → er ≠ 0 from fun er h => sp_err W _ _ _ _ (hR.trans h))
  have HEQ0 : Hid (RR = if r = true then knV R else 2) := Lib.hid (by
    rw [← HR.out]
    cases r
    · rw [fa_ki he hr]; rfl
    · rw [fa_go he hr, hR]; rfl)
  clear hE hba hlen hk hp ha hre hme he hxl hr hlt hR hsl HR ev g3 g4 g5 g6 hnd
  go_enter Tryz.func62, Tryz.ntmps62
  go_wp2_with fail
  try rw [hW]
  clear hW
  try go_wp2_with fail
  have HKS : Hid (∀ w' : World, Below W0.heap.size W0 w' → (fun w' => w'.cell? ⟨w.heap.size, 1, none⟩ = some (.int .i64 (i : Int)) ∧ w'.cell? ⟨pw, 0, none⟩ = some (.slice (some ⟨bs, os, none⟩) ns cs)) w') := Lib.hid fun w' h => ⟨(h.cell (cell_lt d1)).trans d1, (h.cell (cell_lt s0)).trans s0⟩
  have hbd : Below W0.heap.size W0 W0.drew := (Below.refl _ W0).drew
  refine wp_region_held_drew (S := fun w' => w'.cell? ⟨w.heap.size, 1, none⟩ = some (.int .i64 (i : Int)) ∧ w'.cell? ⟨pw, 0, none⟩ = some (.slice (some ⟨bs, os, none⟩) ns cs)) (by kernel_rfl) (HKS.out _ hbd) (fun hS => ?_)
  simp only [List.size_toArray, List.length_cons, List.length_nil, Nat.reduceAdd]
  refine wpAnyH_take (i := 0) (v := .pointer (some ⟨w.heap.size, 1, none⟩)) rfl (by kernel_rfl) (by kernel_rfl) (by kernel_rfl) (fun _ _ _ h => h) (Or.inl ⟨by kernel_rfl, ?_⟩) hS ?_
  · intro w' hSw
    obtain ⟨s0, s1⟩ := hSw
    go_simp
  try simp only [Act.put, List.getElem_toArray, List.getElem_cons_zero, List.setIfInBounds_toArray, List.set_cons_zero, List.set_cons_succ]
  refine wpAnyH_take (i := 1) (v := .int .i64 (i : Int)) rfl (by kernel_rfl) (by kernel_rfl) (by kernel_rfl) (fun _ _ _ h => h) (Or.inl ⟨by kernel_rfl, ?_⟩) hS ?_
  · intro w' hSw
    obtain ⟨s0, s1⟩ := hSw
    go_simp
  try simp only [Act.put, List.getElem_toArray, List.getElem_cons_succ, List.getElem_cons_zero, List.setIfInBounds_toArray, List.set_cons_zero, List.set_cons_succ]
  refine wpAnyH_take (i := 2) (v := .pointer (some ⟨pw, 0, none⟩)) rfl (by kernel_rfl) (by kernel_rfl) (by kernel_rfl) (fun _ _ _ h => h) (Or.inl ⟨by kernel_rfl, ?_⟩) hS ?_
  · intro w' hSw
    obtain ⟨s0, s1⟩ := hSw
    go_simp
  try simp only [Act.put, List.getElem_toArray, List.getElem_cons_succ, List.getElem_cons_zero, List.setIfInBounds_toArray, List.set_cons_zero, List.set_cons_succ]
  refine wpAnyH_take (i := 3) (v := .pointer (some ⟨pw, 0, none⟩)) rfl (by kernel_rfl) (by kernel_rfl) (by kernel_rfl) (fun _ _ _ h => h) (Or.inl ⟨by kernel_rfl, ?_⟩) hS ?_
  · intro w' hSw
    obtain ⟨s0, s1⟩ := hSw
    go_simp
  try simp only [Act.put, List.getElem_toArray, List.getElem_cons_succ, List.getElem_cons_zero, List.setIfInBounds_toArray, List.set_cons_zero, List.set_cons_succ]
  refine wpAnyH_take (i := 4) (v := .pointer (some ⟨pw, 0, none⟩)) rfl (by kernel_rfl) (by kernel_rfl) (by kernel_rfl) (fun _ _ _ h => h) (Or.inl ⟨by kernel_rfl, ?_⟩) hS ?_
  · intro w' hSw
    obtain ⟨s0, s1⟩ := hSw
    go_simp
  try simp only [Act.put, List.getElem_toArray, List.getElem_cons_succ, List.getElem_cons_zero, List.setIfInBounds_toArray, List.set_cons_zero, List.set_cons_succ]
  refine wpAnyH_take (i := 5) (v := .slice (some ⟨bs, os, none⟩) ns cs) rfl (by kernel_rfl) (by kernel_rfl) (by kernel_rfl) (fun _ _ _ h => h) (Or.inl ⟨by kernel_rfl, ?_⟩) hS ?_
  · intro w' hSw
    obtain ⟨s0, s1⟩ := hSw
    go_simp
  try simp only [Act.put, List.getElem_toArray, List.getElem_cons_succ, List.getElem_cons_zero, List.setIfInBounds_toArray, List.set_cons_zero, List.set_cons_succ]
  refine wpAnyH_take (i := 6) (v := .int .i64 ns) rfl (by kernel_rfl) (by kernel_rfl) (by kernel_rfl) (fun _ _ _ h => h) (Or.inl ⟨by kernel_rfl, ?_⟩) hS ?_
  · intro w' hSw
    obtain ⟨s0, s1⟩ := hSw
    go_simp
  try simp only [Act.put, List.getElem_toArray, List.getElem_cons_succ, List.getElem_cons_zero, List.setIfInBounds_toArray, List.set_cons_zero, List.set_cons_succ]
  refine wpAnyH_take (i := 7) (v := .bool false) rfl (by kernel_rfl) (by kernel_rfl) (by kernel_rfl) (fun _ _ _ h => h) (Or.inl ⟨by kernel_rfl, ?_⟩) hS ?_
  · intro w' hSw
    obtain ⟨s0, s1⟩ := hSw
    go_simp
  try simp only [Act.put, List.getElem_toArray, List.getElem_cons_succ, List.getElem_cons_zero, List.setIfInBounds_toArray, List.set_cons_zero, List.set_cons_succ]
  refine wpAnyH_done (by kernel_rfl) ?_ _
  try simp only [List.setIfInBounds_toArray]
  try simp only [List.getElem_toArray, List.getElem_cons_succ, List.getElem_cons_zero, List.setIfInBounds_toArray, List.set_cons_zero, List.set_cons_succ]
  have HB1 := Lib.hid (HB.out.trans (hbd.mono HB.out.size))
  replace x1 := x1.keep hbd x1.lt
  have HKJ := Lib.hid (fun (W' : World) (h' : Below W0.drew.heap.size W0.drew W') => HKI.out W' (hbd.trans (h'.mono hbd.size)))
  have HSP1 := Lib.hid (fun (Z : Nat → Prop) (W' : World) (h' : Below W0.drew.heap.size W0.drew W') => HSP0.out Z W' (hbd.trans (h'.mono hbd.size)))
  clear HKI HSP0
  have HKI := HKJ
  replace d1 := (hbd.cell (cell_lt d1)).trans d1
  replace d2 := (hbd.cell (cell_lt d2)).trans d2
  replace s0 := (hbd.cell (cell_lt s0)).trans s0
  replace e1 := (hbd.cell (cell_lt e1)).trans e1
  replace e2 := (hbd.cell (cell_lt e2)).trans e2
  replace e3 := (hbd.cell (cell_lt e3)).trans e3
  clear hS HKS HKJ d0 e0 hb HB hbd
  generalize W0.drew = W1 at *
  go_wp2_with fail
  have HKS : Hid (∀ w' : World, Below W1.heap.size W1 w' → (fun w' => w'.cell? ⟨w.heap.size, 1, none⟩ = some (.int .i64 (i : Int)) ∧ w'.cell? ⟨pw, 0, none⟩ = some (.slice (some ⟨bs, os, none⟩) ns cs) ∧ w'.cell? ⟨bs, os + i * 4 + 1, none⟩ = some (.int .i64 ke) ∧ w'.cell? ⟨bs, os + i * 4 + 2, none⟩ = some (.int .i64 ge) ∧ w'.cell? ⟨bs, os + i * 4 + 3, none⟩ = some (.slice Ae ne ce)) w') := Lib.hid fun w' h => ⟨(h.cell (cell_lt d1)).trans d1, (h.cell (cell_lt s0)).trans s0, (h.cell (cell_lt e1)).trans e1, (h.cell (cell_lt e2)).trans e2, (h.cell (cell_lt e3)).trans e3⟩
  have hbd : Below W1.heap.size W1 W1.drew := (Below.refl _ W1).drew
  refine wp_region_held_drew (S := fun w' => w'.cell? ⟨w.heap.size, 1, none⟩ = some (.int .i64 (i : Int)) ∧ w'.cell? ⟨pw, 0, none⟩ = some (.slice (some ⟨bs, os, none⟩) ns cs) ∧ w'.cell? ⟨bs, os + i * 4 + 1, none⟩ = some (.int .i64 ke) ∧ w'.cell? ⟨bs, os + i * 4 + 2, none⟩ = some (.int .i64 ge) ∧ w'.cell? ⟨bs, os + i * 4 + 3, none⟩ = some (.slice Ae ne ce)) (by kernel_rfl) (HKS.out _ hbd) (fun hS => ?_)
  simp only [List.size_toArray, List.length_cons, List.length_nil, Nat.reduceAdd]
  refine wpAnyH_take (i := 0) (v := .pointer (some ⟨pw, 0, none⟩)) rfl (by kernel_rfl) (by kernel_rfl) (by kernel_rfl) (fun _ _ _ h => h) (Or.inl ⟨by kernel_rfl, ?_⟩) hS ?_
  · intro w' hSw
    obtain ⟨s0, s1, s2, s3, s4⟩ := hSw
    go_simp
  try simp only [Act.put, List.getElem_toArray, List.getElem_cons_zero, List.setIfInBounds_toArray, List.set_cons_zero, List.set_cons_succ]
  refine wpAnyH_take (i := 1) (v := .pointer (some ⟨pw, 0, none⟩)) rfl (by kernel_rfl) (by kernel_rfl) (by kernel_rfl) (fun _ _ _ h => h) (Or.inl ⟨by kernel_rfl, ?_⟩) hS ?_
  · intro w' hSw
    obtain ⟨s0, s1, s2, s3, s4⟩ := hSw
    go_simp
  try simp only [Act.put, List.getElem_toArray, List.getElem_cons_succ, List.getElem_cons_zero, List.setIfInBounds_toArray, List.set_cons_zero, List.set_cons_succ]
  refine wpAnyH_take (i := 2) (v := .pointer (some ⟨pw, 0, none⟩)) rfl (by kernel_rfl) (by kernel_rfl) (by kernel_rfl) (fun _ _ _ h => h) (Or.inl ⟨by kernel_rfl, ?_⟩) hS ?_
  · intro w' hSw
    obtain ⟨s0, s1, s2, s3, s4⟩ := hSw
    go_simp
  try simp only [Act.put, List.getElem_toArray, List.getElem_cons_succ, List.getElem_cons_zero, List.setIfInBounds_toArray, List.set_cons_zero, List.set_cons_succ]
  refine wpAnyH_take (i := 3) (v := .slice (some ⟨bs, os, none⟩) ns cs) rfl (by kernel_rfl) (by kernel_rfl) (by kernel_rfl) (fun _ _ _ h => h) (Or.inl ⟨by kernel_rfl, ?_⟩) hS ?_
  · intro w' hSw
    obtain ⟨s0, s1, s2, s3, s4⟩ := hSw
    go_simp
  try simp only [Act.put, List.getElem_toArray, List.getElem_cons_succ, List.getElem_cons_zero, List.setIfInBounds_toArray, List.set_cons_zero, List.set_cons_succ]
  refine wpAnyH_take (i := 4) (v := .pointer (some ⟨w.heap.size, 1, none⟩)) rfl (by kernel_rfl) (by kernel_rfl) (by kernel_rfl) (fun _ _ _ h => h) (Or.inl ⟨by kernel_rfl, ?_⟩) hS ?_
  · intro w' hSw
    obtain ⟨s0, s1, s2, s3, s4⟩ := hSw
    go_simp
  try simp only [Act.put, List.getElem_toArray, List.getElem_cons_succ, List.getElem_cons_zero, List.setIfInBounds_toArray, List.set_cons_zero, List.set_cons_succ]
  refine wpAnyH_take (i := 5) (v := .int .i64 (i : Int)) rfl (by kernel_rfl) (by kernel_rfl) (by kernel_rfl) (fun _ _ _ h => h) (Or.inl ⟨by kernel_rfl, ?_⟩) hS ?_
  · intro w' hSw
    obtain ⟨s0, s1, s2, s3, s4⟩ := hSw
    go_simp
  try simp only [Act.put, List.getElem_toArray, List.getElem_cons_succ, List.getElem_cons_zero, List.setIfInBounds_toArray, List.set_cons_zero, List.set_cons_succ]
  refine wpAnyH_take (i := 6) (v := .pointer (some ⟨bs, os + i * 4, none⟩)) rfl (by kernel_rfl) (by kernel_rfl) (by kernel_rfl) (fun _ _ _ h => h) (Or.inl ⟨by kernel_rfl, ?_⟩) hS ?_
  · intro w' hSw
    obtain ⟨s0, s1, s2, s3, s4⟩ := hSw
    go_simp
  try simp only [Act.put, List.getElem_toArray, List.getElem_cons_succ, List.getElem_cons_zero, List.setIfInBounds_toArray, List.set_cons_zero, List.set_cons_succ]
  refine wpAnyH_take (i := 7) (v := .pointer (some ⟨bs, os + i * 4 + 1, none⟩)) rfl (by kernel_rfl) (by kernel_rfl) (by kernel_rfl) (fun _ _ _ h => h) (Or.inl ⟨by kernel_rfl, ?_⟩) hS ?_
  · intro w' hSw
    obtain ⟨s0, s1, s2, s3, s4⟩ := hSw
    go_simp
  try simp only [Act.put, List.getElem_toArray, List.getElem_cons_succ, List.getElem_cons_zero, List.setIfInBounds_toArray, List.set_cons_zero, List.set_cons_succ]
  refine wpAnyH_take (i := 8) (v := .agg #[.int .i64 ke, .int .i64 ge, .slice Ae ne ce]) rfl (by kernel_rfl) (by kernel_rfl) (by kernel_rfl) (fun _ _ _ h => h) (Or.inl ⟨by kernel_rfl, ?_⟩) hS ?_
  · intro w' hSw
    obtain ⟨s0, s1, s2, s3, s4⟩ := hSw
    go_simp
  try simp only [Act.put, List.getElem_toArray, List.getElem_cons_succ, List.getElem_cons_zero, List.setIfInBounds_toArray, List.set_cons_zero, List.set_cons_succ]
  refine wpAnyH_ready (rs := [9]) (by kernel_rfl) (by simp) ?_
  refine AllReadyH.cons rfl (fun KN hK => ?_) AllReadyH.nil
  go_simp
  refine (HKI.out _ hbd).mono ?_
  rintro e w4 ⟨rfl, hb6⟩
  replace hbd : Below W1.heap.size W1 w4 := hbd.trans (hb6.mono hbd.size)
  clear hb6
  refine hK.out _ _ (HKS.out _ hbd) (fun hS => ?_)
  clear hK KN
  try simp only [Act.put, List.getElem_toArray, List.getElem_cons_succ, List.getElem_cons_zero, List.setIfInBounds_toArray, List.set_cons_zero, List.set_cons_succ]
  refine wpAnyH_take (i := 10) (v := .bool r) rfl (by kernel_rfl) (by kernel_rfl) (by kernel_rfl) (fun _ _ _ h => h) (Or.inl ⟨by kernel_rfl, ?_⟩) hS ?_
  · intro w' hSw
    obtain ⟨s0, s1, s2, s3, s4⟩ := hSw
    go_simp
  try simp only [Act.put, List.getElem_toArray, List.getElem_cons_succ, List.getElem_cons_zero, List.setIfInBounds_toArray, List.set_cons_zero, List.set_cons_succ]
  refine wpAnyH_done (by kernel_rfl) ?_ _
  try simp only [List.setIfInBounds_toArray]
  try simp only [List.getElem_toArray, List.getElem_cons_succ, List.getElem_cons_zero, List.setIfInBounds_toArray, List.set_cons_zero, List.set_cons_succ]
  have HB3 := Lib.hid (HB1.out.trans (hbd.mono HB1.out.size))
  replace x1 := x1.keep hbd x1.lt
  have HSP := Lib.hid (fun (Z : Nat → Prop) (W' : World) (h' : Below w4.heap.size w4 W') => HSP1.out Z W' (hbd.trans (h'.mono hbd.size)))
  replace d1 := (hbd.cell (cell_lt d1)).trans d1
  replace d2 := (hbd.cell (cell_lt d2)).trans d2
  replace s0 := (hbd.cell (cell_lt s0)).trans s0
  replace e1 := (hbd.cell (cell_lt e1)).trans e1
  replace e2 := (hbd.cell (cell_lt e2)).trans e2
  replace e3 := (hbd.cell (cell_lt e3)).trans e3
  clear hS HKS HKI HSP1 hbd HB1
  cases r
  case' false =>
    have HQ := Lib.hid (show 2 = RR by rw [HEQ0.out, if_neg (by decide)])
    clear x1 HSP e1 e2 e3 d1 d2
    go_wp2_with fail
    go_ret
    exact ⟨ret_int HQ.out, HB3.out⟩
  have HEQ := Lib.hid (HEQ0.out.trans (if_pos rfl))
  clear HEQ0
  have hlz := x1.lt
  have hl0 := HB3.out.size
  generalize w4 = W3 at *
  go_wp2_with fail
  have HKS : Hid (∀ w' : World, Below W3.heap.size W3 w' → (fun w' => w'.cell? ⟨w.heap.size, 1, none⟩ = some (.int .i64 (i : Int)) ∧ w'.cell? ⟨pw, 0, none⟩ = some (.slice (some ⟨bs, os, none⟩) ns cs) ∧ w'.cell? ⟨bs, os + i * 4 + 1, none⟩ = some (.int .i64 ke) ∧ w'.cell? ⟨bs, os + i * 4 + 2, none⟩ = some (.int .i64 ge) ∧ w'.cell? ⟨bs, os + i * 4 + 3, none⟩ = some (.slice Ae ne ce) ∧ w'.cell? ⟨w.heap.size, 2, none⟩ = some (.slice A n c)) w') := Lib.hid fun w' h => ⟨(h.cell (cell_lt d1)).trans d1, (h.cell (cell_lt s0)).trans s0, (h.cell (cell_lt e1)).trans e1, (h.cell (cell_lt e2)).trans e2, (h.cell (cell_lt e3)).trans e3, (h.cell (cell_lt d2)).trans d2⟩
  have hbd : Below W3.heap.size W3 W3.drew := (Below.refl _ W3).drew
  refine wp_region_held_drew (S := fun w' => w'.cell? ⟨w.heap.size, 1, none⟩ = some (.int .i64 (i : Int)) ∧ w'.cell? ⟨pw, 0, none⟩ = some (.slice (some ⟨bs, os, none⟩) ns cs) ∧ w'.cell? ⟨bs, os + i * 4 + 1, none⟩ = some (.int .i64 ke) ∧ w'.cell? ⟨bs, os + i * 4 + 2, none⟩ = some (.int .i64 ge) ∧ w'.cell? ⟨bs, os + i * 4 + 3, none⟩ = some (.slice Ae ne ce) ∧ w'.cell? ⟨w.heap.size, 2, none⟩ = some (.slice A n c)) (by kernel_rfl) (HKS.out _ hbd) (fun hS => ?_)
  simp only [List.size_toArray, List.length_cons, List.length_nil, Nat.reduceAdd]
  refine wpAnyH_take (i := 0) (v := .pointer (some ⟨pw, 0, none⟩)) rfl (by kernel_rfl) (by kernel_rfl) (by kernel_rfl) (fun _ _ _ h => h) (Or.inl ⟨by kernel_rfl, ?_⟩) hS ?_
  · intro w' hSw
    obtain ⟨s0, s1, s2, s3, s4, s5⟩ := hSw
    go_simp
  try simp only [Act.put, List.getElem_toArray, List.getElem_cons_zero, List.setIfInBounds_toArray, List.set_cons_zero, List.set_cons_succ]
  refine wpAnyH_take (i := 1) (v := .slice Ac nc cc) rfl (by kernel_rfl) (by kernel_rfl) (by kernel_rfl) (fun _ _ _ h => h) (Or.inl ⟨by kernel_rfl, ?_⟩) hS ?_
  · intro w' hSw
    obtain ⟨s0, s1, s2, s3, s4, s5⟩ := hSw
    go_simp
  try simp only [Act.put, List.getElem_toArray, List.getElem_cons_succ, List.getElem_cons_zero, List.setIfInBounds_toArray, List.set_cons_zero, List.set_cons_succ]
  refine wpAnyH_take (i := 2) (v := .pointer (some ⟨pw, 0, none⟩)) rfl (by kernel_rfl) (by kernel_rfl) (by kernel_rfl) (fun _ _ _ h => h) (Or.inl ⟨by kernel_rfl, ?_⟩) hS ?_
  · intro w' hSw
    obtain ⟨s0, s1, s2, s3, s4, s5⟩ := hSw
    go_simp
  try simp only [Act.put, List.getElem_toArray, List.getElem_cons_succ, List.getElem_cons_zero, List.setIfInBounds_toArray, List.set_cons_zero, List.set_cons_succ]
  refine wpAnyH_take (i := 3) (v := .pointer (some ⟨pw, 0, none⟩)) rfl (by kernel_rfl) (by kernel_rfl) (by kernel_rfl) (fun _ _ _ h => h) (Or.inl ⟨by kernel_rfl, ?_⟩) hS ?_
  · intro w' hSw
    obtain ⟨s0, s1, s2, s3, s4, s5⟩ := hSw
    go_simp
  try simp only [Act.put, List.getElem_toArray, List.getElem_cons_succ, List.getElem_cons_zero, List.setIfInBounds_toArray, List.set_cons_zero, List.set_cons_succ]
  refine wpAnyH_take (i := 4) (v := .pointer (some ⟨pw, 0, none⟩)) rfl (by kernel_rfl) (by kernel_rfl) (by kernel_rfl) (fun _ _ _ h => h) (Or.inl ⟨by kernel_rfl, ?_⟩) hS ?_
  · intro w' hSw
    obtain ⟨s0, s1, s2, s3, s4, s5⟩ := hSw
    go_simp
  try simp only [Act.put, List.getElem_toArray, List.getElem_cons_succ, List.getElem_cons_zero, List.setIfInBounds_toArray, List.set_cons_zero, List.set_cons_succ]
  refine wpAnyH_take (i := 5) (v := .slice (some ⟨bs, os, none⟩) ns cs) rfl (by kernel_rfl) (by kernel_rfl) (by kernel_rfl) (fun _ _ _ h => h) (Or.inl ⟨by kernel_rfl, ?_⟩) hS ?_
  · intro w' hSw
    obtain ⟨s0, s1, s2, s3, s4, s5⟩ := hSw
    go_simp
  try simp only [Act.put, List.getElem_toArray, List.getElem_cons_succ, List.getElem_cons_zero, List.setIfInBounds_toArray, List.set_cons_zero, List.set_cons_succ]
  refine wpAnyH_take (i := 6) (v := .pointer (some ⟨w.heap.size, 1, none⟩)) rfl (by kernel_rfl) (by kernel_rfl) (by kernel_rfl) (fun _ _ _ h => h) (Or.inl ⟨by kernel_rfl, ?_⟩) hS ?_
  · intro w' hSw
    obtain ⟨s0, s1, s2, s3, s4, s5⟩ := hSw
    go_simp
  try simp only [Act.put, List.getElem_toArray, List.getElem_cons_succ, List.getElem_cons_zero, List.setIfInBounds_toArray, List.set_cons_zero, List.set_cons_succ]
  refine wpAnyH_take (i := 7) (v := .int .i64 (i : Int)) rfl (by kernel_rfl) (by kernel_rfl) (by kernel_rfl) (fun _ _ _ h => h) (Or.inl ⟨by kernel_rfl, ?_⟩) hS ?_
  · intro w' hSw
    obtain ⟨s0, s1, s2, s3, s4, s5⟩ := hSw
    go_simp
  try simp only [Act.put, List.getElem_toArray, List.getElem_cons_succ, List.getElem_cons_zero, List.setIfInBounds_toArray, List.set_cons_zero, List.set_cons_succ]
  refine wpAnyH_take (i := 8) (v := .pointer (some ⟨bs, os + i * 4, none⟩)) rfl (by kernel_rfl) (by kernel_rfl) (by kernel_rfl) (fun _ _ _ h => h) (Or.inl ⟨by kernel_rfl, ?_⟩) hS ?_
  · intro w' hSw
    obtain ⟨s0, s1, s2, s3, s4, s5⟩ := hSw
    go_simp
  try simp only [Act.put, List.getElem_toArray, List.getElem_cons_succ, List.getElem_cons_zero, List.setIfInBounds_toArray, List.set_cons_zero, List.set_cons_succ]
  refine wpAnyH_take (i := 9) (v := .pointer (some ⟨bs, os + i * 4 + 1, none⟩)) rfl (by kernel_rfl) (by kernel_rfl) (by kernel_rfl) (fun _ _ _ h => h) (Or.inl ⟨by kernel_rfl, ?_⟩) hS ?_
  · intro w' hSw
    obtain ⟨s0, s1, s2, s3, s4, s5⟩ := hSw
    go_simp
  try simp only [Act.put, List.getElem_toArray, List.getElem_cons_succ, List.getElem_cons_zero, List.setIfInBounds_toArray, List.set_cons_zero, List.set_cons_succ]
  refine wpAnyH_take (i := 10) (v := .agg #[.int .i64 ke, .int .i64 ge, .slice Ae ne ce]) rfl (by kernel_rfl) (by kernel_rfl) (by kernel_rfl) (fun _ _ _ h => h) (Or.inl ⟨by kernel_rfl, ?_⟩) hS ?_
  · intro w' hSw
    obtain ⟨s0, s1, s2, s3, s4, s5⟩ := hSw
    go_simp
  try simp only [Act.put, List.getElem_toArray, List.getElem_cons_succ, List.getElem_cons_zero, List.setIfInBounds_toArray, List.set_cons_zero, List.set_cons_succ]
  refine wpAnyH_take (i := 11) (v := .pointer (some ⟨w.heap.size, 2, none⟩)) rfl (by kernel_rfl) (by kernel_rfl) (by kernel_rfl) (fun _ _ _ h => h) (Or.inl ⟨by kernel_rfl, ?_⟩) hS ?_
  · intro w' hSw
    obtain ⟨s0, s1, s2, s3, s4, s5⟩ := hSw
    go_simp
  try simp only [Act.put, List.getElem_toArray, List.getElem_cons_succ, List.getElem_cons_zero, List.setIfInBounds_toArray, List.set_cons_zero, List.set_cons_succ]
  refine wpAnyH_take (i := 12) (v := .slice A n c) rfl (by kernel_rfl) (by kernel_rfl) (by kernel_rfl) (fun _ _ _ h => h) (Or.inl ⟨by kernel_rfl, ?_⟩) hS ?_
  · intro w' hSw
    obtain ⟨s0, s1, s2, s3, s4, s5⟩ := hSw
    go_simp
  try simp only [Act.put, List.getElem_toArray, List.getElem_cons_succ, List.getElem_cons_zero, List.setIfInBounds_toArray, List.set_cons_zero, List.set_cons_succ]
  refine wpAnyH_ready (rs := [13, 17]) (by kernel_rfl) (by simp) ?_
  refine AllReadyH.cons rfl (fun KN hK => ?_) (AllReadyH.cons rfl (fun KN hK => ?_) AllReadyH.nil)
  · go_simp
    refine (HSP.out (fun b => b = w.heap.size) _ hbd (fun b z => by have := hbd.size; omega)).mono ?_
    rintro e v0 ⟨k3, h3, A3, n3, c3, rfl, hS9, hb6⟩
    replace hbd : Below W3.heap.size W3 v0 := hbd.trans (hb6.mono hbd.size)
    clear hb6
    refine hK.out _ _ (HKS.out _ hbd) (fun hS => ?_)
    clear hK KN
    try simp only [Act.put, List.getElem_toArray, List.getElem_cons_succ, List.getElem_cons_zero, List.setIfInBounds_toArray, List.set_cons_zero, List.set_cons_succ]
    refine wpAnyH_take (i := 14) (v := .tuple #[.agg #[.int .i64 k3, .int .i64 h3, .slice A3 n3 c3], .int .i64 (erV R)]) rfl (by kernel_rfl) (by kernel_rfl) (by kernel_rfl) (fun _ _ _ h => h) (Or.inl ⟨by kernel_rfl, ?_⟩) hS ?_
    · intro w' hSw
      obtain ⟨s0, s1, s2, s3, s4, s5⟩ := hSw
      go_simp
    try simp only [Act.put, List.getElem_toArray, List.getElem_cons_succ, List.getElem_cons_zero, List.setIfInBounds_toArray, List.set_cons_zero, List.set_cons_succ]
    refine wpAnyH_take (i := 15) (v := .agg #[.int .i64 k3, .int .i64 h3, .slice A3 n3 c3]) rfl (by kernel_rfl) (by kernel_rfl) (by kernel_rfl) (fun _ _ _ h => h) (Or.inl ⟨by kernel_rfl, ?_⟩) hS ?_
    · intro w' hSw
      obtain ⟨s0, s1, s2, s3, s4, s5⟩ := hSw
      go_simp
    try simp only [Act.put, List.getElem_toArray, List.getElem_cons_succ, List.getElem_cons_zero, List.setIfInBounds_toArray, List.set_cons_zero, List.set_cons_succ]
    refine wpAnyH_take (i := 16) (v := .int .i64 (erV R)) rfl (by kernel_rfl) (by kernel_rfl) (by kernel_rfl) (fun _ _ _ h => h) (Or.inl ⟨by kernel_rfl, ?_⟩) hS ?_
    · intro w' hSw
      obtain ⟨s0, s1, s2, s3, s4, s5⟩ := hSw
      go_simp
    try simp only [Act.put, List.getElem_toArray, List.getElem_cons_succ, List.getElem_cons_zero, List.setIfInBounds_toArray, List.set_cons_zero, List.set_cons_succ]
    refine wpAnyH_ready (rs := [17]) (by kernel_rfl) (by simp) ?_
    refine AllReadyH.cons rfl (fun KN hK => ?_) AllReadyH.nil
    go_simp
    have hbn : Below W3.heap.size W3 (v0.alloc (.cells #[.int .i64 0, .int .i64 0, .slice none 0 0] 44)) := hbd.alloc hbd.size _
    refine hK.out _ _ (HKS.out _ hbn) (fun hS => ?_)
    clear hK KN
    try simp only [Act.put, List.getElem_toArray, List.getElem_cons_succ, List.getElem_cons_zero, List.setIfInBounds_toArray, List.set_cons_zero, List.set_cons_succ]
    have xz : Box (v0.alloc (.cells #[.int .i64 0, .int .i64 0, .slice none 0 0] 44)) v0.heap.size 44 #[.int .i64 0, .int .i64 0, .slice none 0 0] := Box.new _ _ _
    have hpl0 : W3.heap.size ≤ v0.heap.size := hbd.size
    replace hS9 : ∀ t, R = .ok t → RX (fun b => b = w.heap.size ∨ b = v0.heap.size) (v0.alloc (.cells #[.int .i64 0, .int .i64 0, .slice none 0 0] 44)) t (.agg #[.int .i64 k3, .int .i64 h3, .slice A3 n3 c3]) := fun t e => (hS9 t e).keepE (show Below v0.heap.size v0 (v0.alloc (.cells #[.int .i64 0, .int .i64 0, .slice none 0 0] 44)) from (Below.refl _ _).alloc (Nat.le_refl _) _) (fun b z => z.elim .inl (fun e => .inr (by omega)))
    obtain ⟨pB, hpB0⟩ : ∃ p, v0.heap.size = p := ⟨_, rfl⟩
    rw [hpB0] at xz hS9
    try rw [hpB0]
    have hpl : W3.heap.size ≤ pB := by omega
    clear hpB0 hbd hpl0
    generalize v0.alloc (.cells #[.int .i64 0, .int .i64 0, .slice none 0 0] 44) = wN at *
    have hbd := hbn
    clear hbn
    obtain ⟨z0, z1, z2⟩ := xz.three
    have u0 := xz.frozen 0
    have u1 := xz.frozen 1
    have u2 := xz.frozen 2
    refine wpAnyH_ready (rs := [18]) (by kernel_rfl) (by simp) ?_
    refine AllReadyH.cons rfl (fun KN hK => ?_) AllReadyH.nil
    go_simp
    have hbF := below_set3 hbd (a := pB) hpl (.int .i64 k3) (.int .i64 h3) (.slice A3 n3 c3)
    refine hK.out _ _ (HKS.out _ hbF) (fun hS => ?_)
    clear hK KN
    try simp only [Act.put, List.getElem_toArray, List.getElem_cons_succ, List.getElem_cons_zero, List.setIfInBounds_toArray, List.set_cons_zero, List.set_cons_succ]
    have xB := xz.put3 (.int .i64 k3) (.int .i64 h3) (.slice A3 n3 c3)
    have hrdF : ∀ t, R = .ok t → RX (fun b => b = w.heap.size) (((wN.setCell ⟨pB, 0, none⟩ (.int .i64 k3)).setCell ⟨pB, 1, none⟩ (.int .i64 h3)).setCell ⟨pB, 2, none⟩ (.slice A3 n3 c3)) t (.agg #[.int .i64 k3, .int .i64 h3, .slice A3 n3 c3]) := fun t e => RdF.moveX (fun b hok hl => ⟨fun z => hok (.inl z), heap_other3 _ _ _ _ _ _ (fun e => hok (.inr e))⟩) _ _ (hS9 t e)
    clear hS9 xz hbd z0 z1 z2 u0 u1 u2
    generalize ((wN.setCell ⟨pB, 0, none⟩ (.int .i64 k3)).setCell ⟨pB, 1, none⟩ (.int .i64 h3)).setCell ⟨pB, 2, none⟩ (.slice A3 n3 c3) = Wf at *
    refine wpAnyH_take (i := 19) (v := .int .i64 (erV R)) rfl (by kernel_rfl) (by kernel_rfl) (by kernel_rfl) (fun _ _ _ h => h) (Or.inl ⟨by kernel_rfl, ?_⟩) hS ?_
    · intro w' hSw
      obtain ⟨s0, s1, s2, s3, s4, s5⟩ := hSw
      go_simp
    try simp only [Act.put, List.getElem_toArray, List.getElem_cons_succ, List.getElem_cons_zero, List.setIfInBounds_toArray, List.set_cons_zero, List.set_cons_succ]
    refine wpAnyH_done (by kernel_rfl) ?_ _
    try simp only [List.setIfInBounds_toArray]
    try simp only [List.getElem_toArray, List.getElem_cons_succ, List.getElem_cons_zero, List.setIfInBounds_toArray, List.set_cons_zero, List.set_cons_succ]
    have HBF := Lib.hid (HB3.out.trans (hbF.mono HB3.out.size))
    have HRF := Lib.hid hrdF
    clear hS HKS hbF hpl hrdF HSP x1 d1 s0 e1 e2 e3 d2
    obtain ⟨y0, y1, y2⟩ := xB.three
    clear xB
    cases R with
    | error er =>
      have hne := HER.out er rfl
      have hd : (er != 0) = true := by simpa using hne
      have HQ := Lib.hid (show er = RR by rw [HEQ.out]; rfl)
      rw [show erV (.error er) = er from rfl]
      clear hne HRF HER
      go_wp2_with fail
      go_ret
      exact ⟨ret_int HQ.out, HBF.out⟩
    | ok t =>
      have hkd := (rdF_kind (RX.rd (HRF.out t rfl))).1
      rw [show erV (.ok t) = 0 from rfl]
      by_cases hk0 : k3 = 0
      · subst hk0
        have HQ := Lib.hid (show 0 = RR by rw [HEQ.out, knV, if_pos hkd])
        clear HRF HER hkd
        go_wp2_with fail
        go_ret
        exact ⟨ret_int HQ.out, HBF.out⟩
      · have hd : (k3 != 0) = true := by simpa using hk0
        have HQ := Lib.hid (show 3 = RR by rw [HEQ.out, knV, if_neg (by rw [hkd]; exact hk0)])
        clear HRF HER hkd
        go_wp2_with fail
        go_ret
        exact ⟨ret_int HQ.out, HBF.out⟩
  · go_simp
    have hbn : Below W3.heap.size W3 ((W3.alloc (.cells #[.int .i64 0, .int .i64 0, .slice none 0 0] 44)).drew) := ((Below.refl _ W3).alloc (Nat.le_refl _) _).drew
    refine hK.out _ _ (HKS.out _ hbn) (fun hS => ?_)
    clear hK KN
    try simp only [Act.put, List.getElem_toArray, List.getElem_cons_succ, List.getElem_cons_zero, List.setIfInBounds_toArray, List.set_cons_zero, List.set_cons_succ]
    have xz : Box ((W3.alloc (.cells #[.int .i64 0, .int .i64 0, .slice none 0 0] 44)).drew) W3.heap.size 44 #[.int .i64 0, .int .i64 0, .slice none 0 0] := Box.drewI (Box.new _ _ _)
    have hpl0 : W3.heap.size ≤ W3.heap.size := Nat.le_refl _
    obtain ⟨pB, hpB0⟩ : ∃ p, W3.heap.size = p := ⟨_, rfl⟩
    rw [hpB0] at xz
    try rw [hpB0]
    have hpl : W3.heap.size ≤ pB := by omega
    clear hpB0 hbd hpl0
    generalize (W3.alloc (.cells #[.int .i64 0, .int .i64 0, .slice none 0 0] 44)).drew = wN at *
    have hbd := hbn
    clear hbn
    refine wpAnyH_ready (rs := [13]) (by kernel_rfl) (by simp) ?_
    refine AllReadyH.cons rfl (fun KN hK => ?_) AllReadyH.nil
    go_simp
    refine (HSP.out (fun b => b = w.heap.size ∨ b = pB) _ hbd (fun b z => by have := xz.lt; have := hbd.size; rcases z with z | z <;> omega)).mono ?_
    rintro e v1 ⟨k3, h3, A3, n3, c3, rfl, hS9, hb6⟩
    replace hbd : Below W3.heap.size W3 v1 := hbd.trans (hb6.mono hbd.size)
    replace xz := xz.keep hb6 xz.lt
    clear hb6
    refine hK.out _ _ (HKS.out _ hbd) (fun hS => ?_)
    clear hK KN
    try simp only [Act.put, List.getElem_toArray, List.getElem_cons_succ, List.getElem_cons_zero, List.setIfInBounds_toArray, List.set_cons_zero, List.set_cons_succ]
    refine wpAnyH_take (i := 14) (v := .tuple #[.agg #[.int .i64 k3, .int .i64 h3, .slice A3 n3 c3], .int .i64 (erV R)]) rfl (by kernel_rfl) (by kernel_rfl) (by kernel_rfl) (fun _ _ _ h => h) (Or.inl ⟨by kernel_rfl, ?_⟩) hS ?_
    · intro w' hSw
      obtain ⟨s0, s1, s2, s3, s4, s5⟩ := hSw
      go_simp
    try simp only [Act.put, List.getElem_toArray, List.getElem_cons_succ, List.getElem_cons_zero, List.setIfInBounds_toArray, List.set_cons_zero, List.set_cons_succ]
    refine wpAnyH_take (i := 15) (v := .agg #[.int .i64 k3, .int .i64 h3, .slice A3 n3 c3]) rfl (by kernel_rfl) (by kernel_rfl) (by kernel_rfl) (fun _ _ _ h => h) (Or.inl ⟨by kernel_rfl, ?_⟩) hS ?_
    · intro w' hSw
      obtain ⟨s0, s1, s2, s3, s4, s5⟩ := hSw
      go_simp
    try simp only [Act.put, List.getElem_toArray, List.getElem_cons_succ, List.getElem_cons_zero, List.setIfInBounds_toArray, List.set_cons_zero, List.set_cons_succ]
    refine wpAnyH_take (i := 16) (v := .int .i64 (erV R)) rfl (by kernel_rfl) (by kernel_rfl) (by kernel_rfl) (fun _ _ _ h => h) (Or.inl ⟨by kernel_rfl, ?_⟩) hS ?_
    · intro w' hSw
      obtain ⟨s0, s1, s2, s3, s4, s5⟩ := hSw
      go_simp
    try simp only [Act.put, List.getElem_toArray, List.getElem_cons_succ, List.getElem_cons_zero, List.setIfInBounds_toArray, List.set_cons_zero, List.set_cons_succ]
    obtain ⟨z0, z1, z2⟩ := xz.three
    have u0 := xz.frozen 0
    have u1 := xz.frozen 1
    have u2 := xz.frozen 2
    refine wpAnyH_ready (rs := [18]) (by kernel_rfl) (by simp) ?_
    refine AllReadyH.cons rfl (fun KN hK => ?_) AllReadyH.nil
    go_simp
    have hbF := below_set3 hbd (a := pB) hpl (.int .i64 k3) (.int .i64 h3) (.slice A3 n3 c3)
    refine hK.out _ _ (HKS.out _ hbF) (fun hS => ?_)
    clear hK KN
    try simp only [Act.put, List.getElem_toArray, List.getElem_cons_succ, List.getElem_cons_zero, List.setIfInBounds_toArray, List.set_cons_zero, List.set_cons_succ]
    have xB := xz.put3 (.int .i64 k3) (.int .i64 h3) (.slice A3 n3 c3)
    have hrdF : ∀ t, R = .ok t → RX (fun b => b = w.heap.size) (((v1.setCell ⟨pB, 0, none⟩ (.int .i64 k3)).setCell ⟨pB, 1, none⟩ (.int .i64 h3)).setCell ⟨pB, 2, none⟩ (.slice A3 n3 c3)) t (.agg #[.int .i64 k3, .int .i64 h3, .slice A3 n3 c3]) := fun t e => RdF.moveX (fun b hok hl => ⟨fun z => hok (.inl z), heap_other3 _ _ _ _ _ _ (fun e => hok (.inr e))⟩) _ _ (hS9 t e)
    clear hS9 xz hbd z0 z1 z2 u0 u1 u2
    generalize ((v1.setCell ⟨pB, 0, none⟩ (.int .i64 k3)).setCell ⟨pB, 1, none⟩ (.int .i64 h3)).setCell ⟨pB, 2, none⟩ (.slice A3 n3 c3) = Wf at *
    refine wpAnyH_take (i := 19) (v := .int .i64 (erV R)) rfl (by kernel_rfl) (by kernel_rfl) (by kernel_rfl) (fun _ _ _ h => h) (Or.inl ⟨by kernel_rfl, ?_⟩) hS ?_
    · intro w' hSw
      obtain ⟨s0, s1, s2, s3, s4, s5⟩ := hSw
      go_simp
    try simp only [Act.put, List.getElem_toArray, List.getElem_cons_succ, List.getElem_cons_zero, List.setIfInBounds_toArray, List.set_cons_zero, List.set_cons_succ]
    refine wpAnyH_done (by kernel_rfl) ?_ _
    try simp only [List.setIfInBounds_toArray]
    try simp only [List.getElem_toArray, List.getElem_cons_succ, List.getElem_cons_zero, List.setIfInBounds_toArray, List.set_cons_zero, List.set_cons_succ]
    have HBF := Lib.hid (HB3.out.trans (hbF.mono HB3.out.size))
    have HRF := Lib.hid hrdF
    clear hS HKS hbF hpl hrdF HSP x1 d1 s0 e1 e2 e3 d2
    obtain ⟨y0, y1, y2⟩ := xB.three
    clear xB
    cases R with
    | error er =>
      have hne := HER.out er rfl
      have hd : (er != 0) = true := by simpa using hne
      have HQ := Lib.hid (show er = RR by rw [HEQ.out]; rfl)
      rw [show erV (.error er) = er from rfl]
      clear hne HRF HER
      go_wp2_with fail
      go_ret
      exact ⟨ret_int HQ.out, HBF.out⟩
    | ok t =>
      have hkd := (rdF_kind (RX.rd (HRF.out t rfl))).1
      rw [show erV (.ok t) = 0 from rfl]
      by_cases hk0 : k3 = 0
      · subst hk0
        have HQ := Lib.hid (show 0 = RR by rw [HEQ.out, knV, if_pos hkd])
        clear HRF HER hkd
        go_wp2_with fail
        go_ret
        exact ⟨ret_int HQ.out, HBF.out⟩
      · have hd : (k3 != 0) = true := by simpa using hk0
        have HQ := Lib.hid (show 3 = RR by rw [HEQ.out, knV, if_neg (by rw [hkd]; exact hk0)])
        clear HRF HER hkd
        go_wp2_with fail
        go_ret
        exact ⟨ret_int HQ.out, HBF.out⟩
end Go.Proofs.YtloeainlpcnhnaaGreat
/-
  The document's own typ, kind, Type and Kind of layer 10. No statement is proved here.
-/
namespace Go.Proofs.YtloeainlpcnhnaaGreat
open Go.ChangeShapes Go.WideShapes Go.ChangeAt Go.RowKit
set_option linter.unusedVariables false
set_option maxRecDepth 100000 in
set_option maxHeartbeats 16000000 in
theorem eTypNo {W : WV} {k h : Int} {xs : List T} (h1 : k ≠ 1) (h2 : k ≠ 2) : TpE 62 (tyV W) W (.node k h xs) := by
  intro cx As ns cs Am nm cm Ac nc cc pw va w hE hba hlen hk hp ha
  obtain ⟨A, n, c, rfl, _, _, g3, g4, g5, g6⟩ := Rd_node.1 ha
  obtain ⟨W0, hW⟩ : ∃ W0, w.alloc (.cells #[.int .i64 k, .int .i64 h, .slice A n c] 44) = W0 := ⟨_, rfl⟩
  have hb : Below w.heap.size w W0 := by rw [← hW]; exact (Below.refl _ _).alloc (Nat.le_refl _) _
  have x1 : Box W0 w.heap.size 44 #[.int .i64 k, .int .i64 h, .slice A n c] := by rw [← hW]; exact Box.new _ _ _
  obtain ⟨d0, d1, d2⟩ := x1.three
  have HB := Lib.hid hb
  rw [ty_no W h1 h2]
  have b1 : (k == 1) = false := by simpa using h1
  have b2 : (k != 2) = true := by simpa using h2
  clear hE hba hlen hk hp hb x1 ha g3 g4 g5 g6
  go_enter Tryz.func62, Tryz.ntmps62
  go_wp2_with fail
  try rw [hW]
  clear hW
  try go_wp2_with fail
  go_ret
  exact ⟨rfl, HB.out⟩
set_option maxRecDepth 100000 in
set_option maxHeartbeats 16000000 in
theorem eKindNo {W : WV} {k h : Int} {xs : List T} (h1 : k ≠ 0) (h2 : k ≠ 1) : TpE 61 (kiV W) W (.node k h xs) := by
  intro cx As ns cs Am nm cm Ac nc cc pw va w hE hba hlen hk hp ha
  obtain ⟨A, n, c, rfl, _, _, g3, g4, g5, g6⟩ := Rd_node.1 ha
  obtain ⟨W0, hW⟩ : ∃ W0, w.alloc (.cells #[.int .i64 k, .int .i64 h, .slice A n c] 44) = W0 := ⟨_, rfl⟩
  have hb : Below w.heap.size w W0 := by rw [← hW]; exact (Below.refl _ _).alloc (Nat.le_refl _) _
  have x1 : Box W0 w.heap.size 44 #[.int .i64 k, .int .i64 h, .slice A n c] := by rw [← hW]; exact Box.new _ _ _
  obtain ⟨d0, d1, d2⟩ := x1.three
  have HB := Lib.hid hb
  rw [ki_no W h1 h2]
  have b1 : (k == 0) = false := by simpa using h1
  have b2 : (k != 1) = true := by simpa using h2
  clear hE hba hlen hk hp hb x1 ha g3 g4 g5 g6
  go_enter Tryz.func61, Tryz.ntmps61
  go_wp2_with fail
  try rw [hW]
  clear hW
  try go_wp2_with fail
  go_ret
  exact ⟨rfl, HB.out⟩
set_option maxRecDepth 100000 in
set_option maxHeartbeats 16000000 in
theorem eKindSort0 {W : WV} {k h : Int} {xs : List T} (h1 : k = 0) : TpE 61 (kiV W) W (.node k h xs) := by
  intro cx As ns cs Am nm cm Ac nc cc pw va w hE hba hlen hk hp ha
  obtain ⟨A, n, c, rfl, _, _, g3, g4, g5, g6⟩ := Rd_node.1 ha
  obtain ⟨W0, hW⟩ : ∃ W0, w.alloc (.cells #[.int .i64 k, .int .i64 h, .slice A n c] 44) = W0 := ⟨_, rfl⟩
  have hb : Below w.heap.size w W0 := by rw [← hW]; exact (Below.refl _ _).alloc (Nat.le_refl _) _
  have x1 : Box W0 w.heap.size 44 #[.int .i64 k, .int .i64 h, .slice A n c] := by rw [← hW]; exact Box.new _ _ _
  obtain ⟨d0, d1, d2⟩ := x1.three
  have HB := Lib.hid hb
  rw [show kiV W (.node k h xs) cx = 0 by rw [h1, ki_sort]]
  subst h1
  clear hE hba hlen hk hp hb x1 ha g3 g4 g5 g6
  go_enter Tryz.func61, Tryz.ntmps61
  go_wp2_with fail
  try rw [hW]
  clear hW
  try go_wp2_with fail
  go_ret
  exact ⟨rfl, HB.out⟩
theorem eTypAll {W : WV} (a : T) : TpE 62 (tyV W) W a := by
  induction a using T.ind with
  | step k h xs ih =>
    by_cases h1 : k = 1
    · subst h1
      intro cx As ns cs Am nm cm Ac nc cc pw va w hE hba hlen hk hp ha
      obtain ⟨rfl, x, y, rfl, _, _⟩ := piV hba.nod
      obtain ⟨A, n, c, rfl, _⟩ := Rd_node.1 ha
      exact ePiTC (ih x (by simp)) (ih y (by simp)) cx As ns cs Am nm cm Ac nc cc pw A n c w hE hba hlen hk hp ha
    by_cases h2 : k = 2
    · subst h2
      intro cx As ns cs Am nm cm Ac nc cc pw va w hE hba hlen hk hp ha
      obtain ⟨A, n, c, rfl, _⟩ := Rd_node.1 ha
      exact eFamC cx As ns cs Am nm cm Ac nc cc pw A n c w hE hba hlen hk hp ha
    exact eTypNo h1 h2
theorem eKindAll {W : WV} (a : T) : TpE 61 (kiV W) W a := by
  induction a using T.ind with
  | step k h xs ih =>
    by_cases h0 : k = 0
    · exact eKindSort0 h0
    by_cases h1 : k = 1
    · subst h1
      intro cx As ns cs Am nm cm Ac nc cc pw va w hE hba hlen hk hp ha
      obtain ⟨rfl, x, y, rfl, _, _⟩ := piV hba.nod
      obtain ⟨A, n, c, rfl, _⟩ := Rd_node.1 ha
      exact ePiKC (eTypAll x) (ih y (by simp)) cx As ns cs Am nm cm Ac nc cc pw A n c w hE hba hlen hk hp ha
    exact eKindNo h0 h1
set_option maxRecDepth 100000 in
set_option maxHeartbeats 16000000 in
theorem eCheckTypeC (W : WV) (cx : List T) (m : T) (As : Option Addr) (ns cs : Nat) (Am : Option Addr) (nm cm : Nat) (Ac : Option Addr) (nc cc : Nat) (vm : Value) (w : World) (hk : CkV w W cx As ns cs Am nm cm Ac nc cc) (hm : Rd w m vm)
    (hL : LoV W cx) (hz : SzE W cx) (hnm : nd m ≤ 1048576) (hlm : myB m = true → okT loV m) :
    Calls Tryz.prog 37 #[.slice As ns cs, .slice Am nm cm, .slice Ac nc cc, vm] w fun e w' => e = .returned (.int .i64 (ckTy W cx m)) ∧ Below w.heap.size w w' := by
  obtain ⟨k, h, A, n, c, rfl⟩ := hm.full
  obtain ⟨W0, hW⟩ : ∃ W0, w.alloc (.cells #[.int .i64 k, .int .i64 h, .slice A n c] 44) = W0 := ⟨_, rfl⟩
  have hb : Below w.heap.size w W0 := by rw [← hW]; exact (Below.refl _ _).alloc (Nat.le_refl _) _
  have x0 : Box W0 w.heap.size 44 #[.int .i64 k, .int .i64 h, .slice A n c] := by rw [← hW]; exact Box.new _ _ _
  obtain ⟨W4, hW4⟩ : ∃ W4, W0.alloc (.cells #[.int .i64 k, .int .i64 h, .slice A n c] 44) = W4 := ⟨_, rfl⟩
  have hb4 : Below W0.heap.size W0 W4 := by rw [← hW4]; exact (Below.refl _ _).alloc (Nat.le_refl _) _
  have x4 : Box W4 W0.heap.size 44 #[.int .i64 k, .int .i64 h, .slice A n c] := by rw [← hW4]; exact Box.new _ _ _
  have hbw := hb.trans (hb4.mono hb.size)
  have HMY := Lib.hid (eMayC W cx [m] As Am Ac _ ns cs nm cm nc cc 1 1 W4 (hk.keep hbw).sg (hk.keep hbw).ms (hk.keep hbw).cx (clv_one x4 (Rd.keep hbw _ _ hm)) hz (fun t ht => by rw [List.mem_singleton.1 ht]; exact hnm))
  have X0 := Lib.hid (x0.keep hb4 x0.lt)
  have HB := Lib.hid hbw
  have HTM : Hid (mayV W cx [m] = true → ∀ (W' : World) (pw : Nat), Below W4.heap.size W4 W' → PwE W' pw As ns cs Am nm cm → Calls Tryz.prog 62 #[.pointer (some ⟨pw, 0, none⟩), .slice Ac nc cc, .agg #[.int .i64 k, .int .i64 h, .slice A n c]] W' (ByQ (tyV W m cx) W')) := Lib.hid fun hy W' pw h' hp => by
    obtain ⟨y1, y2, y3, y4, y5⟩ := (mayV_iff W cx [m]).1 hy
    have ym := y3 m (by simp)
    have hnd := ((myB_iff m).1 ym).2.1
    exact eTypAll m cx As ns cs Am nm cm Ac nc cc pw _ W' (env_of hL hy) ⟨ym, .inr (hlm ym)⟩ (by omega) (hk.keep (hbw.trans (h'.mono hbw.size))) hp (Rd.keep (hbw.trans (h'.mono hbw.size)) _ _ hm)
  obtain ⟨c0, c1, c2⟩ := x0.three
  have HCT : Hid (ckTy W cx m = if mayV W cx [m] = true then tyV W m cx else 1) := Lib.hid rfl
  generalize ckTy W cx m = R at *
  generalize tyV W m cx = S at *
  clear hk hm hL hlm hb hb4 hbw x0 x4 hz hnm
  generalize mayV W cx [m] = r at *
  go_enter Tryz.func37, Tryz.ntmps37
  go_wp2_with fail
  clear hW hW4
  refine HMY.out.mono ?_
  rintro e w1 ⟨rfl, hb1⟩
  have HB1 := Lib.hid (HB.out.trans (hb1.mono HB.out.size))
  cases r
  · have HC := Lib.hid (show 1 = R by rw [HCT.out]; rfl)
    clear hb1 HTM HCT
    go_wp2_with fail
    go_ret
    exact ⟨ret_int HC.out, HB1.out⟩
  · have HC := Lib.hid (show S = R by rw [HCT.out]; rfl)
    obtain ⟨W2, hW2⟩ : ∃ W2, w1.alloc (.cells #[.slice As ns cs, .slice Am nm cm] 84) = W2 := ⟨_, rfl⟩
    have hb2 : Below w1.heap.size w1 W2 := by rw [← hW2]; exact (Below.refl _ _).alloc (Nat.le_refl _) _
    have xw : PwE W2 w1.heap.size As ns cs Am nm cm := by rw [← hW2]; exact Box.new _ _ _
    have HT := Lib.hid (HTM.out rfl W2 w1.heap.size (hb1.trans (hb2.mono hb1.size)) xw)
    have HB2 := Lib.hid (HB1.out.trans (hb2.mono HB1.out.size))
    obtain ⟨p0, p1, p2⟩ := ((X0.out.keep hb1 X0.out.lt).keep hb2 (X0.out.keep hb1 X0.out.lt).lt).three
    clear hb1 HTM HCT hb2 xw
    subst hW2
    go_wp2_with fail
    refine HT.out.mono ?_
    rintro e w3 ⟨rfl, hb3⟩
    have HB3 := Lib.hid (HB2.out.trans (hb3.mono HB2.out.size))
    clear hb3 HT p0 p1 p2
    go_wp2_with fail
    go_ret
    exact ⟨ret_int HC.out, HB3.out⟩
set_option maxRecDepth 100000 in
set_option maxHeartbeats 16000000 in
theorem eCheckKindC (W : WV) (cx : List T) (m : T) (As : Option Addr) (ns cs : Nat) (Am : Option Addr) (nm cm : Nat) (Ac : Option Addr) (nc cc : Nat) (vm : Value) (w : World) (hk : CkV w W cx As ns cs Am nm cm Ac nc cc) (hm : Rd w m vm)
    (hL : LoV W cx) (hz : SzE W cx) (hnm : nd m ≤ 1048576) (hlm : myB m = true → okT loV m) :
    Calls Tryz.prog 36 #[.slice As ns cs, .slice Am nm cm, .slice Ac nc cc, vm] w fun e w' => e = .returned (.int .i64 (ckKi W cx m)) ∧ Below w.heap.size w w' := by
  obtain ⟨k, h, A, n, c, rfl⟩ := hm.full
  obtain ⟨W0, hW⟩ : ∃ W0, w.alloc (.cells #[.int .i64 k, .int .i64 h, .slice A n c] 44) = W0 := ⟨_, rfl⟩
  have hb : Below w.heap.size w W0 := by rw [← hW]; exact (Below.refl _ _).alloc (Nat.le_refl _) _
  have x0 : Box W0 w.heap.size 44 #[.int .i64 k, .int .i64 h, .slice A n c] := by rw [← hW]; exact Box.new _ _ _
  obtain ⟨W4, hW4⟩ : ∃ W4, W0.alloc (.cells #[.int .i64 k, .int .i64 h, .slice A n c] 44) = W4 := ⟨_, rfl⟩
  have hb4 : Below W0.heap.size W0 W4 := by rw [← hW4]; exact (Below.refl _ _).alloc (Nat.le_refl _) _
  have x4 : Box W4 W0.heap.size 44 #[.int .i64 k, .int .i64 h, .slice A n c] := by rw [← hW4]; exact Box.new _ _ _
  have hbw := hb.trans (hb4.mono hb.size)
  have HMY := Lib.hid (eMayC W cx [m] As Am Ac _ ns cs nm cm nc cc 1 1 W4 (hk.keep hbw).sg (hk.keep hbw).ms (hk.keep hbw).cx (clv_one x4 (Rd.keep hbw _ _ hm)) hz (fun t ht => by rw [List.mem_singleton.1 ht]; exact hnm))
  have X0 := Lib.hid (x0.keep hb4 x0.lt)
  have HB := Lib.hid hbw
  have HTM : Hid (mayV W cx [m] = true → ∀ (W' : World) (pw : Nat), Below W4.heap.size W4 W' → PwE W' pw As ns cs Am nm cm → Calls Tryz.prog 61 #[.pointer (some ⟨pw, 0, none⟩), .slice Ac nc cc, .agg #[.int .i64 k, .int .i64 h, .slice A n c]] W' (ByQ (kiV W m cx) W')) := Lib.hid fun hy W' pw h' hp => by
    obtain ⟨y1, y2, y3, y4, y5⟩ := (mayV_iff W cx [m]).1 hy
    have ym := y3 m (by simp)
    have hnd := ((myB_iff m).1 ym).2.1
    exact eKindAll m cx As ns cs Am nm cm Ac nc cc pw _ W' (env_of hL hy) ⟨ym, .inr (hlm ym)⟩ (by omega) (hk.keep (hbw.trans (h'.mono hbw.size))) hp (Rd.keep (hbw.trans (h'.mono hbw.size)) _ _ hm)
  obtain ⟨c0, c1, c2⟩ := x0.three
  have HCT : Hid (ckKi W cx m = if mayV W cx [m] = true then kiV W m cx else 1) := Lib.hid rfl
  generalize ckKi W cx m = R at *
  generalize kiV W m cx = S at *
  clear hk hm hL hlm hb hb4 hbw x0 x4 hz hnm
  generalize mayV W cx [m] = r at *
  go_enter Tryz.func36, Tryz.ntmps36
  go_wp2_with fail
  clear hW hW4
  refine HMY.out.mono ?_
  rintro e w1 ⟨rfl, hb1⟩
  have HB1 := Lib.hid (HB.out.trans (hb1.mono HB.out.size))
  cases r
  · have HC := Lib.hid (show 1 = R by rw [HCT.out]; rfl)
    clear hb1 HTM HCT
    go_wp2_with fail
    go_ret
    exact ⟨ret_int HC.out, HB1.out⟩
  · have HC := Lib.hid (show S = R by rw [HCT.out]; rfl)
    obtain ⟨W2, hW2⟩ : ∃ W2, w1.alloc (.cells #[.slice As ns cs, .slice Am nm cm] 84) = W2 := ⟨_, rfl⟩
    have hb2 : Below w1.heap.size w1 W2 := by rw [← hW2]; exact (Below.refl _ _).alloc (Nat.le_refl _) _
    have xw : PwE W2 w1.heap.size As ns cs Am nm cm := by rw [← hW2]; exact Box.new _ _ _
    have HT := Lib.hid (HTM.out rfl W2 w1.heap.size (hb1.trans (hb2.mono hb1.size)) xw)
    have HB2 := Lib.hid (HB1.out.trans (hb2.mono HB1.out.size))
    obtain ⟨p0, p1, p2⟩ := ((X0.out.keep hb1 X0.out.lt).keep hb2 (X0.out.keep hb1 X0.out.lt).lt).three
    clear hb1 HTM HCT hb2 xw
    subst hW2
    go_wp2_with fail
    refine HT.out.mono ?_
    rintro e w3 ⟨rfl, hb3⟩
    have HB3 := Lib.hid (HB2.out.trans (hb3.mono HB2.out.size))
    clear hb3 HT p0 p1 p2
    go_wp2_with fail
    go_ret
    exact ⟨ret_int HC.out, HB3.out⟩
end Go.Proofs.YtloeainlpcnhnaaGreat
