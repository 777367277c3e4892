/- Texts of one proof, put together. No statement is proved here. -/
import Derived.Test.YtbbjjdnnlnabaaaGreatPkNj
import Derived.Test.YtbbjjdnnlnabaaaGreatZt
namespace Go.Proofs.YtbbjjdnnlnabaaaGreat
open Go.ChangeShapes Go.WideShapes Go.ChangeAt Go.RowKit Go.Shelf
set_option linter.unusedVariables false
set_option linter.unusedSimpArgs false
set_option maxRecDepth 100000
set_option maxHeartbeats 16000000
attribute [local go_sem] Oper.semAt_some
theorem suC (sg : List T) (l : List MP) (ext : List T) (ds : List MP) (theta : List T) (As : Option Addr) (ns cs : Nat) (Am : Option Addr) (nm cm : Nat) (Ac : Option Addr) (nc cc : Nat) (Ad : Option Addr) (nd cd : Nat) (At : Option Addr) (nt ct : Nat) (w : World) (hs : DL w sg As ns cs) (hm : PL w l Am nm cm) (hx : CLV w ext Ac nc cc) (hd : PL w ds Ad nd cd) (ht : CLV w theta At nt ct)
    (hl : LoV ⟨sg, msP l⟩ ext) (hld : LoP ds) (hlt : LwV theta) (hnc : nc ≤ 1000000) :
    Calls Tryz.prog 15 #[.slice As ns cs, .slice Am nm cm, .slice Ac nc cc, .slice Ad nd cd, .slice At nt ct] w fun e w' => e = .returned (.int .i64 (suV sg l ext ds theta)) ∧ Below w.heap.size w w' := by
  have hcap := hd.cap
  have hle := hd.le
  unfold maxLen at hcap
  have HS := Lib.hid hs; clear hs
  have HM := Lib.hid hm; clear hm
  have HX := Lib.hid hx; clear hx
  have HD := Lib.hid hd; clear hd
  have HT := Lib.hid ht; clear ht
  have HL := Lib.hid hl; clear hl
  have HLD := Lib.hid hld; clear hld
  have HLT := Lib.hid hlt; clear hlt
  have hb2 : ∀ (a b : Obj), Below w.heap.size w ((w.alloc a).alloc b) := fun a b => ((Below.refl _ _).alloc (Nat.le_refl _) _).alloc (by simp) _
  by_cases hbig : 40 < nd
  · have d1 : decide ((40 : Int) < (nd : Int)) = true := by simp; omega
    have HE := Lib.hid (show suV sg l ext ds theta = 4 by unfold suV; rw [if_pos (by rw [HD.out.len]; omega)])
    have HB := Lib.hid (hb2 (.cells #[.slice Ad nd cd] 23) (.cells #[.int .i64 4] 29)); clear hb2
    go_enter Tryz.func15, Tryz.ntmps15
    go_wp2_with fail
    refine bodyPost_ret (v := .int .i64 4) (by simp [results, Tryz.results15, go_sem]) rfl ?_
    exact ⟨ret_int HE.out.symm, HB.out⟩
  have d1 : decide ((40 : Int) < (nd : Int)) = false := by simp; omega
  by_cases hnt : nt = nd
  case' neg =>
    have d2 : ((nt : Int) != (nd : Int)) = true := by simp; omega
    have HE := Lib.hid (show suV sg l ext ds theta = 3 by unfold suV; rw [if_neg (by rw [HD.out.len]; omega), if_neg (by rw [HD.out.len, HT.out.len]; exact hnt)])
    have HB := Lib.hid (hb2 (.cells #[.slice Ad nd cd] 23) (.cells #[.int .i64 3] 29)); clear hb2
    clear hnt
    go_enter Tryz.func15, Tryz.ntmps15
    go_wp2_with fail
    refine bodyPost_ret (v := .int .i64 3) (by simp [results, Tryz.results15, go_sem]) rfl ?_
    exact ⟨ret_int HE.out.symm, HB.out⟩
  clear hb2
  subst hnt
  have d2 : ((nt : Int) != (nt : Int)) = false := by simp
  have HE := Lib.hid (show suV sg l ext ds theta = (fiG (fun i t => plV ⟨sg, msP l⟩ l ext (theta.take i) (ds.getD i noMP) t) 0 theta).2 by unfold suV; rw [if_neg (by rw [HD.out.len]; omega), if_pos (by rw [HD.out.len, HT.out.len])])
  refine (callsIn_wide (n := 8)).1 (callsIn_of_wp_marks Tryz.func15 rfl trivial ?_ rfl)
  simp only [Tryz.ntmps15, List.size_toArray, List.length_cons, List.length_nil, Nat.reduceAdd, Nat.reduceSub, Array.replicate_succ, Array.replicate_zero, List.push_toArray, List.append_toArray, List.nil_append, List.cons_append]
  gi_wp2_with (refine ⟨trivial, ?_⟩; gi_at_call 23; refine (callsIn_wide.2 (eachTC _ _ _ _)).mono ?_; rintro e w' ⟨rfl, rfl⟩)
  obtain ⟨W0, hW0⟩ : ∃ W0, (((w.alloc (.cells #[.slice Ad nt cd] 23)).alloc (.cells #[.int .i64 0] 29)).alloc (.cells #[.slice As ns cs, .slice Am nm cm, .slice Ac nc cc] 51)).alloc (.cells #[.slice At nt ct] 24) = W0 := ⟨_, rfl⟩
  rw [hW0]
  have hbW : Below w.heap.size w W0 := by
    rw [← hW0]; exact ((((Below.refl _ w).alloc (Nat.le_refl _) _).alloc (by simp) _).alloc (by simp; omega) _).alloc (by simp; omega) _
  have bx0 : Box W0 w.heap.size 23 #[.slice Ad nt cd] := by
    rw [← hW0]; exact (((Box.new w _ _).alloc _).alloc _).alloc _
  have bx1 : Box W0 (w.heap.size + 1) 29 #[.int .i64 0] := by
    rw [← hW0]; exact (((Box.new (w.alloc _) _ _).at (b' := w.heap.size + 1) (by simp)).alloc _).alloc _
  have bx2 : Box W0 (w.heap.size + 1 + 1) 51 #[.slice As ns cs, .slice Am nm cm, .slice Ac nc cc] := by
    rw [← hW0]; exact ((Box.new ((w.alloc _).alloc _) _ _).at (b' := w.heap.size + 1 + 1) (by simp)).alloc _
  have bx3 : Box W0 (w.heap.size + 1 + 1 + 1) 24 #[.slice At nt ct] := by
    rw [← hW0]; exact (Box.new (((w.alloc _).alloc _).alloc _) _ _).at (b' := w.heap.size + 1 + 1 + 1) (by simp)
  clear hW0
  have hl3 := bx3.lt
  have HBX := Lib.hid (And.intro bx0 (And.intro bx1 bx2))
  have HBW := Lib.hid hbW
  refine wpIn_rangeFunc_ownH rfl (by omega) (gf := 34) (lb := #[.pointer (some ⟨w.heap.size + 1 + 1 + 1, 0, none⟩)]) rfl trivial (enters_of Tryz.func34 (by kernel_rfl) rfl)
    (eachTStops 7 w W0 theta At nt ct _ HT.out hbW bx3) (fun h k => h.trans k) (fun W l o o' h1 h2 h3 h4 => belowK_b (Nat.le_refl _) W l o o' h1 h2 h3 h4) (Below.refl _ _) (fun _ => rfl)
    (fun pre W => Below W0.heap.size W0 W ∧ Hid (∀ x ∈ pre, ∀ t, theta[x.i]? = some t → plV ⟨sg, msP l⟩ l ext (theta.take x.i) (ds.getD x.i noMP) t = 0))
    (fun cd pre W => cd = .ret ∧ Below w.heap.size w W ∧ ∃ e, Box W (w.heap.size + 1) 29 #[.int .i64 e] ∧ Hid (∃ pre' x t, pre = pre' ++ [x] ∧ (∀ y ∈ pre', ∀ t, theta[y.i]? = some t → plV ⟨sg, msP l⟩ l ext (theta.take y.i) (ds.getD y.i noMP) t = 0) ∧ theta[x.i]? = some t ∧ plV ⟨sg, msP l⟩ l ext (theta.take x.i) (ds.getD x.i noMP) t = e ∧ e ≠ 0))
    (fun s A B row hs hg hr => ⟨below_kept hs.1 hg hr (by omega) hs.1.size, hs.2⟩)
    (fun _ s A B row hs hg hr => by obtain ⟨h1, h2, e, h4, h5⟩ := hs; exact ⟨h1, below_kept h2 hg hr (by have := hbW.size; omega) h2.size, e, h4.kept hg hr, h5⟩) ⟨Below.refl _ _, Lib.hid fun x hx => by cases hx⟩
    (fun x a' W => ∃ By, W0.heap.size ≤ By ∧ Box W By 39 #[.int .i64 x.k, .int .i64 x.h, .slice x.A2 x.n2 x.c2] ∧ a' = { tmps := #[.slice As ns cs, .slice Am nm cm, .slice Ac nc cc, .slice Ad nt cd, .slice At nt ct, undef, undef, undef, .pointer (some ⟨w.heap.size, 0, none⟩), undef, .pointer (some ⟨w.heap.size + 1, 0, none⟩), .pointer (some ⟨w.heap.size + 1 + 1, 0, none⟩), .slice At x.i x.i, .pointer (some ⟨By, 0, none⟩), undef, .slice Ad nt cd, .int .i64 nt, .bool false, .slice At nt ct, .int .i64 nt, .slice Ad nt cd, .int .i64 nt, .bool false, .slice As ns cs, .slice Am nm cm, .slice Ac nc cc, .agg #[.slice As ns cs, .slice Am nm cm, .slice Ac nc cc], .slice At nt ct, .func (.func 34) #[] #[.pointer (some ⟨w.heap.size + 1 + 1 + 1, 0, none⟩)], .slice At x.i x.i, .agg #[.int .i64 x.k, .int .i64 x.h, .slice x.A2 x.n2 x.c2], undef, undef, undef, undef, undef, undef, undef, undef, undef, undef, undef, undef], defers := [] })
    (fun _ _ _ A B row hs hg hr => by obtain ⟨By, h2, h4, h5⟩ := hs; exact ⟨By, h2, h4.kept hg hr, h5⟩) ?assign ?body ?done ?stop
  case assign =>
    rintro l pre x W K ⟨hB, hM⟩ hK
    simp only [encT, List.zip_toArray, List.zip_cons_cons, List.zip_nil_right, List.foldl_toArray, List.foldl_cons, List.foldl_nil, List.setIfInBounds_toArray, List.set_cons_succ, List.set_cons_zero]
    gi_wp2
    have hsz := hB.size
    have hbA : Below W.heap.size W (W.alloc (.cells #[.int .i64 x.k, .int .i64 x.h, .slice x.A2 x.n2 x.c2] 39)) := (Below.refl _ _).alloc (Nat.le_refl _) _
    exact hK _ _ (keepsFrom_of_below hbA) (hbA.mono hsz) ⟨hB.trans (hbA.mono hsz), hM⟩ ⟨W.heap.size, by omega, Box.new _ _ _, rfl⟩
  case body =>
    rintro l0 pre x a' W hl ⟨r, hr⟩ ⟨hB, hM⟩ ⟨By, hBy, hbn, rfl⟩ _
    obtain ⟨t, ht, hrt⟩ := x.ok
    have hWb := HBW.out.trans (hB.mono HBW.out.size)
    have hil : x.i < nt := by have := (List.getElem?_eq_some_iff.1 ht).1; rw [HT.out.len] at this; exact this
    obtain ⟨d, hd⟩ := at_of HD.out.len hil
    obtain ⟨bb, ob, A1, n1, c1, k1, h1, A2, n2, c2, rfl, e0, e1, e2, e3, e4, hd1, hd2⟩ := (HD.out.at_ x.i d hd).keep hWb
    obtain ⟨l1, l2, l3⟩ := LoP.at_ HLD.out hd
    have hnl := hd1.len
    have hgd : ds.getD x.i noMP = d := by rw [List.getD_eq_getElem?_getD, hd]; rfl
    have hTT := (HT.out.take (Nat.le_of_lt hil)).keep hWb
    have HC := Lib.hid (fun (W' : World) (h' : Below W.heap.size W W') => plC sg l ext (theta.take x.i) d t As ns cs Am nm cm Ac nc cc At x.i x.i A1 n1 c1 k1 h1 A2 n2 c2 x.k x.h x.A2 x.n2 x.c2 W' (HS.out.keep (hWb.trans (h'.mono hWb.size))) (HM.out.keep (hWb.trans (h'.mono hWb.size))) (HX.out.keep (hWb.trans (h'.mono hWb.size)))
      (ThI.keep ⟨fun y hy hm => okT_mono (by unfold loV; omega) _ (HLT.out y (List.mem_of_mem_take hy) hm), hTT.len, Nat.le_refl _, by have := hTT.le; have := hTT.cap; omega, hTT.at_⟩ h') (hd1.keep h') (Rd.keep h' _ _ hd2) (Rd.keep (hWb.trans (h'.mono hWb.size)) _ _ hrt) HL.out l1 l2 (fun hm => HLT.out t (List.mem_of_getElem? ht) hm) (by omega) hnc)
    have HTT := Lib.hid ht
    obtain ⟨R, hR⟩ : ∃ R, plV ⟨sg, msP l⟩ l ext (theta.take x.i) d t = R := ⟨_, rfl⟩
    rw [hR] at HC
    have HR := Lib.hid (show plV ⟨sg, msP l⟩ l ext (theta.take x.i) (ds.getD x.i noMP) t = R by rw [hgd]; exact hR)
    have HBB := Lib.hid hB
    have HMM := Lib.hid hM.out
    have hi0 : (0 : Int) ≤ (x.i : Int) := by omega
    have hi1 : (x.i : Int) < (nt : Int) := by omega
    have b0 : W.cell? ⟨w.heap.size, 0, none⟩ = some (.slice (some ⟨bb, ob, none⟩) nt cd) := (HBX.out.1.keep hB HBX.out.1.lt).cell 0
    have p0 : W.cell? ⟨w.heap.size + 1 + 1, 0, none⟩ = some (.slice As ns cs) := (HBX.out.2.2.keep hB HBX.out.2.2.lt).cell 0
    have p1 : W.cell? ⟨w.heap.size + 1 + 1, 1, none⟩ = some (.slice Am nm cm) := (HBX.out.2.2.keep hB HBX.out.2.2.lt).cell 1
    have p2 : W.cell? ⟨w.heap.size + 1 + 1, 2, none⟩ = some (.slice Ac nc cc) := (HBX.out.2.2.keep hB HBX.out.2.2.lt).cell 2
    have q0 : W.cell? ⟨By, 0, none⟩ = some (.int .i64 x.k) := hbn.cell 0
    have q1 : W.cell? ⟨By, 1, none⟩ = some (.int .i64 x.h) := hbn.cell 1
    have q2 : W.cell? ⟨By, 2, none⟩ = some (.slice x.A2 x.n2 x.c2) := hbn.cell 2
    clear hd hd1 hd2 ht hrt l1 l2 l3 hnl hR hM hWb hgd hTT hbn
    gi_wp2_with fail
    have HKS : Hid (∀ w' : World, Below W.heap.size W w' → (fun w' => w'.cell? ⟨w.heap.size, 0, none⟩ = some (.slice (some ⟨bb, ob, none⟩) nt cd) ∧ w'.cell? ⟨w.heap.size + 1 + 1, 0, none⟩ = some (.slice As ns cs) ∧ w'.cell? ⟨w.heap.size + 1 + 1, 1, none⟩ = some (.slice Am nm cm) ∧ w'.cell? ⟨w.heap.size + 1 + 1, 2, none⟩ = some (.slice Ac nc cc) ∧ w'.cell? ⟨By, 0, none⟩ = some (.int .i64 x.k) ∧ w'.cell? ⟨By, 1, none⟩ = some (.int .i64 x.h) ∧ w'.cell? ⟨By, 2, none⟩ = some (.slice x.A2 x.n2 x.c2) ∧ w'.cell? ⟨bb, ob + x.i * 5, none⟩ = some (.slice A1 n1 c1) ∧ w'.cell? ⟨bb, ob + x.i * 5 + 1, none⟩ = some (.int .i64 k1) ∧ w'.cell? ⟨bb, ob + x.i * 5 + 2, none⟩ = some (.int .i64 h1) ∧ w'.cell? ⟨bb, ob + x.i * 5 + 3, none⟩ = some (.slice A2 n2 c2) ∧ w'.cell? ⟨bb, ob + x.i * 5 + 4, none⟩ = some (.bool d.2)) w') := Lib.hid fun w' h => ⟨(h.cell (cell_lt b0)).trans b0, (h.cell (cell_lt p0)).trans p0, (h.cell (cell_lt p1)).trans p1, (h.cell (cell_lt p2)).trans p2, (h.cell (cell_lt q0)).trans q0, (h.cell (cell_lt q1)).trans q1, (h.cell (cell_lt q2)).trans q2, (h.cell (cell_lt e0)).trans e0, (h.cell (cell_lt e1)).trans e1, (h.cell (cell_lt e2)).trans e2, (h.cell (cell_lt e3)).trans e3, (h.cell (cell_lt e4)).trans e4⟩
    have hbd : Below W.heap.size W W.drew := (Below.refl _ W).drew
    refine wpIn_region_heldN (S := fun w' => w'.cell? ⟨w.heap.size, 0, none⟩ = some (.slice (some ⟨bb, ob, none⟩) nt cd) ∧ w'.cell? ⟨w.heap.size + 1 + 1, 0, none⟩ = some (.slice As ns cs) ∧ w'.cell? ⟨w.heap.size + 1 + 1, 1, none⟩ = some (.slice Am nm cm) ∧ w'.cell? ⟨w.heap.size + 1 + 1, 2, none⟩ = some (.slice Ac nc cc) ∧ w'.cell? ⟨By, 0, none⟩ = some (.int .i64 x.k) ∧ w'.cell? ⟨By, 1, none⟩ = some (.int .i64 x.h) ∧ w'.cell? ⟨By, 2, none⟩ = some (.slice x.A2 x.n2 x.c2) ∧ w'.cell? ⟨bb, ob + x.i * 5, none⟩ = some (.slice A1 n1 c1) ∧ w'.cell? ⟨bb, ob + x.i * 5 + 1, none⟩ = some (.int .i64 k1) ∧ w'.cell? ⟨bb, ob + x.i * 5 + 2, none⟩ = some (.int .i64 h1) ∧ w'.cell? ⟨bb, ob + x.i * 5 + 3, none⟩ = some (.slice A2 n2 c2) ∧ w'.cell? ⟨bb, ob + x.i * 5 + 4, none⟩ = some (.bool d.2)) (fun h => by obtain ⟨_, _, h⟩ := h; exact h) (by kernel_rfl) (by kernel_rfl) (HKS.out _ hbd) (fun hS => ?_)
    simp only [List.size_toArray, List.length_cons, List.length_nil, Nat.reduceAdd]
    refine zzT (i := 0) (v := .agg #[.slice As ns cs, .slice Am nm cm, .slice Ac nc cc]) rfl hS ?_
    try simp only [Act.put, zzP]
    refine zzT (i := 1) (v := .slice At x.i x.i) rfl hS ?_
    try simp only [Act.put, zzP]
    refine zzT (i := 2) (v := .slice (some ⟨bb, ob, none⟩) nt cd) rfl hS ?_
    try simp only [Act.put, zzP]
    refine zzT (i := 3) (v := .slice At x.i x.i) rfl hS ?_
    try simp only [Act.put, zzP]
    refine zzT (i := 4) (v := .int .i64 x.i) rfl hS ?_
    try simp only [Act.put, zzP]
    refine zzT (i := 5) (v := .pointer (some ⟨bb, ob + x.i * 5, none⟩)) rfl hS ?_
    try simp only [Act.put, zzP]
    refine zzT (i := 6) (v := .agg #[.slice A1 n1 c1, .int .i64 k1, .int .i64 h1, .slice A2 n2 c2, .bool d.2]) rfl hS ?_
    try simp only [Act.put, zzP]
    refine zzT (i := 7) (v := .agg #[.int .i64 x.k, .int .i64 x.h, .slice x.A2 x.n2 x.c2]) rfl hS ?_
    try simp only [Act.put, zzP]
    refine wpAnyH_ready (rs := [8]) (by kernel_rfl) (by simp) ?_
    refine AllReadyH.cons rfl (fun KN hK => ?_) AllReadyH.nil
    go_simp
    refine (HC.out W.drew hbd).mono ?_
    rintro e w1 ⟨rfl, hb1⟩
    replace hbd : Below W.heap.size W w1 := hbd.trans (hb1.mono hbd.size)
    clear hb1
    refine hK.out _ _ (HKS.out _ hbd) (fun hS => ?_)
    clear hK KN
    try simp only [Act.put, zzP]
    refine zzT (i := 9) (v := .int .i64 R) rfl hS ?_
    try simp only [Act.put, zzP]
    refine wpAnyH_done (by kernel_rfl) ?_ _
    try simp only [List.setIfInBounds_toArray]
    try simp only [zzP]
    have hsz := HBB.out.size
    have HB1 := Lib.hid (HBB.out.trans (hbd.mono hsz))
    have HK1 := Lib.hid (keepsFrom_of_below (B := W0.heap.size) hbd)
    have HKp := Lib.hid (hbd.mono hsz)
    clear hS HKS hbd b0 p0 p1 p2 q0 q1 q2 e0 e1 e2 e3 e4 HC
    by_cases hz : R = 0
    · have dz : (R != 0) = false := by simpa using hz
      have HZ := Lib.hid hz; clear hz
      gi_wp2_with fail
      refine ⟨HK1.out, HKp.out, HB1.out, Lib.hid fun y hy t0 ht0 => ?_⟩
      rcases List.mem_append.1 hy with hy | hy
      · exact HMM.out y hy t0 ht0
      · rw [List.mem_singleton.1 hy] at ht0 ⊢
        rw [HTT.out] at ht0
        cases ht0
        rw [HR.out]; exact HZ.out
    · have dz : (R != 0) = true := by simpa using hz
      have HZ := Lib.hid hz; clear hz
      have y1 := HBX.out.2.1.keep HB1.out HBX.out.2.1.lt
      have Y1 := Lib.hid y1
      obtain ⟨c1', f1⟩ := y1.one
      have HB1w := Lib.hid (HBW.out.trans (HB1.out.mono HBW.out.size))
      clear y1
      gi_wp2_with fail
      refine ⟨HK1.out.trans ((KeepsOthers.setCell _ _ _).from _), rfl, HB1w.out.setCell (p := ⟨w.heap.size + 1, 0, none⟩) (by dsimp only; omega) _, R, Y1.out.set _, Lib.hid ⟨pre, x, t, rfl, HMM.out, HTT.out, HR.out, HZ.out⟩⟩
  case done =>
    rintro D ys W hD hS ⟨hB, hM⟩ hK
    have y1 := HBX.out.2.1.keep hB HBX.out.2.1.lt
    have hl1 := y1.lt
    obtain ⟨c1, f1⟩ := y1.one
    have z1 : Box (W.setCell ⟨w.heap.size + 1, 0, none⟩ (.int .i64 0)) (w.heap.size + 1) 29 #[.int .i64 0] := y1.set _
    have hBw : Below w.heap.size w (W.setCell ⟨w.heap.size + 1, 0, none⟩ (.int .i64 0)) := (HBW.out.trans (hB.mono HBW.out.size)).setCell (p := ⟨w.heap.size + 1, 0, none⟩) (by dsimp only; omega) _
    have hK' := (KeepsOthers.setCell W ⟨w.heap.size + 1, 0, none⟩ (.int .i64 0)).same D _ hK rfl
    have HF := Lib.hid (show (fiG (fun i t => plV ⟨sg, msP l⟩ l ext (theta.take i) (ds.getD i noMP) t) 0 theta).2 = 0 from (fiG_zero theta 0).2 fun j t hj => by
      have hjl := (List.getElem?_eq_some_iff.1 hj).1
      rw [HT.out.len] at hjl
      have hm0 : j ∈ ys.map (·.i) := by rw [hS]; exact List.mem_range.2 hjl
      obtain ⟨y, hy, hyi⟩ := List.mem_map.1 hm0
      have := hM.out y hy t (by rw [hyi]; exact hj)
      rw [hyi] at this
      rw [Nat.zero_add]
      exact this)
    clear hM y1
    gi_wp2_with fail
    have hB' := below_putObj hBw (show w.heap.size ≤ D by have := HBW.out.size; omega) (.deferred none)
    have e1 := (z1.kept (B := 0) (grownBy_putObj' _ D (.deferred none)) (fun r e => by cases e; exact ⟨Nat.zero_le _, _, hK', rfl⟩)).one
    refine ⟨by simp, .inl ⟨_, _, rfl, run_takeDeferred hK', ?_⟩⟩
    refine ⟨.int .i64 0, by simp [results, Tryz.results15, go_sem, e1.1], ret_int (by rw [HE.out, HF.out]), hB'⟩
  case stop =>
    rintro D cd0 pre W hD hS ⟨rfl, hBw, e, y1, hH⟩ hK
    have HF := Lib.hid (show (fiG (fun i t => plV ⟨sg, msP l⟩ l ext (theta.take i) (ds.getD i noMP) t) 0 theta).2 = e by
      obtain ⟨pre', x, t, rfl, hall, hti, hte, hne⟩ := hH.out
      have hlen : pre'.length = x.i := by
        rw [List.map_append, List.length_append, List.length_singleton, List.range_succ] at hS
        have := List.append_inj hS (by simp)
        have h2 : x.i = pre'.length := by simpa using this.2
        omega
      have := fiG_first (g := fun i t => plV ⟨sg, msP l⟩ l ext (theta.take i) (ds.getD i noMP) t) hne theta 0 x.i t (fun j t0 hj ht0 => by
        have hm0 : j ∈ pre'.map (·.i) := by
          rw [List.map_append, List.length_append, List.length_singleton, List.range_succ] at hS
          rw [(List.append_inj hS (by simp)).1]
          exact List.mem_range.2 (by omega)
        obtain ⟨y, hy, hyi⟩ := List.mem_map.1 hm0
        have := hall y hy t0 (by rw [hyi]; exact ht0)
        rw [hyi] at this
        rw [Nat.zero_add]
        exact this) hti (by rw [Nat.zero_add]; exact hte)
      rw [this])
    clear hH
    gi_wp2
    have hB' := below_putObj hBw (show w.heap.size ≤ D by have := HBW.out.size; omega) (.deferred none)
    have e1 := (y1.kept (B := 0) (grownBy_putObj' _ D (.deferred none)) (fun r e => by cases e; exact ⟨Nat.zero_le _, _, hK, rfl⟩)).one
    refine ⟨by simp, .inl ⟨_, _, rfl, run_takeDeferred hK, ?_⟩⟩
    refine ⟨.int .i64 e, by simp [results, Tryz.results15, go_sem, e1.1], ret_int (by rw [HE.out, HF.out]), hB'⟩
end Go.Proofs.YtbbjjdnnlnabaaaGreat
namespace Go.Proofs.YtbbjjdnnlnabaaaGreat
open Go.ChangeShapes Go.WideShapes Go.ChangeAt Go.RowKit
set_option linter.unusedVariables false
set_option linter.unusedSimpArgs false
set_option maxRecDepth 100000
set_option maxHeartbeats 8000000
theorem infoIntN : (Tryz.prog.info? 3).map (fun i => (i.zero, i.size, i.bytes)) = some (some (.int .i64 0), 1, 8) := by kernel_rfl
theorem infoBoolN : (Tryz.prog.info? 4).map (fun i => (i.zero, i.size, i.bytes)) = some (some (.bool false), 1, 1) := by kernel_rfl
def MkE (f : MP → Value) (ds : List MP) (n : Nat) (w : World) (e : Ending) (w' : World) : Prop :=
  ∃ q, e = .returned (.slice (some ⟨q, 0, none⟩) n n) ∧ (∀ i d, ds[i]? = some d → w'.cell? ⟨q, i, none⟩ = some (f d)) ∧ Below w.heap.size w w'
abbrev szF (d : MP) : Value := .int .i64 (d.1.1.length : Int)
abbrev paF (d : MP) : Value := .bool d.2
theorem szC (ds : List MP) (A : Option Addr) (n c : Nat) (w : World) (hx : PL w ds A n c) (hn : n ≤ 1000000) :
    Calls Tryz.prog 11 #[.slice A n c] w (MkE szF ds n w) := by
  have hmk : ∀ W : World, (Instr.makeSlice 32 (.int .i64 (n : Int)) (.int .i64 (n : Int))).run Tryz.prog W = .ok (.slice (some ⟨W.heap.size, 0, none⟩) n n) (W.alloc (.cells (madeCells #[.int .i64 0] n) 3)) := by
    intro W
    obtain ⟨i0, hi, hz0, hz1, hz2⟩ := info_parts infoIntN
    have := run_make W 32 3 i0 _ Tryz.underlying32 hi hz0 .i64 .i64 (n : Int) (n : Int) (by omega) (Int.le_refl _) (by rw [hz2]; omega) (by omega)
    rw [hz1] at this
    simpa [Value.cells] using this
  have hb0 : Below w.heap.size w (w.alloc (.cells (madeCells #[.int .i64 0] n) 3)) := (Below.refl _ w).alloc (Nat.le_refl _) _
  have x0 := Box.new w 3 (madeCells #[.int .i64 0] n)
  have hcs := size_madeCells #[.int .i64 0] n
  have hle := hx.le
  have hcap := hx.cap
  unfold maxLen at hcap
  have HX := Lib.hid hx; clear hx
  have H0 : Hid (∃ cs, Box (w.alloc (.cells (madeCells #[.int .i64 0] n) 3)) w.heap.size 3 cs ∧ cs.size = n ∧ ∀ i d, i < 0 → ds[i]? = some d → cs[i]? = some (szF d)) := Lib.hid ⟨_, x0, by rw [hcs], fun i d hi => by omega⟩
  have HB0 := Lib.hid hb0
  clear hb0 x0 hcs
  go_enter Tryz.func11, Tryz.ntmps11
  go_wp2_with fail
  generalize w.alloc (.cells (madeCells #[.int .i64 0] n) 3) = W0 at *
  go_loopw [11] (fun i wr => ∃ (j : Nat), j ≤ n ∧ i = .int .i64 j ∧ Hid (∃ cs, Box wr w.heap.size 3 cs ∧ cs.size = n ∧ ∀ i d, i < j → ds[i]? = some d → cs[i]? = some (szF d)) ∧ Hid (Below w.heap.size w wr)) (fun i _ => n - (Go.RowKit.intOf i).toNat)
  case atStart => exact ⟨0, Nat.zero_le _, rfl, H0, HB0⟩
  case round =>
    obtain ⟨j, hj, rfl, HC, HB⟩ := hrel
    by_cases hlt : j < n
    · obtain ⟨d, hd⟩ := at_of HX.out.len hlt
      obtain ⟨b, o, A1, n1, c1, k, g, A2, n2, c2, rfl, e0, e1, e2, e3, e4, hl, _⟩ := (HX.out.at_ j d hd).keep HB.out
      have hi0 : (0 : Int) ≤ j := by omega
      have hi1 : (j : Int) < n := by omega
      obtain ⟨cs, hb, hs, hc⟩ := HC.out
      have hbl := hb.lt
      have hln := hl.len
      obtain ⟨W1, hW1⟩ : ∃ W1, wr.alloc (.cells #[.slice A1 n1 c1, .int .i64 k, .int .i64 g, .slice A2 n2 c2, .bool d.2] 42) = W1 := ⟨_, rfl⟩
      have hbA : Below wr.heap.size wr W1 := by rw [← hW1]; exact (Below.refl _ _).alloc (Nat.le_refl _) _
      have z5 : Box W1 wr.heap.size 42 #[.slice A1 n1 c1, .int .i64 k, .int .i64 g, .slice A2 n2 c2, .bool d.2] := by rw [← hW1]; exact Box.new _ _ _
      have y0 : Box W1 w.heap.size 3 cs := hb.keep hbA hbl
      have a0 : W1.cell? ⟨wr.heap.size, 0, none⟩ = some (.slice A1 n1 c1) := z5.cell 0
      have a4 : W1.cell? ⟨wr.heap.size, 4, none⟩ = some (.bool d.2) := z5.cell 4
      obtain ⟨u, c0⟩ := y0.there (i := j) (by omega)
      have f0 := y0.frozen j
      have y1 := (hb.setAt j (.int .i64 (n1 : Int))).alloc (.cells #[.slice A1 n1 c1, .int .i64 k, .int .i64 g, .slice A2 n2 c2, .bool d.2] 42)
      have hb3 := HB.out.setCell (p := ⟨w.heap.size, j, none⟩) (by dsimp only; omega) (.int .i64 (n1 : Int))
      have HB2 := Lib.hid (hb3.alloc hb3.size (.cells #[.slice A1 n1 c1, .int .i64 k, .int .i64 g, .slice A2 n2 c2, .bool d.2] 42))
      clear hb3
      have HC2 : Hid (∃ cs', Box ((wr.setCell ⟨w.heap.size, j, none⟩ (.int .i64 (n1 : Int))).alloc (.cells #[.slice A1 n1 c1, .int .i64 k, .int .i64 g, .slice A2 n2 c2, .bool d.2] 42)) w.heap.size 3 cs' ∧ cs'.size = n ∧ ∀ i d, i < j + 1 → ds[i]? = some d → cs'[i]? = some (szF d)) := Lib.hid ⟨_, y1, by rw [Array.size_setIfInBounds, hs], fun i d' hi hd' => by
        by_cases hij : i = j
        · subst hij
          rw [hd] at hd'
          cases hd'
          rw [Array.getElem?_setIfInBounds_self_of_lt (by omega)]
          rw [szF, hln]
        · rw [Array.getElem?_setIfInBounds_ne (by omega)]
          exact hc i d' (by omega) hd'⟩
      clear hb hs hc hd hl hbA z5 y0 y1 HC HB
      subst hW1
      go_wp2_with fail
      go_roundw
      case rel => exact ⟨j + 1, by omega, by go_num, HC2, HB2⟩
      case measure => simp [Go.RowKit.intOf]; omega
    · have HE : Hid (∃ cs, Box wr w.heap.size 3 cs ∧ ∀ (i : Nat) (d : MP), ds[i]? = some d → cs[i]? = some (szF d)) := by
        obtain ⟨cs, hb, hs, hc⟩ := HC.out
        exact Lib.hid ⟨cs, hb, fun i d hd => hc i d (by have := (List.getElem?_eq_some_iff.1 hd).1; rw [HX.out.len] at this; omega) hd⟩
      clear HC
      go_wp2_with fail
      go_ret
      obtain ⟨cs, hb, hc⟩ := HE.out
      exact ⟨_, rfl, fun i d hd => by rw [hb.cell]; exact hc i d hd, HB.out⟩
theorem paC (ds : List MP) (A : Option Addr) (n c : Nat) (w : World) (hx : PL w ds A n c) (hn : n ≤ 1000000) :
    Calls Tryz.prog 13 #[.slice A n c] w (MkE paF ds n w) := by
  have hmk : ∀ W : World, (Instr.makeSlice 34 (.int .i64 (n : Int)) (.int .i64 (n : Int))).run Tryz.prog W = .ok (.slice (some ⟨W.heap.size, 0, none⟩) n n) (W.alloc (.cells (madeCells #[.bool false] n) 4)) := by
    intro W
    obtain ⟨i0, hi, hz0, hz1, hz2⟩ := info_parts infoBoolN
    have := run_make W 34 4 i0 _ Tryz.underlying34 hi hz0 .i64 .i64 (n : Int) (n : Int) (by omega) (Int.le_refl _) (by rw [hz2]; omega) (by omega)
    rw [hz1] at this
    simpa [Value.cells] using this
  have hb0 : Below w.heap.size w (w.alloc (.cells (madeCells #[.bool false] n) 4)) := (Below.refl _ w).alloc (Nat.le_refl _) _
  have x0 := Box.new w 4 (madeCells #[.bool false] n)
  have hcs := size_madeCells #[.bool false] n
  have hle := hx.le
  have hcap := hx.cap
  unfold maxLen at hcap
  have HX := Lib.hid hx; clear hx
  have H0 : Hid (∃ cs, Box (w.alloc (.cells (madeCells #[.bool false] n) 4)) w.heap.size 4 cs ∧ cs.size = n ∧ ∀ i d, i < 0 → ds[i]? = some d → cs[i]? = some (paF d)) := Lib.hid ⟨_, x0, by rw [hcs], fun i d hi => by omega⟩
  have HB0 := Lib.hid hb0
  clear hb0 x0 hcs
  go_enter Tryz.func13, Tryz.ntmps13
  go_wp2_with fail
  generalize w.alloc (.cells (madeCells #[.bool false] n) 4) = W0 at *
  go_loopw [11] (fun i wr => ∃ (j : Nat), j ≤ n ∧ i = .int .i64 j ∧ Hid (∃ cs, Box wr w.heap.size 4 cs ∧ cs.size = n ∧ ∀ i d, i < j → ds[i]? = some d → cs[i]? = some (paF d)) ∧ Hid (Below w.heap.size w wr)) (fun i _ => n - (Go.RowKit.intOf i).toNat)
  case atStart => exact ⟨0, Nat.zero_le _, rfl, H0, HB0⟩
  case round =>
    obtain ⟨j, hj, rfl, HC, HB⟩ := hrel
    by_cases hlt : j < n
    · obtain ⟨d, hd⟩ := at_of HX.out.len hlt
      obtain ⟨b, o, A1, n1, c1, k, g, A2, n2, c2, rfl, e0, e1, e2, e3, e4, hl, _⟩ := (HX.out.at_ j d hd).keep HB.out
      have hi0 : (0 : Int) ≤ j := by omega
      have hi1 : (j : Int) < n := by omega
      obtain ⟨cs, hb, hs, hc⟩ := HC.out
      have hbl := hb.lt
      have hln := hl.len
      obtain ⟨W1, hW1⟩ : ∃ W1, wr.alloc (.cells #[.slice A1 n1 c1, .int .i64 k, .int .i64 g, .slice A2 n2 c2, .bool d.2] 42) = W1 := ⟨_, rfl⟩
      have hbA : Below wr.heap.size wr W1 := by rw [← hW1]; exact (Below.refl _ _).alloc (Nat.le_refl _) _
      have z5 : Box W1 wr.heap.size 42 #[.slice A1 n1 c1, .int .i64 k, .int .i64 g, .slice A2 n2 c2, .bool d.2] := by rw [← hW1]; exact Box.new _ _ _
      have y0 : Box W1 w.heap.size 4 cs := hb.keep hbA hbl
      have a0 : W1.cell? ⟨wr.heap.size, 0, none⟩ = some (.slice A1 n1 c1) := z5.cell 0
      have a4 : W1.cell? ⟨wr.heap.size, 4, none⟩ = some (.bool d.2) := z5.cell 4
      obtain ⟨u, c0⟩ := y0.there (i := j) (by omega)
      have f0 := y0.frozen j
      have y1 := (hb.setAt j (.bool d.2)).alloc (.cells #[.slice A1 n1 c1, .int .i64 k, .int .i64 g, .slice A2 n2 c2, .bool d.2] 42)
      have hb3 := HB.out.setCell (p := ⟨w.heap.size, j, none⟩) (by dsimp only; omega) (.bool d.2)
      have HB2 := Lib.hid (hb3.alloc hb3.size (.cells #[.slice A1 n1 c1, .int .i64 k, .int .i64 g, .slice A2 n2 c2, .bool d.2] 42))
      clear hb3
      have HC2 : Hid (∃ cs', Box ((wr.setCell ⟨w.heap.size, j, none⟩ (.bool d.2)).alloc (.cells #[.slice A1 n1 c1, .int .i64 k, .int .i64 g, .slice A2 n2 c2, .bool d.2] 42)) w.heap.size 4 cs' ∧ cs'.size = n ∧ ∀ i d, i < j + 1 → ds[i]? = some d → cs'[i]? = some (paF d)) := Lib.hid ⟨_, y1, by rw [Array.size_setIfInBounds, hs], fun i d' hi hd' => by
        by_cases hij : i = j
        · subst hij
          rw [hd] at hd'
          cases hd'
          rw [Array.getElem?_setIfInBounds_self_of_lt (by omega)]
          try rfl
        · rw [Array.getElem?_setIfInBounds_ne (by omega)]
          exact hc i d' (by omega) hd'⟩
      clear hb hs hc hd hl hbA z5 y0 y1 HC HB
      subst hW1
      go_wp2_with fail
      go_roundw
      case rel => exact ⟨j + 1, by omega, by go_num, HC2, HB2⟩
      case measure => simp [Go.RowKit.intOf]; omega
    · have HE : Hid (∃ cs, Box wr w.heap.size 4 cs ∧ ∀ (i : Nat) (d : MP), ds[i]? = some d → cs[i]? = some (paF d)) := by
        obtain ⟨cs, hb, hs, hc⟩ := HC.out
        exact Lib.hid ⟨cs, hb, fun i d hd => hc i d (by have := (List.getElem?_eq_some_iff.1 hd).1; rw [HX.out.len] at this; omega) hd⟩
      clear HC
      go_wp2_with fail
      go_ret
      obtain ⟨cs, hb, hc⟩ := HE.out
      exact ⟨_, rfl, fun i d hd => by rw [hb.cell]; exact hc i d hd, HB.out⟩
end Go.Proofs.YtbbjjdnnlnabaaaGreat
