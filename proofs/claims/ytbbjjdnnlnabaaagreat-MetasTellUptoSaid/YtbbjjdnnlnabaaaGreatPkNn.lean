/- Texts of one proof, put together. No statement is proved here. -/
import Derived.Test.YtbbjjdnnlnabaaaGreatPkNl
import Derived.Test.YtbbjjdnnlnabaaaGreatPkY
import Derived.Test.YtbbjjdnnlnabaaaGreatZt
namespace Go.Proofs.YtbbjjdnnlnabaaaGreat
open Go.ChangeShapes Go.WideShapes Go.ChangeAt Go.RowKit
set_option linter.unusedVariables false
set_option linter.unusedSimpArgs false
set_option maxRecDepth 100000
set_option maxHeartbeats 16000000
theorem rd_kidN {w : World} {b : Nat} {ty : TypeId} {x : T} {k h k2 h2 : Int} {A : Option Addr} {n c : Nat} (hb : Box w b ty #[.int .i64 k2, .int .i64 h2, .slice A n c]) (hr : Rd w x (.agg #[.int .i64 k2, .int .i64 h2, .slice A n c])) (h1 : (Lit.int .i64 k).wf = true) (h2 : (Lit.int .i64 h).wf = true) :
    Rd w (.node k h [x]) (.agg #[.int .i64 k, .int .i64 h, .slice (some ⟨b, 0, none⟩) 1 1]) := Rd_node.2 ⟨_, 1, 1, rfl, h1, h2, rfl, Nat.le_refl _, by unfold maxLen; omega, rd_one (k := k) (h := h) hb hr⟩
def awD : List MP := [(([], natT), false)]
def awOne : T := .node 5 2 [.node 5 1 []]
theorem nw_a : suV natS [] [] awD [awOne] = 0 := by kernel_rfl
theorem nw_b : suV natS [] [] awD [.node 3 0 [awOne]] = 3 := by kernel_rfl
theorem nw_c : dcV natS awD = (0, 0) := by kernel_rfl
theorem low_con {k h : Int} {xs : List T} (hk : k ≠ 4) (hx : okL loV xs) : okT loV (.node k h xs) := by rw [okT]; exact ⟨fun e => absurd e hk, hx⟩
theorem low_one : okT loV awOne := low_con (by decide) (by rw [okL, okL]; exact ⟨low_con (by decide) (by rw [okL]; trivial), trivial⟩)
theorem awD_low : LoP awD := fun d hd => by
  rw [awD, List.mem_singleton] at hd
  subst hd
  exact ⟨LwV.nil, fun _ => low_leafY (by decide), by decide⟩
theorem nat_lo0 : LoV ⟨natS, msP []⟩ [] := ⟨nat_lw, (fun m hm => absurd hm (by simp [msP])), (fun t ht => by cases ht)⟩
theorem pl_nil (w : World) : PL w [] none 0 0 := ⟨rfl, Nat.le_refl _, Nat.zero_le _, fun i x hx => by simp at hx⟩
theorem nFewC (ds : List MP) (Am : Option Addr) (nm cm : Nat) (w : World) (hm : PL w ds Am nm cm) :
    Calls Tryz.prog 7 #[.slice Am nm cm] w fun e w' => e = .returned (.bool (fwV ⟨[], msP ds⟩ [] 0 nm)) ∧ Below w.heap.size w w' := by
  have HF := Lib.hid (vFewC ⟨[], msP ds⟩ [] none Am none 0 0 nm cm 0 0 w ⟨⟨rfl, Nat.le_refl _, Nat.zero_le _, fun i x hx => by simp at hx⟩, hm.ml, clv_nil _ _ _ (Nat.zero_le _)⟩)
  clear hm
  generalize fwV ⟨[], msP ds⟩ [] 0 nm = r at *
  go_enter Tryz.func7, Tryz.ntmps7
  go_wp2_with fail
  refine HF.out.mono ?_
  rintro e w1 ⟨rfl, hb1⟩
  have HB := Lib.hid hb1
  clear hb1 HF
  go_wp2_with fail
  go_ret
  exact ⟨rfl, HB.out⟩
theorem nAwakeC (w : World) : Calls Tryz.prog 5 #[] w fun e w' => e = .returned (.bool true) ∧ Below w.heap.size w w' := by
  obtain ⟨W1, hW1⟩ : ∃ W, w.alloc (.cells #[.slice none 0 0, .int .i64 2, .int .i64 0, .slice none 0 0, .bool false] 42) = W := ⟨_, rfl⟩
  obtain ⟨W2, hW2⟩ : ∃ W, W1.alloc (.cells #[.int .i64 5, .int .i64 1, .slice none 0 0] 39) = W := ⟨_, rfl⟩
  obtain ⟨wA, hW3⟩ : ∃ W, W2.alloc (.cells #[.int .i64 5, .int .i64 2, .slice (some ⟨w.heap.size + 1, 0, none⟩) 1 1] 39) = W := ⟨_, rfl⟩
  have g1 : Below w.heap.size w W1 := by rw [← hW1]; exact (Below.refl _ _).alloc (Nat.le_refl _) _
  have g2 : Below W1.heap.size W1 W2 := by rw [← hW2]; exact (Below.refl _ _).alloc (Nat.le_refl _) _
  have g3 : Below W2.heap.size W2 wA := by rw [← hW3]; exact (Below.refl _ _).alloc (Nat.le_refl _) _
  have x1 : Box W1 w.heap.size 42 #[.slice none 0 0, .int .i64 2, .int .i64 0, .slice none 0 0, .bool false] := by rw [← hW1]; exact Box.new _ _ _
  have l1 : W1.heap.size = w.heap.size + 1 := by rw [← hW1]; simp
  have l2 : W2.heap.size = w.heap.size + 1 + 1 := by rw [← hW2, World.size_alloc, l1]
  have x2 : Box W2 (w.heap.size + 1) 39 #[.int .i64 5, .int .i64 1, .slice none 0 0] := by rw [← hW2]; exact (Box.new _ _ _).at l1
  have x3 : Box wA (w.heap.size + 1 + 1) 39 #[.int .i64 5, .int .i64 2, .slice (some ⟨w.heap.size + 1, 0, none⟩) 1 1] := by rw [← hW3]; exact (Box.new _ _ _).at l2
  have leaf : ∀ (W' : World) (k h : Int), 0 ≤ k → k ≤ 1000 → 0 ≤ h → h ≤ 1000 → Rd W' (.node k h []) (.agg #[.int .i64 k, .int .i64 h, .slice none 0 0]) := fun W' k h a b c d => rd_leaf (wfV a b) (wfV c d)
  have g23 := g2.trans (g3.mono g2.size)
  have HPD := Lib.hid (show PL wA awD (some ⟨w.heap.size, 0, none⟩) 1 1 from ⟨rfl, Nat.le_refl _, by unfold maxLen; omega, fun i x hx => by
    have x1' := x1.keep g23 x1.lt
    match i, hx with
    | 0, hx => cases hx; exact ⟨_, 0, none, 0, 0, 2, 0, none, 0, 0, rfl, x1'.cell 0, x1'.cell 1, x1'.cell 2, x1'.cell 3, x1'.cell 4, clv_nil _ _ _ (Nat.zero_le _), leaf _ 2 0 (by omega) (by omega) (by omega) (by omega)⟩
    | i + 1, hx => simp [awD] at hx⟩)
  have HR1 := Lib.hid (show Rd wA awOne (.agg #[.int .i64 5, .int .i64 2, .slice (some ⟨w.heap.size + 1, 0, none⟩) 1 1]) from rd_kidN (x2.keep g3 x2.lt) (leaf _ 5 1 (by omega) (by omega) (by omega) (by omega)) (wfV (by omega) (by omega)) (wfV (by omega) (by omega)))
  have HB := Lib.hid (g1.trans (g23.mono g1.size))
  have XO := Lib.hid x3
  obtain ⟨o0, o1, o2⟩ := x3.three
  have HSZ := Lib.hid l1
  have HSZ2 := Lib.hid l2
  clear x1 x2 x3 g1 g2 g3 g23 l1 l2 leaf
  go_enter Tryz.func5, Tryz.ntmps5
  subst hW1
  subst hW2
  go_wp2_with fail
  simp only [World.size_alloc] at HSZ HSZ2
  try simp only [World.size_alloc]
  try rw [hW3]
  clear hW3
  obtain ⟨Bd, hBd⟩ : ∃ b, w.heap.size = b := ⟨_, rfl⟩
  obtain ⟨Bz, hBz⟩ : ∃ b, w.heap.size + 1 = b := ⟨_, rfl⟩
  obtain ⟨Bo, hBo⟩ : ∃ b, w.heap.size + 1 + 1 = b := ⟨_, rfl⟩
  have HBB := Lib.hid HB.out
  clear HB HSZ HSZ2
  try rw [hBo] at o0 o1 o2 XO
  try rw [hBo]
  rw [hBz] at HR1 o2 XO
  try rw [hBz]
  rw [hBd] at HPD
  try rw [hBd]
  clear hBo hBz hBd
  have HKS : Hid (∀ w' : World, Below wA.heap.size wA w' → (fun w' => w'.cell? ⟨Bo, 0, none⟩ = some (.int .i64 5) ∧ w'.cell? ⟨Bo, 1, none⟩ = some (.int .i64 2) ∧ w'.cell? ⟨Bo, 2, none⟩ = some (.slice (some ⟨Bz, 0, none⟩) 1 1)) w') := Lib.hid fun w' h => ⟨(h.cell (cell_lt o0)).trans o0, (h.cell (cell_lt o1)).trans o1, (h.cell (cell_lt o2)).trans o2⟩
  have hbd : Below wA.heap.size wA wA.drew := (Below.refl _ wA).drew
  refine zzR HKS hbd (fun hS => ?_)
  simp only [List.size_toArray, List.length_cons, List.length_nil, Nat.reduceAdd]
  refine zzT (i := 1) (v := .slice (some ⟨Bd, 0, none⟩) 1 1) rfl hS ?_
  try simp only [Act.put, zzP]
  refine zzT (i := 2) (v := .agg #[.int .i64 5, .int .i64 2, .slice (some ⟨Bz, 0, none⟩) 1 1]) rfl hS ?_
  try simp only [Act.put, zzP]
  refine wpAnyH_ready (rs := [0, 3]) (by kernel_rfl) (by simp) ?_
  refine AllReadyH.cons rfl (fun KN hK => ?_) (AllReadyH.cons rfl (fun KN hK => ?_) AllReadyH.nil)
  · go_simp
    refine (vNatC _).mono ?_
    rintro e v0 ⟨q, rfl, hdl, hb6⟩
    have hbn : Below wA.heap.size wA v0 := hbd.trans (hb6.mono hbd.size)
    refine hK.out _ _ (HKS.out _ hbn) (fun hS => ?_)
    clear hK KN
    try simp only [Act.put, zzP]
    replace hbd := hbn
    clear hbn hb6
    refine wpAnyH_ready (rs := [3]) (by kernel_rfl) (by simp) ?_
    refine AllReadyH.cons rfl (fun KN hK => ?_) AllReadyH.nil
    go_simp
    have hbn : Below wA.heap.size wA (v0.alloc (.cells #[.int .i64 5, .int .i64 2, .slice (some ⟨Bz, 0, none⟩) 1 1] 39)) := hbd.alloc hbd.size _
    refine hK.out _ _ (HKS.out _ hbn) (fun hS => ?_)
    clear hK KN
    try simp only [Act.put, zzP]
    have z1 : Box (v0.alloc (.cells #[.int .i64 5, .int .i64 2, .slice (some ⟨Bz, 0, none⟩) 1 1] 39)) v0.heap.size 39 #[.int .i64 5, .int .i64 2, .slice (some ⟨Bz, 0, none⟩) 1 1] := Box.new _ _ _
    have hst : Below v0.heap.size v0 (v0.alloc (.cells #[.int .i64 5, .int .i64 2, .slice (some ⟨Bz, 0, none⟩) 1 1] 39)) := (Below.refl _ _).alloc (Nat.le_refl _) _
    replace hdl := hdl.keep hst
    clear hst
    obtain ⟨P1, hP10⟩ : ∃ p, v0.heap.size = p := ⟨_, rfl⟩
    rw [hP10] at z1
    try rw [hP10]
    clear hP10
    generalize v0.alloc (.cells #[.int .i64 5, .int .i64 2, .slice (some ⟨Bz, 0, none⟩) 1 1] 39) = v1 at *
    replace hbd := hbn
    clear hbn
    refine wpAnyH_ready (rs := [4]) (by kernel_rfl) (by simp) ?_
    refine AllReadyH.cons rfl (fun KN hK => ?_) AllReadyH.nil
    go_simp
    have HSU := suC natS [] [] awD [awOne] (some ⟨q, 0, none⟩) 3 3 none 0 0 none 0 0 (some ⟨Bd, 0, none⟩) 1 1 (some ⟨P1, 0, none⟩) 1 1 v1 hdl (pl_nil _) (clv_nil _ _ _ (Nat.zero_le _)) (HPD.out.keep hbd) (clv_one z1 (Rd.keep hbd _ _ HR1.out)) nat_lo0 awD_low (fun t ht _ => by rw [List.mem_singleton.1 ht]; exact low_one) (by omega)
    rw [nw_a] at HSU
    refine HSU.mono ?_
    rintro e wB ⟨rfl, hb9⟩
    replace hbd : Below wA.heap.size wA wB := hbd.trans (hb9.mono hbd.size)
    clear hb9 HSU hdl z1
    refine hK.out _ _ (HKS.out _ hbd) (fun hS => ?_)
    clear hK KN
    try simp only [Act.put, zzP]
    refine zzT (i := 5) (v := .int .i64 0) rfl hS ?_
    try simp only [Act.put, zzP]
    refine wpAnyH_done (by kernel_rfl) ?_ _
    try simp only [List.setIfInBounds_toArray]
    try simp only [zzP]
    replace HBB := Lib.hid (HBB.out.trans (hbd.mono HBB.out.size))
    replace HPD := Lib.hid (HPD.out.keep hbd)
    replace HR1 := Lib.hid (Rd.keep hbd _ _ HR1.out)
    replace XO := Lib.hid (XO.out.keep hbd XO.out.lt)
    clear o0 o1 o2 hS HKS hbd
    obtain ⟨o0, o1, o2⟩ := XO.out.three
    go_wp2_with fail
    have HKS : Hid (∀ w' : World, Below wB.heap.size wB w' → (fun w' => w'.cell? ⟨Bo, 0, none⟩ = some (.int .i64 5) ∧ w'.cell? ⟨Bo, 1, none⟩ = some (.int .i64 2) ∧ w'.cell? ⟨Bo, 2, none⟩ = some (.slice (some ⟨Bz, 0, none⟩) 1 1)) w') := Lib.hid fun w' h => ⟨(h.cell (cell_lt o0)).trans o0, (h.cell (cell_lt o1)).trans o1, (h.cell (cell_lt o2)).trans o2⟩
    have hbd : Below wB.heap.size wB wB.drew := (Below.refl _ wB).drew
    refine zzR HKS hbd (fun hS => ?_)
    simp only [List.size_toArray, List.length_cons, List.length_nil, Nat.reduceAdd]
    refine zzT (i := 1) (v := .slice (some ⟨Bd, 0, none⟩) 1 1) rfl hS ?_
    try simp only [Act.put, zzP]
    refine zzT (i := 2) (v := .agg #[.int .i64 5, .int .i64 2, .slice (some ⟨Bz, 0, none⟩) 1 1]) rfl hS ?_
    try simp only [Act.put, zzP]
    refine wpAnyH_ready (rs := [0, 3]) (by kernel_rfl) (by simp) ?_
    refine AllReadyH.cons rfl (fun KN hK => ?_) (AllReadyH.cons rfl (fun KN hK => ?_) AllReadyH.nil)
    · go_simp
      refine (vNatC _).mono ?_
      rintro e v0 ⟨q, rfl, hdl, hb6⟩
      have hbn : Below wB.heap.size wB v0 := hbd.trans (hb6.mono hbd.size)
      refine hK.out _ _ (HKS.out _ hbn) (fun hS => ?_)
      clear hK KN
      try simp only [Act.put, zzP]
      replace hbd := hbn
      clear hbn hb6
      refine wpAnyH_ready (rs := [3]) (by kernel_rfl) (by simp) ?_
      refine AllReadyH.cons rfl (fun KN hK => ?_) AllReadyH.nil
      go_simp
      have hbn : Below wB.heap.size wB (v0.alloc (.cells #[.int .i64 5, .int .i64 2, .slice (some ⟨Bz, 0, none⟩) 1 1] 39)) := hbd.alloc hbd.size _
      refine hK.out _ _ (HKS.out _ hbn) (fun hS => ?_)
      clear hK KN
      try simp only [Act.put, zzP]
      have z1 : Box (v0.alloc (.cells #[.int .i64 5, .int .i64 2, .slice (some ⟨Bz, 0, none⟩) 1 1] 39)) v0.heap.size 39 #[.int .i64 5, .int .i64 2, .slice (some ⟨Bz, 0, none⟩) 1 1] := Box.new _ _ _
      have hst : Below v0.heap.size v0 (v0.alloc (.cells #[.int .i64 5, .int .i64 2, .slice (some ⟨Bz, 0, none⟩) 1 1] 39)) := (Below.refl _ _).alloc (Nat.le_refl _) _
      replace hdl := hdl.keep hst
      clear hst
      obtain ⟨P1, hP10⟩ : ∃ p, v0.heap.size = p := ⟨_, rfl⟩
      rw [hP10] at z1
      try rw [hP10]
      clear hP10
      generalize v0.alloc (.cells #[.int .i64 5, .int .i64 2, .slice (some ⟨Bz, 0, none⟩) 1 1] 39) = v1 at *
      replace hbd := hbn
      clear hbn
      refine zzT (i := 4) (v := .agg #[.int .i64 3, .int .i64 0, .slice (some ⟨P1, 0, none⟩) 1 1]) rfl hS ?_
      try simp only [Act.put, zzP]
      refine wpAnyH_ready (rs := [5]) (by kernel_rfl) (by simp) ?_
      refine AllReadyH.cons rfl (fun KN hK => ?_) AllReadyH.nil
      go_simp
      have hbn : Below wB.heap.size wB (v1.alloc (.cells #[.int .i64 3, .int .i64 0, .slice (some ⟨P1, 0, none⟩) 1 1] 39)) := hbd.alloc hbd.size _
      refine hK.out _ _ (HKS.out _ hbn) (fun hS => ?_)
      clear hK KN
      try simp only [Act.put, zzP]
      have z2 : Box (v1.alloc (.cells #[.int .i64 3, .int .i64 0, .slice (some ⟨P1, 0, none⟩) 1 1] 39)) v1.heap.size 39 #[.int .i64 3, .int .i64 0, .slice (some ⟨P1, 0, none⟩) 1 1] := Box.new _ _ _
      have hst : Below v1.heap.size v1 (v1.alloc (.cells #[.int .i64 3, .int .i64 0, .slice (some ⟨P1, 0, none⟩) 1 1] 39)) := (Below.refl _ _).alloc (Nat.le_refl _) _
      replace hdl := hdl.keep hst
      replace z1 := z1.keep hst z1.lt
      clear hst
      obtain ⟨P2, hP20⟩ : ∃ p, v1.heap.size = p := ⟨_, rfl⟩
      rw [hP20] at z2
      try rw [hP20]
      clear hP20
      generalize v1.alloc (.cells #[.int .i64 3, .int .i64 0, .slice (some ⟨P1, 0, none⟩) 1 1] 39) = v2 at *
      replace hbd := hbn
      clear hbn
      refine wpAnyH_ready (rs := [6]) (by kernel_rfl) (by simp) ?_
      refine AllReadyH.cons rfl (fun KN hK => ?_) AllReadyH.nil
      go_simp
      have HSU := suC natS [] [] awD [.node 3 0 [awOne]] (some ⟨q, 0, none⟩) 3 3 none 0 0 none 0 0 (some ⟨Bd, 0, none⟩) 1 1 (some ⟨P2, 0, none⟩) 1 1 v2 hdl (pl_nil _) (clv_nil _ _ _ (Nat.zero_le _)) (HPD.out.keep hbd) (clv_one z2 (rd_kidN z1 (Rd.keep hbd _ _ HR1.out) (wfV (by omega) (by omega)) (wfV (by omega) (by omega)))) nat_lo0 awD_low (fun t ht _ => by rw [List.mem_singleton.1 ht]; exact low_con (by decide) (by rw [okL, okL]; exact ⟨low_one, trivial⟩)) (by omega)
      rw [nw_b] at HSU
      refine HSU.mono ?_
      rintro e wC ⟨rfl, hb9⟩
      replace hbd : Below wB.heap.size wB wC := hbd.trans (hb9.mono hbd.size)
      clear hb9 HSU hdl z1 z2
      refine hK.out _ _ (HKS.out _ hbd) (fun hS => ?_)
      clear hK KN
      try simp only [Act.put, zzP]
      refine zzT (i := 7) (v := .int .i64 3) rfl hS ?_
      try simp only [Act.put, zzP]
      refine wpAnyH_done (by kernel_rfl) ?_ _
      try simp only [List.setIfInBounds_toArray]
      try simp only [zzP]
      replace HBB := Lib.hid (HBB.out.trans (hbd.mono HBB.out.size))
      replace HPD := Lib.hid (HPD.out.keep hbd)
      replace HR1 := Lib.hid (Rd.keep hbd _ _ HR1.out)
      replace XO := Lib.hid (XO.out.keep hbd XO.out.lt)
      clear o0 o1 o2 hS HKS hbd
      clear XO HR1
      go_wp2_with fail
      refine (vNatC _).mono ?_
      rintro e wD ⟨q, rfl, hdl, hb6⟩
      replace HBB := Lib.hid (HBB.out.trans (hb6.mono HBB.out.size))
      replace HPD := Lib.hid (HPD.out.keep hb6)
      have HDL := Lib.hid hdl
      clear hb6 hdl
      go_wp2_with fail
      have HDC := Lib.hid (dcC natS awD (some ⟨q, 0, none⟩) 3 3 (some ⟨Bd, 0, none⟩) 1 1 wD HDL.out HPD.out nat_lw awD_low)
      rw [nw_c] at HDC
      refine HDC.out.mono ?_
      rintro e wE ⟨rfl, hb7⟩
      replace HBB := Lib.hid (HBB.out.trans (hb7.mono HBB.out.size))
      replace HPD := Lib.hid (HPD.out.keep hb7)
      clear hb7 HDC HDL
      go_wp2_with fail
      refine (szC awD _ 1 1 wE HPD.out (by omega)).mono ?_
      rintro e wG ⟨q2, rfl, _, hb8⟩
      replace HBB := Lib.hid (HBB.out.trans (hb8.mono HBB.out.size))
      clear hb8 HPD
      go_wp2_with fail
      go_ret
      exact ⟨rfl, HBB.out⟩
    · go_simp
      have hbn : Below wB.heap.size wB ((wB.alloc (.cells #[.int .i64 5, .int .i64 2, .slice (some ⟨Bz, 0, none⟩) 1 1] 39)).drew) := ((Below.refl _ wB).alloc (Nat.le_refl _) _).drew
      refine hK.out _ _ (HKS.out _ hbn) (fun hS => ?_)
      clear hK KN
      try simp only [Act.put, zzP]
      have z1 : Box ((wB.alloc (.cells #[.int .i64 5, .int .i64 2, .slice (some ⟨Bz, 0, none⟩) 1 1] 39)).drew) wB.heap.size 39 #[.int .i64 5, .int .i64 2, .slice (some ⟨Bz, 0, none⟩) 1 1] := Box.drewI (Box.new _ _ _)
      obtain ⟨P1, hP10⟩ : ∃ p, wB.heap.size = p := ⟨_, rfl⟩
      rw [hP10] at z1
      try rw [hP10]
      clear hP10
      generalize (wB.alloc (.cells #[.int .i64 5, .int .i64 2, .slice (some ⟨Bz, 0, none⟩) 1 1] 39)).drew = v0 at *
      replace hbd := hbn
      clear hbn
      refine zzT (i := 4) (v := .agg #[.int .i64 3, .int .i64 0, .slice (some ⟨P1, 0, none⟩) 1 1]) rfl hS ?_
      try simp only [Act.put, zzP]
      refine wpAnyH_ready (rs := [0, 5]) (by kernel_rfl) (by simp) ?_
      refine AllReadyH.cons rfl (fun KN hK => ?_) (AllReadyH.cons rfl (fun KN hK => ?_) AllReadyH.nil)
      · go_simp
        refine (vNatC _).mono ?_
        rintro e v1 ⟨q, rfl, hdl, hb6⟩
        have hbn : Below wB.heap.size wB v1 := hbd.trans (hb6.mono hbd.size)
        refine hK.out _ _ (HKS.out _ hbn) (fun hS => ?_)
        clear hK KN
        try simp only [Act.put, zzP]
        replace z1 := z1.keep hb6 z1.lt
        replace hbd := hbn
        clear hbn hb6
        refine wpAnyH_ready (rs := [5]) (by kernel_rfl) (by simp) ?_
        refine AllReadyH.cons rfl (fun KN hK => ?_) AllReadyH.nil
        go_simp
        have hbn : Below wB.heap.size wB (v1.alloc (.cells #[.int .i64 3, .int .i64 0, .slice (some ⟨P1, 0, none⟩) 1 1] 39)) := hbd.alloc hbd.size _
        refine hK.out _ _ (HKS.out _ hbn) (fun hS => ?_)
        clear hK KN
        try simp only [Act.put, zzP]
        have z2 : Box (v1.alloc (.cells #[.int .i64 3, .int .i64 0, .slice (some ⟨P1, 0, none⟩) 1 1] 39)) v1.heap.size 39 #[.int .i64 3, .int .i64 0, .slice (some ⟨P1, 0, none⟩) 1 1] := Box.new _ _ _
        have hst : Below v1.heap.size v1 (v1.alloc (.cells #[.int .i64 3, .int .i64 0, .slice (some ⟨P1, 0, none⟩) 1 1] 39)) := (Below.refl _ _).alloc (Nat.le_refl _) _
        replace hdl := hdl.keep hst
        replace z1 := z1.keep hst z1.lt
        clear hst
        obtain ⟨P2, hP20⟩ : ∃ p, v1.heap.size = p := ⟨_, rfl⟩
        rw [hP20] at z2
        try rw [hP20]
        clear hP20
        generalize v1.alloc (.cells #[.int .i64 3, .int .i64 0, .slice (some ⟨P1, 0, none⟩) 1 1] 39) = v2 at *
        replace hbd := hbn
        clear hbn
        refine wpAnyH_ready (rs := [6]) (by kernel_rfl) (by simp) ?_
        refine AllReadyH.cons rfl (fun KN hK => ?_) AllReadyH.nil
        go_simp
        have HSU := suC natS [] [] awD [.node 3 0 [awOne]] (some ⟨q, 0, none⟩) 3 3 none 0 0 none 0 0 (some ⟨Bd, 0, none⟩) 1 1 (some ⟨P2, 0, none⟩) 1 1 v2 hdl (pl_nil _) (clv_nil _ _ _ (Nat.zero_le _)) (HPD.out.keep hbd) (clv_one z2 (rd_kidN z1 (Rd.keep hbd _ _ HR1.out) (wfV (by omega) (by omega)) (wfV (by omega) (by omega)))) nat_lo0 awD_low (fun t ht _ => by rw [List.mem_singleton.1 ht]; exact low_con (by decide) (by rw [okL, okL]; exact ⟨low_one, trivial⟩)) (by omega)
        rw [nw_b] at HSU
        refine HSU.mono ?_
        rintro e wC ⟨rfl, hb9⟩
        replace hbd : Below wB.heap.size wB wC := hbd.trans (hb9.mono hbd.size)
        clear hb9 HSU hdl z1 z2
        refine hK.out _ _ (HKS.out _ hbd) (fun hS => ?_)
        clear hK KN
        try simp only [Act.put, zzP]
        refine zzT (i := 7) (v := .int .i64 3) rfl hS ?_
        try simp only [Act.put, zzP]
        refine wpAnyH_done (by kernel_rfl) ?_ _
        try simp only [List.setIfInBounds_toArray]
        try simp only [zzP]
        replace HBB := Lib.hid (HBB.out.trans (hbd.mono HBB.out.size))
        replace HPD := Lib.hid (HPD.out.keep hbd)
        replace HR1 := Lib.hid (Rd.keep hbd _ _ HR1.out)
        replace XO := Lib.hid (XO.out.keep hbd XO.out.lt)
        clear o0 o1 o2 hS HKS hbd
        clear XO HR1
        go_wp2_with fail
        refine (vNatC _).mono ?_
        rintro e wD ⟨q, rfl, hdl, hb6⟩
        replace HBB := Lib.hid (HBB.out.trans (hb6.mono HBB.out.size))
        replace HPD := Lib.hid (HPD.out.keep hb6)
        have HDL := Lib.hid hdl
        clear hb6 hdl
        go_wp2_with fail
        have HDC := Lib.hid (dcC natS awD (some ⟨q, 0, none⟩) 3 3 (some ⟨Bd, 0, none⟩) 1 1 wD HDL.out HPD.out nat_lw awD_low)
        rw [nw_c] at HDC
        refine HDC.out.mono ?_
        rintro e wE ⟨rfl, hb7⟩
        replace HBB := Lib.hid (HBB.out.trans (hb7.mono HBB.out.size))
        replace HPD := Lib.hid (HPD.out.keep hb7)
        clear hb7 HDC HDL
        go_wp2_with fail
        refine (szC awD _ 1 1 wE HPD.out (by omega)).mono ?_
        rintro e wG ⟨q2, rfl, _, hb8⟩
        replace HBB := Lib.hid (HBB.out.trans (hb8.mono HBB.out.size))
        clear hb8 HPD
        go_wp2_with fail
        go_ret
        exact ⟨rfl, HBB.out⟩
      · go_simp
        have hbn : Below wB.heap.size wB (v0.alloc (.cells #[.int .i64 3, .int .i64 0, .slice (some ⟨P1, 0, none⟩) 1 1] 39)) := hbd.alloc hbd.size _
        refine hK.out _ _ (HKS.out _ hbn) (fun hS => ?_)
        clear hK KN
        try simp only [Act.put, zzP]
        have z2 : Box (v0.alloc (.cells #[.int .i64 3, .int .i64 0, .slice (some ⟨P1, 0, none⟩) 1 1] 39)) v0.heap.size 39 #[.int .i64 3, .int .i64 0, .slice (some ⟨P1, 0, none⟩) 1 1] := Box.new _ _ _
        have hst : Below v0.heap.size v0 (v0.alloc (.cells #[.int .i64 3, .int .i64 0, .slice (some ⟨P1, 0, none⟩) 1 1] 39)) := (Below.refl _ _).alloc (Nat.le_refl _) _
        replace z1 := z1.keep hst z1.lt
        clear hst
        obtain ⟨P2, hP20⟩ : ∃ p, v0.heap.size = p := ⟨_, rfl⟩
        rw [hP20] at z2
        try rw [hP20]
        clear hP20
        generalize v0.alloc (.cells #[.int .i64 3, .int .i64 0, .slice (some ⟨P1, 0, none⟩) 1 1] 39) = v1 at *
        replace hbd := hbn
        clear hbn
        refine wpAnyH_ready (rs := [0]) (by kernel_rfl) (by simp) ?_
        refine AllReadyH.cons rfl (fun KN hK => ?_) AllReadyH.nil
        go_simp
        refine (vNatC _).mono ?_
        rintro e v2 ⟨q, rfl, hdl, hb6⟩
        have hbn : Below wB.heap.size wB v2 := hbd.trans (hb6.mono hbd.size)
        refine hK.out _ _ (HKS.out _ hbn) (fun hS => ?_)
        clear hK KN
        try simp only [Act.put, zzP]
        replace z1 := z1.keep hb6 z1.lt
        replace z2 := z2.keep hb6 z2.lt
        replace hbd := hbn
        clear hbn hb6
        refine wpAnyH_ready (rs := [6]) (by kernel_rfl) (by simp) ?_
        refine AllReadyH.cons rfl (fun KN hK => ?_) AllReadyH.nil
        go_simp
        have HSU := suC natS [] [] awD [.node 3 0 [awOne]] (some ⟨q, 0, none⟩) 3 3 none 0 0 none 0 0 (some ⟨Bd, 0, none⟩) 1 1 (some ⟨P2, 0, none⟩) 1 1 v2 hdl (pl_nil _) (clv_nil _ _ _ (Nat.zero_le _)) (HPD.out.keep hbd) (clv_one z2 (rd_kidN z1 (Rd.keep hbd _ _ HR1.out) (wfV (by omega) (by omega)) (wfV (by omega) (by omega)))) nat_lo0 awD_low (fun t ht _ => by rw [List.mem_singleton.1 ht]; exact low_con (by decide) (by rw [okL, okL]; exact ⟨low_one, trivial⟩)) (by omega)
        rw [nw_b] at HSU
        refine HSU.mono ?_
        rintro e wC ⟨rfl, hb9⟩
        replace hbd : Below wB.heap.size wB wC := hbd.trans (hb9.mono hbd.size)
        clear hb9 HSU hdl z1 z2
        refine hK.out _ _ (HKS.out _ hbd) (fun hS => ?_)
        clear hK KN
        try simp only [Act.put, zzP]
        refine zzT (i := 7) (v := .int .i64 3) rfl hS ?_
        try simp only [Act.put, zzP]
        refine wpAnyH_done (by kernel_rfl) ?_ _
        try simp only [List.setIfInBounds_toArray]
        try simp only [zzP]
        replace HBB := Lib.hid (HBB.out.trans (hbd.mono HBB.out.size))
        replace HPD := Lib.hid (HPD.out.keep hbd)
        replace HR1 := Lib.hid (Rd.keep hbd _ _ HR1.out)
        replace XO := Lib.hid (XO.out.keep hbd XO.out.lt)
        clear o0 o1 o2 hS HKS hbd
        clear XO HR1
        go_wp2_with fail
        refine (vNatC _).mono ?_
        rintro e wD ⟨q, rfl, hdl, hb6⟩
        replace HBB := Lib.hid (HBB.out.trans (hb6.mono HBB.out.size))
        replace HPD := Lib.hid (HPD.out.keep hb6)
        have HDL := Lib.hid hdl
        clear hb6 hdl
        go_wp2_with fail
        have HDC := Lib.hid (dcC natS awD (some ⟨q, 0, none⟩) 3 3 (some ⟨Bd, 0, none⟩) 1 1 wD HDL.out HPD.out nat_lw awD_low)
        rw [nw_c] at HDC
        refine HDC.out.mono ?_
        rintro e wE ⟨rfl, hb7⟩
        replace HBB := Lib.hid (HBB.out.trans (hb7.mono HBB.out.size))
        replace HPD := Lib.hid (HPD.out.keep hb7)
        clear hb7 HDC HDL
        go_wp2_with fail
        refine (szC awD _ 1 1 wE HPD.out (by omega)).mono ?_
        rintro e wG ⟨q2, rfl, _, hb8⟩
        replace HBB := Lib.hid (HBB.out.trans (hb8.mono HBB.out.size))
        clear hb8 HPD
        go_wp2_with fail
        go_ret
        exact ⟨rfl, HBB.out⟩
  · go_simp
    have hbn : Below wA.heap.size wA ((wA.alloc (.cells #[.int .i64 5, .int .i64 2, .slice (some ⟨Bz, 0, none⟩) 1 1] 39)).drew) := ((Below.refl _ wA).alloc (Nat.le_refl _) _).drew
    refine hK.out _ _ (HKS.out _ hbn) (fun hS => ?_)
    clear hK KN
    try simp only [Act.put, zzP]
    have z1 : Box ((wA.alloc (.cells #[.int .i64 5, .int .i64 2, .slice (some ⟨Bz, 0, none⟩) 1 1] 39)).drew) wA.heap.size 39 #[.int .i64 5, .int .i64 2, .slice (some ⟨Bz, 0, none⟩) 1 1] := Box.drewI (Box.new _ _ _)
    obtain ⟨P1, hP10⟩ : ∃ p, wA.heap.size = p := ⟨_, rfl⟩
    rw [hP10] at z1
    try rw [hP10]
    clear hP10
    generalize (wA.alloc (.cells #[.int .i64 5, .int .i64 2, .slice (some ⟨Bz, 0, none⟩) 1 1] 39)).drew = v0 at *
    replace hbd := hbn
    clear hbn
    refine wpAnyH_ready (rs := [0]) (by kernel_rfl) (by simp) ?_
    refine AllReadyH.cons rfl (fun KN hK => ?_) AllReadyH.nil
    go_simp
    refine (vNatC _).mono ?_
    rintro e v1 ⟨q, rfl, hdl, hb6⟩
    have hbn : Below wA.heap.size wA v1 := hbd.trans (hb6.mono hbd.size)
    refine hK.out _ _ (HKS.out _ hbn) (fun hS => ?_)
    clear hK KN
    try simp only [Act.put, zzP]
    replace z1 := z1.keep hb6 z1.lt
    replace hbd := hbn
    clear hbn hb6
    refine wpAnyH_ready (rs := [4]) (by kernel_rfl) (by simp) ?_
    refine AllReadyH.cons rfl (fun KN hK => ?_) AllReadyH.nil
    go_simp
    have HSU := suC natS [] [] awD [awOne] (some ⟨q, 0, none⟩) 3 3 none 0 0 none 0 0 (some ⟨Bd, 0, none⟩) 1 1 (some ⟨P1, 0, none⟩) 1 1 v1 hdl (pl_nil _) (clv_nil _ _ _ (Nat.zero_le _)) (HPD.out.keep hbd) (clv_one z1 (Rd.keep hbd _ _ HR1.out)) nat_lo0 awD_low (fun t ht _ => by rw [List.mem_singleton.1 ht]; exact low_one) (by omega)
    rw [nw_a] at HSU
    refine HSU.mono ?_
    rintro e wB ⟨rfl, hb9⟩
    replace hbd : Below wA.heap.size wA wB := hbd.trans (hb9.mono hbd.size)
    clear hb9 HSU hdl z1
    refine hK.out _ _ (HKS.out _ hbd) (fun hS => ?_)
    clear hK KN
    try simp only [Act.put, zzP]
    refine zzT (i := 5) (v := .int .i64 0) rfl hS ?_
    try simp only [Act.put, zzP]
    refine wpAnyH_done (by kernel_rfl) ?_ _
    try simp only [List.setIfInBounds_toArray]
    try simp only [zzP]
    replace HBB := Lib.hid (HBB.out.trans (hbd.mono HBB.out.size))
    replace HPD := Lib.hid (HPD.out.keep hbd)
    replace HR1 := Lib.hid (Rd.keep hbd _ _ HR1.out)
    replace XO := Lib.hid (XO.out.keep hbd XO.out.lt)
    clear o0 o1 o2 hS HKS hbd
    obtain ⟨o0, o1, o2⟩ := XO.out.three
    go_wp2_with fail
    have HKS : Hid (∀ w' : World, Below wB.heap.size wB w' → (fun w' => w'.cell? ⟨Bo, 0, none⟩ = some (.int .i64 5) ∧ w'.cell? ⟨Bo, 1, none⟩ = some (.int .i64 2) ∧ w'.cell? ⟨Bo, 2, none⟩ = some (.slice (some ⟨Bz, 0, none⟩) 1 1)) w') := Lib.hid fun w' h => ⟨(h.cell (cell_lt o0)).trans o0, (h.cell (cell_lt o1)).trans o1, (h.cell (cell_lt o2)).trans o2⟩
    have hbd : Below wB.heap.size wB wB.drew := (Below.refl _ wB).drew
    refine zzR HKS hbd (fun hS => ?_)
    simp only [List.size_toArray, List.length_cons, List.length_nil, Nat.reduceAdd]
    refine zzT (i := 1) (v := .slice (some ⟨Bd, 0, none⟩) 1 1) rfl hS ?_
    try simp only [Act.put, zzP]
    refine zzT (i := 2) (v := .agg #[.int .i64 5, .int .i64 2, .slice (some ⟨Bz, 0, none⟩) 1 1]) rfl hS ?_
    try simp only [Act.put, zzP]
    refine wpAnyH_ready (rs := [0, 3]) (by kernel_rfl) (by simp) ?_
    refine AllReadyH.cons rfl (fun KN hK => ?_) (AllReadyH.cons rfl (fun KN hK => ?_) AllReadyH.nil)
    · go_simp
      refine (vNatC _).mono ?_
      rintro e v0 ⟨q, rfl, hdl, hb6⟩
      have hbn : Below wB.heap.size wB v0 := hbd.trans (hb6.mono hbd.size)
      refine hK.out _ _ (HKS.out _ hbn) (fun hS => ?_)
      clear hK KN
      try simp only [Act.put, zzP]
      replace hbd := hbn
      clear hbn hb6
      refine wpAnyH_ready (rs := [3]) (by kernel_rfl) (by simp) ?_
      refine AllReadyH.cons rfl (fun KN hK => ?_) AllReadyH.nil
      go_simp
      have hbn : Below wB.heap.size wB (v0.alloc (.cells #[.int .i64 5, .int .i64 2, .slice (some ⟨Bz, 0, none⟩) 1 1] 39)) := hbd.alloc hbd.size _
      refine hK.out _ _ (HKS.out _ hbn) (fun hS => ?_)
      clear hK KN
      try simp only [Act.put, zzP]
      have z1 : Box (v0.alloc (.cells #[.int .i64 5, .int .i64 2, .slice (some ⟨Bz, 0, none⟩) 1 1] 39)) v0.heap.size 39 #[.int .i64 5, .int .i64 2, .slice (some ⟨Bz, 0, none⟩) 1 1] := Box.new _ _ _
      have hst : Below v0.heap.size v0 (v0.alloc (.cells #[.int .i64 5, .int .i64 2, .slice (some ⟨Bz, 0, none⟩) 1 1] 39)) := (Below.refl _ _).alloc (Nat.le_refl _) _
      replace hdl := hdl.keep hst
      clear hst
      obtain ⟨P1, hP10⟩ : ∃ p, v0.heap.size = p := ⟨_, rfl⟩
      rw [hP10] at z1
      try rw [hP10]
      clear hP10
      generalize v0.alloc (.cells #[.int .i64 5, .int .i64 2, .slice (some ⟨Bz, 0, none⟩) 1 1] 39) = v1 at *
      replace hbd := hbn
      clear hbn
      refine zzT (i := 4) (v := .agg #[.int .i64 3, .int .i64 0, .slice (some ⟨P1, 0, none⟩) 1 1]) rfl hS ?_
      try simp only [Act.put, zzP]
      refine wpAnyH_ready (rs := [5]) (by kernel_rfl) (by simp) ?_
      refine AllReadyH.cons rfl (fun KN hK => ?_) AllReadyH.nil
      go_simp
      have hbn : Below wB.heap.size wB (v1.alloc (.cells #[.int .i64 3, .int .i64 0, .slice (some ⟨P1, 0, none⟩) 1 1] 39)) := hbd.alloc hbd.size _
      refine hK.out _ _ (HKS.out _ hbn) (fun hS => ?_)
      clear hK KN
      try simp only [Act.put, zzP]
      have z2 : Box (v1.alloc (.cells #[.int .i64 3, .int .i64 0, .slice (some ⟨P1, 0, none⟩) 1 1] 39)) v1.heap.size 39 #[.int .i64 3, .int .i64 0, .slice (some ⟨P1, 0, none⟩) 1 1] := Box.new _ _ _
      have hst : Below v1.heap.size v1 (v1.alloc (.cells #[.int .i64 3, .int .i64 0, .slice (some ⟨P1, 0, none⟩) 1 1] 39)) := (Below.refl _ _).alloc (Nat.le_refl _) _
      replace hdl := hdl.keep hst
      replace z1 := z1.keep hst z1.lt
      clear hst
      obtain ⟨P2, hP20⟩ : ∃ p, v1.heap.size = p := ⟨_, rfl⟩
      rw [hP20] at z2
      try rw [hP20]
      clear hP20
      generalize v1.alloc (.cells #[.int .i64 3, .int .i64 0, .slice (some ⟨P1, 0, none⟩) 1 1] 39) = v2 at *
      replace hbd := hbn
      clear hbn
      refine wpAnyH_ready (rs := [6]) (by kernel_rfl) (by simp) ?_
      refine AllReadyH.cons rfl (fun KN hK => ?_) AllReadyH.nil
      go_simp
      have HSU := suC natS [] [] awD [.node 3 0 [awOne]] (some ⟨q, 0, none⟩) 3 3 none 0 0 none 0 0 (some ⟨Bd, 0, none⟩) 1 1 (some ⟨P2, 0, none⟩) 1 1 v2 hdl (pl_nil _) (clv_nil _ _ _ (Nat.zero_le _)) (HPD.out.keep hbd) (clv_one z2 (rd_kidN z1 (Rd.keep hbd _ _ HR1.out) (wfV (by omega) (by omega)) (wfV (by omega) (by omega)))) nat_lo0 awD_low (fun t ht _ => by rw [List.mem_singleton.1 ht]; exact low_con (by decide) (by rw [okL, okL]; exact ⟨low_one, trivial⟩)) (by omega)
      rw [nw_b] at HSU
      refine HSU.mono ?_
      rintro e wC ⟨rfl, hb9⟩
      replace hbd : Below wB.heap.size wB wC := hbd.trans (hb9.mono hbd.size)
      clear hb9 HSU hdl z1 z2
      refine hK.out _ _ (HKS.out _ hbd) (fun hS => ?_)
      clear hK KN
      try simp only [Act.put, zzP]
      refine zzT (i := 7) (v := .int .i64 3) rfl hS ?_
      try simp only [Act.put, zzP]
      refine wpAnyH_done (by kernel_rfl) ?_ _
      try simp only [List.setIfInBounds_toArray]
      try simp only [zzP]
      replace HBB := Lib.hid (HBB.out.trans (hbd.mono HBB.out.size))
      replace HPD := Lib.hid (HPD.out.keep hbd)
      replace HR1 := Lib.hid (Rd.keep hbd _ _ HR1.out)
      replace XO := Lib.hid (XO.out.keep hbd XO.out.lt)
      clear o0 o1 o2 hS HKS hbd
      clear XO HR1
      go_wp2_with fail
      refine (vNatC _).mono ?_
      rintro e wD ⟨q, rfl, hdl, hb6⟩
      replace HBB := Lib.hid (HBB.out.trans (hb6.mono HBB.out.size))
      replace HPD := Lib.hid (HPD.out.keep hb6)
      have HDL := Lib.hid hdl
      clear hb6 hdl
      go_wp2_with fail
      have HDC := Lib.hid (dcC natS awD (some ⟨q, 0, none⟩) 3 3 (some ⟨Bd, 0, none⟩) 1 1 wD HDL.out HPD.out nat_lw awD_low)
      rw [nw_c] at HDC
      refine HDC.out.mono ?_
      rintro e wE ⟨rfl, hb7⟩
      replace HBB := Lib.hid (HBB.out.trans (hb7.mono HBB.out.size))
      replace HPD := Lib.hid (HPD.out.keep hb7)
      clear hb7 HDC HDL
      go_wp2_with fail
      refine (szC awD _ 1 1 wE HPD.out (by omega)).mono ?_
      rintro e wG ⟨q2, rfl, _, hb8⟩
      replace HBB := Lib.hid (HBB.out.trans (hb8.mono HBB.out.size))
      clear hb8 HPD
      go_wp2_with fail
      go_ret
      exact ⟨rfl, HBB.out⟩
    · go_simp
      have hbn : Below wB.heap.size wB ((wB.alloc (.cells #[.int .i64 5, .int .i64 2, .slice (some ⟨Bz, 0, none⟩) 1 1] 39)).drew) := ((Below.refl _ wB).alloc (Nat.le_refl _) _).drew
      refine hK.out _ _ (HKS.out _ hbn) (fun hS => ?_)
      clear hK KN
      try simp only [Act.put, zzP]
      have z1 : Box ((wB.alloc (.cells #[.int .i64 5, .int .i64 2, .slice (some ⟨Bz, 0, none⟩) 1 1] 39)).drew) wB.heap.size 39 #[.int .i64 5, .int .i64 2, .slice (some ⟨Bz, 0, none⟩) 1 1] := Box.drewI (Box.new _ _ _)
      obtain ⟨P1, hP10⟩ : ∃ p, wB.heap.size = p := ⟨_, rfl⟩
      rw [hP10] at z1
      try rw [hP10]
      clear hP10
      generalize (wB.alloc (.cells #[.int .i64 5, .int .i64 2, .slice (some ⟨Bz, 0, none⟩) 1 1] 39)).drew = v0 at *
      replace hbd := hbn
      clear hbn
      refine zzT (i := 4) (v := .agg #[.int .i64 3, .int .i64 0, .slice (some ⟨P1, 0, none⟩) 1 1]) rfl hS ?_
      try simp only [Act.put, zzP]
      refine wpAnyH_ready (rs := [0, 5]) (by kernel_rfl) (by simp) ?_
      refine AllReadyH.cons rfl (fun KN hK => ?_) (AllReadyH.cons rfl (fun KN hK => ?_) AllReadyH.nil)
      · go_simp
        refine (vNatC _).mono ?_
        rintro e v1 ⟨q, rfl, hdl, hb6⟩
        have hbn : Below wB.heap.size wB v1 := hbd.trans (hb6.mono hbd.size)
        refine hK.out _ _ (HKS.out _ hbn) (fun hS => ?_)
        clear hK KN
        try simp only [Act.put, zzP]
        replace z1 := z1.keep hb6 z1.lt
        replace hbd := hbn
        clear hbn hb6
        refine wpAnyH_ready (rs := [5]) (by kernel_rfl) (by simp) ?_
        refine AllReadyH.cons rfl (fun KN hK => ?_) AllReadyH.nil
        go_simp
        have hbn : Below wB.heap.size wB (v1.alloc (.cells #[.int .i64 3, .int .i64 0, .slice (some ⟨P1, 0, none⟩) 1 1] 39)) := hbd.alloc hbd.size _
        refine hK.out _ _ (HKS.out _ hbn) (fun hS => ?_)
        clear hK KN
        try simp only [Act.put, zzP]
        have z2 : Box (v1.alloc (.cells #[.int .i64 3, .int .i64 0, .slice (some ⟨P1, 0, none⟩) 1 1] 39)) v1.heap.size 39 #[.int .i64 3, .int .i64 0, .slice (some ⟨P1, 0, none⟩) 1 1] := Box.new _ _ _
        have hst : Below v1.heap.size v1 (v1.alloc (.cells #[.int .i64 3, .int .i64 0, .slice (some ⟨P1, 0, none⟩) 1 1] 39)) := (Below.refl _ _).alloc (Nat.le_refl _) _
        replace hdl := hdl.keep hst
        replace z1 := z1.keep hst z1.lt
        clear hst
        obtain ⟨P2, hP20⟩ : ∃ p, v1.heap.size = p := ⟨_, rfl⟩
        rw [hP20] at z2
        try rw [hP20]
        clear hP20
        generalize v1.alloc (.cells #[.int .i64 3, .int .i64 0, .slice (some ⟨P1, 0, none⟩) 1 1] 39) = v2 at *
        replace hbd := hbn
        clear hbn
        refine wpAnyH_ready (rs := [6]) (by kernel_rfl) (by simp) ?_
        refine AllReadyH.cons rfl (fun KN hK => ?_) AllReadyH.nil
        go_simp
        have HSU := suC natS [] [] awD [.node 3 0 [awOne]] (some ⟨q, 0, none⟩) 3 3 none 0 0 none 0 0 (some ⟨Bd, 0, none⟩) 1 1 (some ⟨P2, 0, none⟩) 1 1 v2 hdl (pl_nil _) (clv_nil _ _ _ (Nat.zero_le _)) (HPD.out.keep hbd) (clv_one z2 (rd_kidN z1 (Rd.keep hbd _ _ HR1.out) (wfV (by omega) (by omega)) (wfV (by omega) (by omega)))) nat_lo0 awD_low (fun t ht _ => by rw [List.mem_singleton.1 ht]; exact low_con (by decide) (by rw [okL, okL]; exact ⟨low_one, trivial⟩)) (by omega)
        rw [nw_b] at HSU
        refine HSU.mono ?_
        rintro e wC ⟨rfl, hb9⟩
        replace hbd : Below wB.heap.size wB wC := hbd.trans (hb9.mono hbd.size)
        clear hb9 HSU hdl z1 z2
        refine hK.out _ _ (HKS.out _ hbd) (fun hS => ?_)
        clear hK KN
        try simp only [Act.put, zzP]
        refine zzT (i := 7) (v := .int .i64 3) rfl hS ?_
        try simp only [Act.put, zzP]
        refine wpAnyH_done (by kernel_rfl) ?_ _
        try simp only [List.setIfInBounds_toArray]
        try simp only [zzP]
        replace HBB := Lib.hid (HBB.out.trans (hbd.mono HBB.out.size))
        replace HPD := Lib.hid (HPD.out.keep hbd)
        replace HR1 := Lib.hid (Rd.keep hbd _ _ HR1.out)
        replace XO := Lib.hid (XO.out.keep hbd XO.out.lt)
        clear o0 o1 o2 hS HKS hbd
        clear XO HR1
        go_wp2_with fail
        refine (vNatC _).mono ?_
        rintro e wD ⟨q, rfl, hdl, hb6⟩
        replace HBB := Lib.hid (HBB.out.trans (hb6.mono HBB.out.size))
        replace HPD := Lib.hid (HPD.out.keep hb6)
        have HDL := Lib.hid hdl
        clear hb6 hdl
        go_wp2_with fail
        have HDC := Lib.hid (dcC natS awD (some ⟨q, 0, none⟩) 3 3 (some ⟨Bd, 0, none⟩) 1 1 wD HDL.out HPD.out nat_lw awD_low)
        rw [nw_c] at HDC
        refine HDC.out.mono ?_
        rintro e wE ⟨rfl, hb7⟩
        replace HBB := Lib.hid (HBB.out.trans (hb7.mono HBB.out.size))
        replace HPD := Lib.hid (HPD.out.keep hb7)
        clear hb7 HDC HDL
        go_wp2_with fail
        refine (szC awD _ 1 1 wE HPD.out (by omega)).mono ?_
        rintro e wG ⟨q2, rfl, _, hb8⟩
        replace HBB := Lib.hid (HBB.out.trans (hb8.mono HBB.out.size))
        clear hb8 HPD
        go_wp2_with fail
        go_ret
        exact ⟨rfl, HBB.out⟩
      · go_simp
        have hbn : Below wB.heap.size wB (v0.alloc (.cells #[.int .i64 3, .int .i64 0, .slice (some ⟨P1, 0, none⟩) 1 1] 39)) := hbd.alloc hbd.size _
        refine hK.out _ _ (HKS.out _ hbn) (fun hS => ?_)
        clear hK KN
        try simp only [Act.put, zzP]
        have z2 : Box (v0.alloc (.cells #[.int .i64 3, .int .i64 0, .slice (some ⟨P1, 0, none⟩) 1 1] 39)) v0.heap.size 39 #[.int .i64 3, .int .i64 0, .slice (some ⟨P1, 0, none⟩) 1 1] := Box.new _ _ _
        have hst : Below v0.heap.size v0 (v0.alloc (.cells #[.int .i64 3, .int .i64 0, .slice (some ⟨P1, 0, none⟩) 1 1] 39)) := (Below.refl _ _).alloc (Nat.le_refl _) _
        replace z1 := z1.keep hst z1.lt
        clear hst
        obtain ⟨P2, hP20⟩ : ∃ p, v0.heap.size = p := ⟨_, rfl⟩
        rw [hP20] at z2
        try rw [hP20]
        clear hP20
        generalize v0.alloc (.cells #[.int .i64 3, .int .i64 0, .slice (some ⟨P1, 0, none⟩) 1 1] 39) = v1 at *
        replace hbd := hbn
        clear hbn
        refine wpAnyH_ready (rs := [0]) (by kernel_rfl) (by simp) ?_
        refine AllReadyH.cons rfl (fun KN hK => ?_) AllReadyH.nil
        go_simp
        refine (vNatC _).mono ?_
        rintro e v2 ⟨q, rfl, hdl, hb6⟩
        have hbn : Below wB.heap.size wB v2 := hbd.trans (hb6.mono hbd.size)
        refine hK.out _ _ (HKS.out _ hbn) (fun hS => ?_)
        clear hK KN
        try simp only [Act.put, zzP]
        replace z1 := z1.keep hb6 z1.lt
        replace z2 := z2.keep hb6 z2.lt
        replace hbd := hbn
        clear hbn hb6
        refine wpAnyH_ready (rs := [6]) (by kernel_rfl) (by simp) ?_
        refine AllReadyH.cons rfl (fun KN hK => ?_) AllReadyH.nil
        go_simp
        have HSU := suC natS [] [] awD [.node 3 0 [awOne]] (some ⟨q, 0, none⟩) 3 3 none 0 0 none 0 0 (some ⟨Bd, 0, none⟩) 1 1 (some ⟨P2, 0, none⟩) 1 1 v2 hdl (pl_nil _) (clv_nil _ _ _ (Nat.zero_le _)) (HPD.out.keep hbd) (clv_one z2 (rd_kidN z1 (Rd.keep hbd _ _ HR1.out) (wfV (by omega) (by omega)) (wfV (by omega) (by omega)))) nat_lo0 awD_low (fun t ht _ => by rw [List.mem_singleton.1 ht]; exact low_con (by decide) (by rw [okL, okL]; exact ⟨low_one, trivial⟩)) (by omega)
        rw [nw_b] at HSU
        refine HSU.mono ?_
        rintro e wC ⟨rfl, hb9⟩
        replace hbd : Below wB.heap.size wB wC := hbd.trans (hb9.mono hbd.size)
        clear hb9 HSU hdl z1 z2
        refine hK.out _ _ (HKS.out _ hbd) (fun hS => ?_)
        clear hK KN
        try simp only [Act.put, zzP]
        refine zzT (i := 7) (v := .int .i64 3) rfl hS ?_
        try simp only [Act.put, zzP]
        refine wpAnyH_done (by kernel_rfl) ?_ _
        try simp only [List.setIfInBounds_toArray]
        try simp only [zzP]
        replace HBB := Lib.hid (HBB.out.trans (hbd.mono HBB.out.size))
        replace HPD := Lib.hid (HPD.out.keep hbd)
        replace HR1 := Lib.hid (Rd.keep hbd _ _ HR1.out)
        replace XO := Lib.hid (XO.out.keep hbd XO.out.lt)
        clear o0 o1 o2 hS HKS hbd
        clear XO HR1
        go_wp2_with fail
        refine (vNatC _).mono ?_
        rintro e wD ⟨q, rfl, hdl, hb6⟩
        replace HBB := Lib.hid (HBB.out.trans (hb6.mono HBB.out.size))
        replace HPD := Lib.hid (HPD.out.keep hb6)
        have HDL := Lib.hid hdl
        clear hb6 hdl
        go_wp2_with fail
        have HDC := Lib.hid (dcC natS awD (some ⟨q, 0, none⟩) 3 3 (some ⟨Bd, 0, none⟩) 1 1 wD HDL.out HPD.out nat_lw awD_low)
        rw [nw_c] at HDC
        refine HDC.out.mono ?_
        rintro e wE ⟨rfl, hb7⟩
        replace HBB := Lib.hid (HBB.out.trans (hb7.mono HBB.out.size))
        replace HPD := Lib.hid (HPD.out.keep hb7)
        clear hb7 HDC HDL
        go_wp2_with fail
        refine (szC awD _ 1 1 wE HPD.out (by omega)).mono ?_
        rintro e wG ⟨q2, rfl, _, hb8⟩
        replace HBB := Lib.hid (HBB.out.trans (hb8.mono HBB.out.size))
        clear hb8 HPD
        go_wp2_with fail
        go_ret
        exact ⟨rfl, HBB.out⟩
end Go.Proofs.YtbbjjdnnlnabaaaGreat
