/- Texts of one proof, put together. No statement is proved here. -/
import Derived.Test.YtbbjjdnnlnabaaaGreatPkEg
import Derived.Test.YtbbjjdnnlnabaaaGreatPkVj
import Derived.Test.YtbbjjdnnlnabaaaGreatPkEd
import Derived.Test.YtbbjjdnnlnabaaaGreatZt
namespace Go.Proofs.YtbbjjdnnlnabaaaGreat
open Go.ChangeShapes Go.WideShapes Go.ChangeAt Go.RowKit
set_option linter.unusedVariables false
set_option linter.unusedSimpArgs false
set_option maxRecDepth 100000
set_option maxHeartbeats 16000000
theorem eComesMeC {W : WV} {h : Int} {xs : List T} (ih : ∀ x ∈ xs, TmE W x) : CoE W (.node 6 h xs) := by
  intro cx B As ns cs Am nm cm Ac nc cc pw vm w hE hbm hsum hlen hk hp hv
  obtain ⟨A, n, c, rfl, _, _, g3, g4, g5, g6⟩ := Rd_node.1 hv
  obtain ⟨W0, hW⟩ : ∃ W0, (w.alloc (.cells #[.int .i64 6, .int .i64 h, .slice A n c] 39)).alloc (.cells #[.int .i64 0, .int .i64 0, .slice none 0 0] 39) = W0 := ⟨_, rfl⟩
  have hb : Below w.heap.size w W0 := by rw [← hW]; exact ((Below.refl _ _).alloc (Nat.le_refl _) _).alloc (by simp) _
  have x1 : Box W0 w.heap.size 39 #[.int .i64 6, .int .i64 h, .slice A n c] := by rw [← hW]; exact (Box.new _ _ _).alloc _
  have x2 : Box W0 (w.heap.size + 1) 39 #[.int .i64 0, .int .i64 0, .slice none 0 0] := by rw [← hW]; exact (Box.new (w.alloc _) _ _).at (by simp)
  obtain ⟨d0, d1, d2⟩ := x1.three
  have HB := Lib.hid hb
  have HME := Lib.hid (eMetaC ih cx B As ns cs Am nm cm Ac nc cc pw A n c (fun b => b = w.heap.size + 1) w W0 hE hbm hsum hlen hb hk hp hv (fun b z => by have := x2.lt; omega))
  obtain ⟨R, hR⟩ : ∃ R, cmV W cx (.node 6 h xs) = R := ⟨_, rfl⟩
  rw [hR] at HME ⊢
  have X2 := Lib.hid x2
  clear hE hbm hsum hlen hk hp hb x1 x2 hv g3 g4 g5 g6 hR
  go_enter Tryz.func77, Tryz.ntmps77
  go_wp2_with fail
  try rw [hW]
  clear hW
  try go_wp2_with fail
  refine HME.out.mono ?_
  rintro e w8 ⟨k4, h4, A4, n4, c4, rfl, hrd, hb8⟩
  have HB8 := Lib.hid (HB.out.trans (hb8.mono HB.out.size))
  have z2 := X2.out.keep hb8 X2.out.lt
  clear HME d0 d1 d2
  obtain ⟨W9, hW9⟩ : ∃ W9, w8.alloc (.cells #[.int .i64 k4, .int .i64 h4, .slice A4 n4 c4] 39) = W9 := ⟨_, rfl⟩
  have hb9 : Below w8.heap.size w8 W9 := by rw [← hW9]; exact (Below.refl _ _).alloc (Nat.le_refl _) _
  have x9 : Box W9 w8.heap.size 39 #[.int .i64 k4, .int .i64 h4, .slice A4 n4 c4] := by rw [← hW9]; exact Box.new _ _ _
  have HB9 := Lib.hid (HB8.out.trans (hb9.mono HB8.out.size))
  have z9 := z2.keep hb9 z2.lt
  have HRD := Lib.hid (fun (t : T) (e : R = .ok t) => (hrd t e).keepE (Z' := fun b => b = w.heap.size + 1) hb9 (fun b z => .inl z))
  have y := z9.put3 (.int .i64 k4) (.int .i64 h4) (.slice A4 n4 c4)
  obtain ⟨p0, p1, p2⟩ := x9.three
  obtain ⟨y0, y1, y2⟩ := y.three
  obtain ⟨r0, r1, r2⟩ := z9.three
  have f0 := z9.frozen 0
  have f1 := z9.frozen 1
  have f2 := z9.frozen 2
  have lz := z9.lt
  have hne9 : w.heap.size + 1 ≠ w8.heap.size := by have := z2.lt; omega
  clear hrd hb8 hb9 z2 z9 x9 y
  go_wp2_with fail
  refine bodyPost_ret (v := .tuple #[.agg #[.int .i64 k4, .int .i64 h4, .slice A4 n4 c4], .int .i64 (erV R)]) (by simp [results, Tryz.results77, go_sem, y0, y1, y2]) rfl ?_
  exact spX_mv HRD.out HB9.out (by omega) _ _ _
theorem eComesC {W : WV} (m : T) (ih : ∀ x ∈ kdsE m, TmE W x) : CoE W m := by
  obtain ⟨k, h, xs⟩ := m
  by_cases h4 : k = 4
  · subst h4; exact eVarC ih
  by_cases h5 : k = 5
  · subst h5; exact eConC ih
  by_cases h6 : k = 6
  · subst h6; exact eComesMeC ih
  exact eNoC h4 h5 h6
theorem eTermAll {W : WV} (m : T) : TmE W m := eTermC (fun m ih => eComesC m ih) m
theorem eFamC {W : WV} {h : Int} {xs : List T} (cx : List T) (As : Option Addr) (ns cs : Nat) (Am : Option Addr) (nm cm : Nat) (Ac : Option Addr) (nc cc pw : Nat) (A : Option Addr) (n c : Nat) (w : World)
    (hE : EnvV W cx loV) (hba : WkV W (.node 2 h xs)) (hlen : cx.length + nd (.node 2 h xs) ≤ 100000) (hk : CkV w W cx As ns cs Am nm cm Ac nc cc) (hp : PwE w pw As ns cs Am nm cm) (ha : Rd w (.node 2 h xs) (.agg #[.int .i64 2, .int .i64 h, .slice A n c])) :
    Calls Tryz.prog 49 #[.pointer (some ⟨pw, 0, none⟩), .slice Ac nc cc, .agg #[.int .i64 2, .int .i64 h, .slice A n c]] w (ByQ (tyV W (.node 2 h xs) cx) w) := by
  have hscap := hk.sg.cap
  have hsle := hk.sg.le
  have hsl := hk.sg.len
  unfold maxLen at hscap
  have h0 := headV hba.nod
  obtain ⟨i, rfl⟩ : ∃ i : Nat, h = i := ⟨h.toNat, by omega⟩
  obtain ⟨W0, hW⟩ : ∃ W0, w.alloc (.cells #[.int .i64 2, .int .i64 (i : Int), .slice A n c] 39) = W0 := ⟨_, rfl⟩
  have hb : Below w.heap.size w W0 := by rw [← hW]; exact (Below.refl _ _).alloc (Nat.le_refl _) _
  have x1 : Box W0 w.heap.size 39 #[.int .i64 2, .int .i64 (i : Int), .slice A n c] := by rw [← hW]; exact Box.new _ _ _
  obtain ⟨d0, d1, d2⟩ := x1.three
  have s0 : W0.cell? ⟨pw, 0, none⟩ = some (.slice As ns cs) := (hp.keep hb hp.lt).cell 0
  have HB := Lib.hid hb
  obtain ⟨RR, hR⟩ : ∃ R, tyV W (.node 2 (i : Int) xs) cx = R := ⟨_, rfl⟩
  have HR := Lib.hid (show faV W (i : Int) xs cx = RR by rw [← hR, ty_fam])
  rw [hR]
  clear hR
  by_cases hlt : i < ns
  case' neg =>
    have dg : decide ((i : Int) ≥ (ns : Int)) = true := by simp; omega
    have dg2 : decide ((ns : Int) ≤ (i : Int)) = true := by simp; omega
    have hge : ns ≤ i := by omega
    have HQ := Lib.hid (show 2 = RR by rw [← HR.out, fa_no (by omega)])
    clear hE hba hlen hk hp ha hb x1 HR
    go_enter Tryz.func49, Tryz.ntmps49
    go_wp2_with fail
    try rw [hW]
    clear hW
    try go_wp2_with fail
    have HKS : Hid (∀ w' : World, Below W0.heap.size W0 w' → (fun w' => w'.cell? ⟨w.heap.size, 1, none⟩ = some (.int .i64 (i : Int)) ∧ w'.cell? ⟨pw, 0, none⟩ = some (.slice As ns cs)) w') := Lib.hid fun w' h => ⟨(h.cell (cell_lt d1)).trans d1, (h.cell (cell_lt s0)).trans s0⟩
    have hbd : Below W0.heap.size W0 W0.drew := (Below.refl _ W0).drew
    refine zzR HKS hbd (fun hS => ?_)
    simp only [List.size_toArray, List.length_cons, List.length_nil, Nat.reduceAdd]
    refine zzT (i := 0) (v := .pointer (some ⟨w.heap.size, 1, none⟩)) rfl hS ?_
    try simp only [Act.put, zzP]
    refine zzT (i := 1) (v := .int .i64 (i : Int)) rfl hS ?_
    try simp only [Act.put, zzP]
    refine zzT (i := 2) (v := .pointer (some ⟨pw, 0, none⟩)) rfl hS ?_
    try simp only [Act.put, zzP]
    refine zzT (i := 3) (v := .pointer (some ⟨pw, 0, none⟩)) rfl hS ?_
    try simp only [Act.put, zzP]
    refine zzT (i := 4) (v := .pointer (some ⟨pw, 0, none⟩)) rfl hS ?_
    try simp only [Act.put, zzP]
    refine zzT (i := 5) (v := .slice As ns cs) rfl hS ?_
    try simp only [Act.put, zzP]
    refine zzT (i := 6) (v := .int .i64 ns) rfl hS ?_
    try simp only [Act.put, zzP]
    refine zzT (i := 7) (v := .bool true) rfl hS ?_
    try simp only [Act.put, zzP]
    refine wpAnyH_done (by kernel_rfl) ?_ _
    try simp only [List.setIfInBounds_toArray]
    try simp only [zzP]
    have HBF := Lib.hid (HB.out.trans (hbd.mono HB.out.size))
    clear hS HKS hbd
    go_wp2_with fail
    go_ret
    exact ⟨ret_int HQ.out, HBF.out⟩
  have dg : decide ((i : Int) ≥ (ns : Int)) = false := by simp; omega
  have dg2 : decide ((ns : Int) ≤ (i : Int)) = false := by simp; omega
  have hge : ¬ ns ≤ i := by omega
  obtain ⟨e, he⟩ := at_of hsl hlt
  obtain ⟨bs, os, st, ke, ge, Ae, ne, ce, rfl, e0, e1, e2, e3, hre⟩ := hk.sg.at_ i e he
  replace e1 := (hb.cell (cell_lt e1)).trans e1
  replace e2 := (hb.cell (cell_lt e2)).trans e2
  replace e3 := (hb.cell (cell_lt e3)).trans e3
  have hi0 : (0 : Int) ≤ (i : Int) := by omega
  have hi1 : (i : Int) < (ns : Int) := by omega
  have hme := hE.sg e (List.mem_of_getElem? he)
  have HKI := Lib.hid (fun (W' : World) (h' : Below W0.heap.size W0 W') => rkindC e _ W' (Rd.keep (hb.trans (h'.mono hb.size)) _ _ hre) (by have := ((myB_iff e).1 hme.my).2.1; omega))
  obtain ⟨A', n', c', ev, _, _, g3, g4, g5, g6⟩ := Rd_node.1 ha
  have ev' : A = A' ∧ n = n' ∧ c = c' := by simpa using ev
  obtain ⟨rfl, rfl, rfl⟩ := ev'
  have hxl : CLV w xs A n c := ⟨g3, g4, g5, g6⟩
  have hnd := ((myB_iff _).1 hba.my).2.1
  rw [nd] at hlen hnd
  have HSP0 := Lib.hid (fun (Z : Nat → Prop) (W' : World) (h' : Below W0.heap.size W0 W') (hz : ∀ b, Z b → w.heap.size ≤ b ∧ b < W'.heap.size) => eSpineC (Z := Z) (W := W) (xs := xs) (cx := cx) (t := e) (B := loV) (B0 := loV) (ns := ns) (Am := Am) (nm := nm) (Ac := Ac) (fun x _ => eTermAll x) hE (fun x hx => hba.arg hx) hme (Int.le_refl _) (by unfold loV dlV hiV; omega) (by omega) W' (hk.keep (hb.trans (h'.mono hb.size))) (hp.keep (hb.trans (h'.mono hb.size)) hp.lt) (clv_rx hxl (hb.trans (h'.mono hb.size)) (fun b z => (hz b z).1)) (rx_any hre (hb.trans (h'.mono hb.size)) (fun b z => (hz b z).1)) (fun b z => (hz b z).2))
  obtain ⟨r, hr⟩ : ∃ r, kiB e = r := ⟨_, rfl⟩
  rw [hr] at HKI
  obtain ⟨R, hR⟩ : ∃ R, spV W xs cx e = R := ⟨_, rfl⟩
  rw [hR] at HSP0
  have HER := Lib.hid (show ∀ er, R = .error er → er ≠ 0 from fun er h => sp_err W _ _ _ _ (hR.trans h))
  have HEQ0 : Hid (RR = if r = true then knV R else 2) := Lib.hid (by
    rw [← HR.out]
    cases r
    · rw [fa_ki he hr]; rfl
    · rw [fa_go he hr, hR]; rfl)
  clear hE hba hlen hk hp ha hre hme he hxl hr hlt hR hsl HR ev g3 g4 g5 g6 hnd
  go_enter Tryz.func49, Tryz.ntmps49
  go_wp2_with fail
  try rw [hW]
  clear hW
  try go_wp2_with fail
  have HKS : Hid (∀ w' : World, Below W0.heap.size W0 w' → (fun w' => w'.cell? ⟨w.heap.size, 1, none⟩ = some (.int .i64 (i : Int)) ∧ w'.cell? ⟨pw, 0, none⟩ = some (.slice (some ⟨bs, os, none⟩) ns cs)) w') := Lib.hid fun w' h => ⟨(h.cell (cell_lt d1)).trans d1, (h.cell (cell_lt s0)).trans s0⟩
  have hbd : Below W0.heap.size W0 W0.drew := (Below.refl _ W0).drew
  refine zzR HKS hbd (fun hS => ?_)
  simp only [List.size_toArray, List.length_cons, List.length_nil, Nat.reduceAdd]
  refine zzT (i := 0) (v := .pointer (some ⟨w.heap.size, 1, none⟩)) rfl hS ?_
  try simp only [Act.put, zzP]
  refine zzT (i := 1) (v := .int .i64 (i : Int)) rfl hS ?_
  try simp only [Act.put, zzP]
  refine zzT (i := 2) (v := .pointer (some ⟨pw, 0, none⟩)) rfl hS ?_
  try simp only [Act.put, zzP]
  refine zzT (i := 3) (v := .pointer (some ⟨pw, 0, none⟩)) rfl hS ?_
  try simp only [Act.put, zzP]
  refine zzT (i := 4) (v := .pointer (some ⟨pw, 0, none⟩)) rfl hS ?_
  try simp only [Act.put, zzP]
  refine zzT (i := 5) (v := .slice (some ⟨bs, os, none⟩) ns cs) rfl hS ?_
  try simp only [Act.put, zzP]
  refine zzT (i := 6) (v := .int .i64 ns) rfl hS ?_
  try simp only [Act.put, zzP]
  refine zzT (i := 7) (v := .bool false) rfl hS ?_
  try simp only [Act.put, zzP]
  refine wpAnyH_done (by kernel_rfl) ?_ _
  try simp only [List.setIfInBounds_toArray]
  try simp only [zzP]
  have HB1 := Lib.hid (HB.out.trans (hbd.mono HB.out.size))
  replace x1 := x1.keep hbd x1.lt
  have HKJ := Lib.hid (fun (W' : World) (h' : Below W0.drew.heap.size W0.drew W') => HKI.out W' (hbd.trans (h'.mono hbd.size)))
  have HSP1 := Lib.hid (fun (Z : Nat → Prop) (W' : World) (h' : Below W0.drew.heap.size W0.drew W') => HSP0.out Z W' (hbd.trans (h'.mono hbd.size)))
  clear HKI HSP0
  have HKI := HKJ
  replace d1 := (hbd.cell (cell_lt d1)).trans d1
  replace d2 := (hbd.cell (cell_lt d2)).trans d2
  replace s0 := (hbd.cell (cell_lt s0)).trans s0
  replace e1 := (hbd.cell (cell_lt e1)).trans e1
  replace e2 := (hbd.cell (cell_lt e2)).trans e2
  replace e3 := (hbd.cell (cell_lt e3)).trans e3
  clear hS HKS HKJ d0 e0 hb HB hbd
  generalize W0.drew = W1 at *
  go_wp2_with fail
  have HKS : Hid (∀ w' : World, Below W1.heap.size W1 w' → (fun w' => w'.cell? ⟨w.heap.size, 1, none⟩ = some (.int .i64 (i : Int)) ∧ w'.cell? ⟨pw, 0, none⟩ = some (.slice (some ⟨bs, os, none⟩) ns cs) ∧ w'.cell? ⟨bs, os + i * 4 + 1, none⟩ = some (.int .i64 ke) ∧ w'.cell? ⟨bs, os + i * 4 + 2, none⟩ = some (.int .i64 ge) ∧ w'.cell? ⟨bs, os + i * 4 + 3, none⟩ = some (.slice Ae ne ce)) w') := Lib.hid fun w' h => ⟨(h.cell (cell_lt d1)).trans d1, (h.cell (cell_lt s0)).trans s0, (h.cell (cell_lt e1)).trans e1, (h.cell (cell_lt e2)).trans e2, (h.cell (cell_lt e3)).trans e3⟩
  have hbd : Below W1.heap.size W1 W1.drew := (Below.refl _ W1).drew
  refine zzR HKS hbd (fun hS => ?_)
  simp only [List.size_toArray, List.length_cons, List.length_nil, Nat.reduceAdd]
  refine zzT (i := 0) (v := .pointer (some ⟨pw, 0, none⟩)) rfl hS ?_
  try simp only [Act.put, zzP]
  refine zzT (i := 1) (v := .pointer (some ⟨pw, 0, none⟩)) rfl hS ?_
  try simp only [Act.put, zzP]
  refine zzT (i := 2) (v := .pointer (some ⟨pw, 0, none⟩)) rfl hS ?_
  try simp only [Act.put, zzP]
  refine zzT (i := 3) (v := .slice (some ⟨bs, os, none⟩) ns cs) rfl hS ?_
  try simp only [Act.put, zzP]
  refine zzT (i := 4) (v := .pointer (some ⟨w.heap.size, 1, none⟩)) rfl hS ?_
  try simp only [Act.put, zzP]
  refine zzT (i := 5) (v := .int .i64 (i : Int)) rfl hS ?_
  try simp only [Act.put, zzP]
  refine zzT (i := 6) (v := .pointer (some ⟨bs, os + i * 4, none⟩)) rfl hS ?_
  try simp only [Act.put, zzP]
  refine zzT (i := 7) (v := .pointer (some ⟨bs, os + i * 4 + 1, none⟩)) rfl hS ?_
  try simp only [Act.put, zzP]
  refine zzT (i := 8) (v := .agg #[.int .i64 ke, .int .i64 ge, .slice Ae ne ce]) rfl hS ?_
  try simp only [Act.put, zzP]
  refine wpAnyH_ready (rs := [9]) (by kernel_rfl) (by simp) ?_
  refine AllReadyH.cons rfl (fun KN hK => ?_) AllReadyH.nil
  go_simp
  refine (HKI.out _ hbd).mono ?_
  rintro e w4 ⟨rfl, hb6⟩
  replace hbd : Below W1.heap.size W1 w4 := hbd.trans (hb6.mono hbd.size)
  clear hb6
  refine hK.out _ _ (HKS.out _ hbd) (fun hS => ?_)
  clear hK KN
  try simp only [Act.put, zzP]
  refine zzT (i := 10) (v := .bool r) rfl hS ?_
  try simp only [Act.put, zzP]
  refine wpAnyH_done (by kernel_rfl) ?_ _
  try simp only [List.setIfInBounds_toArray]
  try simp only [zzP]
  have HB3 := Lib.hid (HB1.out.trans (hbd.mono HB1.out.size))
  replace x1 := x1.keep hbd x1.lt
  have HSP := Lib.hid (fun (Z : Nat → Prop) (W' : World) (h' : Below w4.heap.size w4 W') => HSP1.out Z W' (hbd.trans (h'.mono hbd.size)))
  replace d1 := (hbd.cell (cell_lt d1)).trans d1
  replace d2 := (hbd.cell (cell_lt d2)).trans d2
  replace s0 := (hbd.cell (cell_lt s0)).trans s0
  replace e1 := (hbd.cell (cell_lt e1)).trans e1
  replace e2 := (hbd.cell (cell_lt e2)).trans e2
  replace e3 := (hbd.cell (cell_lt e3)).trans e3
  clear hS HKS HKI HSP1 hbd HB1
  cases r
  case' false =>
    have HQ := Lib.hid (show 2 = RR by rw [HEQ0.out, if_neg (by decide)])
    clear x1 HSP e1 e2 e3 d1 d2
    go_wp2_with fail
    go_ret
    exact ⟨ret_int HQ.out, HB3.out⟩
  have HEQ := Lib.hid (HEQ0.out.trans (if_pos rfl))
  clear HEQ0
  have hlz := x1.lt
  have hl0 := HB3.out.size
  generalize w4 = W3 at *
  go_wp2_with fail
  have HKS : Hid (∀ w' : World, Below W3.heap.size W3 w' → (fun w' => w'.cell? ⟨w.heap.size, 1, none⟩ = some (.int .i64 (i : Int)) ∧ w'.cell? ⟨pw, 0, none⟩ = some (.slice (some ⟨bs, os, none⟩) ns cs) ∧ w'.cell? ⟨bs, os + i * 4 + 1, none⟩ = some (.int .i64 ke) ∧ w'.cell? ⟨bs, os + i * 4 + 2, none⟩ = some (.int .i64 ge) ∧ w'.cell? ⟨bs, os + i * 4 + 3, none⟩ = some (.slice Ae ne ce) ∧ w'.cell? ⟨w.heap.size, 2, none⟩ = some (.slice A n c)) w') := Lib.hid fun w' h => ⟨(h.cell (cell_lt d1)).trans d1, (h.cell (cell_lt s0)).trans s0, (h.cell (cell_lt e1)).trans e1, (h.cell (cell_lt e2)).trans e2, (h.cell (cell_lt e3)).trans e3, (h.cell (cell_lt d2)).trans d2⟩
  have hbd : Below W3.heap.size W3 W3.drew := (Below.refl _ W3).drew
  refine zzR HKS hbd (fun hS => ?_)
  simp only [List.size_toArray, List.length_cons, List.length_nil, Nat.reduceAdd]
  refine zzT (i := 0) (v := .pointer (some ⟨pw, 0, none⟩)) rfl hS ?_
  try simp only [Act.put, zzP]
  refine zzT (i := 1) (v := .slice Ac nc cc) rfl hS ?_
  try simp only [Act.put, zzP]
  refine zzT (i := 2) (v := .pointer (some ⟨pw, 0, none⟩)) rfl hS ?_
  try simp only [Act.put, zzP]
  refine zzT (i := 3) (v := .pointer (some ⟨pw, 0, none⟩)) rfl hS ?_
  try simp only [Act.put, zzP]
  refine zzT (i := 4) (v := .pointer (some ⟨pw, 0, none⟩)) rfl hS ?_
  try simp only [Act.put, zzP]
  refine zzT (i := 5) (v := .slice (some ⟨bs, os, none⟩) ns cs) rfl hS ?_
  try simp only [Act.put, zzP]
  refine zzT (i := 6) (v := .pointer (some ⟨w.heap.size, 1, none⟩)) rfl hS ?_
  try simp only [Act.put, zzP]
  refine zzT (i := 7) (v := .int .i64 (i : Int)) rfl hS ?_
  try simp only [Act.put, zzP]
  refine zzT (i := 8) (v := .pointer (some ⟨bs, os + i * 4, none⟩)) rfl hS ?_
  try simp only [Act.put, zzP]
  refine zzT (i := 9) (v := .pointer (some ⟨bs, os + i * 4 + 1, none⟩)) rfl hS ?_
  try simp only [Act.put, zzP]
  refine zzT (i := 10) (v := .agg #[.int .i64 ke, .int .i64 ge, .slice Ae ne ce]) rfl hS ?_
  try simp only [Act.put, zzP]
  refine zzT (i := 11) (v := .pointer (some ⟨w.heap.size, 2, none⟩)) rfl hS ?_
  try simp only [Act.put, zzP]
  refine zzT (i := 12) (v := .slice A n c) rfl hS ?_
  try simp only [Act.put, zzP]
  refine wpAnyH_ready (rs := [13, 17]) (by kernel_rfl) (by simp) ?_
  refine AllReadyH.cons rfl (fun KN hK => ?_) (AllReadyH.cons rfl (fun KN hK => ?_) AllReadyH.nil)
  · go_simp
    refine (HSP.out (fun b => b = w.heap.size) _ hbd (fun b z => by have := hbd.size; omega)).mono ?_
    rintro e v0 ⟨k3, h3, A3, n3, c3, rfl, hS9, hb6⟩
    replace hbd : Below W3.heap.size W3 v0 := hbd.trans (hb6.mono hbd.size)
    clear hb6
    refine hK.out _ _ (HKS.out _ hbd) (fun hS => ?_)
    clear hK KN
    try simp only [Act.put, zzP]
    refine zzT (i := 14) (v := .tuple #[.agg #[.int .i64 k3, .int .i64 h3, .slice A3 n3 c3], .int .i64 (erV R)]) rfl hS ?_
    try simp only [Act.put, zzP]
    refine zzT (i := 15) (v := .agg #[.int .i64 k3, .int .i64 h3, .slice A3 n3 c3]) rfl hS ?_
    try simp only [Act.put, zzP]
    refine zzT (i := 16) (v := .int .i64 (erV R)) rfl hS ?_
    try simp only [Act.put, zzP]
    refine wpAnyH_ready (rs := [17]) (by kernel_rfl) (by simp) ?_
    refine AllReadyH.cons rfl (fun KN hK => ?_) AllReadyH.nil
    go_simp
    have hbn : Below W3.heap.size W3 (v0.alloc (.cells #[.int .i64 0, .int .i64 0, .slice none 0 0] 39)) := hbd.alloc hbd.size _
    refine hK.out _ _ (HKS.out _ hbn) (fun hS => ?_)
    clear hK KN
    try simp only [Act.put, zzP]
    have xz : Box (v0.alloc (.cells #[.int .i64 0, .int .i64 0, .slice none 0 0] 39)) v0.heap.size 39 #[.int .i64 0, .int .i64 0, .slice none 0 0] := Box.new _ _ _
    have hpl0 : W3.heap.size ≤ v0.heap.size := hbd.size
    replace hS9 : ∀ t, R = .ok t → RX (fun b => b = w.heap.size ∨ b = v0.heap.size) (v0.alloc (.cells #[.int .i64 0, .int .i64 0, .slice none 0 0] 39)) t (.agg #[.int .i64 k3, .int .i64 h3, .slice A3 n3 c3]) := fun t e => (hS9 t e).keepE (show Below v0.heap.size v0 (v0.alloc (.cells #[.int .i64 0, .int .i64 0, .slice none 0 0] 39)) from (Below.refl _ _).alloc (Nat.le_refl _) _) (fun b z => z.elim .inl (fun e => .inr (by omega)))
    obtain ⟨pB, hpB0⟩ : ∃ p, v0.heap.size = p := ⟨_, rfl⟩
    rw [hpB0] at xz hS9
    try rw [hpB0]
    have hpl : W3.heap.size ≤ pB := by omega
    clear hpB0 hbd hpl0
    generalize v0.alloc (.cells #[.int .i64 0, .int .i64 0, .slice none 0 0] 39) = wN at *
    have hbd := hbn
    clear hbn
    obtain ⟨z0, z1, z2⟩ := xz.three
    have u0 := xz.frozen 0
    have u1 := xz.frozen 1
    have u2 := xz.frozen 2
    refine wpAnyH_ready (rs := [18]) (by kernel_rfl) (by simp) ?_
    refine AllReadyH.cons rfl (fun KN hK => ?_) AllReadyH.nil
    go_simp
    have hbF := below_set3 hbd (a := pB) hpl (.int .i64 k3) (.int .i64 h3) (.slice A3 n3 c3)
    refine hK.out _ _ (HKS.out _ hbF) (fun hS => ?_)
    clear hK KN
    try simp only [Act.put, zzP]
    have xB := xz.put3 (.int .i64 k3) (.int .i64 h3) (.slice A3 n3 c3)
    have hrdF : ∀ t, R = .ok t → RX (fun b => b = w.heap.size) (((wN.setCell ⟨pB, 0, none⟩ (.int .i64 k3)).setCell ⟨pB, 1, none⟩ (.int .i64 h3)).setCell ⟨pB, 2, none⟩ (.slice A3 n3 c3)) t (.agg #[.int .i64 k3, .int .i64 h3, .slice A3 n3 c3]) := fun t e => RdF.moveX (fun b hok hl => ⟨fun z => hok (.inl z), heap_other3 _ _ _ _ _ _ (fun e => hok (.inr e))⟩) _ _ (hS9 t e)
    clear hS9 xz hbd z0 z1 z2 u0 u1 u2
    generalize ((wN.setCell ⟨pB, 0, none⟩ (.int .i64 k3)).setCell ⟨pB, 1, none⟩ (.int .i64 h3)).setCell ⟨pB, 2, none⟩ (.slice A3 n3 c3) = Wf at *
    refine zzT (i := 19) (v := .int .i64 (erV R)) rfl hS ?_
    try simp only [Act.put, zzP]
    refine wpAnyH_done (by kernel_rfl) ?_ _
    try simp only [List.setIfInBounds_toArray]
    try simp only [zzP]
    have HBF := Lib.hid (HB3.out.trans (hbF.mono HB3.out.size))
    have HRF := Lib.hid hrdF
    clear hS HKS hbF hpl hrdF HSP x1 d1 s0 e1 e2 e3 d2
    obtain ⟨y0, y1, y2⟩ := xB.three
    clear xB
    cases R with
    | error er =>
      have hne := HER.out er rfl
      have hd : (er != 0) = true := by simpa using hne
      have HQ := Lib.hid (show er = RR by rw [HEQ.out]; rfl)
      rw [show erV (.error er) = er from rfl]
      clear hne HRF HER
      go_wp2_with fail
      go_ret
      exact ⟨ret_int HQ.out, HBF.out⟩
    | ok t =>
      have hkd := (rdF_kind (RX.rd (HRF.out t rfl))).1
      rw [show erV (.ok t) = 0 from rfl]
      by_cases hk0 : k3 = 0
      · subst hk0
        have HQ := Lib.hid (show 0 = RR by rw [HEQ.out, knV, if_pos hkd])
        clear HRF HER hkd
        go_wp2_with fail
        go_ret
        exact ⟨ret_int HQ.out, HBF.out⟩
      · have hd : (k3 != 0) = true := by simpa using hk0
        have HQ := Lib.hid (show 3 = RR by rw [HEQ.out, knV, if_neg (by rw [hkd]; exact hk0)])
        clear HRF HER hkd
        go_wp2_with fail
        go_ret
        exact ⟨ret_int HQ.out, HBF.out⟩
  · go_simp
    have hbn : Below W3.heap.size W3 ((W3.alloc (.cells #[.int .i64 0, .int .i64 0, .slice none 0 0] 39)).drew) := ((Below.refl _ W3).alloc (Nat.le_refl _) _).drew
    refine hK.out _ _ (HKS.out _ hbn) (fun hS => ?_)
    clear hK KN
    try simp only [Act.put, zzP]
    have xz : Box ((W3.alloc (.cells #[.int .i64 0, .int .i64 0, .slice none 0 0] 39)).drew) W3.heap.size 39 #[.int .i64 0, .int .i64 0, .slice none 0 0] := Box.drewI (Box.new _ _ _)
    have hpl0 : W3.heap.size ≤ W3.heap.size := Nat.le_refl _
    obtain ⟨pB, hpB0⟩ : ∃ p, W3.heap.size = p := ⟨_, rfl⟩
    rw [hpB0] at xz
    try rw [hpB0]
    have hpl : W3.heap.size ≤ pB := by omega
    clear hpB0 hbd hpl0
    generalize (W3.alloc (.cells #[.int .i64 0, .int .i64 0, .slice none 0 0] 39)).drew = wN at *
    have hbd := hbn
    clear hbn
    refine wpAnyH_ready (rs := [13]) (by kernel_rfl) (by simp) ?_
    refine AllReadyH.cons rfl (fun KN hK => ?_) AllReadyH.nil
    go_simp
    refine (HSP.out (fun b => b = w.heap.size ∨ b = pB) _ hbd (fun b z => by have := xz.lt; have := hbd.size; rcases z with z | z <;> omega)).mono ?_
    rintro e v1 ⟨k3, h3, A3, n3, c3, rfl, hS9, hb6⟩
    replace hbd : Below W3.heap.size W3 v1 := hbd.trans (hb6.mono hbd.size)
    replace xz := xz.keep hb6 xz.lt
    clear hb6
    refine hK.out _ _ (HKS.out _ hbd) (fun hS => ?_)
    clear hK KN
    try simp only [Act.put, zzP]
    refine zzT (i := 14) (v := .tuple #[.agg #[.int .i64 k3, .int .i64 h3, .slice A3 n3 c3], .int .i64 (erV R)]) rfl hS ?_
    try simp only [Act.put, zzP]
    refine zzT (i := 15) (v := .agg #[.int .i64 k3, .int .i64 h3, .slice A3 n3 c3]) rfl hS ?_
    try simp only [Act.put, zzP]
    refine zzT (i := 16) (v := .int .i64 (erV R)) rfl hS ?_
    try simp only [Act.put, zzP]
    obtain ⟨z0, z1, z2⟩ := xz.three
    have u0 := xz.frozen 0
    have u1 := xz.frozen 1
    have u2 := xz.frozen 2
    refine wpAnyH_ready (rs := [18]) (by kernel_rfl) (by simp) ?_
    refine AllReadyH.cons rfl (fun KN hK => ?_) AllReadyH.nil
    go_simp
    have hbF := below_set3 hbd (a := pB) hpl (.int .i64 k3) (.int .i64 h3) (.slice A3 n3 c3)
    refine hK.out _ _ (HKS.out _ hbF) (fun hS => ?_)
    clear hK KN
    try simp only [Act.put, zzP]
    have xB := xz.put3 (.int .i64 k3) (.int .i64 h3) (.slice A3 n3 c3)
    have hrdF : ∀ t, R = .ok t → RX (fun b => b = w.heap.size) (((v1.setCell ⟨pB, 0, none⟩ (.int .i64 k3)).setCell ⟨pB, 1, none⟩ (.int .i64 h3)).setCell ⟨pB, 2, none⟩ (.slice A3 n3 c3)) t (.agg #[.int .i64 k3, .int .i64 h3, .slice A3 n3 c3]) := fun t e => RdF.moveX (fun b hok hl => ⟨fun z => hok (.inl z), heap_other3 _ _ _ _ _ _ (fun e => hok (.inr e))⟩) _ _ (hS9 t e)
    clear hS9 xz hbd z0 z1 z2 u0 u1 u2
    generalize ((v1.setCell ⟨pB, 0, none⟩ (.int .i64 k3)).setCell ⟨pB, 1, none⟩ (.int .i64 h3)).setCell ⟨pB, 2, none⟩ (.slice A3 n3 c3) = Wf at *
    refine zzT (i := 19) (v := .int .i64 (erV R)) rfl hS ?_
    try simp only [Act.put, zzP]
    refine wpAnyH_done (by kernel_rfl) ?_ _
    try simp only [List.setIfInBounds_toArray]
    try simp only [zzP]
    have HBF := Lib.hid (HB3.out.trans (hbF.mono HB3.out.size))
    have HRF := Lib.hid hrdF
    clear hS HKS hbF hpl hrdF HSP x1 d1 s0 e1 e2 e3 d2
    obtain ⟨y0, y1, y2⟩ := xB.three
    clear xB
    cases R with
    | error er =>
      have hne := HER.out er rfl
      have hd : (er != 0) = true := by simpa using hne
      have HQ := Lib.hid (show er = RR by rw [HEQ.out]; rfl)
      rw [show erV (.error er) = er from rfl]
      clear hne HRF HER
      go_wp2_with fail
      go_ret
      exact ⟨ret_int HQ.out, HBF.out⟩
    | ok t =>
      have hkd := (rdF_kind (RX.rd (HRF.out t rfl))).1
      rw [show erV (.ok t) = 0 from rfl]
      by_cases hk0 : k3 = 0
      · subst hk0
        have HQ := Lib.hid (show 0 = RR by rw [HEQ.out, knV, if_pos hkd])
        clear HRF HER hkd
        go_wp2_with fail
        go_ret
        exact ⟨ret_int HQ.out, HBF.out⟩
      · have hd : (k3 != 0) = true := by simpa using hk0
        have HQ := Lib.hid (show 3 = RR by rw [HEQ.out, knV, if_neg (by rw [hkd]; exact hk0)])
        clear HRF HER hkd
        go_wp2_with fail
        go_ret
        exact ⟨ret_int HQ.out, HBF.out⟩
end Go.Proofs.YtbbjjdnnlnabaaaGreat
