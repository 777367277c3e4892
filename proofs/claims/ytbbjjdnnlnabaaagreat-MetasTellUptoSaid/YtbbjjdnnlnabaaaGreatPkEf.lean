/- Texts of one proof, put together. No statement is proved here. -/
import Derived.Test.YtbbjjdnnlnabaaaGreatPkEb
import Derived.Test.YtbbjjdnnlnabaaaGreatPkVg
import Derived.Test.YtbbjjdnnlnabaaaGreatZt
namespace Go.Proofs.YtbbjjdnnlnabaaaGreat
open Go.ChangeShapes Go.WideShapes Go.ChangeAt Go.RowKit
set_option linter.unusedVariables false
set_option linter.unusedSimpArgs false
set_option maxRecDepth 100000
set_option maxHeartbeats 16000000
theorem clv_rx {Z : Nat → Prop} {w w' : World} {xs : List T} {A : Option Addr} {n c : Nat} (h : CLV w xs A n c) (hb : Below w.heap.size w w') (hz : ∀ b, Z b → w.heap.size ≤ b) : RXL Z w' xs A n c :=
  ⟨h.len, h.le, h.cap, fun i t ht => by
    obtain ⟨b, o, k, g, A', n', c', e, c0, c1, c2, hr⟩ := (h.at_ i t ht).full
    exact ⟨b, o, _, _, _, e, fun z => by have := hz b z; have := cell_lt c0; dsimp only at this; omega, (hb.cell (cell_lt c0)).trans c0, (hb.cell (cell_lt c1)).trans c1, (hb.cell (cell_lt c2)).trans c2, rx_any hr hb hz⟩⟩
theorem rup_bd {M : Int} {t : T} {b : Int} (hM : M ≤ 281474976710656) (bt : BdV M t) (hb : 0 ≤ b ∧ b ≤ 1048576) : rupX t b 0 = upT b t 0 := by
  have h4 := ((myB_iff t).1 bt.my).2.1
  rw [rupX, if_pos (by rw [Bool.and_eq_true, mvB_iff]; exact ⟨by omega, by rw [mayB_my (by omega)]; exact bt.my⟩), upW_eq (M := M) (by omega) hb t 0 bt.ok (by omega) (by omega)]
theorem spX_no {Z : Nat → Prop} {w w' : World} {r : Except Int T} {er : Int} (hr : r = .error er) (hb : Below w.heap.size w w') (p : Nat) (hp : w.heap.size ≤ p) (u0 u1 u2 : Value) :
    SpX Z r w (.returned (.tuple #[.agg #[.int .i64 0, .int .i64 0, .slice none 0 0], .int .i64 er])) (((w'.setCell ⟨p, 0, none⟩ u0).setCell ⟨p, 1, none⟩ u1).setCell ⟨p, 2, none⟩ u2) := by
  subst hr
  exact ⟨_, _, _, _, _, rfl, (fun t e => nomatch e), below_set3 hb hp _ _ _⟩
theorem spX_no0 {Z : Nat → Prop} {w w' : World} {r : Except Int T} {er : Int} (hr : r = .error er) (hb : Below w.heap.size w w') :
    SpX Z r w (.returned (.tuple #[.agg #[.int .i64 0, .int .i64 0, .slice none 0 0], .int .i64 er])) w' := by
  subst hr
  exact ⟨_, _, _, _, _, rfl, (fun t e => nomatch e), hb⟩
theorem spX_mv {w wr : World} {r : Except Int T} {k h : Int} {A : Option Addr} {n c : Nat} {p : Nat} (hr : ∀ t, r = .ok t → RX (fun b => b = p) wr t (.agg #[.int .i64 k, .int .i64 h, .slice A n c])) (hb : Below w.heap.size w wr) (hp : w.heap.size ≤ p) (u0 u1 u2 : Value) :
    SpX (fun _ => False) r w (.returned (.tuple #[.agg #[.int .i64 k, .int .i64 h, .slice A n c], .int .i64 (erV r)])) (((wr.setCell ⟨p, 0, none⟩ u0).setCell ⟨p, 1, none⟩ u1).setCell ⟨p, 2, none⟩ u2) :=
  ⟨k, h, A, n, c, rfl, fun t e => RdF.moveX (fun b hok hl => ⟨fun z => z, heap_other3 _ _ _ _ _ _ hok⟩) _ _ (hr t e), below_set3 hb hp _ _ _⟩
theorem eNoC {W : WV} {k h : Int} {xs : List T} (h4 : k ≠ 4) (h5 : k ≠ 5) (h6 : k ≠ 6) : CoE W (.node k h xs) := by
  intro cx B As ns cs Am nm cm Ac nc cc pw vm w hE hbm hsum hlen hk hp hv
  obtain ⟨A, n, c, rfl, _, _, g3, g4, g5, g6⟩ := Rd_node.1 hv
  obtain ⟨W0, hW⟩ : ∃ W0, (w.alloc (.cells #[.int .i64 k, .int .i64 h, .slice A n c] 39)).alloc (.cells #[.int .i64 0, .int .i64 0, .slice none 0 0] 39) = W0 := ⟨_, rfl⟩
  have hb : Below w.heap.size w W0 := by rw [← hW]; exact ((Below.refl _ _).alloc (Nat.le_refl _) _).alloc (by simp) _
  have x1 : Box W0 w.heap.size 39 #[.int .i64 k, .int .i64 h, .slice A n c] := by rw [← hW]; exact (Box.new _ _ _).alloc _
  have x2 : Box W0 (w.heap.size + 1) 39 #[.int .i64 0, .int .i64 0, .slice none 0 0] := by rw [← hW]; exact (Box.new (w.alloc _) _ _).at (by simp)
  obtain ⟨d0, d1, d2⟩ := x1.three
  have HB := Lib.hid hb
  have b4 : (k == 4) = false := by simpa using h4
  have b5 : (k == 5) = false := by simpa using h5
  have b6 : (k == 6) = false := by simpa using h6
  have HQ := Lib.hid (cm_none (W := W) (cx := cx) (h := h) (xs := xs) h4 h5 h6)
  obtain ⟨r0, r1, r2⟩ := x2.three
  have f0 := x2.frozen 0
  have f1 := x2.frozen 1
  have f2 := x2.frozen 2
  have lz := x2.lt
  clear hE hbm hsum hlen hk hp hb x1 x2 hv g3 g4 g5 g6
  go_enter Tryz.func77, Tryz.ntmps77
  go_wp2_with fail
  try rw [hW]
  clear hW
  go_wp2_with fail
  refine bodyPost_ret (v := .tuple #[.agg #[.int .i64 0, .int .i64 0, .slice none 0 0], .int .i64 3]) (by simp [results, Tryz.results77, go_sem, r0, r1, r2]) rfl ?_
  first | exact spX_no HQ.out HB.out _ (by omega) _ _ _ | exact spX_no0 HQ.out HB.out
theorem eConC {W : WV} {h : Int} {xs : List T} (ih : ∀ x ∈ xs, TmE W x) : CoE W (.node 5 h xs) := by
  intro cx B As ns cs Am nm cm Ac nc cc pw vm w hE hbm hsum hlen hk hp hv
  obtain ⟨A, n, c, rfl, _, _, g3, g4, g5, g6⟩ := Rd_node.1 hv
  have hxl : CLV w xs A n c := ⟨g3, g4, g5, g6⟩
  clear g3 g4 g5 g6
  have h0 := headV hbm.nod
  have hscap := hk.sg.cap
  have hsle := hk.sg.le
  have hsl := hk.sg.len
  unfold maxLen at hscap
  obtain ⟨i, rfl⟩ : ∃ i : Nat, h = i := ⟨h.toNat, by omega⟩
  obtain ⟨W0, hW⟩ : ∃ W0, (w.alloc (.cells #[.int .i64 5, .int .i64 (i : Int), .slice A n c] 39)).alloc (.cells #[.int .i64 0, .int .i64 0, .slice none 0 0] 39) = W0 := ⟨_, rfl⟩
  have hb : Below w.heap.size w W0 := by rw [← hW]; exact ((Below.refl _ _).alloc (Nat.le_refl _) _).alloc (by simp) _
  have x1 : Box W0 w.heap.size 39 #[.int .i64 5, .int .i64 (i : Int), .slice A n c] := by rw [← hW]; exact (Box.new _ _ _).alloc _
  have x2 : Box W0 (w.heap.size + 1) 39 #[.int .i64 0, .int .i64 0, .slice none 0 0] := by rw [← hW]; exact (Box.new (w.alloc _) _ _).at (by simp)
  obtain ⟨d0, d1, d2⟩ := x1.three
  have s0 : W0.cell? ⟨pw, 0, none⟩ = some (.slice As ns cs) := (hp.keep hb hp.lt).cell 0
  have HB := Lib.hid hb
  by_cases hlt : i < ns
  case' neg =>
    have dg : decide ((i : Int) ≥ (ns : Int)) = true := by simp; omega
    have dg2 : decide ((ns : Int) ≤ (i : Int)) = true := by simp; omega
    have hge : ns ≤ i := by omega
    have HQ := Lib.hid (cm_con_no (W := W) (cx := cx) (xs := xs) (h := (i : Int)) (by omega))
    clear hE  hbm hsum hxl hv hlen hk hp ih hb x1
    go_enter Tryz.func77, Tryz.ntmps77
    go_wp2_with fail
    try rw [hW]
    clear hW
    go_wp2_with fail
    have HKS : Hid (∀ w' : World, Below W0.heap.size W0 w' → (fun w' => w'.cell? ⟨w.heap.size, 1, none⟩ = some (.int .i64 (i : Int)) ∧ w'.cell? ⟨pw, 0, none⟩ = some (.slice As ns cs)) w') := Lib.hid fun w' h => ⟨(h.cell (cell_lt d1)).trans d1, (h.cell (cell_lt s0)).trans s0⟩
    have hbd : Below W0.heap.size W0 W0.drew := (Below.refl _ W0).drew
    refine zzR HKS hbd (fun hS => ?_)
    simp only [List.size_toArray, List.length_cons, List.length_nil, Nat.reduceAdd]
    refine zzT (i := 0) (v := .pointer (some ⟨w.heap.size, 1, none⟩)) rfl hS ?_
    try simp only [Act.put, zzP]
    refine zzT (i := 1) (v := .int .i64 (i : Int)) rfl hS ?_
    try simp only [Act.put, zzP]
    refine zzT (i := 2) (v := .pointer (some ⟨pw, 0, none⟩)) rfl hS ?_
    try simp only [Act.put, zzP]
    refine zzT (i := 3) (v := .pointer (some ⟨pw, 0, none⟩)) rfl hS ?_
    try simp only [Act.put, zzP]
    refine zzT (i := 4) (v := .pointer (some ⟨pw, 0, none⟩)) rfl hS ?_
    try simp only [Act.put, zzP]
    refine zzT (i := 5) (v := .slice As ns cs) rfl hS ?_
    try simp only [Act.put, zzP]
    refine zzT (i := 6) (v := .int .i64 ns) rfl hS ?_
    try simp only [Act.put, zzP]
    refine zzT (i := 7) (v := .bool true) rfl hS ?_
    try simp only [Act.put, zzP]
    refine wpAnyH_done (by kernel_rfl) ?_ _
    try simp only [List.setIfInBounds_toArray]
    try simp only [zzP]
    have HBF := Lib.hid (HB.out.trans (hbd.mono HB.out.size))
    have yr := x2.keep hbd x2.lt
    replace s0 := (hbd.cell (cell_lt s0)).trans s0
    clear hS HKS hbd x2 d0 d1 d2 HB
    generalize W0.drew = W1 at *
    obtain ⟨r0, r1, r2⟩ := yr.three
    have f0 := yr.frozen 0
    have f1 := yr.frozen 1
    have f2 := yr.frozen 2
    have lz := yr.lt
    clear yr
    go_wp2_with fail
    refine bodyPost_ret (v := .tuple #[.agg #[.int .i64 0, .int .i64 0, .slice none 0 0], .int .i64 2]) (by simp [results, Tryz.results77, go_sem, r0, r1, r2]) rfl ?_
    first | exact spX_no HQ.out HBF.out _ (by omega) _ _ _ | exact spX_no0 HQ.out HBF.out
  have dg : decide ((i : Int) ≥ (ns : Int)) = false := by simp; omega
  have dg2 : decide ((ns : Int) ≤ (i : Int)) = false := by simp; omega
  have hge : ¬ ns ≤ i := by omega
  obtain ⟨e, he⟩ := at_of hsl hlt
  obtain ⟨bs, os, st, ke, ge, Ae, ne, ce, rfl, e0, e1, e2, e3, hre⟩ := hk.sg.at_ i e he
  replace e1 := (hb.cell (cell_lt e1)).trans e1
  replace e2 := (hb.cell (cell_lt e2)).trans e2
  replace e3 := (hb.cell (cell_lt e3)).trans e3
  have hi0 : (0 : Int) ≤ (i : Int) := by omega
  have hi1 : (i : Int) < (ns : Int) := by omega
  have hme := hE.sg e (List.mem_of_getElem? he)
  have HKI := Lib.hid (fun (W' : World) (h' : Below W0.heap.size W0 W') => rkindC e _ W' (Rd.keep (hb.trans (h'.mono hb.size)) _ _ hre) (by have := ((myB_iff e).1 hme.my).2.1; omega))
  rw [nd] at hlen hsum
  have HSP0 := Lib.hid (fun (Z : Nat → Prop) (W' : World) (h' : Below W0.heap.size W0 W') (hz : ∀ b, Z b → w.heap.size ≤ b ∧ b < W'.heap.size) => eSpineC (Z := Z) (W := W) (xs := xs) (cx := cx) (t := e) (B := B) (B0 := B) (ns := ns) (Am := Am) (nm := nm) (Ac := Ac) ih hE (fun x hx => hbm.arg hx) (hme.mono hE.lo) (Int.le_refl _) (by unfold dlV hiV at *; omega) (by omega) W' (hk.keep (hb.trans (h'.mono hb.size))) (hp.keep (hb.trans (h'.mono hb.size)) hp.lt) (clv_rx hxl (hb.trans (h'.mono hb.size)) (fun b z => (hz b z).1)) (rx_any hre (hb.trans (h'.mono hb.size)) (fun b z => (hz b z).1)) (fun b z => (hz b z).2))
  obtain ⟨r, hr⟩ : ∃ r, kiB e = r := ⟨_, rfl⟩
  rw [hr] at HKI
  obtain ⟨R, hR⟩ : ∃ R, spV W xs cx e = R := ⟨_, rfl⟩
  rw [hR] at HSP0
  have HEQ0 : Hid (cmV W cx (.node 5 (i : Int) xs) = if r = true then .error 2 else R) := Lib.hid (by
    cases r
    · rw [cm_con e he hr, hR]; rfl
    · rw [cm_con_ki e he hr]; rfl)
  clear hE hbm hsum hlen hk hp ih hre hme he hxl hr hlt hR hv hsl
  go_enter Tryz.func77, Tryz.ntmps77
  go_wp2_with fail
  try rw [hW]
  clear hW
  go_wp2_with fail
  have HKS : Hid (∀ w' : World, Below W0.heap.size W0 w' → (fun w' => w'.cell? ⟨w.heap.size, 1, none⟩ = some (.int .i64 (i : Int)) ∧ w'.cell? ⟨pw, 0, none⟩ = some (.slice (some ⟨bs, os, none⟩) ns cs)) w') := Lib.hid fun w' h => ⟨(h.cell (cell_lt d1)).trans d1, (h.cell (cell_lt s0)).trans s0⟩
  have hbd : Below W0.heap.size W0 W0.drew := (Below.refl _ W0).drew
  refine zzR HKS hbd (fun hS => ?_)
  simp only [List.size_toArray, List.length_cons, List.length_nil, Nat.reduceAdd]
  refine zzT (i := 0) (v := .pointer (some ⟨w.heap.size, 1, none⟩)) rfl hS ?_
  try simp only [Act.put, zzP]
  refine zzT (i := 1) (v := .int .i64 (i : Int)) rfl hS ?_
  try simp only [Act.put, zzP]
  refine zzT (i := 2) (v := .pointer (some ⟨pw, 0, none⟩)) rfl hS ?_
  try simp only [Act.put, zzP]
  refine zzT (i := 3) (v := .pointer (some ⟨pw, 0, none⟩)) rfl hS ?_
  try simp only [Act.put, zzP]
  refine zzT (i := 4) (v := .pointer (some ⟨pw, 0, none⟩)) rfl hS ?_
  try simp only [Act.put, zzP]
  refine zzT (i := 5) (v := .slice (some ⟨bs, os, none⟩) ns cs) rfl hS ?_
  try simp only [Act.put, zzP]
  refine zzT (i := 6) (v := .int .i64 ns) rfl hS ?_
  try simp only [Act.put, zzP]
  refine zzT (i := 7) (v := .bool false) rfl hS ?_
  try simp only [Act.put, zzP]
  refine wpAnyH_done (by kernel_rfl) ?_ _
  try simp only [List.setIfInBounds_toArray]
  try simp only [zzP]
  have HB1 := Lib.hid (HB.out.trans (hbd.mono HB.out.size))
  replace x1 := x1.keep hbd x1.lt
  replace x2 := x2.keep hbd x2.lt
  have HKJ := Lib.hid (fun (W' : World) (h' : Below W0.drew.heap.size W0.drew W') => HKI.out W' (hbd.trans (h'.mono hbd.size)))
  have HSP1 := Lib.hid (fun (Z : Nat → Prop) (W' : World) (h' : Below W0.drew.heap.size W0.drew W') => HSP0.out Z W' (hbd.trans (h'.mono hbd.size)))
  clear HKI HSP0
  have HKI := HKJ
  replace d1 := (hbd.cell (cell_lt d1)).trans d1
  replace d2 := (hbd.cell (cell_lt d2)).trans d2
  replace s0 := (hbd.cell (cell_lt s0)).trans s0
  replace e1 := (hbd.cell (cell_lt e1)).trans e1
  replace e2 := (hbd.cell (cell_lt e2)).trans e2
  replace e3 := (hbd.cell (cell_lt e3)).trans e3
  clear hS HKS HKJ d0 e0 hb HB hbd
  generalize W0.drew = W1 at *
  go_wp2_with fail
  have HKS : Hid (∀ w' : World, Below W1.heap.size W1 w' → (fun w' => w'.cell? ⟨w.heap.size, 1, none⟩ = some (.int .i64 (i : Int)) ∧ w'.cell? ⟨pw, 0, none⟩ = some (.slice (some ⟨bs, os, none⟩) ns cs) ∧ w'.cell? ⟨bs, os + i * 4 + 1, none⟩ = some (.int .i64 ke) ∧ w'.cell? ⟨bs, os + i * 4 + 2, none⟩ = some (.int .i64 ge) ∧ w'.cell? ⟨bs, os + i * 4 + 3, none⟩ = some (.slice Ae ne ce)) w') := Lib.hid fun w' h => ⟨(h.cell (cell_lt d1)).trans d1, (h.cell (cell_lt s0)).trans s0, (h.cell (cell_lt e1)).trans e1, (h.cell (cell_lt e2)).trans e2, (h.cell (cell_lt e3)).trans e3⟩
  have hbd : Below W1.heap.size W1 W1.drew := (Below.refl _ W1).drew
  refine zzR HKS hbd (fun hS => ?_)
  simp only [List.size_toArray, List.length_cons, List.length_nil, Nat.reduceAdd]
  refine zzT (i := 0) (v := .pointer (some ⟨pw, 0, none⟩)) rfl hS ?_
  try simp only [Act.put, zzP]
  refine zzT (i := 1) (v := .pointer (some ⟨pw, 0, none⟩)) rfl hS ?_
  try simp only [Act.put, zzP]
  refine zzT (i := 2) (v := .pointer (some ⟨pw, 0, none⟩)) rfl hS ?_
  try simp only [Act.put, zzP]
  refine zzT (i := 3) (v := .slice (some ⟨bs, os, none⟩) ns cs) rfl hS ?_
  try simp only [Act.put, zzP]
  refine zzT (i := 4) (v := .pointer (some ⟨w.heap.size, 1, none⟩)) rfl hS ?_
  try simp only [Act.put, zzP]
  refine zzT (i := 5) (v := .int .i64 (i : Int)) rfl hS ?_
  try simp only [Act.put, zzP]
  refine zzT (i := 6) (v := .pointer (some ⟨bs, os + i * 4, none⟩)) rfl hS ?_
  try simp only [Act.put, zzP]
  refine zzT (i := 7) (v := .pointer (some ⟨bs, os + i * 4 + 1, none⟩)) rfl hS ?_
  try simp only [Act.put, zzP]
  refine zzT (i := 8) (v := .agg #[.int .i64 ke, .int .i64 ge, .slice Ae ne ce]) rfl hS ?_
  try simp only [Act.put, zzP]
  refine wpAnyH_ready (rs := [9]) (by kernel_rfl) (by simp) ?_
  refine AllReadyH.cons rfl (fun KN hK => ?_) AllReadyH.nil
  go_simp
  refine (HKI.out _ hbd).mono ?_
  rintro e w4 ⟨rfl, hb6⟩
  replace hbd : Below W1.heap.size W1 w4 := hbd.trans (hb6.mono hbd.size)
  clear hb6
  refine hK.out _ _ (HKS.out _ hbd) (fun hS => ?_)
  clear hK KN
  try simp only [Act.put, zzP]
  refine zzT (i := 10) (v := .bool r) rfl hS ?_
  try simp only [Act.put, zzP]
  refine wpAnyH_done (by kernel_rfl) ?_ _
  try simp only [List.setIfInBounds_toArray]
  try simp only [zzP]
  have HB3 := Lib.hid (HB1.out.trans (hbd.mono HB1.out.size))
  replace x1 := x1.keep hbd x1.lt
  replace x2 := x2.keep hbd x2.lt
  have HSP := Lib.hid (fun (Z : Nat → Prop) (W' : World) (h' : Below w4.heap.size w4 W') => HSP1.out Z W' (hbd.trans (h'.mono hbd.size)))
  replace d1 := (hbd.cell (cell_lt d1)).trans d1
  replace d2 := (hbd.cell (cell_lt d2)).trans d2
  replace s0 := (hbd.cell (cell_lt s0)).trans s0
  replace e1 := (hbd.cell (cell_lt e1)).trans e1
  replace e2 := (hbd.cell (cell_lt e2)).trans e2
  replace e3 := (hbd.cell (cell_lt e3)).trans e3
  clear hS HKS HKI HSP1 hbd HB1
  cases r
  case' true =>
    have HQ := Lib.hid (HEQ0.out.trans (if_pos rfl))
    obtain ⟨r0, r1, r2⟩ := x2.three
    have f0 := x2.frozen 0
    have f1 := x2.frozen 1
    have f2 := x2.frozen 2
    have lz := x2.lt
    clear x1 x2 HSP e1 e2 e3 d1 d2
    go_wp2_with fail
    refine bodyPost_ret (v := .tuple #[.agg #[.int .i64 0, .int .i64 0, .slice none 0 0], .int .i64 2]) (by simp [results, Tryz.results77, go_sem, r0, r1, r2]) rfl ?_
    first | exact spX_no HQ.out HB3.out _ (by omega) _ _ _ | exact spX_no0 HQ.out HB3.out
  have HEQ := Lib.hid (HEQ0.out.trans (if_neg (by decide)))
  clear HEQ0 x1
  have hlz := x2.lt
  have hl0 := HB3.out.size
  generalize w4 = W3 at *
  go_wp2_with fail
  have HKS : Hid (∀ w' : World, Below W3.heap.size W3 w' → (fun w' => w'.cell? ⟨w.heap.size, 1, none⟩ = some (.int .i64 (i : Int)) ∧ w'.cell? ⟨pw, 0, none⟩ = some (.slice (some ⟨bs, os, none⟩) ns cs) ∧ w'.cell? ⟨bs, os + i * 4 + 1, none⟩ = some (.int .i64 ke) ∧ w'.cell? ⟨bs, os + i * 4 + 2, none⟩ = some (.int .i64 ge) ∧ w'.cell? ⟨bs, os + i * 4 + 3, none⟩ = some (.slice Ae ne ce) ∧ w'.cell? ⟨w.heap.size, 2, none⟩ = some (.slice A n c)) w') := Lib.hid fun w' h => ⟨(h.cell (cell_lt d1)).trans d1, (h.cell (cell_lt s0)).trans s0, (h.cell (cell_lt e1)).trans e1, (h.cell (cell_lt e2)).trans e2, (h.cell (cell_lt e3)).trans e3, (h.cell (cell_lt d2)).trans d2⟩
  have hbd : Below W3.heap.size W3 W3.drew := (Below.refl _ W3).drew
  refine zzR HKS hbd (fun hS => ?_)
  simp only [List.size_toArray, List.length_cons, List.length_nil, Nat.reduceAdd]
  refine zzT (i := 0) (v := .pointer (some ⟨pw, 0, none⟩)) rfl hS ?_
  try simp only [Act.put, zzP]
  refine zzT (i := 1) (v := .slice Ac nc cc) rfl hS ?_
  try simp only [Act.put, zzP]
  refine zzT (i := 2) (v := .pointer (some ⟨pw, 0, none⟩)) rfl hS ?_
  try simp only [Act.put, zzP]
  refine zzT (i := 3) (v := .pointer (some ⟨pw, 0, none⟩)) rfl hS ?_
  try simp only [Act.put, zzP]
  refine zzT (i := 4) (v := .pointer (some ⟨pw, 0, none⟩)) rfl hS ?_
  try simp only [Act.put, zzP]
  refine zzT (i := 5) (v := .slice (some ⟨bs, os, none⟩) ns cs) rfl hS ?_
  try simp only [Act.put, zzP]
  refine zzT (i := 6) (v := .pointer (some ⟨w.heap.size, 1, none⟩)) rfl hS ?_
  try simp only [Act.put, zzP]
  refine zzT (i := 7) (v := .int .i64 (i : Int)) rfl hS ?_
  try simp only [Act.put, zzP]
  refine zzT (i := 8) (v := .pointer (some ⟨bs, os + i * 4, none⟩)) rfl hS ?_
  try simp only [Act.put, zzP]
  refine zzT (i := 9) (v := .pointer (some ⟨bs, os + i * 4 + 1, none⟩)) rfl hS ?_
  try simp only [Act.put, zzP]
  refine zzT (i := 10) (v := .agg #[.int .i64 ke, .int .i64 ge, .slice Ae ne ce]) rfl hS ?_
  try simp only [Act.put, zzP]
  refine zzT (i := 11) (v := .pointer (some ⟨w.heap.size, 2, none⟩)) rfl hS ?_
  try simp only [Act.put, zzP]
  refine zzT (i := 12) (v := .slice A n c) rfl hS ?_
  try simp only [Act.put, zzP]
  refine wpAnyH_ready (rs := [13, 17]) (by kernel_rfl) (by simp) ?_
  refine AllReadyH.cons rfl (fun KN hK => ?_) (AllReadyH.cons rfl (fun KN hK => ?_) AllReadyH.nil)
  · go_simp
    refine (HSP.out (fun b => b = w.heap.size + 1) _ hbd (fun b z => by have := hbd.size; omega)).mono ?_
    rintro e v0 ⟨k3, h3, A3, n3, c3, rfl, hS9, hb6⟩
    replace hbd : Below W3.heap.size W3 v0 := hbd.trans (hb6.mono hbd.size)
    clear hb6
    refine hK.out _ _ (HKS.out _ hbd) (fun hS => ?_)
    clear hK KN
    try simp only [Act.put, zzP]
    refine zzT (i := 14) (v := .tuple #[.agg #[.int .i64 k3, .int .i64 h3, .slice A3 n3 c3], .int .i64 (erV R)]) rfl hS ?_
    try simp only [Act.put, zzP]
    refine zzT (i := 15) (v := .agg #[.int .i64 k3, .int .i64 h3, .slice A3 n3 c3]) rfl hS ?_
    try simp only [Act.put, zzP]
    refine zzT (i := 16) (v := .int .i64 (erV R)) rfl hS ?_
    try simp only [Act.put, zzP]
    refine wpAnyH_ready (rs := [17]) (by kernel_rfl) (by simp) ?_
    refine AllReadyH.cons rfl (fun KN hK => ?_) AllReadyH.nil
    go_simp
    have hbn : Below W3.heap.size W3 (v0.alloc (.cells #[.int .i64 0, .int .i64 0, .slice none 0 0] 39)) := hbd.alloc hbd.size _
    refine hK.out _ _ (HKS.out _ hbn) (fun hS => ?_)
    clear hK KN
    try simp only [Act.put, zzP]
    have xz : Box (v0.alloc (.cells #[.int .i64 0, .int .i64 0, .slice none 0 0] 39)) v0.heap.size 39 #[.int .i64 0, .int .i64 0, .slice none 0 0] := Box.new _ _ _
    have hpl0 : W3.heap.size ≤ v0.heap.size := hbd.size
    replace hS9 : ∀ t, R = .ok t → RX (fun b => b = w.heap.size + 1 ∨ b = v0.heap.size) (v0.alloc (.cells #[.int .i64 0, .int .i64 0, .slice none 0 0] 39)) t (.agg #[.int .i64 k3, .int .i64 h3, .slice A3 n3 c3]) := fun t e => (hS9 t e).keepE (show Below v0.heap.size v0 (v0.alloc (.cells #[.int .i64 0, .int .i64 0, .slice none 0 0] 39)) from (Below.refl _ _).alloc (Nat.le_refl _) _) (fun b z => z.elim .inl (fun e => .inr (by omega)))
    obtain ⟨pB, hpB0⟩ : ∃ p, v0.heap.size = p := ⟨_, rfl⟩
    rw [hpB0] at xz hS9
    try rw [hpB0]
    have hpl : W3.heap.size ≤ pB := by omega
    clear hpB0 hbd hpl0
    generalize v0.alloc (.cells #[.int .i64 0, .int .i64 0, .slice none 0 0] 39) = wN at *
    have hbd := hbn
    clear hbn
    obtain ⟨z0, z1, z2⟩ := xz.three
    have u0 := xz.frozen 0
    have u1 := xz.frozen 1
    have u2 := xz.frozen 2
    refine wpAnyH_ready (rs := [18]) (by kernel_rfl) (by simp) ?_
    refine AllReadyH.cons rfl (fun KN hK => ?_) AllReadyH.nil
    go_simp
    have hbF := below_set3 hbd (a := pB) hpl (.int .i64 k3) (.int .i64 h3) (.slice A3 n3 c3)
    refine hK.out _ _ (HKS.out _ hbF) (fun hS => ?_)
    clear hK KN
    try simp only [Act.put, zzP]
    have xB := xz.put3 (.int .i64 k3) (.int .i64 h3) (.slice A3 n3 c3)
    have hrdF : ∀ t, R = .ok t → RX (fun b => b = w.heap.size + 1) (((wN.setCell ⟨pB, 0, none⟩ (.int .i64 k3)).setCell ⟨pB, 1, none⟩ (.int .i64 h3)).setCell ⟨pB, 2, none⟩ (.slice A3 n3 c3)) t (.agg #[.int .i64 k3, .int .i64 h3, .slice A3 n3 c3]) := fun t e => RdF.moveX (fun b hok hl => ⟨fun z => hok (.inl z), heap_other3 _ _ _ _ _ _ (fun e => hok (.inr e))⟩) _ _ (hS9 t e)
    clear hS9 xz hbd z0 z1 z2 u0 u1 u2
    generalize ((wN.setCell ⟨pB, 0, none⟩ (.int .i64 k3)).setCell ⟨pB, 1, none⟩ (.int .i64 h3)).setCell ⟨pB, 2, none⟩ (.slice A3 n3 c3) = Wf at *
    refine zzT (i := 19) (v := .int .i64 (erV R)) rfl hS ?_
    try simp only [Act.put, zzP]
    refine wpAnyH_done (by kernel_rfl) ?_ _
    try simp only [List.setIfInBounds_toArray]
    try simp only [zzP]
    have HBF := Lib.hid (HB3.out.trans (hbF.mono HB3.out.size))
    have yr := x2.keep hbF x2.lt
    have y := yr.put3 (.int .i64 k3) (.int .i64 h3) (.slice A3 n3 c3)
    have HRF := Lib.hid hrdF
    clear hS HKS hbF hpl hrdF HSP x2 d1 s0 e1 e2 e3 d2
    obtain ⟨y0, y1, y2⟩ := xB.three
    obtain ⟨r0, r1, r2⟩ := yr.three
    have f0 := yr.frozen 0
    have f1 := yr.frozen 1
    have f2 := yr.frozen 2
    have lz := yr.lt
    obtain ⟨z0, z1, z2⟩ := y.three
    clear yr y xB
    go_wp2_with fail
    refine bodyPost_ret (v := .tuple #[.agg #[.int .i64 k3, .int .i64 h3, .slice A3 n3 c3], .int .i64 (erV R)]) (by simp [results, Tryz.results77, go_sem, z0, z1, z2]) rfl ?_
    rw [HEQ.out]
    exact spX_mv HRF.out HBF.out (by omega) _ _ _
  · go_simp
    have hbn : Below W3.heap.size W3 ((W3.alloc (.cells #[.int .i64 0, .int .i64 0, .slice none 0 0] 39)).drew) := ((Below.refl _ W3).alloc (Nat.le_refl _) _).drew
    refine hK.out _ _ (HKS.out _ hbn) (fun hS => ?_)
    clear hK KN
    try simp only [Act.put, zzP]
    have xz : Box ((W3.alloc (.cells #[.int .i64 0, .int .i64 0, .slice none 0 0] 39)).drew) W3.heap.size 39 #[.int .i64 0, .int .i64 0, .slice none 0 0] := Box.drewI (Box.new _ _ _)
    have hpl0 : W3.heap.size ≤ W3.heap.size := Nat.le_refl _
    obtain ⟨pB, hpB0⟩ : ∃ p, W3.heap.size = p := ⟨_, rfl⟩
    rw [hpB0] at xz
    try rw [hpB0]
    have hpl : W3.heap.size ≤ pB := by omega
    clear hpB0 hbd hpl0
    generalize (W3.alloc (.cells #[.int .i64 0, .int .i64 0, .slice none 0 0] 39)).drew = wN at *
    have hbd := hbn
    clear hbn
    refine wpAnyH_ready (rs := [13]) (by kernel_rfl) (by simp) ?_
    refine AllReadyH.cons rfl (fun KN hK => ?_) AllReadyH.nil
    go_simp
    refine (HSP.out (fun b => b = w.heap.size + 1 ∨ b = pB) _ hbd (fun b z => by have := xz.lt; have := hbd.size; rcases z with z | z <;> omega)).mono ?_
    rintro e v1 ⟨k3, h3, A3, n3, c3, rfl, hS9, hb6⟩
    replace hbd : Below W3.heap.size W3 v1 := hbd.trans (hb6.mono hbd.size)
    replace xz := xz.keep hb6 xz.lt
    clear hb6
    refine hK.out _ _ (HKS.out _ hbd) (fun hS => ?_)
    clear hK KN
    try simp only [Act.put, zzP]
    refine zzT (i := 14) (v := .tuple #[.agg #[.int .i64 k3, .int .i64 h3, .slice A3 n3 c3], .int .i64 (erV R)]) rfl hS ?_
    try simp only [Act.put, zzP]
    refine zzT (i := 15) (v := .agg #[.int .i64 k3, .int .i64 h3, .slice A3 n3 c3]) rfl hS ?_
    try simp only [Act.put, zzP]
    refine zzT (i := 16) (v := .int .i64 (erV R)) rfl hS ?_
    try simp only [Act.put, zzP]
    obtain ⟨z0, z1, z2⟩ := xz.three
    have u0 := xz.frozen 0
    have u1 := xz.frozen 1
    have u2 := xz.frozen 2
    refine wpAnyH_ready (rs := [18]) (by kernel_rfl) (by simp) ?_
    refine AllReadyH.cons rfl (fun KN hK => ?_) AllReadyH.nil
    go_simp
    have hbF := below_set3 hbd (a := pB) hpl (.int .i64 k3) (.int .i64 h3) (.slice A3 n3 c3)
    refine hK.out _ _ (HKS.out _ hbF) (fun hS => ?_)
    clear hK KN
    try simp only [Act.put, zzP]
    have xB := xz.put3 (.int .i64 k3) (.int .i64 h3) (.slice A3 n3 c3)
    have hrdF : ∀ t, R = .ok t → RX (fun b => b = w.heap.size + 1) (((v1.setCell ⟨pB, 0, none⟩ (.int .i64 k3)).setCell ⟨pB, 1, none⟩ (.int .i64 h3)).setCell ⟨pB, 2, none⟩ (.slice A3 n3 c3)) t (.agg #[.int .i64 k3, .int .i64 h3, .slice A3 n3 c3]) := fun t e => RdF.moveX (fun b hok hl => ⟨fun z => hok (.inl z), heap_other3 _ _ _ _ _ _ (fun e => hok (.inr e))⟩) _ _ (hS9 t e)
    clear hS9 xz hbd z0 z1 z2 u0 u1 u2
    generalize ((v1.setCell ⟨pB, 0, none⟩ (.int .i64 k3)).setCell ⟨pB, 1, none⟩ (.int .i64 h3)).setCell ⟨pB, 2, none⟩ (.slice A3 n3 c3) = Wf at *
    refine zzT (i := 19) (v := .int .i64 (erV R)) rfl hS ?_
    try simp only [Act.put, zzP]
    refine wpAnyH_done (by kernel_rfl) ?_ _
    try simp only [List.setIfInBounds_toArray]
    try simp only [zzP]
    have HBF := Lib.hid (HB3.out.trans (hbF.mono HB3.out.size))
    have yr := x2.keep hbF x2.lt
    have y := yr.put3 (.int .i64 k3) (.int .i64 h3) (.slice A3 n3 c3)
    have HRF := Lib.hid hrdF
    clear hS HKS hbF hpl hrdF HSP x2 d1 s0 e1 e2 e3 d2
    obtain ⟨y0, y1, y2⟩ := xB.three
    obtain ⟨r0, r1, r2⟩ := yr.three
    have f0 := yr.frozen 0
    have f1 := yr.frozen 1
    have f2 := yr.frozen 2
    have lz := yr.lt
    obtain ⟨z0, z1, z2⟩ := y.three
    clear yr y xB
    go_wp2_with fail
    refine bodyPost_ret (v := .tuple #[.agg #[.int .i64 k3, .int .i64 h3, .slice A3 n3 c3], .int .i64 (erV R)]) (by simp [results, Tryz.results77, go_sem, z0, z1, z2]) rfl ?_
    rw [HEQ.out]
    exact spX_mv HRF.out HBF.out (by omega) _ _ _
theorem eVarC {W : WV} {h : Int} {xs : List T} (ih : ∀ x ∈ xs, TmE W x) : CoE W (.node 4 h xs) := by
  intro cx B As ns cs Am nm cm Ac nc cc pw vm w hE hbm hsum hlen hk hp hv
  obtain ⟨A, n, c, rfl, _, _, g3, g4, g5, g6⟩ := Rd_node.1 hv
  have hxl : CLV w xs A n c := ⟨g3, g4, g5, g6⟩
  clear g3 g4 g5 g6
  have h0 := headV hbm.nod
  have hccap := hk.cx.cap
  have hcle := hk.cx.le
  have hcl := hk.cx.len
  unfold maxLen at hccap
  obtain ⟨W0, hW⟩ : ∃ W0, (w.alloc (.cells #[.int .i64 4, .int .i64 h, .slice A n c] 39)).alloc (.cells #[.int .i64 0, .int .i64 0, .slice none 0 0] 39) = W0 := ⟨_, rfl⟩
  have hb : Below w.heap.size w W0 := by rw [← hW]; exact ((Below.refl _ _).alloc (Nat.le_refl _) _).alloc (by simp) _
  have x1 : Box W0 w.heap.size 39 #[.int .i64 4, .int .i64 h, .slice A n c] := by rw [← hW]; exact (Box.new _ _ _).alloc _
  have x2 : Box W0 (w.heap.size + 1) 39 #[.int .i64 0, .int .i64 0, .slice none 0 0] := by rw [← hW]; exact (Box.new (w.alloc _) _ _).at (by simp)
  obtain ⟨d0, d1, d2⟩ := x1.three
  have HB := Lib.hid hb
  by_cases hlt : (nc : Int) ≤ h
  case' pos =>
    have hd : decide (h ≥ (nc : Int)) = true := by simpa using hlt
    have HQ := Lib.hid (cm_var_no (W := W) (xs := xs) (cx := cx) (h := h) (by omega))
    obtain ⟨r0, r1, r2⟩ := x2.three
    have f0 := x2.frozen 0
    have f1 := x2.frozen 1
    have f2 := x2.frozen 2
    have lz := x2.lt
    clear hE hbm hsum hlen hk hp ih hb x1 x2 hxl hv
    go_enter Tryz.func77, Tryz.ntmps77
    go_wp2_with fail
    try rw [hW]
    clear hW
    go_wp2_with fail
    refine bodyPost_ret (v := .tuple #[.agg #[.int .i64 0, .int .i64 0, .slice none 0 0], .int .i64 2]) (by simp [results, Tryz.results77, go_sem, r0, r1, r2]) rfl ?_
    first | exact spX_no HQ.out HB.out _ (by omega) _ _ _ | exact spX_no0 HQ.out HB.out
  have hd : decide (h ≥ (nc : Int)) = false := by simpa using hlt
  obtain ⟨i, hi⟩ : ∃ i : Nat, (i : Int) + h + 1 = nc := ⟨((nc : Int) - 1 - h).toNat, by omega⟩
  obtain ⟨en, hen⟩ := at_of hcl (show i < nc by omega)
  have HEQ0 := cm_var (W := W) (xs := xs) (h := h) i en hen (by omega) h0
  obtain ⟨bc, oc, ke, he, Ae, ne, ce, eA, e0, e1, e2, hre⟩ := (hk.cx.at_ i en hen).full
  subst eA
  replace e0 := (hb.cell (cell_lt e0)).trans e0
  replace e1 := (hb.cell (cell_lt e1)).trans e1
  replace e2 := (hb.cell (cell_lt e2)).trans e2
  have hbe := hE.cx en (List.mem_of_getElem? hen)
  have hw1 : IntKind.i64.wrap ((nc : Int) - 1) = (nc : Int) - 1 := by rw [wrapEq, wrap_small (by omega) (by omega)]
  have hw2 : IntKind.i64.wrap ((nc : Int) - 1 - h) = (i : Int) := by rw [wrapEq, wrap_small (by omega) (by omega)]; omega
  have hw3 : IntKind.i64.wrap (h + 1) = h + 1 := by rw [wrapEq, wrap_small (by omega) (by omega)]
  have hi0 : (0 : Int) ≤ i := by omega
  have hi1 : (i : Int) < nc := by omega
  have hn1 : nc ≤ 100000 := by omega
  rw [nd] at hlen hsum
  have hBh : B ≤ hiV - dlV := by unfold dlV hiV at *; omega
  have hbu : BdV (B + 1048576) (upT (h + 1) en 0) := (bd_up hbe (by omega)).mono (by omega)
  have hnd : nd en ≤ 1048576 := by have := ((myB_iff en).1 hbe.my).2.1; omega
  have hru : rupX en (h + 1) 0 = upT (h + 1) en 0 := rup_bd (M := B) (by unfold hiV dlV at *; omega) hbe ⟨by omega, by omega⟩
  have HUP : Hid (∀ W' : World, Below W0.heap.size W0 W' → Calls Tryz.prog 98 #[.agg #[.int .i64 ke, .int .i64 he, .slice Ae ne ce], .int .i64 (h + 1), .int .i64 0] W' (FEnd (upT (h + 1) en 0) W')) := Lib.hid fun W' h' => by
    rw [← hru]
    exact refUpC en (h + 1) 0 _ W' (Rd.keep (hb.trans (h'.mono hb.size)) _ _ hre) hnd
  have HSP := Lib.hid (fun (Z : Nat → Prop) (W' : World) (ku gu : Int) (Au : Option Addr) (nu cu : Nat) (h' : Below W0.heap.size W0 W') (hU : RX Z W' (upT (h + 1) en 0) (.agg #[.int .i64 ku, .int .i64 gu, .slice Au nu cu])) (hz : ∀ b, Z b → w.heap.size ≤ b ∧ b < W'.heap.size) => eSpineC (Z := Z) (W := W) (xs := xs) (cx := cx) (t := upT (h + 1) en 0) (B := B) (B0 := B + 1048576) (ns := ns) (Am := Am) (nm := nm) (nc := nc) ih hE (fun x hx => hbm.arg hx) hbu (by omega) (by unfold dlV hiV at *; omega) (by omega) W' (hk.keep (hb.trans (h'.mono hb.size))) (hp.keep (hb.trans (h'.mono hb.size)) hp.lt) (clv_rx hxl (hb.trans (h'.mono hb.size)) (fun b z => (hz b z).1)) hU (fun b z => (hz b z).2))
  obtain ⟨R, hR⟩ : ∃ R, spV W xs cx (upT (h + 1) en 0) = R := ⟨_, rfl⟩
  rw [hR] at HSP HEQ0
  have HEQ := Lib.hid HEQ0
  have hlz := x2.lt
  have hl0 := hb.size
  generalize upT (h + 1) en 0 = u at *
  clear hE hbm hsum hlen hk hp ih hre hbe hxl hru hbu hlt hR hv hen hb x1 hBh hnd HEQ0
  go_enter Tryz.func77, Tryz.ntmps77
  go_wp2_with fail
  try rw [hW]
  clear hW
  go_wp2_with fail
  have HKS : Hid (∀ w' : World, Below W0.heap.size W0 w' → (fun w' => w'.cell? ⟨w.heap.size, 1, none⟩ = some (.int .i64 h) ∧ w'.cell? ⟨w.heap.size, 2, none⟩ = some (.slice A n c) ∧ w'.cell? ⟨bc, oc + i * 3, none⟩ = some (.int .i64 ke) ∧ w'.cell? ⟨bc, oc + i * 3 + 1, none⟩ = some (.int .i64 he) ∧ w'.cell? ⟨bc, oc + i * 3 + 2, none⟩ = some (.slice Ae ne ce)) w') := Lib.hid fun w' h => ⟨(h.cell (cell_lt d1)).trans d1, (h.cell (cell_lt d2)).trans d2, (h.cell (cell_lt e0)).trans e0, (h.cell (cell_lt e1)).trans e1, (h.cell (cell_lt e2)).trans e2⟩
  have hbd : Below W0.heap.size W0 W0.drew := (Below.refl _ W0).drew
  refine zzR HKS hbd (fun hS => ?_)
  simp only [List.size_toArray, List.length_cons, List.length_nil, Nat.reduceAdd]
  refine zzT (i := 0) (v := .pointer (some ⟨pw, 0, none⟩)) rfl hS ?_
  try simp only [Act.put, zzP]
  refine zzT (i := 1) (v := .slice (some ⟨bc, oc, none⟩) nc cc) rfl hS ?_
  try simp only [Act.put, zzP]
  refine zzT (i := 2) (v := .slice (some ⟨bc, oc, none⟩) nc cc) rfl hS ?_
  try simp only [Act.put, zzP]
  refine zzT (i := 3) (v := .slice (some ⟨bc, oc, none⟩) nc cc) rfl hS ?_
  try simp only [Act.put, zzP]
  refine zzT (i := 4) (v := .int .i64 nc) rfl hS ?_
  try simp only [Act.put, zzP]
  refine zzT (i := 5) (v := .int .i64 ((nc : Int) - 1)) rfl hS ?_
  try simp only [Act.put, zzP]
  refine zzT (i := 6) (v := .pointer (some ⟨w.heap.size, 1, none⟩)) rfl hS ?_
  try simp only [Act.put, zzP]
  refine zzT (i := 7) (v := .int .i64 h) rfl hS ?_
  try simp only [Act.put, zzP]
  refine zzT (i := 8) (v := .int .i64 i) rfl hS ?_
  try simp only [Act.put, zzP]
  refine zzT (i := 9) (v := .pointer (some ⟨bc, oc + i * 3, none⟩)) rfl hS ?_
  try simp only [Act.put, zzP]
  refine zzT (i := 10) (v := .agg #[.int .i64 ke, .int .i64 he, .slice Ae ne ce]) rfl hS ?_
  try simp only [Act.put, zzP]
  refine zzT (i := 11) (v := .pointer (some ⟨w.heap.size, 1, none⟩)) rfl hS ?_
  try simp only [Act.put, zzP]
  refine zzT (i := 12) (v := .int .i64 h) rfl hS ?_
  try simp only [Act.put, zzP]
  refine zzT (i := 13) (v := .int .i64 (h + 1)) rfl hS ?_
  try simp only [Act.put, zzP]
  refine zzT (i := 15) (v := .pointer (some ⟨w.heap.size, 2, none⟩)) rfl hS ?_
  try simp only [Act.put, zzP]
  refine zzT (i := 16) (v := .slice A n c) rfl hS ?_
  try simp only [Act.put, zzP]
  refine wpAnyH_ready (rs := [14, 21]) (by kernel_rfl) (by simp) ?_
  refine AllReadyH.cons rfl (fun KN hK => ?_) (AllReadyH.cons rfl (fun KN hK => ?_) AllReadyH.nil)
  · go_simp
    refine (HUP.out _ hbd).mono ?_
    rintro e v0 ⟨vu, rfl, hu, hb6⟩
    obtain ⟨ku, gu, Au, nu, cu, rfl⟩ := (RdF.rd _ _ hu).full
    have hU : RX (fun b => b = w.heap.size + 1) v0 u (.agg #[.int .i64 ku, .int .i64 gu, .slice Au nu cu]) := RdF.moveX (fun b hok hl => ⟨fun z => by have := hbd.size; omega, rfl⟩) _ _ hu
    replace hbd : Below W0.heap.size W0 v0 := hbd.trans (hb6.mono hbd.size)
    clear hb6 hu
    refine hK.out _ _ (HKS.out _ hbd) (fun hS => ?_)
    clear hK KN
    try simp only [Act.put, zzP]
    refine wpAnyH_ready (rs := [17, 21]) (by kernel_rfl) (by simp) ?_
    refine AllReadyH.cons rfl (fun KN hK => ?_) (AllReadyH.cons rfl (fun KN hK => ?_) AllReadyH.nil)
    · go_simp
      refine (HSP.out (fun b => b = w.heap.size + 1) _ _ _ _ _ _ hbd hU (fun b z => by have := hbd.size; omega)).mono ?_
      rintro e v1 ⟨k3, h3, A3, n3, c3, rfl, hS9, hb6⟩
      replace hbd : Below W0.heap.size W0 v1 := hbd.trans (hb6.mono hbd.size)
      clear hb6 hU
      refine hK.out _ _ (HKS.out _ hbd) (fun hS => ?_)
      clear hK KN
      try simp only [Act.put, zzP]
      refine zzT (i := 18) (v := .tuple #[.agg #[.int .i64 k3, .int .i64 h3, .slice A3 n3 c3], .int .i64 (erV R)]) rfl hS ?_
      try simp only [Act.put, zzP]
      refine zzT (i := 19) (v := .agg #[.int .i64 k3, .int .i64 h3, .slice A3 n3 c3]) rfl hS ?_
      try simp only [Act.put, zzP]
      refine zzT (i := 20) (v := .int .i64 (erV R)) rfl hS ?_
      try simp only [Act.put, zzP]
      refine wpAnyH_ready (rs := [21]) (by kernel_rfl) (by simp) ?_
      refine AllReadyH.cons rfl (fun KN hK => ?_) AllReadyH.nil
      go_simp
      have hbn : Below W0.heap.size W0 (v1.alloc (.cells #[.int .i64 0, .int .i64 0, .slice none 0 0] 39)) := hbd.alloc hbd.size _
      refine hK.out _ _ (HKS.out _ hbn) (fun hS => ?_)
      clear hK KN
      try simp only [Act.put, zzP]
      have xz : Box (v1.alloc (.cells #[.int .i64 0, .int .i64 0, .slice none 0 0] 39)) v1.heap.size 39 #[.int .i64 0, .int .i64 0, .slice none 0 0] := Box.new _ _ _
      have hpl0 : W0.heap.size ≤ v1.heap.size := hbd.size
      replace hS9 : ∀ t, R = .ok t → RX (fun b => b = w.heap.size + 1 ∨ b = v1.heap.size) (v1.alloc (.cells #[.int .i64 0, .int .i64 0, .slice none 0 0] 39)) t (.agg #[.int .i64 k3, .int .i64 h3, .slice A3 n3 c3]) := fun t e => (hS9 t e).keepE (show Below v1.heap.size v1 (v1.alloc (.cells #[.int .i64 0, .int .i64 0, .slice none 0 0] 39)) from (Below.refl _ _).alloc (Nat.le_refl _) _) (fun b z => z.elim .inl (fun e => .inr (by omega)))
      obtain ⟨pB, hpB0⟩ : ∃ p, v1.heap.size = p := ⟨_, rfl⟩
      rw [hpB0] at xz hS9
      try rw [hpB0]
      have hpl : W0.heap.size ≤ pB := by omega
      clear hpB0 hbd hpl0
      generalize v1.alloc (.cells #[.int .i64 0, .int .i64 0, .slice none 0 0] 39) = wN at *
      have hbd := hbn
      clear hbn
      obtain ⟨z0, z1, z2⟩ := xz.three
      have u0 := xz.frozen 0
      have u1 := xz.frozen 1
      have u2 := xz.frozen 2
      refine wpAnyH_ready (rs := [22]) (by kernel_rfl) (by simp) ?_
      refine AllReadyH.cons rfl (fun KN hK => ?_) AllReadyH.nil
      go_simp
      have hbF := below_set3 hbd (a := pB) hpl (.int .i64 k3) (.int .i64 h3) (.slice A3 n3 c3)
      refine hK.out _ _ (HKS.out _ hbF) (fun hS => ?_)
      clear hK KN
      try simp only [Act.put, zzP]
      have xB := xz.put3 (.int .i64 k3) (.int .i64 h3) (.slice A3 n3 c3)
      have hrdF : ∀ t, R = .ok t → RX (fun b => b = w.heap.size + 1) (((wN.setCell ⟨pB, 0, none⟩ (.int .i64 k3)).setCell ⟨pB, 1, none⟩ (.int .i64 h3)).setCell ⟨pB, 2, none⟩ (.slice A3 n3 c3)) t (.agg #[.int .i64 k3, .int .i64 h3, .slice A3 n3 c3]) := fun t e => RdF.moveX (fun b hok hl => ⟨fun z => hok (.inl z), heap_other3 _ _ _ _ _ _ (fun e => hok (.inr e))⟩) _ _ (hS9 t e)
      clear hS9 xz hbd z0 z1 z2 u0 u1 u2
      generalize ((wN.setCell ⟨pB, 0, none⟩ (.int .i64 k3)).setCell ⟨pB, 1, none⟩ (.int .i64 h3)).setCell ⟨pB, 2, none⟩ (.slice A3 n3 c3) = Wf at *
      refine zzT (i := 23) (v := .int .i64 (erV R)) rfl hS ?_
      try simp only [Act.put, zzP]
      refine wpAnyH_done (by kernel_rfl) ?_ _
      try simp only [List.setIfInBounds_toArray]
      try simp only [zzP]
      have HBF := Lib.hid (HB.out.trans (hbF.mono HB.out.size))
      have yr := x2.keep hbF x2.lt
      have y := yr.put3 (.int .i64 k3) (.int .i64 h3) (.slice A3 n3 c3)
      have HRF := Lib.hid hrdF
      clear hS HKS hbF hpl hrdF HSP x2 d1 d2 e0 e1 e2 HUP
      obtain ⟨y0, y1, y2⟩ := xB.three
      obtain ⟨r0, r1, r2⟩ := yr.three
      have f0 := yr.frozen 0
      have f1 := yr.frozen 1
      have f2 := yr.frozen 2
      have lz := yr.lt
      obtain ⟨z0, z1, z2⟩ := y.three
      clear yr y xB
      go_wp2_with fail
      refine bodyPost_ret (v := .tuple #[.agg #[.int .i64 k3, .int .i64 h3, .slice A3 n3 c3], .int .i64 (erV R)]) (by simp [results, Tryz.results77, go_sem, z0, z1, z2]) rfl ?_
      rw [HEQ.out]
      exact spX_mv HRF.out HBF.out (by omega) _ _ _
    · go_simp
      have hbn : Below W0.heap.size W0 (v0.alloc (.cells #[.int .i64 0, .int .i64 0, .slice none 0 0] 39)) := hbd.alloc hbd.size _
      refine hK.out _ _ (HKS.out _ hbn) (fun hS => ?_)
      clear hK KN
      try simp only [Act.put, zzP]
      have xz : Box (v0.alloc (.cells #[.int .i64 0, .int .i64 0, .slice none 0 0] 39)) v0.heap.size 39 #[.int .i64 0, .int .i64 0, .slice none 0 0] := Box.new _ _ _
      have hpl0 : W0.heap.size ≤ v0.heap.size := hbd.size
      replace hU := hU.keepE (Z' := fun b => b = w.heap.size + 1 ∨ b = v0.heap.size) (show Below v0.heap.size v0 (v0.alloc (.cells #[.int .i64 0, .int .i64 0, .slice none 0 0] 39)) from (Below.refl _ _).alloc (Nat.le_refl _) _) (fun b z => z.elim .inl (fun e => .inr (by omega)))
      obtain ⟨pB, hpB0⟩ : ∃ p, v0.heap.size = p := ⟨_, rfl⟩
      rw [hpB0] at xz hU
      try rw [hpB0]
      have hpl : W0.heap.size ≤ pB := by omega
      clear hpB0 hbd hpl0
      generalize v0.alloc (.cells #[.int .i64 0, .int .i64 0, .slice none 0 0] 39) = wN at *
      have hbd := hbn
      clear hbn
      refine wpAnyH_ready (rs := [17]) (by kernel_rfl) (by simp) ?_
      refine AllReadyH.cons rfl (fun KN hK => ?_) AllReadyH.nil
      go_simp
      refine (HSP.out (fun b => b = w.heap.size + 1 ∨ b = pB) _ _ _ _ _ _ hbd hU (fun b z => by have := xz.lt; have := hbd.size; rcases z with z | z <;> omega)).mono ?_
      rintro e v2 ⟨k3, h3, A3, n3, c3, rfl, hS9, hb6⟩
      replace hbd : Below W0.heap.size W0 v2 := hbd.trans (hb6.mono hbd.size)
      replace xz := xz.keep hb6 xz.lt
      clear hb6 hU
      refine hK.out _ _ (HKS.out _ hbd) (fun hS => ?_)
      clear hK KN
      try simp only [Act.put, zzP]
      refine zzT (i := 18) (v := .tuple #[.agg #[.int .i64 k3, .int .i64 h3, .slice A3 n3 c3], .int .i64 (erV R)]) rfl hS ?_
      try simp only [Act.put, zzP]
      refine zzT (i := 19) (v := .agg #[.int .i64 k3, .int .i64 h3, .slice A3 n3 c3]) rfl hS ?_
      try simp only [Act.put, zzP]
      refine zzT (i := 20) (v := .int .i64 (erV R)) rfl hS ?_
      try simp only [Act.put, zzP]
      obtain ⟨z0, z1, z2⟩ := xz.three
      have u0 := xz.frozen 0
      have u1 := xz.frozen 1
      have u2 := xz.frozen 2
      refine wpAnyH_ready (rs := [22]) (by kernel_rfl) (by simp) ?_
      refine AllReadyH.cons rfl (fun KN hK => ?_) AllReadyH.nil
      go_simp
      have hbF := below_set3 hbd (a := pB) hpl (.int .i64 k3) (.int .i64 h3) (.slice A3 n3 c3)
      refine hK.out _ _ (HKS.out _ hbF) (fun hS => ?_)
      clear hK KN
      try simp only [Act.put, zzP]
      have xB := xz.put3 (.int .i64 k3) (.int .i64 h3) (.slice A3 n3 c3)
      have hrdF : ∀ t, R = .ok t → RX (fun b => b = w.heap.size + 1) (((v2.setCell ⟨pB, 0, none⟩ (.int .i64 k3)).setCell ⟨pB, 1, none⟩ (.int .i64 h3)).setCell ⟨pB, 2, none⟩ (.slice A3 n3 c3)) t (.agg #[.int .i64 k3, .int .i64 h3, .slice A3 n3 c3]) := fun t e => RdF.moveX (fun b hok hl => ⟨fun z => hok (.inl z), heap_other3 _ _ _ _ _ _ (fun e => hok (.inr e))⟩) _ _ (hS9 t e)
      clear hS9 xz hbd z0 z1 z2 u0 u1 u2
      generalize ((v2.setCell ⟨pB, 0, none⟩ (.int .i64 k3)).setCell ⟨pB, 1, none⟩ (.int .i64 h3)).setCell ⟨pB, 2, none⟩ (.slice A3 n3 c3) = Wf at *
      refine zzT (i := 23) (v := .int .i64 (erV R)) rfl hS ?_
      try simp only [Act.put, zzP]
      refine wpAnyH_done (by kernel_rfl) ?_ _
      try simp only [List.setIfInBounds_toArray]
      try simp only [zzP]
      have HBF := Lib.hid (HB.out.trans (hbF.mono HB.out.size))
      have yr := x2.keep hbF x2.lt
      have y := yr.put3 (.int .i64 k3) (.int .i64 h3) (.slice A3 n3 c3)
      have HRF := Lib.hid hrdF
      clear hS HKS hbF hpl hrdF HSP x2 d1 d2 e0 e1 e2 HUP
      obtain ⟨y0, y1, y2⟩ := xB.three
      obtain ⟨r0, r1, r2⟩ := yr.three
      have f0 := yr.frozen 0
      have f1 := yr.frozen 1
      have f2 := yr.frozen 2
      have lz := yr.lt
      obtain ⟨z0, z1, z2⟩ := y.three
      clear yr y xB
      go_wp2_with fail
      refine bodyPost_ret (v := .tuple #[.agg #[.int .i64 k3, .int .i64 h3, .slice A3 n3 c3], .int .i64 (erV R)]) (by simp [results, Tryz.results77, go_sem, z0, z1, z2]) rfl ?_
      rw [HEQ.out]
      exact spX_mv HRF.out HBF.out (by omega) _ _ _
  · go_simp
    have hbn : Below W0.heap.size W0 ((W0.alloc (.cells #[.int .i64 0, .int .i64 0, .slice none 0 0] 39)).drew) := ((Below.refl _ W0).alloc (Nat.le_refl _) _).drew
    refine hK.out _ _ (HKS.out _ hbn) (fun hS => ?_)
    clear hK KN
    try simp only [Act.put, zzP]
    have xz : Box ((W0.alloc (.cells #[.int .i64 0, .int .i64 0, .slice none 0 0] 39)).drew) W0.heap.size 39 #[.int .i64 0, .int .i64 0, .slice none 0 0] := Box.drewI (Box.new _ _ _)
    have hpl0 : W0.heap.size ≤ W0.heap.size := Nat.le_refl _
    obtain ⟨pB, hpB0⟩ : ∃ p, W0.heap.size = p := ⟨_, rfl⟩
    rw [hpB0] at xz
    try rw [hpB0]
    have hpl : W0.heap.size ≤ pB := by omega
    clear hpB0 hbd hpl0
    generalize (W0.alloc (.cells #[.int .i64 0, .int .i64 0, .slice none 0 0] 39)).drew = wN at *
    have hbd := hbn
    clear hbn
    refine wpAnyH_ready (rs := [14]) (by kernel_rfl) (by simp) ?_
    refine AllReadyH.cons rfl (fun KN hK => ?_) AllReadyH.nil
    go_simp
    refine (HUP.out _ hbd).mono ?_
    rintro e v1 ⟨vu, rfl, hu, hb6⟩
    obtain ⟨ku, gu, Au, nu, cu, rfl⟩ := (RdF.rd _ _ hu).full
    have hU : RX (fun b => b = w.heap.size + 1 ∨ b = pB) v1 u (.agg #[.int .i64 ku, .int .i64 gu, .slice Au nu cu]) := RdF.moveX (fun b hok hl => ⟨fun z => by have := hbd.size; have := xz.lt; rcases z with z | z <;> omega, rfl⟩) _ _ hu
    replace hbd : Below W0.heap.size W0 v1 := hbd.trans (hb6.mono hbd.size)
    replace xz := xz.keep hb6 xz.lt
    clear hb6 hu
    refine hK.out _ _ (HKS.out _ hbd) (fun hS => ?_)
    clear hK KN
    try simp only [Act.put, zzP]
    refine wpAnyH_ready (rs := [17]) (by kernel_rfl) (by simp) ?_
    refine AllReadyH.cons rfl (fun KN hK => ?_) AllReadyH.nil
    go_simp
    refine (HSP.out (fun b => b = w.heap.size + 1 ∨ b = pB) _ _ _ _ _ _ hbd hU (fun b z => by have := xz.lt; have := hbd.size; rcases z with z | z <;> omega)).mono ?_
    rintro e v2 ⟨k3, h3, A3, n3, c3, rfl, hS9, hb6⟩
    replace hbd : Below W0.heap.size W0 v2 := hbd.trans (hb6.mono hbd.size)
    replace xz := xz.keep hb6 xz.lt
    clear hb6 hU
    refine hK.out _ _ (HKS.out _ hbd) (fun hS => ?_)
    clear hK KN
    try simp only [Act.put, zzP]
    refine zzT (i := 18) (v := .tuple #[.agg #[.int .i64 k3, .int .i64 h3, .slice A3 n3 c3], .int .i64 (erV R)]) rfl hS ?_
    try simp only [Act.put, zzP]
    refine zzT (i := 19) (v := .agg #[.int .i64 k3, .int .i64 h3, .slice A3 n3 c3]) rfl hS ?_
    try simp only [Act.put, zzP]
    refine zzT (i := 20) (v := .int .i64 (erV R)) rfl hS ?_
    try simp only [Act.put, zzP]
    obtain ⟨z0, z1, z2⟩ := xz.three
    have u0 := xz.frozen 0
    have u1 := xz.frozen 1
    have u2 := xz.frozen 2
    refine wpAnyH_ready (rs := [22]) (by kernel_rfl) (by simp) ?_
    refine AllReadyH.cons rfl (fun KN hK => ?_) AllReadyH.nil
    go_simp
    have hbF := below_set3 hbd (a := pB) hpl (.int .i64 k3) (.int .i64 h3) (.slice A3 n3 c3)
    refine hK.out _ _ (HKS.out _ hbF) (fun hS => ?_)
    clear hK KN
    try simp only [Act.put, zzP]
    have xB := xz.put3 (.int .i64 k3) (.int .i64 h3) (.slice A3 n3 c3)
    have hrdF : ∀ t, R = .ok t → RX (fun b => b = w.heap.size + 1) (((v2.setCell ⟨pB, 0, none⟩ (.int .i64 k3)).setCell ⟨pB, 1, none⟩ (.int .i64 h3)).setCell ⟨pB, 2, none⟩ (.slice A3 n3 c3)) t (.agg #[.int .i64 k3, .int .i64 h3, .slice A3 n3 c3]) := fun t e => RdF.moveX (fun b hok hl => ⟨fun z => hok (.inl z), heap_other3 _ _ _ _ _ _ (fun e => hok (.inr e))⟩) _ _ (hS9 t e)
    clear hS9 xz hbd z0 z1 z2 u0 u1 u2
    generalize ((v2.setCell ⟨pB, 0, none⟩ (.int .i64 k3)).setCell ⟨pB, 1, none⟩ (.int .i64 h3)).setCell ⟨pB, 2, none⟩ (.slice A3 n3 c3) = Wf at *
    refine zzT (i := 23) (v := .int .i64 (erV R)) rfl hS ?_
    try simp only [Act.put, zzP]
    refine wpAnyH_done (by kernel_rfl) ?_ _
    try simp only [List.setIfInBounds_toArray]
    try simp only [zzP]
    have HBF := Lib.hid (HB.out.trans (hbF.mono HB.out.size))
    have yr := x2.keep hbF x2.lt
    have y := yr.put3 (.int .i64 k3) (.int .i64 h3) (.slice A3 n3 c3)
    have HRF := Lib.hid hrdF
    clear hS HKS hbF hpl hrdF HSP x2 d1 d2 e0 e1 e2 HUP
    obtain ⟨y0, y1, y2⟩ := xB.three
    obtain ⟨r0, r1, r2⟩ := yr.three
    have f0 := yr.frozen 0
    have f1 := yr.frozen 1
    have f2 := yr.frozen 2
    have lz := yr.lt
    obtain ⟨z0, z1, z2⟩ := y.three
    clear yr y xB
    go_wp2_with fail
    refine bodyPost_ret (v := .tuple #[.agg #[.int .i64 k3, .int .i64 h3, .slice A3 n3 c3], .int .i64 (erV R)]) (by simp [results, Tryz.results77, go_sem, z0, z1, z2]) rfl ?_
    rw [HEQ.out]
    exact spX_mv HRF.out HBF.out (by omega) _ _ _
end Go.Proofs.YtbbjjdnnlnabaaaGreat
