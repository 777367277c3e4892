/- Texts of one proof, put together. No statement is proved here. -/
import Derived.Test.YtbbjjdnnlnabaaaGreatPkV
import Derived.Test.YtbbjjdnnlnabaaaGreatPkVe
import Derived.Test.YtbbjjdnnlnabaaaGreatPkTn
import Derived.Test.YtbbjjdnnlnabaaaGreatPkVj
import Derived.Test.YtbbjjdnnlnabaaaGreatZt
namespace Go.Proofs.YtbbjjdnnlnabaaaGreat
open Go.ChangeShapes Go.WideShapes Go.ChangeAt Go.RowKit
set_option linter.unusedVariables false
set_option linter.unusedSimpArgs false
set_option maxRecDepth 100000
set_option maxHeartbeats 16000000
abbrev PwE (w : World) (pw : Nat) (As : Option Addr) (ns cs : Nat) (Am : Option Addr) (nm cm : Nat) : Prop := Box w pw 81 #[.slice As ns cs, .slice Am nm cm]
def TmE (W : WV) (m : T) : Prop := ∀ (cx : List T) (a : T) (B : Int) (As : Option Addr) (ns cs : Nat) (Am : Option Addr) (nm cm : Nat) (Ac : Option Addr) (nc cc : Nat) (pw : Nat) (vm va : Value) (w : World),
  EnvV W cx B → WkV W m → BdV B a → B + nd m * dlV ≤ hiV → cx.length + nd m ≤ 100000 → CkV w W cx As ns cs Am nm cm Ac nc cc → PwE w pw As ns cs Am nm cm → Rd w m vm → Rd w a va →
    Calls Tryz.prog 57 #[.pointer (some ⟨pw, 0, none⟩), .slice Ac nc cc, vm, va] w fun e w' => e = .returned (.int .i64 (tmV W m cx a)) ∧ Below w.heap.size w w'
def SpX (Z : Nat → Prop) (r : Except Int T) (w : World) (e : Ending) (w' : World) : Prop :=
  ∃ k h A n c, e = .returned (.tuple #[.agg #[.int .i64 k, .int .i64 h, .slice A n c], .int .i64 (erV r)]) ∧ (∀ t, r = .ok t → RX Z w' t (.agg #[.int .i64 k, .int .i64 h, .slice A n c])) ∧ Below w.heap.size w w'
abbrev Z2 (Z : Nat → Prop) (N : Nat) (b : Nat) : Prop := Z b ∨ b = N ∨ b = N + 1
structure SpIE (Z : Nat → Prop) (W : WV) (xs cx : List T) (t0 : T) (B : Int) (w : World) (j : Nat) (wr : World) (t' : T) (B' : Int) (k h : Int) (At : Option Addr) (nt ct : Nat) : Prop where
  tb : Box wr w.heap.size 39 #[.int .i64 k, .int .i64 h, .slice At nt ct]
  rb : Box wr (w.heap.size + 1) 39 #[.int .i64 0, .int .i64 0, .slice none 0 0]
  below : Below w.heap.size w wr
  rd : RX (Z2 Z w.heap.size) wr t' (.agg #[.int .i64 k, .int .i64 h, .slice At nt ct])
  bd : BdV B' t'
  lo : B ≤ B'
  hi : B' + ndL (xs.drop j) * dlV ≤ hiV
  eq : spV W xs cx t0 = spV W (xs.drop j) cx t'
theorem rx_any {Z : Nat → Prop} {w w' : World} {t : T} {v : Value} (h : Rd w t v) (hb : Below w.heap.size w w') (hz : ∀ b, Z b → w.heap.size ≤ b) : RX Z w' t v :=
  RdF.moveX (fun b hl _ => ⟨fun z => by have := hz b z; omega, hb.block b hl⟩) _ _ (rdF_anyQ _ _ h)
theorem RX.keepE {Z Z' : Nat → Prop} {w w' : World} {t : T} {v : Value} (h : RX Z w t v) (hb : Below w.heap.size w w') (hz : ∀ b, Z' b → Z b ∨ w.heap.size ≤ b) : RX Z' w' t v :=
  RdF.moveX (fun b hok hl => ⟨fun z => by rcases hz b z with h | h; exact hok h; omega, hb.block b hl⟩) _ _ h
theorem RdF.keepE {Z Z' : Nat → Prop} {w w' : World} {t : T} {v : Value} (h : RdF (fun b => ¬ Z b) w t v) (hb : Below w.heap.size w w') (hz : ∀ b, Z' b → Z b ∨ w.heap.size ≤ b) : RX Z' w' t v := RX.keepE h hb hz
theorem spX_put {Z : Nat → Prop} {w wr : World} {r : Except Int T} {t : T} {k h : Int} {A : Option Addr} {n c : Nat} (hr : r = .ok t) (hd : RX (Z2 Z w.heap.size) wr t (.agg #[.int .i64 k, .int .i64 h, .slice A n c])) (hb : Below w.heap.size w wr) (u0 u1 u2 : Value) :
    SpX Z r w (.returned (.tuple #[.agg #[.int .i64 k, .int .i64 h, .slice A n c], .int .i64 0])) (((wr.setCell ⟨w.heap.size + 1, 0, none⟩ u0).setCell ⟨w.heap.size + 1, 1, none⟩ u1).setCell ⟨w.heap.size + 1, 2, none⟩ u2) := by
  subst hr
  refine ⟨k, h, A, n, c, rfl, fun t' e => ?_, below_set3 hb (by omega) _ _ _⟩
  cases e
  exact RdF.moveX (fun b hok hl => ⟨fun z => hok (.inl z), heap_other3 _ _ _ _ _ _ (fun e => hok (.inr (.inr e)))⟩) _ _ hd
theorem ap_fit {q x : T} {w : World} {Z : Nat → Prop} {vq : Value} {P : Nat} {ty : TypeId} {kx hx : Int} {Ax : Option Addr} {nx cx : Nat} (bq : BdV hiV q) (bx : BdV hiV x) (hq : RX Z w q vq) (hP : Box w P ty #[.int .i64 kx, .int .i64 hx, .slice Ax nx cx]) (hxr : RX Z w x (.agg #[.int .i64 kx, .int .i64 hx, .slice Ax nx cx])) (hPz : ¬ Z P) (hZ : ∀ b, Z b → b < w.heap.size) :
    Calls Tryz.prog 76 #[vq, .agg #[.slice (some ⟨P, 0, none⟩) 1 1, .int .i64 0]] w (RZn Z (apT q [x] 0) (apE q [x] 0) w) := by
  have n1 := ((myB_iff q).1 bq.my).2.1
  have n2 := ((myB_iff x).1 bx.my).2.1
  refine rApplyX hZ hq (⟨rfl, Nat.le_refl _, by unfold maxLen; omega, fun i t ht => ?_⟩ : RXL Z w [x] (some ⟨P, 0, none⟩) 1 1) (by omega) (fun y hy => by rw [List.mem_singleton.1 hy]; omega) (fun _ => bq.ok) (fun y hy _ => by rw [List.mem_singleton.1 hy]; exact bx.ok)
  match i, ht with
  | 0, ht =>
    cases ht
    exact ⟨P, 0, _, _, _, rfl, hPz, hP.cell 0, hP.cell 1, hP.cell 2, hxr⟩
  | i + 1, ht => simp at ht
theorem rx_pi {Z : Nat → Prop} {w : World} {h : Int} {a b : T} {v : Value} (hv : RX Z w (.node 1 h [a, b]) v) : ∃ bb o c, v = .agg #[.int .i64 1, .int .i64 h, .slice (some ⟨bb, o, none⟩) 2 c] ∧ 2 ≤ c ∧ c ≤ maxLen ∧
    (∃ k g A n c', w.cell? ⟨bb, o, none⟩ = some (.int .i64 k) ∧ w.cell? ⟨bb, o + 1, none⟩ = some (.int .i64 g) ∧ w.cell? ⟨bb, o + 2, none⟩ = some (.slice A n c') ∧ RX Z w a (.agg #[.int .i64 k, .int .i64 g, .slice A n c'])) ∧
    (∃ k g A n c', w.cell? ⟨bb, o + 3, none⟩ = some (.int .i64 k) ∧ w.cell? ⟨bb, o + 4, none⟩ = some (.int .i64 g) ∧ w.cell? ⟨bb, o + 5, none⟩ = some (.slice A n c') ∧ RX Z w b (.agg #[.int .i64 k, .int .i64 g, .slice A n c'])) := by
  obtain ⟨A, n, c, rfl, _, _, h3, h4, h5, h6⟩ := RdF_node.1 hv
  obtain ⟨b0, o0, k, g, A1, n1, c1, rfl, d0, d1, d2, hr⟩ := (h6 0 a rfl).full
  obtain ⟨b1, o1, k', g', A1', n1', c1', e, f0, f1, f2, hr'⟩ := (h6 1 b rfl).full
  cases e
  simp at h3
  subst h3
  exact ⟨b0, o0, c, rfl, h4, h5, ⟨_, _, _, _, _, by simpa using d0, by simpa using d1, by simpa using d2, hr⟩, ⟨_, _, _, _, _, by simpa using f0, by simpa using f1, by simpa using f2, hr'⟩⟩
theorem eSpineC {Z : Nat → Prop} {W : WV} {xs cx : List T} {t : T} {B B0 : Int} (ih : ∀ x ∈ xs, TmE W x) (E : EnvV W cx B) (hxs : ∀ x ∈ xs, WkV W x) (ht : BdV B0 t) (hB : B ≤ B0) (hsum : B0 + ndL xs * dlV ≤ hiV) (hlen : cx.length + ndL xs ≤ 100000)
    {As : Option Addr} {ns cs : Nat} {Am : Option Addr} {nm cm : Nat} {Ac : Option Addr} {nc cc : Nat} {A : Option Addr} {n c : Nat} {k h : Int} {At : Option Addr} {nt ct pw : Nat} (w : World) (hk : CkV w W cx As ns cs Am nm cm Ac nc cc) (hp : PwE w pw As ns cs Am nm cm) (hx : RXL Z w xs A n c) (hv : RX Z w t (.agg #[.int .i64 k, .int .i64 h, .slice At nt ct])) (hZ : ∀ b, Z b → b < w.heap.size) :
    Calls Tryz.prog 66 #[.pointer (some ⟨pw, 0, none⟩), .slice Ac nc cc, .agg #[.int .i64 k, .int .i64 h, .slice At nt ct], .slice A n c] w (SpX Z (spV W xs cx t) w) := by
  have hcap := hx.cap
  have hle := hx.le
  unfold maxLen at hcap
  obtain ⟨W0, hW⟩ : ∃ W0, (w.alloc (.cells #[.int .i64 k, .int .i64 h, .slice At nt ct] 39)).alloc (.cells #[.int .i64 0, .int .i64 0, .slice none 0 0] 39) = W0 := ⟨_, rfl⟩
  have hb : Below w.heap.size w W0 := by rw [← hW]; exact ((Below.refl _ _).alloc (Nat.le_refl _) _).alloc (by simp) _
  have x1 : Box W0 w.heap.size 39 #[.int .i64 k, .int .i64 h, .slice At nt ct] := by rw [← hW]; exact (Box.new _ _ _).alloc _
  have x2 : Box W0 (w.heap.size + 1) 39 #[.int .i64 0, .int .i64 0, .slice none 0 0] := by rw [← hW]; exact (Box.new (w.alloc _) _ _).at (by simp)
  have hrd : RX (Z2 Z w.heap.size) W0 t (.agg #[.int .i64 k, .int .i64 h, .slice At nt ct]) := hv.keepE hb (fun b z => by rcases z with z | z | z; exact .inl z; exact .inr (by omega); exact .inr (by omega))
  have HI0 : Hid (SpIE Z W xs cx t B w 0 W0 t B0 k h At nt ct) := Lib.hid ⟨x1, x2, hb, hrd, ht, hB, by rw [List.drop_zero]; exact hsum, by rw [List.drop_zero]⟩
  have HK := Lib.hid hk; clear hk
  have HP := Lib.hid hp; clear hp
  have HX := Lib.hid hx; clear hx
  have HIH := Lib.hid ih; clear ih
  have HXS := Lib.hid hxs; clear hxs
  have HE := Lib.hid E; clear E
  have HLN := Lib.hid hlen; clear hlen
  have HZ := Lib.hid hZ; clear hZ
  obtain ⟨R, hR⟩ : ∃ R, spV W xs cx t = R := ⟨_, rfl⟩
  have HR := Lib.hid hR
  rw [hR]
  clear hR hv ht hB hsum hb hrd x1 x2
  go_enter Tryz.func66, Tryz.ntmps66
  go_wp2_with fail
  try rw [hW]
  clear hW
  go_wp2_with fail
  go_loopw [10] (fun i wr => ∃ (j : Nat) (t' : T) (B' : Int) (k' h' : Int) (At' : Option Addr) (nt' ct' : Nat), j ≤ n ∧ i = .int .i64 j ∧ Hid (SpIE Z W xs cx t B w j wr t' B' k' h' At' nt' ct')) (fun i _ => n - (Go.RowKit.intOf i).toNat)
  case atStart => exact ⟨0, t, B0, k, h, At, nt, ct, Nat.zero_le _, rfl, HI0⟩
  case round =>
    clear HI0
    obtain ⟨j, t', B', k', h', At', nt', ct', hj, rfl, HI⟩ := hrel
    have hkd := (rdF_kind (RX.rd HI.out.rd)).1
    by_cases hlt : j < n
    · obtain ⟨x, ht⟩ := at_of HX.out.len hlt
      obtain ⟨b, o, k2, h2, A2, n2, c2', rfl, e0, e1, e2, hr⟩ := (HX.out.at_ j x ht).full
      have hi0 : (0 : Int) ≤ j := by omega
      have hi1 : (j : Int) < n := by omega
      have dj : decide ((j : Int) < (n : Int)) = true := by simp; omega
      have hsj : IntKind.i64.wrap ((j : Int) + 1) = ((j + 1 : Nat) : Int) := by rw [wrapEq, wrap_small (by omega) (by omega)]; omega
      replace e0 := (HI.out.below.cell (cell_lt e0)).trans e0
      replace e1 := (HI.out.below.cell (cell_lt e1)).trans e1
      replace e2 := (HI.out.below.cell (cell_lt e2)).trans e2
      have hmem := List.mem_of_getElem? ht
      have HXJ := Lib.hid ht
      have HRX0 := Lib.hid (hr.keepE (Z' := Z2 Z w.heap.size) HI.out.below (fun b z => by rcases z with z | z | z; exact .inl z; exact .inr (by omega); exact .inr (by omega)))
      have HWK := Lib.hid (HXS.out x hmem)
      have HT := Lib.hid (HIH.out x hmem)
      have heq := HI.out.eq
      rw [drop_at ht] at heq
      have HEQ := Lib.hid (HR.out.symm.trans heq)
      have hhi := HI.out.hi
      rw [drop_at ht, ndL] at hhi
      have HHI := Lib.hid hhi
      have HNL := Lib.hid (nd_mem hmem)
      clear hr hmem heq hhi ht
      have zt := HI.out.tb
      have zr := HI.out.rb
      obtain ⟨t0, t1, t2⟩ := zt.three
      by_cases hk1 : k' = 1
      case' neg =>
        have hd : (k' != 1) = true := by simpa using hk1
        replace HEQ := Lib.hid (HEQ.out.trans (sp_no (by rw [hkd]; exact hk1)))
        clear e0 e1 e2
        obtain ⟨r0, r1, r2⟩ := zr.three
        have f0 := zr.frozen 0
        have f1 := zr.frozen 1
        have f2 := zr.frozen 2
        have lz := zr.lt
        go_wp2_with fail
        refine bodyPost_ret (v := .tuple #[.agg #[.int .i64 0, .int .i64 0, .slice none 0 0], .int .i64 3]) (by simp [results, Tryz.results66, go_sem, r0, r1, r2]) rfl ?_
        rw [HEQ.out]
        exact ⟨_, _, _, _, _, rfl, (fun t e => nomatch e), below_set3 HI.out.below (by omega) _ _ _⟩
      subst hk1
      go_wp2_with fail
      obtain ⟨p, q, rfl, hbp, hbq⟩ := HI.out.bd.pi hkd
      obtain ⟨bb, ob, cb, ev, hc2, hcm2, ⟨kp, hp, Ap, np, cp, p0, p1, p2, hrp⟩, ⟨kq, hq, Aq, nq, cq, q0, q1, q2, hrq⟩⟩ := rx_pi HI.out.rd
      have ev' : h' = 0 ∧ At' = some ⟨bb, ob, none⟩ ∧ nt' = 2 ∧ ct' = cb := by simpa using ev
      obtain ⟨rfl, rfl, rfl, rfl⟩ := ev'
      unfold maxLen at hcm2
      have HBQ0 := Lib.hid hbq
      have HRQ0 := Lib.hid hrq
      obtain ⟨e1v, he1⟩ : ∃ e, tmV W x cx p = e := ⟨_, rfl⟩
      have HTC := Lib.hid (fun (W' : World) (h' : Below wr.heap.size wr W') => HT.out cx p B' As ns cs Am nm cm Ac nc cc pw _ _ W' (HE.out.mono HI.out.lo) HWK.out hbp (by have := HHI.out; unfold dlV at *; omega) (by have := HLN.out; have := HNL.out; omega) (HK.out.keep (HI.out.below.trans (h'.mono HI.out.below.size))) (HP.out.keep (HI.out.below.trans (h'.mono HI.out.below.size)) HP.out.lt) (Rd.keep h' _ _ (RX.rd HRX0.out)) (Rd.keep h' _ _ (RX.rd hrp)))
      rw [he1] at HTC
      have HE1 := Lib.hid he1
      clear ev hbp hbq hrp hrq he1 hkd t0 t1
      have HKS : Hid (∀ w' : World, Below wr.heap.size wr w' → (fun w' => w'.cell? ⟨b, o + j * 3, none⟩ = some (.int .i64 k2) ∧ w'.cell? ⟨b, o + j * 3 + 1, none⟩ = some (.int .i64 h2) ∧ w'.cell? ⟨b, o + j * 3 + 2, none⟩ = some (.slice A2 n2 c2') ∧ w'.cell? ⟨w.heap.size, 2, none⟩ = some (.slice (some ⟨bb, ob, none⟩) 2 ct') ∧ w'.cell? ⟨bb, ob, none⟩ = some (.int .i64 kp) ∧ w'.cell? ⟨bb, ob + 1, none⟩ = some (.int .i64 hp) ∧ w'.cell? ⟨bb, ob + 2, none⟩ = some (.slice Ap np cp)) w') := Lib.hid fun w' h => ⟨(h.cell (cell_lt e0)).trans e0, (h.cell (cell_lt e1)).trans e1, (h.cell (cell_lt e2)).trans e2, (h.cell (cell_lt t2)).trans t2, (h.cell (cell_lt p0)).trans p0, (h.cell (cell_lt p1)).trans p1, (h.cell (cell_lt p2)).trans p2⟩
      have hbd : Below wr.heap.size wr wr.drew := (Below.refl _ wr).drew
      refine zzR HKS hbd (fun hS => ?_)
      simp only [List.size_toArray, List.length_cons, List.length_nil, Nat.reduceAdd]
      refine zzT (i := 0) (v := .pointer (some ⟨pw, 0, none⟩)) rfl hS ?_
      try simp only [Act.put, zzP]
      refine zzT (i := 1) (v := .slice Ac nc cc) rfl hS ?_
      try simp only [Act.put, zzP]
      refine zzT (i := 2) (v := .slice (some ⟨b, o, none⟩) n c) rfl hS ?_
      try simp only [Act.put, zzP]
      refine zzT (i := 3) (v := .int .i64 j) rfl hS ?_
      try simp only [Act.put, zzP]
      refine zzT (i := 4) (v := .pointer (some ⟨b, o + j * 3, none⟩)) rfl hS ?_
      try simp only [Act.put, zzP]
      refine zzT (i := 5) (v := .agg #[.int .i64 k2, .int .i64 h2, .slice A2 n2 c2']) rfl hS ?_
      try simp only [Act.put, zzP]
      refine zzT (i := 6) (v := .pointer (some ⟨w.heap.size, 2, none⟩)) rfl hS ?_
      try simp only [Act.put, zzP]
      refine zzT (i := 7) (v := .slice (some ⟨bb, ob, none⟩) 2 ct') rfl hS ?_
      try simp only [Act.put, zzP]
      refine zzT (i := 8) (v := .pointer (some ⟨bb, ob, none⟩)) rfl hS ?_
      try simp only [Act.put, zzP]
      refine zzT (i := 9) (v := .agg #[.int .i64 kp, .int .i64 hp, .slice Ap np cp]) rfl hS ?_
      try simp only [Act.put, zzP]
      refine wpAnyH_ready (rs := [10]) (by kernel_rfl) (by simp) ?_
      refine AllReadyH.cons rfl (fun KN hK => ?_) AllReadyH.nil
      go_simp
      refine (HTC.out _ hbd).mono ?_
      rintro e w4 ⟨rfl, hb6⟩
      have hb4 : Below wr.heap.size wr w4 := hbd.trans (hb6.mono hbd.size)
      refine hK.out _ _ (HKS.out _ hb4) (fun hS => ?_)
      clear hK KN
      try simp only [Act.put, zzP]
      refine zzT (i := 11) (v := .int .i64 e1v) rfl hS ?_
      try simp only [Act.put, zzP]
      refine wpAnyH_done (by kernel_rfl) ?_ _
      try simp only [List.setIfInBounds_toArray]
      try simp only [zzP]
      have HB4 := Lib.hid (HI.out.below.trans (hb4.mono HI.out.below.size))
      have zt4 := zt.keep hb4 zt.lt
      have zr4 := zr.keep hb4 zr.lt
      by_cases hz : e1v = 0
      case' neg =>
        have hd : (e1v != 0) = true := by simpa using hz
        replace HEQ := Lib.hid (HEQ.out.trans (sp_e1 HE1.out hz))
        clear hS HKS hbd hb4 hb6 e0 e1 e2 t2 p0 p1 p2 q0 q1 q2 HTC
        obtain ⟨r0, r1, r2⟩ := zr4.three
        have f0 := zr4.frozen 0
        have f1 := zr4.frozen 1
        have f2 := zr4.frozen 2
        have lz := zr4.lt
        go_wp2_with fail
        refine bodyPost_ret (v := .tuple #[.agg #[.int .i64 0, .int .i64 0, .slice none 0 0], .int .i64 e1v]) (by simp [results, Tryz.results66, go_sem, r0, r1, r2]) rfl ?_
        rw [HEQ.out]
        exact ⟨_, _, _, _, _, rfl, (fun t e => nomatch e), below_set3 HB4.out (by omega) _ _ _⟩
      subst hz
      have hdz : ((0 : Int) != 0) = false := by decide
      replace e0 := (hb4.cell (cell_lt e0)).trans e0
      replace e1 := (hb4.cell (cell_lt e1)).trans e1
      replace e2 := (hb4.cell (cell_lt e2)).trans e2
      replace t2 := (hb4.cell (cell_lt t2)).trans t2
      replace q0 := (hb4.cell (cell_lt q0)).trans q0
      replace q1 := (hb4.cell (cell_lt q1)).trans q1
      replace q2 := (hb4.cell (cell_lt q2)).trans q2
      have HRQ := Lib.hid (HRQ0.out.keepE hb4 (fun b z => .inl z))
      have HRX := Lib.hid (HRX0.out.keepE hb4 (fun b z => .inl z))
      have HZ2 := Lib.hid (show ∀ b, Z2 Z w.heap.size b → b < w4.heap.size from fun b z => by
        have := zr4.lt
        rcases z with z | z | z
        · have := HZ.out b z; omega
        · omega
        · omega)
      have hlx : BdV loV x := ⟨HWK.out.my, tm_low HWK.out.my (by have := HLN.out; omega) HE1.out⟩
      have HBX0 := Lib.hid (hlx.mono (show loV ≤ B' by have := HE.out.lo; have := HI.out.lo; omega))
      have HBX := Lib.hid (hlx.mono (show loV ≤ hiV by unfold loV hiV; omega))
      have HBQ := Lib.hid (HBQ0.out.mono (show B' ≤ hiV by have := HHI.out; unfold dlV at *; omega))
      obtain ⟨e2v, he2⟩ : ∃ e, apE q [x] 0 = e := ⟨_, rfl⟩
      have HE2 := Lib.hid he2
      clear hS HKS hbd hb4 hb6 p0 p1 p2 HTC he2 hlx zt zr
      go_wp2_with fail
      clear hdz
      have HKS : Hid (∀ w' : World, Below w4.heap.size w4 w' → (fun w' => w'.cell? ⟨b, o + j * 3, none⟩ = some (.int .i64 k2) ∧ w'.cell? ⟨b, o + j * 3 + 1, none⟩ = some (.int .i64 h2) ∧ w'.cell? ⟨b, o + j * 3 + 2, none⟩ = some (.slice A2 n2 c2') ∧ w'.cell? ⟨w.heap.size, 2, none⟩ = some (.slice (some ⟨bb, ob, none⟩) 2 ct') ∧ w'.cell? ⟨bb, ob + 3, none⟩ = some (.int .i64 kq) ∧ w'.cell? ⟨bb, ob + 4, none⟩ = some (.int .i64 hq) ∧ w'.cell? ⟨bb, ob + 5, none⟩ = some (.slice Aq nq cq)) w') := Lib.hid fun w' h => ⟨(h.cell (cell_lt e0)).trans e0, (h.cell (cell_lt e1)).trans e1, (h.cell (cell_lt e2)).trans e2, (h.cell (cell_lt t2)).trans t2, (h.cell (cell_lt q0)).trans q0, (h.cell (cell_lt q1)).trans q1, (h.cell (cell_lt q2)).trans q2⟩
      have hbd : Below w4.heap.size w4 w4.drew := (Below.refl _ w4).drew
      refine zzR HKS hbd (fun hS => ?_)
      simp only [List.size_toArray, List.length_cons, List.length_nil, Nat.reduceAdd]
      refine zzT (i := 0) (v := .pointer (some ⟨w.heap.size, 2, none⟩)) rfl hS ?_
      try simp only [Act.put, zzP]
      refine zzT (i := 1) (v := .slice (some ⟨bb, ob, none⟩) 2 ct') rfl hS ?_
      try simp only [Act.put, zzP]
      refine zzT (i := 2) (v := .pointer (some ⟨bb, ob + 3, none⟩)) rfl hS ?_
      try simp only [Act.put, zzP]
      refine zzT (i := 3) (v := .agg #[.int .i64 kq, .int .i64 hq, .slice Aq nq cq]) rfl hS ?_
      try simp only [Act.put, zzP]
      refine zzT (i := 4) (v := .slice (some ⟨b, o, none⟩) n c) rfl hS ?_
      try simp only [Act.put, zzP]
      refine zzT (i := 5) (v := .int .i64 j) rfl hS ?_
      try simp only [Act.put, zzP]
      refine zzT (i := 6) (v := .pointer (some ⟨b, o + j * 3, none⟩)) rfl hS ?_
      try simp only [Act.put, zzP]
      refine zzT (i := 7) (v := .agg #[.int .i64 k2, .int .i64 h2, .slice A2 n2 c2']) rfl hS ?_
      try simp only [Act.put, zzP]
      refine wpAnyH_ready (rs := [8, 14]) (by kernel_rfl) (by simp) ?_
      refine AllReadyH.cons rfl (fun KN hK => ?_) (AllReadyH.cons rfl (fun KN hK => ?_) AllReadyH.nil)
      · go_simp
        have hPl0 : w4.heap.size ≤ w4.heap.size := Nat.le_refl _
        have hbn : Below w4.heap.size w4 ((w4.alloc (.cells #[.int .i64 k2, .int .i64 h2, .slice A2 n2 c2'] 39)).drew) := ((Below.refl _ w4).alloc (Nat.le_refl _) _).drew
        refine hK.out _ _ (HKS.out _ hbn) (fun hS => ?_)
        clear hK KN
        try simp only [Act.put, zzP]
        have zP : Box ((w4.alloc (.cells #[.int .i64 k2, .int .i64 h2, .slice A2 n2 c2'] 39)).drew) w4.heap.size 39 #[.int .i64 k2, .int .i64 h2, .slice A2 n2 c2'] := Box.drewI (Box.new _ _ _)
        obtain ⟨P, hP0⟩ : ∃ p, w4.heap.size = p := ⟨_, rfl⟩
        have hPl : w4.heap.size ≤ P := by omega
        rw [hP0] at zP
        try rw [hP0]
        clear hP0 hPl0
        generalize (w4.alloc (.cells #[.int .i64 k2, .int .i64 h2, .slice A2 n2 c2'] 39)).drew = v0 at *
        replace hbd := hbn
        clear hbn
        refine zzT (i := 9) (v := .agg #[.slice (some ⟨P, 0, none⟩) 1 1, .int .i64 0]) rfl hS ?_
        try simp only [Act.put, zzP]
        refine wpAnyH_ready (rs := [10, 14]) (by kernel_rfl) (by simp) ?_
        refine AllReadyH.cons rfl (fun KN hK => ?_) (AllReadyH.cons rfl (fun KN hK => ?_) AllReadyH.nil)
        · go_simp
          have HAQ := ap_fit (Z := Z2 Z w.heap.size) HBQ.out HBX.out (HRQ.out.keepE hbd (fun b z => .inl z)) zP (HRX.out.keepE hbd (fun b z => .inl z)) (fun z => by have := HZ2.out P z; omega) (fun b z => by have := HZ2.out b z; have := hbd.size; omega)
          rw [HE2.out] at HAQ
          refine HAQ.mono ?_
          rintro e v1 ⟨k3, h3, A3, n3, c3, rfl, hrd, hb6⟩
          clear HAQ
          replace hbd : Below w4.heap.size w4 v1 := hbd.trans (hb6.mono hbd.size)
          have hrd8 := hrd
          clear hrd hb6 zP
          refine hK.out _ _ (HKS.out _ hbd) (fun hS => ?_)
          clear hK KN
          try simp only [Act.put, zzP]
          refine zzT (i := 11) (v := .tuple #[.agg #[.int .i64 k3, .int .i64 h3, .slice A3 n3 c3], .int .i64 e2v]) rfl hS ?_
          try simp only [Act.put, zzP]
          refine zzT (i := 12) (v := .agg #[.int .i64 k3, .int .i64 h3, .slice A3 n3 c3]) rfl hS ?_
          try simp only [Act.put, zzP]
          refine zzT (i := 13) (v := .int .i64 e2v) rfl hS ?_
          try simp only [Act.put, zzP]
          refine wpAnyH_ready (rs := [14]) (by kernel_rfl) (by simp) ?_
          refine AllReadyH.cons rfl (fun KN hK => ?_) AllReadyH.nil
          go_simp
          have hpl0 : w4.heap.size ≤ v1.heap.size := hbd.size
          have hbn : Below w4.heap.size w4 (v1.alloc (.cells #[.int .i64 0, .int .i64 0, .slice none 0 0] 39)) := hbd.alloc hbd.size _
          refine hK.out _ _ (HKS.out _ hbn) (fun hS => ?_)
          clear hK KN
          try simp only [Act.put, zzP]
          have xz : Box (v1.alloc (.cells #[.int .i64 0, .int .i64 0, .slice none 0 0] 39)) v1.heap.size 39 #[.int .i64 0, .int .i64 0, .slice none 0 0] := Box.new _ _ _
          have hrd9 : RX (fun b => Z2 Z w.heap.size b ∨ b = v1.heap.size) (v1.alloc (.cells #[.int .i64 0, .int .i64 0, .slice none 0 0] 39)) (apT q [x] 0) (.agg #[.int .i64 k3, .int .i64 h3, .slice A3 n3 c3]) := RdF.moveX (fun b hok hl => ⟨fun h => h.elim hok (fun h => by omega), Below.heap_alloc _ _ _ hl⟩) _ _ hrd8
          clear hrd8
          obtain ⟨pB, hpB0⟩ : ∃ p, v1.heap.size = p := ⟨_, rfl⟩
          have hpl : w4.heap.size ≤ pB := by omega
          rw [hpB0] at xz
          rw [hpB0] at hrd9
          try rw [hpB0]
          clear hpB0 hpl0
          generalize v1.alloc (.cells #[.int .i64 0, .int .i64 0, .slice none 0 0] 39) = v2 at *
          replace hbd := hbn
          clear hbn
          obtain ⟨z0, z1, z2⟩ := xz.three
          have u0 := xz.frozen 0
          have u1 := xz.frozen 1
          have u2 := xz.frozen 2
          refine wpAnyH_ready (rs := [15]) (by kernel_rfl) (by simp) ?_
          refine AllReadyH.cons rfl (fun KN hK => ?_) AllReadyH.nil
          go_simp
          have hbF := below_set3 hbd (a := pB) hpl (.int .i64 k3) (.int .i64 h3) (.slice A3 n3 c3)
          refine hK.out _ _ (HKS.out _ hbF) (fun hS => ?_)
          clear hK KN
          try simp only [Act.put, zzP]
          have xB := xz.put3 (.int .i64 k3) (.int .i64 h3) (.slice A3 n3 c3)
          have hrdF : RX (Z2 Z w.heap.size) (((v2.setCell ⟨pB, 0, none⟩ (.int .i64 k3)).setCell ⟨pB, 1, none⟩ (.int .i64 h3)).setCell ⟨pB, 2, none⟩ (.slice A3 n3 c3)) (apT q [x] 0) (.agg #[.int .i64 k3, .int .i64 h3, .slice A3 n3 c3]) := RdF.moveX (fun b hok hl => ⟨fun z => hok (.inl z), heap_other3 _ _ _ _ _ _ (fun e => hok (.inr e))⟩) _ _ hrd9
          clear hrd9 xz hbd z0 z1 z2 u0 u1 u2
          generalize ((v2.setCell ⟨pB, 0, none⟩ (.int .i64 k3)).setCell ⟨pB, 1, none⟩ (.int .i64 h3)).setCell ⟨pB, 2, none⟩ (.slice A3 n3 c3) = Wf at *
          refine zzT (i := 16) (v := .int .i64 e2v) rfl hS ?_
          try simp only [Act.put, zzP]
          refine wpAnyH_done (by kernel_rfl) ?_ _
          try simp only [List.setIfInBounds_toArray]
          try simp only [zzP]
          have HBF := Lib.hid (HB4.out.trans (hbF.mono HB4.out.size))
          have yt := zt4.keep hbF zt4.lt
          have yr := zr4.keep hbF zr4.lt
          have HRF := Lib.hid hrdF
          have hpB : w.heap.size + 1 < pB := by have := zr4.lt; omega
          clear hS HKS zt4 zr4 hbF hpl hrdF e0 e1 e2 t2 q0 q1 q2
          obtain ⟨y0, y1, y2⟩ := xB.three
          obtain ⟨t0, t1, t2⟩ := yt.three
          obtain ⟨r0, r1, r2⟩ := yr.three
          have f0 := yr.frozen 0
          have f1 := yr.frozen 1
          have f2 := yr.frozen 2
          have i0 := yt.frozen 0
          have i1 := yt.frozen 1
          have i2 := yt.frozen 2
          have lz := yr.lt
          by_cases hz2 : e2v = 0
          · subst hz2
            have hbr : BdV (B' + dlV) (apT q [x] 0) := bd_ap HBQ0.out (fun y hy => by rw [List.mem_singleton.1 hy]; exact HBX0.out) HE2.out
            have HBR := Lib.hid hbr; clear hbr
            go_wp2_with fail
            go_roundw
            case measure => simp [Go.RowKit.intOf]; omega
            case rel =>
              refine ⟨j + 1, apT q [x] 0, B' + dlV, k3, h3, A3, n3, c3, by omega, by go_num, Lib.hid ⟨yt.put3 _ _ _, yr.other3 (by omega) _ _ _, below_set3 HBF.out (by omega) _ _ _, ?_, HBR.out, ?_, ?_, ?_⟩⟩
              · exact RdF.moveX (fun b hok hl => ⟨hok, heap_other3 _ _ _ _ _ _ (fun e => hok (.inr (.inl e)))⟩) _ _ HRF.out
              · have := HI.out.lo; unfold dlV; omega
              · have := HHI.out; have h1 : 1 ≤ nd x := nd_pos x; unfold dlV hiV at *; omega
              · rw [HI.out.eq, drop_at HXJ.out, sp_go HE1.out HE2.out]
          · have hd2 : (e2v != 0) = true := by simpa using hz2
            have HE3 := Lib.hid (HEQ.out.trans (sp_e2 HE1.out HE2.out hz2))
            go_wp2_with fail
            refine bodyPost_ret (v := .tuple #[.agg #[.int .i64 0, .int .i64 0, .slice none 0 0], .int .i64 e2v]) (by simp [results, Tryz.results66, go_sem, r0, r1, r2]) rfl ?_
            rw [HE3.out]
            exact ⟨_, _, _, _, _, rfl, (fun t e => nomatch e), below_set3 HBF.out (by omega) _ _ _⟩
        · go_simp
          have hpl0 : w4.heap.size ≤ v0.heap.size := hbd.size
          have hbn : Below w4.heap.size w4 (v0.alloc (.cells #[.int .i64 0, .int .i64 0, .slice none 0 0] 39)) := hbd.alloc hbd.size _
          refine hK.out _ _ (HKS.out _ hbn) (fun hS => ?_)
          clear hK KN
          try simp only [Act.put, zzP]
          have xz : Box (v0.alloc (.cells #[.int .i64 0, .int .i64 0, .slice none 0 0] 39)) v0.heap.size 39 #[.int .i64 0, .int .i64 0, .slice none 0 0] := Box.new _ _ _
          have hne_zP : P ≠ v0.heap.size := by have := zP.lt; omega
          replace zP := zP.keep (show Below v0.heap.size v0 (v0.alloc (.cells #[.int .i64 0, .int .i64 0, .slice none 0 0] 39)) from (Below.refl _ _).alloc (Nat.le_refl _) _) zP.lt
          obtain ⟨pB, hpB0⟩ : ∃ p, v0.heap.size = p := ⟨_, rfl⟩
          have hpl : w4.heap.size ≤ pB := by omega
          rw [hpB0] at xz
          rw [hpB0] at hne_zP
          try rw [hpB0]
          clear hpB0 hpl0
          generalize v0.alloc (.cells #[.int .i64 0, .int .i64 0, .slice none 0 0] 39) = v1 at *
          replace hbd := hbn
          clear hbn
          refine wpAnyH_ready (rs := [10]) (by kernel_rfl) (by simp) ?_
          refine AllReadyH.cons rfl (fun KN hK => ?_) AllReadyH.nil
          go_simp
          have HAQ := ap_fit (Z := fun b => Z2 Z w.heap.size b ∨ b = pB) HBQ.out HBX.out (HRQ.out.keepE hbd (fun b z => z.elim .inl (fun e => .inr (by rw [e]; exact hpl)))) zP (HRX.out.keepE hbd (fun b z => z.elim .inl (fun e => .inr (by rw [e]; exact hpl)))) (fun z => z.elim (fun z => by have := HZ2.out P z; omega) (fun e => hne_zP e)) (fun b z => z.elim (fun z => by have := HZ2.out b z; have := hbd.size; omega) (fun e => by rw [e]; exact xz.lt))
          rw [HE2.out] at HAQ
          refine HAQ.mono ?_
          rintro e v2 ⟨k3, h3, A3, n3, c3, rfl, hrd, hb6⟩
          clear HAQ
          replace hbd : Below w4.heap.size w4 v2 := hbd.trans (hb6.mono hbd.size)
          replace xz := xz.keep hb6 xz.lt
          have hrd9 := hrd
          clear hrd hb6 zP
          refine hK.out _ _ (HKS.out _ hbd) (fun hS => ?_)
          clear hK KN
          try simp only [Act.put, zzP]
          refine zzT (i := 11) (v := .tuple #[.agg #[.int .i64 k3, .int .i64 h3, .slice A3 n3 c3], .int .i64 e2v]) rfl hS ?_
          try simp only [Act.put, zzP]
          refine zzT (i := 12) (v := .agg #[.int .i64 k3, .int .i64 h3, .slice A3 n3 c3]) rfl hS ?_
          try simp only [Act.put, zzP]
          refine zzT (i := 13) (v := .int .i64 e2v) rfl hS ?_
          try simp only [Act.put, zzP]
          obtain ⟨z0, z1, z2⟩ := xz.three
          have u0 := xz.frozen 0
          have u1 := xz.frozen 1
          have u2 := xz.frozen 2
          refine wpAnyH_ready (rs := [15]) (by kernel_rfl) (by simp) ?_
          refine AllReadyH.cons rfl (fun KN hK => ?_) AllReadyH.nil
          go_simp
          have hbF := below_set3 hbd (a := pB) hpl (.int .i64 k3) (.int .i64 h3) (.slice A3 n3 c3)
          refine hK.out _ _ (HKS.out _ hbF) (fun hS => ?_)
          clear hK KN
          try simp only [Act.put, zzP]
          have xB := xz.put3 (.int .i64 k3) (.int .i64 h3) (.slice A3 n3 c3)
          have hrdF : RX (Z2 Z w.heap.size) (((v2.setCell ⟨pB, 0, none⟩ (.int .i64 k3)).setCell ⟨pB, 1, none⟩ (.int .i64 h3)).setCell ⟨pB, 2, none⟩ (.slice A3 n3 c3)) (apT q [x] 0) (.agg #[.int .i64 k3, .int .i64 h3, .slice A3 n3 c3]) := RdF.moveX (fun b hok hl => ⟨fun z => hok (.inl z), heap_other3 _ _ _ _ _ _ (fun e => hok (.inr e))⟩) _ _ hrd9
          clear hrd9 xz hbd z0 z1 z2 u0 u1 u2
          generalize ((v2.setCell ⟨pB, 0, none⟩ (.int .i64 k3)).setCell ⟨pB, 1, none⟩ (.int .i64 h3)).setCell ⟨pB, 2, none⟩ (.slice A3 n3 c3) = Wf at *
          refine zzT (i := 16) (v := .int .i64 e2v) rfl hS ?_
          try simp only [Act.put, zzP]
          refine wpAnyH_done (by kernel_rfl) ?_ _
          try simp only [List.setIfInBounds_toArray]
          try simp only [zzP]
          have HBF := Lib.hid (HB4.out.trans (hbF.mono HB4.out.size))
          have yt := zt4.keep hbF zt4.lt
          have yr := zr4.keep hbF zr4.lt
          have HRF := Lib.hid hrdF
          have hpB : w.heap.size + 1 < pB := by have := zr4.lt; omega
          clear hS HKS zt4 zr4 hbF hpl hrdF e0 e1 e2 t2 q0 q1 q2
          obtain ⟨y0, y1, y2⟩ := xB.three
          obtain ⟨t0, t1, t2⟩ := yt.three
          obtain ⟨r0, r1, r2⟩ := yr.three
          have f0 := yr.frozen 0
          have f1 := yr.frozen 1
          have f2 := yr.frozen 2
          have i0 := yt.frozen 0
          have i1 := yt.frozen 1
          have i2 := yt.frozen 2
          have lz := yr.lt
          by_cases hz2 : e2v = 0
          · subst hz2
            have hbr : BdV (B' + dlV) (apT q [x] 0) := bd_ap HBQ0.out (fun y hy => by rw [List.mem_singleton.1 hy]; exact HBX0.out) HE2.out
            have HBR := Lib.hid hbr; clear hbr
            go_wp2_with fail
            go_roundw
            case measure => simp [Go.RowKit.intOf]; omega
            case rel =>
              refine ⟨j + 1, apT q [x] 0, B' + dlV, k3, h3, A3, n3, c3, by omega, by go_num, Lib.hid ⟨yt.put3 _ _ _, yr.other3 (by omega) _ _ _, below_set3 HBF.out (by omega) _ _ _, ?_, HBR.out, ?_, ?_, ?_⟩⟩
              · exact RdF.moveX (fun b hok hl => ⟨hok, heap_other3 _ _ _ _ _ _ (fun e => hok (.inr (.inl e)))⟩) _ _ HRF.out
              · have := HI.out.lo; unfold dlV; omega
              · have := HHI.out; have h1 : 1 ≤ nd x := nd_pos x; unfold dlV hiV at *; omega
              · rw [HI.out.eq, drop_at HXJ.out, sp_go HE1.out HE2.out]
          · have hd2 : (e2v != 0) = true := by simpa using hz2
            have HE3 := Lib.hid (HEQ.out.trans (sp_e2 HE1.out HE2.out hz2))
            go_wp2_with fail
            refine bodyPost_ret (v := .tuple #[.agg #[.int .i64 0, .int .i64 0, .slice none 0 0], .int .i64 e2v]) (by simp [results, Tryz.results66, go_sem, r0, r1, r2]) rfl ?_
            rw [HE3.out]
            exact ⟨_, _, _, _, _, rfl, (fun t e => nomatch e), below_set3 HBF.out (by omega) _ _ _⟩
      · go_simp
        have hpl0 : w4.heap.size ≤ w4.heap.size := Nat.le_refl _
        have hbn : Below w4.heap.size w4 ((w4.alloc (.cells #[.int .i64 0, .int .i64 0, .slice none 0 0] 39)).drew) := ((Below.refl _ w4).alloc (Nat.le_refl _) _).drew
        refine hK.out _ _ (HKS.out _ hbn) (fun hS => ?_)
        clear hK KN
        try simp only [Act.put, zzP]
        have xz : Box ((w4.alloc (.cells #[.int .i64 0, .int .i64 0, .slice none 0 0] 39)).drew) w4.heap.size 39 #[.int .i64 0, .int .i64 0, .slice none 0 0] := Box.drewI (Box.new _ _ _)
        obtain ⟨pB, hpB0⟩ : ∃ p, w4.heap.size = p := ⟨_, rfl⟩
        have hpl : w4.heap.size ≤ pB := by omega
        rw [hpB0] at xz
        try rw [hpB0]
        clear hpB0 hpl0
        generalize (w4.alloc (.cells #[.int .i64 0, .int .i64 0, .slice none 0 0] 39)).drew = v0 at *
        replace hbd := hbn
        clear hbn
        refine wpAnyH_ready (rs := [8]) (by kernel_rfl) (by simp) ?_
        refine AllReadyH.cons rfl (fun KN hK => ?_) AllReadyH.nil
        go_simp
        have hPl0 : w4.heap.size ≤ v0.heap.size := hbd.size
        have hbn : Below w4.heap.size w4 (v0.alloc (.cells #[.int .i64 k2, .int .i64 h2, .slice A2 n2 c2'] 39)) := hbd.alloc hbd.size _
        refine hK.out _ _ (HKS.out _ hbn) (fun hS => ?_)
        clear hK KN
        try simp only [Act.put, zzP]
        have zP : Box (v0.alloc (.cells #[.int .i64 k2, .int .i64 h2, .slice A2 n2 c2'] 39)) v0.heap.size 39 #[.int .i64 k2, .int .i64 h2, .slice A2 n2 c2'] := Box.new _ _ _
        have hne_zP : v0.heap.size ≠ pB := by have := xz.lt; omega
        replace xz := xz.keep (show Below v0.heap.size v0 (v0.alloc (.cells #[.int .i64 k2, .int .i64 h2, .slice A2 n2 c2'] 39)) from (Below.refl _ _).alloc (Nat.le_refl _) _) xz.lt
        obtain ⟨P, hP0⟩ : ∃ p, v0.heap.size = p := ⟨_, rfl⟩
        have hPl : w4.heap.size ≤ P := by omega
        rw [hP0] at zP
        rw [hP0] at hne_zP
        try rw [hP0]
        clear hP0 hPl0
        generalize v0.alloc (.cells #[.int .i64 k2, .int .i64 h2, .slice A2 n2 c2'] 39) = v1 at *
        replace hbd := hbn
        clear hbn
        refine zzT (i := 9) (v := .agg #[.slice (some ⟨P, 0, none⟩) 1 1, .int .i64 0]) rfl hS ?_
        try simp only [Act.put, zzP]
        refine wpAnyH_ready (rs := [10]) (by kernel_rfl) (by simp) ?_
        refine AllReadyH.cons rfl (fun KN hK => ?_) AllReadyH.nil
        go_simp
        have HAQ := ap_fit (Z := fun b => Z2 Z w.heap.size b ∨ b = pB) HBQ.out HBX.out (HRQ.out.keepE hbd (fun b z => z.elim .inl (fun e => .inr (by rw [e]; exact hpl)))) zP (HRX.out.keepE hbd (fun b z => z.elim .inl (fun e => .inr (by rw [e]; exact hpl)))) (fun z => z.elim (fun z => by have := HZ2.out P z; omega) (fun e => hne_zP e)) (fun b z => z.elim (fun z => by have := HZ2.out b z; have := hbd.size; omega) (fun e => by rw [e]; exact xz.lt))
        rw [HE2.out] at HAQ
        refine HAQ.mono ?_
        rintro e v2 ⟨k3, h3, A3, n3, c3, rfl, hrd, hb6⟩
        clear HAQ
        replace hbd : Below w4.heap.size w4 v2 := hbd.trans (hb6.mono hbd.size)
        replace xz := xz.keep hb6 xz.lt
        have hrd9 := hrd
        clear hrd hb6 zP
        refine hK.out _ _ (HKS.out _ hbd) (fun hS => ?_)
        clear hK KN
        try simp only [Act.put, zzP]
        refine zzT (i := 11) (v := .tuple #[.agg #[.int .i64 k3, .int .i64 h3, .slice A3 n3 c3], .int .i64 e2v]) rfl hS ?_
        try simp only [Act.put, zzP]
        refine zzT (i := 12) (v := .agg #[.int .i64 k3, .int .i64 h3, .slice A3 n3 c3]) rfl hS ?_
        try simp only [Act.put, zzP]
        refine zzT (i := 13) (v := .int .i64 e2v) rfl hS ?_
        try simp only [Act.put, zzP]
        obtain ⟨z0, z1, z2⟩ := xz.three
        have u0 := xz.frozen 0
        have u1 := xz.frozen 1
        have u2 := xz.frozen 2
        refine wpAnyH_ready (rs := [15]) (by kernel_rfl) (by simp) ?_
        refine AllReadyH.cons rfl (fun KN hK => ?_) AllReadyH.nil
        go_simp
        have hbF := below_set3 hbd (a := pB) hpl (.int .i64 k3) (.int .i64 h3) (.slice A3 n3 c3)
        refine hK.out _ _ (HKS.out _ hbF) (fun hS => ?_)
        clear hK KN
        try simp only [Act.put, zzP]
        have xB := xz.put3 (.int .i64 k3) (.int .i64 h3) (.slice A3 n3 c3)
        have hrdF : RX (Z2 Z w.heap.size) (((v2.setCell ⟨pB, 0, none⟩ (.int .i64 k3)).setCell ⟨pB, 1, none⟩ (.int .i64 h3)).setCell ⟨pB, 2, none⟩ (.slice A3 n3 c3)) (apT q [x] 0) (.agg #[.int .i64 k3, .int .i64 h3, .slice A3 n3 c3]) := RdF.moveX (fun b hok hl => ⟨fun z => hok (.inl z), heap_other3 _ _ _ _ _ _ (fun e => hok (.inr e))⟩) _ _ hrd9
        clear hrd9 xz hbd z0 z1 z2 u0 u1 u2
        generalize ((v2.setCell ⟨pB, 0, none⟩ (.int .i64 k3)).setCell ⟨pB, 1, none⟩ (.int .i64 h3)).setCell ⟨pB, 2, none⟩ (.slice A3 n3 c3) = Wf at *
        refine zzT (i := 16) (v := .int .i64 e2v) rfl hS ?_
        try simp only [Act.put, zzP]
        refine wpAnyH_done (by kernel_rfl) ?_ _
        try simp only [List.setIfInBounds_toArray]
        try simp only [zzP]
        have HBF := Lib.hid (HB4.out.trans (hbF.mono HB4.out.size))
        have yt := zt4.keep hbF zt4.lt
        have yr := zr4.keep hbF zr4.lt
        have HRF := Lib.hid hrdF
        have hpB : w.heap.size + 1 < pB := by have := zr4.lt; omega
        clear hS HKS zt4 zr4 hbF hpl hrdF e0 e1 e2 t2 q0 q1 q2
        obtain ⟨y0, y1, y2⟩ := xB.three
        obtain ⟨t0, t1, t2⟩ := yt.three
        obtain ⟨r0, r1, r2⟩ := yr.three
        have f0 := yr.frozen 0
        have f1 := yr.frozen 1
        have f2 := yr.frozen 2
        have i0 := yt.frozen 0
        have i1 := yt.frozen 1
        have i2 := yt.frozen 2
        have lz := yr.lt
        by_cases hz2 : e2v = 0
        · subst hz2
          have hbr : BdV (B' + dlV) (apT q [x] 0) := bd_ap HBQ0.out (fun y hy => by rw [List.mem_singleton.1 hy]; exact HBX0.out) HE2.out
          have HBR := Lib.hid hbr; clear hbr
          go_wp2_with fail
          go_roundw
          case measure => simp [Go.RowKit.intOf]; omega
          case rel =>
            refine ⟨j + 1, apT q [x] 0, B' + dlV, k3, h3, A3, n3, c3, by omega, by go_num, Lib.hid ⟨yt.put3 _ _ _, yr.other3 (by omega) _ _ _, below_set3 HBF.out (by omega) _ _ _, ?_, HBR.out, ?_, ?_, ?_⟩⟩
            · exact RdF.moveX (fun b hok hl => ⟨hok, heap_other3 _ _ _ _ _ _ (fun e => hok (.inr (.inl e)))⟩) _ _ HRF.out
            · have := HI.out.lo; unfold dlV; omega
            · have := HHI.out; have h1 : 1 ≤ nd x := nd_pos x; unfold dlV hiV at *; omega
            · rw [HI.out.eq, drop_at HXJ.out, sp_go HE1.out HE2.out]
        · have hd2 : (e2v != 0) = true := by simpa using hz2
          have HE3 := Lib.hid (HEQ.out.trans (sp_e2 HE1.out HE2.out hz2))
          go_wp2_with fail
          refine bodyPost_ret (v := .tuple #[.agg #[.int .i64 0, .int .i64 0, .slice none 0 0], .int .i64 e2v]) (by simp [results, Tryz.results66, go_sem, r0, r1, r2]) rfl ?_
          rw [HE3.out]
          exact ⟨_, _, _, _, _, rfl, (fun t e => nomatch e), below_set3 HBF.out (by omega) _ _ _⟩
    · obtain rfl : j = n := by omega
      have dj : decide ((j : Int) < (j : Int)) = false := by simp
      have heq := HI.out.eq
      rw [drop_all HX.out.len (Nat.le_refl _), spV] at heq
      have HEQ := Lib.hid (HR.out.symm.trans heq); clear heq
      obtain ⟨t0, t1, t2⟩ := HI.out.tb.three
      obtain ⟨r0, r1, r2⟩ := HI.out.rb.three
      have f0 := HI.out.rb.frozen 0
      have f1 := HI.out.rb.frozen 1
      have f2 := HI.out.rb.frozen 2
      have lz := HI.out.rb.lt
      go_wp2_with fail
      refine bodyPost_ret (v := .tuple #[.agg #[.int .i64 k', .int .i64 h', .slice At' nt' ct'], .int .i64 0]) (by simp [results, Tryz.results66, go_sem, r0, r1, r2]) rfl ?_
      exact spX_put HEQ.out HI.out.rd HI.out.below _ _ _
def CoE (W : WV) (m : T) : Prop := ∀ (cx : List T) (B : Int) (As : Option Addr) (ns cs : Nat) (Am : Option Addr) (nm cm : Nat) (Ac : Option Addr) (nc cc : Nat) (pw : Nat) (vm : Value) (w : World),
  EnvV W cx B → WkV W m → B + nd m * dlV ≤ hiV → cx.length + nd m ≤ 100000 → CkV w W cx As ns cs Am nm cm Ac nc cc → PwE w pw As ns cs Am nm cm → Rd w m vm →
    Calls Tryz.prog 77 #[.pointer (some ⟨pw, 0, none⟩), .slice Ac nc cc, vm] w (SpX (fun _ => False) (cmV W cx m) w)
def kdsE : T → List T | .node _ _ xs => xs
theorem eLamC {W : WV} {x : T} {hh : Int} (ih : TmE W x) (cx : List T) (a : T) (B : Int) (As : Option Addr) (ns cs : Nat) (Am : Option Addr) (nm cm : Nat) (Ac : Option Addr) (nc cc pw : Nat) (vm va : Value) (w : World)
    (hE : EnvV W cx B) (hbm : WkV W (.node 3 hh [x])) (hba : BdV B a) (hsum : B + nd (.node 3 hh [x]) * dlV ≤ hiV) (hlen : cx.length + nd (.node 3 hh [x]) ≤ 100000) (hk : CkV w W cx As ns cs Am nm cm Ac nc cc) (hp : PwE w pw As ns cs Am nm cm) (hv : Rd w (.node 3 hh [x]) vm) (ha : Rd w a va) :
    Calls Tryz.prog 57 #[.pointer (some ⟨pw, 0, none⟩), .slice Ac nc cc, vm, va] w fun e w' => e = .returned (.int .i64 (tmV W (.node 3 hh [x]) cx a)) ∧ Below w.heap.size w w' := by
  obtain ⟨k, h, A, n, c, rfl⟩ := hv.full
  obtain ⟨ka, ga, Aa, na, ca, rfl⟩ := ha.full
  obtain ⟨W0, hW⟩ : ∃ W0, (w.alloc (.cells #[.int .i64 k, .int .i64 h, .slice A n c] 39)).alloc (.cells #[.int .i64 ka, .int .i64 ga, .slice Aa na ca] 39) = W0 := ⟨_, rfl⟩
  have hb : Below w.heap.size w W0 := by rw [← hW]; exact ((Below.refl _ _).alloc (Nat.le_refl _) _).alloc (by simp) _
  have x0 : Box W0 w.heap.size 39 #[.int .i64 k, .int .i64 h, .slice A n c] := by rw [← hW]; exact (Box.new _ _ _).alloc _
  have x1 : Box W0 (w.heap.size + 1) 39 #[.int .i64 ka, .int .i64 ga, .slice Aa na ca] := by rw [← hW]; exact (Box.new (w.alloc _) _ _).at (by simp)
  obtain ⟨c0, c1, c2⟩ := x0.three
  obtain ⟨d0, d1, d2⟩ := x1.three
  have hkd := (rdF_kind ha).1
  have hkm := (rdF_kind hv).1
  have HB := Lib.hid hb
  obtain rfl : 3 = k := hkm
  by_cases hk1 : ka = 1
  case' neg =>
    have hd : (ka != 1) = true := by simpa using hk1
    have HEQ := Lib.hid (show tmV W (.node 3 hh [x]) cx a = 3 by rw [tm_lam, if_neg (by rw [hkd]; exact hk1)])
    rw [HEQ.out]
    clear hkd
    go_enter Tryz.func57, Tryz.ntmps57
    go_wp2_with fail
    clear hW
    go_ret
    exact ⟨rfl, HB.out⟩
  subst hk1
  obtain ⟨p, q, rfl, hbp, hbq⟩ := hba.pi hkd
  obtain ⟨bb, ob, cb, ev, hc2, hcm2, ⟨kp, gp, Ap, np, cp, p0, p1, p2, hrp⟩, ⟨kq, gq, Aq, nq, cq, q0, q1, q2, hrq⟩⟩ := rd_pi ha
  have ev' : ga = 0 ∧ Aa = some ⟨bb, ob, none⟩ ∧ na = 2 ∧ ca = cb := by simpa using ev
  obtain ⟨rfl, rfl, rfl, rfl⟩ := ev'
  have hhe := (rdF_kind hv).2
  rw [hdQ] at hhe
  subst hhe
  obtain ⟨bx, ox, kx, gx, Ax, nx, cx', rfl, rfl, hc1, hcm1, v0, v1, v2, hrx⟩ := rd_lamV hv
  unfold maxLen at hcm1 hcm2
  have HEQ := Lib.hid (show tmV W (.node 3 hh [x]) cx (.node 1 0 [p, q]) = tmV W x (cx ++ [p]) q by rw [tm_lam]; rfl)
  rw [HEQ.out]
  replace p0 := (hb.cell (cell_lt p0)).trans p0
  replace p1 := (hb.cell (cell_lt p1)).trans p1
  replace p2 := (hb.cell (cell_lt p2)).trans p2
  replace q0 := (hb.cell (cell_lt q0)).trans q0
  replace q1 := (hb.cell (cell_lt q1)).trans q1
  replace q2 := (hb.cell (cell_lt q2)).trans q2
  replace v0 := (hb.cell (cell_lt v0)).trans v0
  replace v1 := (hb.cell (cell_lt v1)).trans v1
  replace v2 := (hb.cell (cell_lt v2)).trans v2
  have hcl := hk.cx.len
  rw [nd, ndL, ndL] at hsum hlen
  have HMO : Hid (∀ W' : World, Below W0.heap.size W0 W' → Calls Tryz.prog 64 #[.slice Ac nc cc, .agg #[.int .i64 kp, .int .i64 gp, .slice Ap np cp]] W' (MoE (cx ++ [p]) nc W')) := Lib.hid fun W' h' =>
    eMoreC cx p Ac nc cc _ W' (hk.cx.keep (hb.trans (h'.mono hb.size))) (Rd.keep (hb.trans (h'.mono hb.size)) _ _ hrp) (by omega)
  have HTM : Hid (∀ (W' : World) (g cap : Nat), Below W0.heap.size W0 W' → CLV W' (cx ++ [p]) (some ⟨g, 0, none⟩) (nc + 1) cap → Calls Tryz.prog 57 #[.pointer (some ⟨pw, 0, none⟩), .slice (some ⟨g, 0, none⟩) (nc + 1) cap, .agg #[.int .i64 kx, .int .i64 gx, .slice Ax nx cx'], .agg #[.int .i64 kq, .int .i64 gq, .slice Aq nq cq]] W' fun e w' => e = .returned (.int .i64 (tmV W x (cx ++ [p]) q)) ∧ Below W'.heap.size W' w') := Lib.hid fun W' g cap h' hcl' =>
    have hb' := hb.trans (h'.mono hb.size)
    ih (cx ++ [p]) q B As ns cs Am nm cm _ _ _ pw _ _ W' (hE.more hbp) (hbm.arg (by simp)) hbq (by unfold dlV hiV at *; omega) (by rw [List.length_append, List.length_singleton]; omega) ⟨hk.sg.keep hb', hk.ms.keep hb', hcl'⟩ (hp.keep hb' hp.lt) (Rd.keep hb' _ _ hrx) (Rd.keep hb' _ _ hrq)
  obtain ⟨R, hR⟩ : ∃ R, tmV W x (cx ++ [p]) q = R := ⟨_, rfl⟩
  rw [hR] at HTM ⊢
  clear hkd ev hE hbm hba hsum hlen hk hp hv ha hbp hbq hrp hrq hrx hcl hb x0 x1 hR ih HEQ
  go_enter Tryz.func57, Tryz.ntmps57
  go_wp2_with fail
  try rw [hW]
  clear hW
  have HKS : Hid (∀ w' : World, Below W0.heap.size W0 w' → (fun w' => w'.cell? ⟨w.heap.size, 2, none⟩ = some (.slice (some ⟨bx, ox, none⟩) 1 c) ∧ w'.cell? ⟨w.heap.size + 1, 2, none⟩ = some (.slice (some ⟨bb, ob, none⟩) 2 ca) ∧ w'.cell? ⟨bb, ob, none⟩ = some (.int .i64 kp) ∧ w'.cell? ⟨bb, ob + 1, none⟩ = some (.int .i64 gp) ∧ w'.cell? ⟨bb, ob + 2, none⟩ = some (.slice Ap np cp) ∧ w'.cell? ⟨bb, ob + 3, none⟩ = some (.int .i64 kq) ∧ w'.cell? ⟨bb, ob + 4, none⟩ = some (.int .i64 gq) ∧ w'.cell? ⟨bb, ob + 5, none⟩ = some (.slice Aq nq cq) ∧ w'.cell? ⟨bx, ox, none⟩ = some (.int .i64 kx) ∧ w'.cell? ⟨bx, ox + 1, none⟩ = some (.int .i64 gx) ∧ w'.cell? ⟨bx, ox + 2, none⟩ = some (.slice Ax nx cx')) w') := Lib.hid fun w' h => ⟨(h.cell (cell_lt c2)).trans c2, (h.cell (cell_lt d2)).trans d2, (h.cell (cell_lt p0)).trans p0, (h.cell (cell_lt p1)).trans p1, (h.cell (cell_lt p2)).trans p2, (h.cell (cell_lt q0)).trans q0, (h.cell (cell_lt q1)).trans q1, (h.cell (cell_lt q2)).trans q2, (h.cell (cell_lt v0)).trans v0, (h.cell (cell_lt v1)).trans v1, (h.cell (cell_lt v2)).trans v2⟩
  have hbd : Below W0.heap.size W0 W0.drew := (Below.refl _ W0).drew
  refine zzR HKS hbd (fun hS => ?_)
  simp only [List.size_toArray, List.length_cons, List.length_nil, Nat.reduceAdd]
  refine zzT (i := 0) (v := .pointer (some ⟨pw, 0, none⟩)) rfl hS ?_
  try simp only [Act.put, zzP]
  refine zzT (i := 1) (v := .slice Ac nc cc) rfl hS ?_
  try simp only [Act.put, zzP]
  refine zzT (i := 2) (v := .pointer (some ⟨w.heap.size + 1, 2, none⟩)) rfl hS ?_
  try simp only [Act.put, zzP]
  refine zzT (i := 3) (v := .slice (some ⟨bb, ob, none⟩) 2 ca) rfl hS ?_
  try simp only [Act.put, zzP]
  refine zzT (i := 4) (v := .pointer (some ⟨bb, ob, none⟩)) rfl hS ?_
  try simp only [Act.put, zzP]
  refine zzT (i := 5) (v := .agg #[.int .i64 kp, .int .i64 gp, .slice Ap np cp]) rfl hS ?_
  try simp only [Act.put, zzP]
  refine zzT (i := 7) (v := .pointer (some ⟨w.heap.size, 2, none⟩)) rfl hS ?_
  try simp only [Act.put, zzP]
  refine zzT (i := 8) (v := .slice (some ⟨bx, ox, none⟩) 1 c) rfl hS ?_
  try simp only [Act.put, zzP]
  refine zzT (i := 9) (v := .pointer (some ⟨bx, ox, none⟩)) rfl hS ?_
  try simp only [Act.put, zzP]
  refine zzT (i := 10) (v := .agg #[.int .i64 kx, .int .i64 gx, .slice Ax nx cx']) rfl hS ?_
  try simp only [Act.put, zzP]
  refine zzT (i := 11) (v := .pointer (some ⟨w.heap.size + 1, 2, none⟩)) rfl hS ?_
  try simp only [Act.put, zzP]
  refine zzT (i := 12) (v := .slice (some ⟨bb, ob, none⟩) 2 ca) rfl hS ?_
  try simp only [Act.put, zzP]
  refine zzT (i := 13) (v := .pointer (some ⟨bb, ob + 3, none⟩)) rfl hS ?_
  try simp only [Act.put, zzP]
  refine zzT (i := 14) (v := .agg #[.int .i64 kq, .int .i64 gq, .slice Aq nq cq]) rfl hS ?_
  try simp only [Act.put, zzP]
  refine wpAnyH_ready (rs := [6]) (by kernel_rfl) (by simp) ?_
  refine AllReadyH.cons rfl (fun KN hK => ?_) AllReadyH.nil
  go_simp
  refine (HMO.out _ hbd).mono ?_
  rintro e v7 ⟨g, cap, rfl, hcl7, hb6⟩
  replace hbd : Below W0.heap.size W0 v7 := hbd.trans (hb6.mono hbd.size)
  clear hb6
  refine hK.out _ _ (HKS.out _ hbd) (fun hS => ?_)
  clear hK KN
  try simp only [Act.put, zzP]
  refine wpAnyH_ready (rs := [15]) (by kernel_rfl) (by simp) ?_
  refine AllReadyH.cons rfl (fun KN hK => ?_) AllReadyH.nil
  go_simp
  refine (HTM.out v7 g cap hbd hcl7).mono ?_
  rintro e v8 ⟨rfl, hb6⟩
  replace hbd : Below W0.heap.size W0 v8 := hbd.trans (hb6.mono hbd.size)
  clear hb6
  refine hK.out _ _ (HKS.out _ hbd) (fun hS => ?_)
  clear hK KN
  try simp only [Act.put, zzP]
  refine zzT (i := 16) (v := .int .i64 R) rfl hS ?_
  try simp only [Act.put, zzP]
  refine wpAnyH_done (by kernel_rfl) ?_ _
  try simp only [List.setIfInBounds_toArray]
  try simp only [zzP]
  have HBF := Lib.hid (HB.out.trans (hbd.mono HB.out.size))
  clear hS HKS hbd hcl7
  go_wp2_with fail
  go_ret
  exact ⟨rfl, HBF.out⟩
theorem eNeuC {W : WV} {m : T} (hk3 : kdQ m ≠ 3) (hco : CoE W m) (cx : List T) (a : T) (B : Int) (As : Option Addr) (ns cs : Nat) (Am : Option Addr) (nm cm : Nat) (Ac : Option Addr) (nc cc pw : Nat) (vm va : Value) (w : World)
    (hE : EnvV W cx B) (hbm : WkV W m) (hsum : B + nd m * dlV ≤ hiV) (hlen : cx.length + nd m ≤ 100000) (hk : CkV w W cx As ns cs Am nm cm Ac nc cc) (hp : PwE w pw As ns cs Am nm cm) (hv : Rd w m vm) (ha : Rd w a va) :
    Calls Tryz.prog 57 #[.pointer (some ⟨pw, 0, none⟩), .slice Ac nc cc, vm, va] w fun e w' => e = .returned (.int .i64 (tmV W m cx a)) ∧ Below w.heap.size w w' := by
  obtain ⟨k, h, A, n, c, rfl⟩ := hv.full
  obtain ⟨ka, ga, Aa, na, ca, rfl⟩ := ha.full
  obtain ⟨W0, hW⟩ : ∃ W0, (w.alloc (.cells #[.int .i64 k, .int .i64 h, .slice A n c] 39)).alloc (.cells #[.int .i64 ka, .int .i64 ga, .slice Aa na ca] 39) = W0 := ⟨_, rfl⟩
  have hb : Below w.heap.size w W0 := by rw [← hW]; exact ((Below.refl _ _).alloc (Nat.le_refl _) _).alloc (by simp) _
  have x0 : Box W0 w.heap.size 39 #[.int .i64 k, .int .i64 h, .slice A n c] := by rw [← hW]; exact (Box.new _ _ _).alloc _
  have x1 : Box W0 (w.heap.size + 1) 39 #[.int .i64 ka, .int .i64 ga, .slice Aa na ca] := by rw [← hW]; exact (Box.new (w.alloc _) _ _).at (by simp)
  obtain ⟨c0, c1, c2⟩ := x0.three
  obtain ⟨d0, d1, d2⟩ := x1.three
  have hkd := (rdF_kind ha).1
  have hkm := (rdF_kind hv).1
  have HB := Lib.hid hb
  have hkn : k ≠ 3 := by rw [← hkm]; exact hk3
  have d3 : (k == 3) = false := by simpa using hkn
  have htm : tmV W m cx a = if ka = 2 then enV a (cmV W cx m) else 3 := by
    obtain ⟨km, gm, xm⟩ := m
    rw [tm_neu W (by rw [kdQ] at hk3; exact hk3), hkd]
  by_cases hk2 : ka = 2
  case' neg =>
    have hd : (ka != 2) = true := by simpa using hk2
    have HEQ := Lib.hid (show tmV W m cx a = 3 by rw [htm, if_neg hk2])
    rw [HEQ.out]
    clear hkm hkd htm hkn
    go_enter Tryz.func57, Tryz.ntmps57
    go_wp2_with fail
    clear hW
    go_ret
    exact ⟨rfl, HB.out⟩
  subst hk2
  rw [htm, if_pos rfl]
  have HC := Lib.hid (hco cx B As ns cs Am nm cm Ac nc cc pw _ W0 hE hbm hsum hlen (hk.keep hb) (hp.keep hb hp.lt) (Rd.keep hb _ _ hv))
  have HRA := Lib.hid (Rd.keep hb _ _ ha)
  have X1 := Lib.hid x1
  obtain ⟨R, hR⟩ : ∃ R, cmV W cx m = R := ⟨_, rfl⟩
  rw [hR] at HC ⊢
  have HER := Lib.hid (show ∀ e, R = .error e → e ≠ 0 from fun e h => cm_err (hR.trans h))
  clear hkm hkd htm hkn hE hbm hsum hlen hk hp hv ha hb x0 x1 hR hco
  go_enter Tryz.func57, Tryz.ntmps57
  go_wp2_with fail
  try rw [hW]
  clear hW
  go_wp2_with fail
  refine HC.out.mono ?_
  rintro e w1 ⟨k3, h3, A3, n3, c3, rfl, hrd, hb1⟩
  have HB1 := Lib.hid (HB.out.trans (hb1.mono HB.out.size))
  have HRA1 := Lib.hid (Rd.keep hb1 _ _ HRA.out)
  have X2 := Lib.hid (X1.out.keep hb1 X1.out.lt)
  obtain ⟨W2, hW2⟩ : ∃ W2, w1.alloc (.cells #[.int .i64 k3, .int .i64 h3, .slice A3 n3 c3] 39) = W2 := ⟨_, rfl⟩
  have s2 : Below w1.heap.size w1 W2 := by rw [← hW2]; exact (Below.refl _ _).alloc (Nat.le_refl _) _
  have z2 : Box W2 w1.heap.size 39 #[.int .i64 k3, .int .i64 h3, .slice A3 n3 c3] := by rw [← hW2]; exact Box.new _ _ _
  have HB2 := Lib.hid (HB1.out.trans (s2.mono HB1.out.size))
  have HR2 := Lib.hid (Rd.keep s2 _ _ HRA1.out)
  have X3 := Lib.hid (X2.out.keep s2 X2.out.lt)
  clear c0 c1 c2 d0 d1 d2 hb1 HC HRA X1 HB1 HRA1 X2
  cases R with
  | error er =>
    have hne : er ≠ 0 := HER.out er rfl
    have hd2 : (er != 0) = true := by simpa using hne
    clear hne hrd s2 z2 HER
    rw [show erV (.error er) = er from rfl]
    go_wp2_with fail
    clear hW2
    go_ret
    exact ⟨rfl, HB2.out⟩
  | ok t =>
    have hr := RX.rd (hrd t rfl)
    have HT := Lib.hid (Rd.keep s2 _ _ hr)
    have HS := Lib.hid (refSame t a _ _ W2 HT.out HR2.out)
    obtain ⟨f0, f1, f2⟩ := z2.three
    obtain ⟨g0, g1, g2⟩ := X3.out.three
    rw [show erV (.ok t) = 0 from rfl]
    obtain ⟨r, hr0⟩ : ∃ r, samB t a = r := ⟨_, rfl⟩
    rw [hr0] at HS
    have HSR := Lib.hid hr0
    clear hr hrd s2 z2 HER HR2 HT hr0
    subst hW2
    go_wp2_with fail
    clear f0 f1 f2 g0 g1 g2
    refine HS.out.mono ?_
    rintro e w4 ⟨rfl, hb4⟩
    have HB4 := Lib.hid (HB2.out.trans (hb4.mono HB2.out.size))
    clear hb4 HS
    cases r
    · go_wp2_with fail
      go_ret
      exact ⟨ret_int (by rw [enV, if_neg (by rw [HSR.out]; decide)]), HB4.out⟩
    · go_wp2_with fail
      go_ret
      exact ⟨ret_int (by rw [enV, if_pos HSR.out]), HB4.out⟩
theorem eTermC {W : WV} (hco : ∀ m, (∀ x ∈ kdsE m, TmE W x) → CoE W m) (m : T) : TmE W m := by
  induction m using T.ind with
  | step k h xs ih =>
    intro cx a B As ns cs Am nm cm Ac nc cc pw vm va w hE hbm hba hsum hlen hk hp hv ha
    by_cases hk3 : k = 3
    · subst hk3
      obtain ⟨rfl, x, rfl, _⟩ := lamV hbm.nod
      exact eLamC (ih x (by simp)) cx a B As ns cs Am nm cm Ac nc cc pw vm va w hE hbm hba hsum hlen hk hp hv ha
    · exact eNeuC (by rw [kdQ]; exact hk3) (hco (.node k h xs) ih) cx a B As ns cs Am nm cm Ac nc cc pw vm va w hE hbm hsum hlen hk hp hv ha
end Go.Proofs.YtbbjjdnnlnabaaaGreat
