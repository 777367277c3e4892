/- Texts of one proof, put together. No statement is proved here. -/
import Derived.Test.YtbbjjdnnlnabaaaGreatPkV
import Derived.Test.YtbbjjdnnlnabaaaGreatZt
namespace Go.Proofs.YtbbjjdnnlnabaaaGreat
open Go.ChangeShapes Go.WideShapes Go.ChangeAt Go.RowKit
set_option linter.unusedVariables false
set_option linter.unusedSimpArgs false
set_option maxRecDepth 100000
set_option maxHeartbeats 16000000
abbrev okV (ok : Nat → Prop) (N : Nat) (b : Nat) : Prop := (ok b ∧ b < N) ∨ N + 3 ≤ b
structure SpIV (ok : Nat → Prop) (W : WV) (xs cx : List T) (t0 : T) (B : Int) (As : Option Addr) (ns cs : Nat) (Am : Option Addr) (nm cm : Nat) (Ac : Option Addr) (nc cc : Nat) (w : World) (j : Nat) (wr : World) (t' : T) (B' : Int) (k h : Int) (At : Option Addr) (nt ct : Nat) : Prop where
  cb : Box wr w.heap.size 75 #[.slice As ns cs, .slice Am nm cm, .slice Ac nc cc]
  tb : Box wr (w.heap.size + 1) 39 #[.int .i64 k, .int .i64 h, .slice At nt ct]
  rb : Box wr (w.heap.size + 1 + 1) 39 #[.int .i64 0, .int .i64 0, .slice none 0 0]
  below : Below w.heap.size w wr
  rd : RdF (okV ok w.heap.size) wr t' (.agg #[.int .i64 k, .int .i64 h, .slice At nt ct])
  bd : BdV B' t'
  lo : B ≤ B'
  hi : B' + ndL (xs.drop j) * dlV ≤ hiV
  eq : spV W xs cx t0 = spV W (xs.drop j) cx t'
theorem rdAt_sub {w : World} {b o j : Nat} {t : T} (h : RdAt w (some ⟨b, o, none⟩) j t) : RdAt w (some ⟨b, o + j * 3, none⟩) 0 t := by
  obtain ⟨b', o', k, g, A, n, c, e, c0, c1, c2, hr⟩ := h.full
  cases e
  exact ⟨b, o + j * 3, _, _, _, rfl, by simpa using c0, by simpa using c1, by simpa using c2, hr⟩
theorem lo_of {B : Int} {t : T} (b : BdV B t) (h : B ≤ hiV) : LoT t := okT_mono h t b.ok
theorem rdF_kind {w : World} {t : T} {k h : Int} {A : Option Addr} {n c : Nat} (hr : Rd w t (.agg #[.int .i64 k, .int .i64 h, .slice A n c])) : kdQ t = k ∧ hdQ t = h := by
  obtain ⟨kt, gt, xs⟩ := t
  obtain ⟨Aq, nq, cq, eq, _⟩ := Rd_node.1 hr
  have eq' : k = kt ∧ h = gt ∧ A = Aq ∧ n = nq ∧ c = cq := by simpa using eq
  exact ⟨eq'.1.symm, eq'.2.1.symm⟩
theorem sp_no {W : WV} {x : T} {xs cx : List T} {t : T} (h : kdQ t ≠ 1) : spV W (x :: xs) cx t = .error 3 := by rw [spV, if_neg h]
theorem sp_pi {W : WV} {x : T} {xs cx : List T} {p q : T} : spV W (x :: xs) cx (.node 1 0 [p, q]) = if tmV W x cx p = 0 then (if apE q [x] 0 = 0 then spV W xs cx (apT q [x] 0) else .error (apE q [x] 0)) else .error (tmV W x cx p) := by
  rw [spV, if_pos (show kdQ (.node 1 0 [p, q]) = 1 from rfl)]
  rfl
theorem sp_e1 {W : WV} {x : T} {xs cx : List T} {p q : T} {e : Int} (h : tmV W x cx p = e) (he : e ≠ 0) : spV W (x :: xs) cx (.node 1 0 [p, q]) = .error e := by
  subst h
  rw [sp_pi, if_neg he]
theorem sp_e2 {W : WV} {x : T} {xs cx : List T} {p q : T} {e : Int} (h : tmV W x cx p = 0) (h2 : apE q [x] 0 = e) (he : e ≠ 0) : spV W (x :: xs) cx (.node 1 0 [p, q]) = .error e := by
  subst h2
  rw [sp_pi, if_pos h, if_neg he]
theorem sp_go {W : WV} {x : T} {xs cx : List T} {p q : T} (h : tmV W x cx p = 0) (h2 : apE q [x] 0 = 0) : spV W (x :: xs) cx (.node 1 0 [p, q]) = spV W xs cx (apT q [x] 0) := by
  rw [sp_pi, if_pos h, if_pos h2]
theorem spE_put {ok : Nat → Prop} {w wr : World} {r : Except Int T} {t : T} {k h : Int} {A : Option Addr} {n c : Nat} (hr : r = .ok t) (hd : RdF (okV ok w.heap.size) wr t (.agg #[.int .i64 k, .int .i64 h, .slice A n c])) (hb : Below w.heap.size w wr) (u0 u1 u2 : Value) :
    SpE ok r w (.returned (.tuple #[.agg #[.int .i64 k, .int .i64 h, .slice A n c], .int .i64 0])) (((wr.setCell ⟨w.heap.size + 1 + 1, 0, none⟩ u0).setCell ⟨w.heap.size + 1 + 1, 1, none⟩ u1).setCell ⟨w.heap.size + 1 + 1, 2, none⟩ u2) := by
  subst hr
  refine ⟨k, h, A, n, c, rfl, fun t' e => ?_, below_set3 hb (by omega) _ _ _⟩
  cases e
  exact RdF.moveX (fun b hok hl => ⟨by rcases hok with h | h; exact .inl h; exact .inr (by omega), heap_other3 _ _ _ _ _ _ (by rcases hok with h | h <;> omega)⟩) _ _ hd
theorem vSpineC {ok : Nat → Prop} {W : WV} {xs cx : List T} {t : T} {B B0 : Int} (ih : ∀ x ∈ xs, TmC W x) (E : EnvV W cx B) (hxs : ∀ x ∈ xs, WkV W x) (ht : BdV B0 t) (hB : B ≤ B0) (hsum : B0 + ndL xs * dlV ≤ hiV) (hlen : cx.length + ndL xs ≤ 1000000)
    {As : Option Addr} {ns cs : Nat} {Am : Option Addr} {nm cm : Nat} {Ac : Option Addr} {nc cc : Nat} {A : Option Addr} {n c : Nat} {k h : Int} {At : Option Addr} {nt ct : Nat} (w : World) (hk : CkV w W cx As ns cs Am nm cm Ac nc cc) (hx : CLV w xs A n c) (hv : RdF ok w t (.agg #[.int .i64 k, .int .i64 h, .slice At nt ct])) :
    Calls Tryz.prog 84 #[.agg #[.slice As ns cs, .slice Am nm cm, .slice Ac nc cc], .agg #[.int .i64 k, .int .i64 h, .slice At nt ct], .slice A n c] w (SpE ok (spV W xs cx t) w) := by
  have hcap := hx.cap
  have hle := hx.le
  unfold maxLen at hcap
  obtain ⟨W0, hW⟩ : ∃ W0, ((w.alloc (.cells #[.slice As ns cs, .slice Am nm cm, .slice Ac nc cc] 75)).alloc (.cells #[.int .i64 k, .int .i64 h, .slice At nt ct] 39)).alloc (.cells #[.int .i64 0, .int .i64 0, .slice none 0 0] 39) = W0 := ⟨_, rfl⟩
  have hb : Below w.heap.size w W0 := by rw [← hW]; exact (((Below.refl _ _).alloc (Nat.le_refl _) _).alloc (by simp) _).alloc (by simp; omega) _
  have x0 : Box W0 w.heap.size 75 #[.slice As ns cs, .slice Am nm cm, .slice Ac nc cc] := by rw [← hW]; exact ((Box.new _ _ _).alloc _).alloc _
  have x1 : Box W0 (w.heap.size + 1) 39 #[.int .i64 k, .int .i64 h, .slice At nt ct] := by rw [← hW]; exact ((Box.new (w.alloc _) _ _).at (by simp)).alloc _
  have x2 : Box W0 (w.heap.size + 1 + 1) 39 #[.int .i64 0, .int .i64 0, .slice none 0 0] := by rw [← hW]; exact (Box.new ((w.alloc _).alloc _) _ _).at (by simp)
  have hrd : RdF (okV ok w.heap.size) W0 t (.agg #[.int .i64 k, .int .i64 h, .slice At nt ct]) := RdF.moveX (fun b hb' hl => ⟨.inl ⟨hb', hl⟩, hb.block b hl⟩) _ _ hv
  have HI0 : Hid (SpIV ok W xs cx t B As ns cs Am nm cm Ac nc cc w 0 W0 t B0 k h At nt ct) := Lib.hid ⟨x0, x1, x2, hb, hrd, ht, hB, by rw [List.drop_zero]; exact hsum, by rw [List.drop_zero]⟩
  have HK := Lib.hid hk; clear hk
  have HX := Lib.hid hx; clear hx
  have HIH := Lib.hid ih; clear ih
  have HE := Lib.hid E; clear E
  have HXS := Lib.hid hxs; clear hxs
  have HLN := Lib.hid hlen; clear hlen
  have HW := Lib.hid hW; clear hW hv ht hb x0 x1 x2 hrd hsum hB
  obtain ⟨R, hR⟩ : ∃ R, spV W xs cx t = R := ⟨_, rfl⟩
  rw [hR]
  have HR := Lib.hid hR; clear hR
  go_enter Tryz.func84, Tryz.ntmps84
  go_wp2_with fail
  rw [HW.out]
  clear HW
  go_wp2_with fail
  go_loopw [15] (fun i wr => ∃ (j : Nat) (t' : T) (B' k h : Int) (At : Option Addr) (nt ct : Nat), j ≤ n ∧ i = .int .i64 j ∧ Hid (SpIV ok W xs cx t B As ns cs Am nm cm Ac nc cc w j wr t' B' k h At nt ct)) (fun i _ => n - (Go.RowKit.intOf i).toNat)
  case atStart => exact ⟨0, t, B0, k, h, At, nt, ct, Nat.zero_le _, rfl, HI0⟩
  case round =>
    clear HI0
    obtain ⟨j, t', B', k', h', At', nt', ct', hj, rfl, HI⟩ := hrel
    obtain ⟨t0, t1, t2⟩ := HI.out.tb.three
    by_cases hlt : j < n
    · obtain ⟨x, hxj⟩ := at_of HX.out.len hlt
      have hmem := List.mem_of_getElem? hxj
      obtain ⟨ba, oa, k2, h2, A2, n2, c2', eA, e0, e1, e2, hrx⟩ := ((HX.out.keep HI.out.below).at_ j x hxj).full
      subst eA
      have heq := HI.out.eq
      have hhi := HI.out.hi
      rw [drop_at hxj] at heq hhi
      rw [ndL] at hhi
      have hnl := nd_mem hmem
      have HT := Lib.hid (HIH.out x hmem)
      have HXJ := Lib.hid hxj; clear hxj
      obtain ⟨Wa, hWa⟩ : ∃ Wa, wr.alloc (.cells #[.int .i64 k2, .int .i64 h2, .slice A2 n2 c2'] 39) = Wa := ⟨_, rfl⟩
      have hbA : Below wr.heap.size wr Wa := by rw [← hWa]; exact (Below.refl _ _).alloc (Nat.le_refl _) _
      have xa : Box Wa wr.heap.size 39 #[.int .i64 k2, .int .i64 h2, .slice A2 n2 c2'] := by rw [← hWa]; exact Box.new _ _ _
      have HBA := Lib.hid (HI.out.below.trans (hbA.mono HI.out.below.size))
      have HRX := Lib.hid (Rd.keep hbA _ _ hrx)
      have HBX := Lib.hid (HXS.out x hmem)
      have zc := HI.out.cb.keep hbA HI.out.cb.lt
      have zt := HI.out.tb.keep hbA HI.out.tb.lt
      have zr := HI.out.rb.keep hbA HI.out.rb.lt
      have hrt := RdF.moveX (ok' := okV ok w.heap.size) (fun b hok hl => ⟨hok, hbA.block b hl⟩) _ _ HI.out.rd
      have hi0 : (0 : Int) ≤ j := by omega
      have hi1 : (j : Int) < n := by omega
      have hkd := (rdF_kind (RdF.rd _ _ hrt)).1
      have HEQ := Lib.hid (HR.out.symm.trans heq)
      have lr := HI.out.rb.lt
      have HRT := Lib.hid hrt
      have HHI := Lib.hid hhi
      have HNL := Lib.hid hnl
      clear hrx heq hmem hrt hhi hnl
      obtain ⟨t0', t1', t2'⟩ := zt.three
      by_cases hk1 : k' = 1
      · subst hk1
        go_wp2_with fail
        clear e0 e1 e2
        obtain ⟨p, q, rfl, hbp, hbq⟩ := HI.out.bd.pi hkd
        obtain ⟨bb, ob, cb, ev, hc2, hcm2, ⟨kp, hp, Ap, np, cp, p0, p1, p2, hrp⟩, ⟨kq, hq, Aq, nq, cq, q0, q1, q2, hrq⟩⟩ := rd_pi (RdF.rd _ _ HRT.out)
        have ev' : h' = 0 ∧ At' = some ⟨bb, ob, none⟩ ∧ nt' = 2 ∧ ct' = cb := by simpa using ev
        obtain ⟨rfl, rfl, rfl, rfl⟩ := ev'
        unfold maxLen at hcm2
        have HBP := Lib.hid hbp
        have HBQ := Lib.hid hbq
        have HRQ := Lib.hid hrq
        have HTC := Lib.hid (fun W' (h' : Below Wa.heap.size Wa W') => HT.out cx p B' As ns cs Am nm cm Ac nc cc _ _ W' (HE.out.mono HI.out.lo) HBX.out HBP.out (by have := HHI.out; unfold dlV at *; omega) (by have := HLN.out; have := HNL.out; omega) (HK.out.keep (HBA.out.trans (h'.mono HBA.out.size))) (Rd.keep h' _ _ HRX.out) (Rd.keep h' _ _ hrp))
        obtain ⟨e1, he1⟩ : ∃ e, tmV W x cx p = e := ⟨_, rfl⟩
        rw [he1] at HTC
        have HE1 := Lib.hid he1
        obtain ⟨s0, s1, s2⟩ := zc.three
        obtain ⟨a0, a1, a2⟩ := xa.three
        have v0 := Past.cell s0
        have v1 := Past.cell s1
        have v2 := Past.cell s2
        have v3 := Past.cell a0
        have v4 := Past.cell a1
        have v5 := Past.cell a2
        have v6 := Past.cell t2'
        have v7 := Past.cell p0
        have v8 := Past.cell p1
        have v9 := Past.cell p2
        clear ev hbp hbq hrp hrq he1 s0 s1 s2 a0 a1 a2 t0' t1' t2' p0 p1 p2 t0 t1 t2 hkd
        have HQC := Lib.hid (And.intro q0 (And.intro q1 q2))
        clear q0 q1 q2
        have HZ := Lib.hid (And.intro zc (And.intro zt zr))
        clear zc zt zr xa
        go_wp2_with fail
        refine wp_region_past (by kernel_rfl) (by kernel_rfl) ?_
        repeat (go_big_quiet_step ((exact calls_past (HTC.out _ (Past.h _)))))
        refine wpQuiet_nil ?_
        rintro _ ⟨z1, rfl⟩
        obtain ⟨W4, hb4⟩ := z1
        dsimp only
        clear v0 v1 v2 v3 v4 v5 v6 v7 v8 v9 HTC
        have zc := HZ.out.1.keep hb4 HZ.out.1.lt
        have zt := HZ.out.2.1.keep hb4 HZ.out.2.1.lt
        have zr := HZ.out.2.2.keep hb4 HZ.out.2.2.lt
        have HB4 := Lib.hid (HBA.out.trans (hb4.mono HBA.out.size))
        have q0 := (hb4.cell (cell_lt HQC.out.1)).trans HQC.out.1
        have q1 := (hb4.cell (cell_lt HQC.out.2.1)).trans HQC.out.2.1
        have q2 := (hb4.cell (cell_lt HQC.out.2.2)).trans HQC.out.2.2
        have HRQ4 := Lib.hid (Rd.keep hb4 _ _ HRQ.out)
        have HRX4 := Lib.hid (Rd.keep hb4 _ _ HRX.out)
        obtain ⟨r0, r1, r2⟩ := zr.three
        have f0 := zr.frozen 0
        have f1 := zr.frozen 1
        have f2 := zr.frozen 2
        have lz := zr.lt
        clear hb4 HZ HRQ HRX HQC
        by_cases hz : e1 = 0
        · subst hz
          replace HBX := Lib.hid (⟨HBX.out.my, tm_low HBX.out.my (by have := HLN.out; omega) HE1.out⟩ : BdV loV x)
          go_wp2_with fail
          obtain ⟨e2, he2⟩ : ∃ e, apE q [x] 0 = e := ⟨_, rfl⟩
          have HE2 := Lib.hid he2
          have hBh : B' ≤ hiV := by have := HHI.out; unfold dlV hiV at *; omega
          have HAP : Hid (∀ W' : World, Below W4.heap.size W4 W' → Calls Tryz.prog 103 #[.agg #[.int .i64 kq, .int .i64 hq, .slice Aq nq cq], .agg #[.slice (some ⟨ba, oa + j * 3, none⟩) 1 (c - j), .int .i64 0]] W' (TEnd (apT q [x] 0) e2 W')) := Lib.hid fun W' h' => by
            rw [← he2]
            exact ApplyC (Rd.keep h' _ _ HRQ4.out) rfl (by omega) (by unfold maxLen; omega) (fun i u hu => by
              match i, hu with
              | 0, hu =>
                cases hu
                exact rdAt_sub (RdAt.keep ((HB4.out.trans (h'.mono HB4.out.size))) (HX.out.at_ j x HXJ.out))
              | i + 1, hu => simp at hu) (fun _ => lo_of HBQ.out hBh) (fun y hy _ => by
              rw [List.mem_singleton.1 hy]
              exact lo_of HBX.out (by have := HE.out.lo; have := HI.out.lo; unfold hiV loV at *; omega))
          obtain ⟨b0, b1, b2⟩ := zt.three
          have hw1 : IntKind.i64.wrap ((j : Int) + 1) = (j : Int) + 1 := by rw [wrapEq, wrap_small (by omega) (by omega)]
          have hj2 : (0 : Int) ≤ (j : Int) + 1 := by omega
          have hj3 : (j : Int) + 1 ≤ (c : Int) := by omega
          have hcj : ¬ c = j := by omega
          clear he2
          have HKS : Hid (∀ w' : World, Below W4.heap.size W4 w' → (fun w' => w'.cell? ⟨w.heap.size + 1, 2, none⟩ = some (.slice (some ⟨bb, ob, none⟩) 2 ct') ∧ w'.cell? ⟨bb, ob + 3, none⟩ = some (.int .i64 kq) ∧ w'.cell? ⟨bb, ob + 4, none⟩ = some (.int .i64 hq) ∧ w'.cell? ⟨bb, ob + 5, none⟩ = some (.slice Aq nq cq)) w') := Lib.hid fun w' h => ⟨(h.cell (cell_lt b2)).trans b2, (h.cell (cell_lt q0)).trans q0, (h.cell (cell_lt q1)).trans q1, (h.cell (cell_lt q2)).trans q2⟩
          have hbd : Below W4.heap.size W4 W4.drew := (Below.refl _ W4).drew
          refine zzR HKS hbd (fun hS => ?_)
          simp only [List.size_toArray, List.length_cons, List.length_nil, Nat.reduceAdd]
          refine zzT (i := 0) (v := .pointer (some ⟨w.heap.size + 1, 2, none⟩)) rfl hS ?_
          try simp only [Act.put, List.setIfInBounds_toArray]
          refine zzT (i := 1) (v := .slice (some ⟨bb, ob, none⟩) 2 ct') rfl hS ?_
          try simp only [Act.put]
          refine zzT (i := 2) (v := .pointer (some ⟨bb, ob + 3, none⟩)) rfl hS ?_
          try simp only [Act.put]
          refine zzT (i := 3) (v := .agg #[.int .i64 kq, .int .i64 hq, .slice Aq nq cq]) rfl hS ?_
          try simp only [Act.put]
          refine zzT (i := 4) (v := .slice (some ⟨ba, oa, none⟩) n c) rfl hS ?_
          try simp only [Act.put]
          refine zzT (i := 5) (v := .int .i64 j) rfl hS ?_
          try simp only [Act.put]
          refine zzT (i := 6) (v := .int .i64 j) rfl hS ?_
          try simp only [Act.put]
          refine zzT (i := 7) (v := .int .i64 (j + 1)) rfl hS ?_
          try simp only [Act.put]
          refine zzT (i := 8) (v := .slice (some ⟨ba, oa + j * 3, none⟩) 1 (c - j)) rfl hS ?_
          try simp only [Act.put]
          refine zzT (i := 9) (v := .agg #[.slice (some ⟨ba, oa + j * 3, none⟩) 1 (c - j), .int .i64 0]) rfl hS ?_
          try simp only [Act.put]
          refine wpAnyH_ready (rs := [10, 14]) (by kernel_rfl) (by simp) ?_
          refine AllReadyH.cons rfl (fun KN hK => ?_) (AllReadyH.cons rfl (fun KN hK => ?_) AllReadyH.nil)
          · go_simp
            refine (HAP.out _ hbd).mono ?_
            rintro e w8 ⟨k3, h3, A3, n3, c3, rfl, hrd, hb8⟩
            have hb8' : Below W4.heap.size W4 w8 := hbd.trans (hb8.mono hbd.size)
            have hrd8 : RdF (fun b => W4.heap.size ≤ b) w8 (apT q [x] 0) (.agg #[.int .i64 k3, .int .i64 h3, .slice A3 n3 c3]) := hrd
            refine hK.out _ _ (HKS.out _ hb8') (fun hS => ?_)
            clear hK KN
            try simp only [Act.put, zzP]
            clear hb8 hrd
            refine zzT (i := 11) (v := .tuple #[.agg #[.int .i64 k3, .int .i64 h3, .slice A3 n3 c3], .int .i64 e2]) rfl hS ?_
            try simp only [Act.put, List.setIfInBounds_toArray]
            refine zzT (i := 12) (v := .agg #[.int .i64 k3, .int .i64 h3, .slice A3 n3 c3]) rfl hS ?_
            try simp only [Act.put]
            refine zzT (i := 13) (v := .int .i64 e2) rfl hS ?_
            try simp only [Act.put]
            refine wpAnyH_ready (rs := [14]) (by kernel_rfl) (by simp) ?_
            refine AllReadyH.cons rfl (fun KN hK => ?_) AllReadyH.nil
            go_simp
            have hb9 : Below W4.heap.size W4 (w8.alloc (.cells #[.int .i64 0, .int .i64 0, .slice none 0 0] 39)) := hb8'.alloc hb8'.size _
            refine hK.out _ _ (HKS.out _ hb9) (fun hS => ?_)
            clear hK KN
            try simp only [Act.put, zzP]
            have xz : Box (w8.alloc (.cells #[.int .i64 0, .int .i64 0, .slice none 0 0] 39)) w8.heap.size 39 #[.int .i64 0, .int .i64 0, .slice none 0 0] := Box.new _ _ _
            have hrd9 : RdF (fun b => W4.heap.size ≤ b ∧ b ≠ w8.heap.size) (w8.alloc (.cells #[.int .i64 0, .int .i64 0, .slice none 0 0] 39)) (apT q [x] 0) (.agg #[.int .i64 k3, .int .i64 h3, .slice A3 n3 c3]) := RdF.moveX (fun b hok hl => ⟨⟨hok, by omega⟩, Below.heap_alloc _ _ _ hl⟩) _ _ hrd8
            have hpl : W4.heap.size ≤ w8.heap.size := hb8'.size
            clear hrd8 hb8'
            generalize w8.alloc (.cells #[.int .i64 0, .int .i64 0, .slice none 0 0] 39) = w9 at *
            generalize w8.heap.size = pB at *
            obtain ⟨z0, z1, z2⟩ := xz.three
            have u0 := xz.frozen 0
            have u1 := xz.frozen 1
            have u2 := xz.frozen 2
            refine wpAnyH_ready (rs := [15]) (by kernel_rfl) (by simp) ?_
            refine AllReadyH.cons rfl (fun KN hK => ?_) AllReadyH.nil
            go_simp
            have hbF := below_set3 hb9 (a := pB) hpl (.int .i64 k3) (.int .i64 h3) (.slice A3 n3 c3)
            refine hK.out _ _ (HKS.out _ hbF) (fun hS => ?_)
            clear hK KN
            try simp only [Act.put, zzP]
            have xB := xz.put3 (.int .i64 k3) (.int .i64 h3) (.slice A3 n3 c3)
            have hrdF : RdF (fun b => W4.heap.size ≤ b ∧ b ≠ pB) (((w9.setCell ⟨pB, 0, none⟩ (.int .i64 k3)).setCell ⟨pB, 1, none⟩ (.int .i64 h3)).setCell ⟨pB, 2, none⟩ (.slice A3 n3 c3)) (apT q [x] 0) (.agg #[.int .i64 k3, .int .i64 h3, .slice A3 n3 c3]) := RdF.moveX (fun b hok hl => ⟨hok, heap_other3 _ _ _ _ _ _ hok.2⟩) _ _ hrd9
            clear hrd9 xz hb9 z0 z1 z2 u0 u1 u2
            generalize ((w9.setCell ⟨pB, 0, none⟩ (.int .i64 k3)).setCell ⟨pB, 1, none⟩ (.int .i64 h3)).setCell ⟨pB, 2, none⟩ (.slice A3 n3 c3) = Wf at *
            refine zzT (i := 16) (v := .int .i64 e2) rfl hS ?_
            try simp only [Act.put, List.setIfInBounds_toArray]
            refine wpAnyH_done (by kernel_rfl) ?_ _
            try simp only [List.setIfInBounds_toArray]
            have HBF := Lib.hid (HB4.out.trans (hbF.mono HB4.out.size))
            have yc := zc.keep hbF zc.lt
            have yt := zt.keep hbF zt.lt
            have yr := zr.keep hbF zr.lt
            have hpB : w.heap.size + 1 + 1 < pB := by omega
            have hl4 := zr.lt
            clear hS HKS hbd HAP zc zt zr q0 q1 q2 r0 r1 r2 f0 f1 f2 b0 b1 b2 lz hbF hpl
            obtain ⟨y0, y1, y2⟩ := xB.three
            obtain ⟨g0, g1, g2⟩ := yt.three
            obtain ⟨r0, r1, r2⟩ := yr.three
            have f0 := yr.frozen 0
            have f1 := yr.frozen 1
            have f2 := yr.frozen 2
            have i0 := yt.frozen 0
            have i1 := yt.frozen 1
            have i2 := yt.frozen 2
            have lz := yr.lt
            by_cases hz2 : e2 = 0
            · subst hz2
              have hbr : BdV (B' + dlV) (apT q [x] 0) := bd_ap HBQ.out (fun y hy => by rw [List.mem_singleton.1 hy]; exact HBX.out.mono (by have := HE.out.lo; have := HI.out.lo; omega)) HE2.out
              have HBR := Lib.hid hbr; clear hbr
              go_wp2_with fail
              go_roundw
              case measure => simp [Go.RowKit.intOf]; omega
              case rel =>
                refine ⟨j + 1, apT q [x] 0, B' + dlV, k3, h3, A3, n3, c3, by omega, by go_num, Lib.hid ⟨yc.other3 (by omega) _ _ _, yt.put3 _ _ _, yr.other3 (by omega) _ _ _, below_set3 HBF.out (by omega) _ _ _, ?_, HBR.out, ?_, ?_, ?_⟩⟩
                · exact RdF.moveX (fun b hok hl => ⟨.inr (by omega), heap_other3 _ _ _ _ _ _ (by omega)⟩) _ _ hrdF
                · have := HI.out.lo; unfold dlV; omega
                · have := HHI.out; have h1 : 1 ≤ nd x := nd_pos x; unfold dlV hiV at *; omega
                · rw [HI.out.eq, drop_at HXJ.out, sp_go HE1.out HE2.out]
            · have hd2 : (e2 != 0) = true := by simpa using hz2
              have HE3 := Lib.hid (HEQ.out.trans (sp_e2 HE1.out HE2.out hz2))
              go_wp2_with fail
              refine bodyPost_ret (v := .tuple #[.agg #[.int .i64 0, .int .i64 0, .slice none 0 0], .int .i64 e2]) (by simp [results, Tryz.results84, go_sem, r0, r1, r2]) rfl ?_
              rw [HE3.out]
              exact ⟨_, _, _, _, _, rfl, (fun t e => nomatch e), below_set3 HBF.out (by omega) _ _ _⟩
          · go_simp
            have hb7 : Below W4.heap.size W4 (W4.alloc (.cells #[.int .i64 0, .int .i64 0, .slice none 0 0] 39)).drew := ((Below.refl _ W4).alloc (Nat.le_refl _) _).drew
            refine hK.out _ _ (HKS.out _ hb7) (fun hS => ?_)
            clear hK KN
            try simp only [Act.put, zzP]
            have xz : Box (W4.alloc (.cells #[.int .i64 0, .int .i64 0, .slice none 0 0] 39)).drew W4.heap.size 39 #[.int .i64 0, .int .i64 0, .slice none 0 0] := Box.drewI (Box.new _ _ _)
            obtain ⟨pB, hpB0⟩ : ∃ p, W4.heap.size = p := ⟨_, rfl⟩
            have hpl : W4.heap.size ≤ pB := by omega
            have hplt : pB < (W4.alloc (.cells #[.int .i64 0, .int .i64 0, .slice none 0 0] 39)).drew.heap.size := by rw [← hpB0]; exact xz.lt
            rw [hpB0] at xz
            try rw [hpB0]
            have hpB1 := Lib.hid hpB0
            clear hpB0
            generalize (W4.alloc (.cells #[.int .i64 0, .int .i64 0, .slice none 0 0] 39)).drew = w7 at *
            refine wpAnyH_ready (rs := [10]) (by kernel_rfl) (by simp) ?_
            refine AllReadyH.cons rfl (fun KN hK => ?_) AllReadyH.nil
            go_simp
            refine (HAP.out _ hb7).mono ?_
            rintro e w8 ⟨k3, h3, A3, n3, c3, rfl, hrd, hb8⟩
            have hb8' : Below W4.heap.size W4 w8 := hb7.trans (hb8.mono hb7.size)
            have hrd8 : RdF (fun b => W4.heap.size ≤ b ∧ b ≠ pB) w8 (apT q [x] 0) (.agg #[.int .i64 k3, .int .i64 h3, .slice A3 n3 c3]) := RdF.moveX (fun b hok hl => ⟨⟨by have := hb7.size; omega, by omega⟩, rfl⟩) _ _ hrd
            have xz8 := xz.keep hb8 xz.lt
            refine hK.out _ _ (HKS.out _ hb8') (fun hS => ?_)
            clear hK KN
            try simp only [Act.put, zzP]
            clear hb8 hrd xz hb7
            refine zzT (i := 11) (v := .tuple #[.agg #[.int .i64 k3, .int .i64 h3, .slice A3 n3 c3], .int .i64 e2]) rfl hS ?_
            try simp only [Act.put, List.setIfInBounds_toArray]
            refine zzT (i := 12) (v := .agg #[.int .i64 k3, .int .i64 h3, .slice A3 n3 c3]) rfl hS ?_
            try simp only [Act.put]
            refine zzT (i := 13) (v := .int .i64 e2) rfl hS ?_
            try simp only [Act.put]
            obtain ⟨z0, z1, z2⟩ := xz8.three
            have u0 := xz8.frozen 0
            have u1 := xz8.frozen 1
            have u2 := xz8.frozen 2
            refine wpAnyH_ready (rs := [15]) (by kernel_rfl) (by simp) ?_
            refine AllReadyH.cons rfl (fun KN hK => ?_) AllReadyH.nil
            go_simp
            have hbF := below_set3 hb8' (a := pB) hpl (.int .i64 k3) (.int .i64 h3) (.slice A3 n3 c3)
            refine hK.out _ _ (HKS.out _ hbF) (fun hS => ?_)
            clear hK KN
            try simp only [Act.put, zzP]
            have xB := xz8.put3 (.int .i64 k3) (.int .i64 h3) (.slice A3 n3 c3)
            have hrdF : RdF (fun b => W4.heap.size ≤ b ∧ b ≠ pB) (((w8.setCell ⟨pB, 0, none⟩ (.int .i64 k3)).setCell ⟨pB, 1, none⟩ (.int .i64 h3)).setCell ⟨pB, 2, none⟩ (.slice A3 n3 c3)) (apT q [x] 0) (.agg #[.int .i64 k3, .int .i64 h3, .slice A3 n3 c3]) := RdF.moveX (fun b hok hl => ⟨hok, heap_other3 _ _ _ _ _ _ hok.2⟩) _ _ hrd8
            clear hrd8 xz8 hb8' z0 z1 z2 u0 u1 u2 hplt hpB1
            generalize ((w8.setCell ⟨pB, 0, none⟩ (.int .i64 k3)).setCell ⟨pB, 1, none⟩ (.int .i64 h3)).setCell ⟨pB, 2, none⟩ (.slice A3 n3 c3) = Wf at *
            refine zzT (i := 16) (v := .int .i64 e2) rfl hS ?_
            try simp only [Act.put, List.setIfInBounds_toArray]
            refine wpAnyH_done (by kernel_rfl) ?_ _
            try simp only [List.setIfInBounds_toArray]
            have HBF := Lib.hid (HB4.out.trans (hbF.mono HB4.out.size))
            have yc := zc.keep hbF zc.lt
            have yt := zt.keep hbF zt.lt
            have yr := zr.keep hbF zr.lt
            have hpB : w.heap.size + 1 + 1 < pB := by omega
            have hl4 := zr.lt
            clear hS HKS hbd HAP zc zt zr q0 q1 q2 r0 r1 r2 f0 f1 f2 b0 b1 b2 lz hbF hpl
            obtain ⟨y0, y1, y2⟩ := xB.three
            obtain ⟨g0, g1, g2⟩ := yt.three
            obtain ⟨r0, r1, r2⟩ := yr.three
            have f0 := yr.frozen 0
            have f1 := yr.frozen 1
            have f2 := yr.frozen 2
            have i0 := yt.frozen 0
            have i1 := yt.frozen 1
            have i2 := yt.frozen 2
            have lz := yr.lt
            by_cases hz2 : e2 = 0
            · subst hz2
              have hbr : BdV (B' + dlV) (apT q [x] 0) := bd_ap HBQ.out (fun y hy => by rw [List.mem_singleton.1 hy]; exact HBX.out.mono (by have := HE.out.lo; have := HI.out.lo; omega)) HE2.out
              have HBR := Lib.hid hbr; clear hbr
              go_wp2_with fail
              go_roundw
              case measure => simp [Go.RowKit.intOf]; omega
              case rel =>
                refine ⟨j + 1, apT q [x] 0, B' + dlV, k3, h3, A3, n3, c3, by omega, by go_num, Lib.hid ⟨yc.other3 (by omega) _ _ _, yt.put3 _ _ _, yr.other3 (by omega) _ _ _, below_set3 HBF.out (by omega) _ _ _, ?_, HBR.out, ?_, ?_, ?_⟩⟩
                · exact RdF.moveX (fun b hok hl => ⟨.inr (by omega), heap_other3 _ _ _ _ _ _ (by omega)⟩) _ _ hrdF
                · have := HI.out.lo; unfold dlV; omega
                · have := HHI.out; have h1 : 1 ≤ nd x := nd_pos x; unfold dlV hiV at *; omega
                · rw [HI.out.eq, drop_at HXJ.out, sp_go HE1.out HE2.out]
            · have hd2 : (e2 != 0) = true := by simpa using hz2
              have HE3 := Lib.hid (HEQ.out.trans (sp_e2 HE1.out HE2.out hz2))
              go_wp2_with fail
              refine bodyPost_ret (v := .tuple #[.agg #[.int .i64 0, .int .i64 0, .slice none 0 0], .int .i64 e2]) (by simp [results, Tryz.results84, go_sem, r0, r1, r2]) rfl ?_
              rw [HE3.out]
              exact ⟨_, _, _, _, _, rfl, (fun t e => nomatch e), below_set3 HBF.out (by omega) _ _ _⟩
        · have hd : (e1 != 0) = true := by simpa using hz
          replace HEQ := Lib.hid (HEQ.out.trans (sp_e1 HE1.out hz))
          go_wp2_with fail
          refine bodyPost_ret (v := .tuple #[.agg #[.int .i64 0, .int .i64 0, .slice none 0 0], .int .i64 e1]) (by simp [results, Tryz.results84, go_sem, r0, r1, r2]) rfl ?_
          rw [HEQ.out]
          exact ⟨_, _, _, _, _, rfl, (fun t e => nomatch e), below_set3 HB4.out (by omega) _ _ _⟩
      · have hd : (k' != 1) = true := by simpa using hk1
        replace HEQ := Lib.hid (HEQ.out.trans (sp_no (by rw [hkd]; exact hk1)))
        obtain ⟨r0, r1, r2⟩ := zr.three
        have f0 := zr.frozen 0
        have f1 := zr.frozen 1
        have f2 := zr.frozen 2
        have lz := zr.lt
        go_wp2_with fail
        refine bodyPost_ret (v := .tuple #[.agg #[.int .i64 0, .int .i64 0, .slice none 0 0], .int .i64 3]) (by simp [results, Tryz.results84, go_sem, r0, r1, r2]) rfl ?_
        rw [HEQ.out]
        exact ⟨_, _, _, _, _, rfl, (fun t e => nomatch e), below_set3 HBA.out (by omega) _ _ _⟩
    · obtain rfl : j = n := by omega
      have heq := HI.out.eq
      rw [drop_all HX.out.len (Nat.le_refl _), spV] at heq
      have HEQ := Lib.hid (HR.out.symm.trans heq); clear heq
      obtain ⟨r0, r1, r2⟩ := HI.out.rb.three
      have f0 := HI.out.rb.frozen 0
      have f1 := HI.out.rb.frozen 1
      have f2 := HI.out.rb.frozen 2
      have lz := HI.out.rb.lt
      go_wp2_with fail
      refine bodyPost_ret (v := .tuple #[.agg #[.int .i64 k', .int .i64 h', .slice At' nt' ct'], .int .i64 0]) (by simp [results, Tryz.results84, go_sem, r0, r1, r2]) rfl ?_
      exact spE_put HEQ.out HI.out.rd HI.out.below _ _ _
def HdC (f : FuncId) (W : WV) (k h : Int) (xs : List T) : Prop := ∀ (cx : List T) (B : Int) (As : Option Addr) (ns cs : Nat) (Am : Option Addr) (nm cm : Nat) (Ac : Option Addr) (nc cc : Nat) (A : Option Addr) (n c : Nat) (w0 w : World),
  EnvV W cx B → WkV W (.node k h xs) → B + nd (.node k h xs) * dlV ≤ hiV → cx.length + nd (.node k h xs) ≤ 1000000 → Below w0.heap.size w0 w → CkV w0 W cx As ns cs Am nm cm Ac nc cc → Rd w0 (.node k h xs) (.agg #[.int .i64 k, .int .i64 h, .slice A n c]) →
    Calls Tryz.prog f #[.agg #[.slice As ns cs, .slice Am nm cm, .slice Ac nc cc], .agg #[.int .i64 k, .int .i64 h, .slice A n c]] w (SpE (fun b => b < w0.heap.size) (cmV W cx (.node k h xs)) w)
theorem far3V (w : World) (p b i : Nat) (u0 u1 : Value) {u2 : Value} (h : b ≠ p) : (((w.setCell ⟨p, 0, none⟩ u0).setCell ⟨p, 1, none⟩ u1).setCell ⟨p, 2, none⟩ u2).cell? ⟨b, i, none⟩ = w.cell? ⟨b, i, none⟩ :=
  World.cell?_of_block (heap_other3 _ _ _ _ _ _ h)
theorem spE_moved {ok : Nat → Prop} {w w' : World} {p : Nat} {r : Except Int T} {k h : Int} {A : Option Addr} {n c : Nat} {m : Nat} (hr : ∀ t, r = .ok t → RdF (fun b => (ok b ∧ b < w.heap.size) ∨ m ≤ b) w' t (.agg #[.int .i64 k, .int .i64 h, .slice A n c])) (hb : Below w.heap.size w w') (hp : w.heap.size ≤ p) (hm : p < m) (u0 u1 u2 : Value) (er : Int) (he : er = erV r) :
    SpE ok r w (.returned (.tuple #[.agg #[.int .i64 k, .int .i64 h, .slice A n c], .int .i64 er])) (((w'.setCell ⟨p, 0, none⟩ u0).setCell ⟨p, 1, none⟩ u1).setCell ⟨p, 2, none⟩ u2) := by
  subst he
  refine ⟨k, h, A, n, c, rfl, fun t e => ?_, below_set3 hb hp _ _ _⟩
  exact RdF.moveX (fun b hok hl => ⟨by rcases hok with h | h; exact .inl h; exact .inr (by omega), heap_other3 _ _ _ _ _ _ (by rcases hok with h | h <;> omega)⟩) _ _ (hr t e)
theorem spE_err {ok : Nat → Prop} {w w' : World} {r : Except Int T} {er : Int} (hr : r = .error er) (hb : Below w.heap.size w w') {p : Nat} (hp : w.heap.size ≤ p) (u0 u1 u2 : Value) :
    SpE ok r w (.returned (.tuple #[.agg #[.int .i64 0, .int .i64 0, .slice none 0 0], .int .i64 er])) (((w'.setCell ⟨p, 0, none⟩ u0).setCell ⟨p, 1, none⟩ u1).setCell ⟨p, 2, none⟩ u2) := by
  subst hr
  exact ⟨_, _, _, _, _, rfl, (fun t e => nomatch e), below_set3 hb hp _ _ _⟩
theorem spE_err0 {ok : Nat → Prop} {w w' : World} {r : Except Int T} {er : Int} (hr : r = .error er) (hb : Below w.heap.size w w') :
    SpE ok r w (.returned (.tuple #[.agg #[.int .i64 0, .int .i64 0, .slice none 0 0], .int .i64 er])) w' := by
  subst hr
  exact ⟨_, _, _, _, _, rfl, (fun t e => nomatch e), hb⟩
theorem upV_eq {M : Int} {t : T} {b : Int} (hM : M ≤ 281474976710656) (bt : BdV M t) (hb : 0 ≤ b ∧ b ≤ 1048576) : upX t b 0 = upT b t 0 := by
  have h4 := ((myB_iff t).1 bt.my).2.1
  exact upX_eq (M := M) (by omega) bt.ok (by omega) (by rw [mayB_my (by omega)]; exact bt.my) hb ⟨by omega, by omega⟩
theorem cm_var {W : WV} {cx : List T} {h : Int} {xs : List T} (i : Nat) (e : T) (hi : cx[i]? = some e) (hh : (i : Int) + h + 1 = cx.length) (h0 : 0 ≤ h) : cmV W cx (.node 4 h xs) = spV W xs cx (upT (h + 1) e 0) := by
  have hl := (List.getElem?_eq_some_iff.1 hi).1
  rw [cmV, if_pos (.inl rfl), hdV, if_pos rfl, if_pos (by omega), show cx.length - 1 - h.toNat = i by omega, List.getD_eq_getElem?_getD, hi]
  rfl
theorem cm_con {W : WV} {cx : List T} {i : Nat} {xs : List T} (e : T) (hi : W.sg[i]? = some e) (hk : kiB e = false) : cmV W cx (.node 5 (i : Int) xs) = spV W xs cx e := by
  have hl := (List.getElem?_eq_some_iff.1 hi).1
  rw [cmV, if_pos (.inr rfl), hdV, if_neg (by omega), if_pos (by omega), Int.toNat_natCast, List.getD_eq_getElem?_getD, hi, Option.getD_some, if_neg (by rw [hk]; simp)]
theorem cm_con_ki {W : WV} {cx : List T} {i : Nat} {xs : List T} (e : T) (hi : W.sg[i]? = some e) (hk : kiB e = true) : cmV W cx (.node 5 (i : Int) xs) = .error 2 := by
  have hl := (List.getElem?_eq_some_iff.1 hi).1
  rw [cmV, if_pos (.inr rfl), hdV, if_neg (by omega), if_pos (by omega), Int.toNat_natCast, List.getD_eq_getElem?_getD, hi, Option.getD_some, if_pos hk]
theorem cm_con_no {W : WV} {cx : List T} {h : Int} {xs : List T} (hh : W.sg.length ≤ h) : cmV W cx (.node 5 h xs) = .error 2 := by
  rw [cmV, if_pos (.inr rfl), hdV, if_neg (by omega), if_neg (by omega)]
theorem cm_var_no {W : WV} {cx : List T} {h : Int} {xs : List T} (hh : cx.length ≤ h) : cmV W cx (.node 4 h xs) = .error 2 := by
  rw [cmV, if_pos (.inl rfl), hdV, if_pos rfl, if_neg (by omega)]
theorem vVarC {W : WV} {h : Int} {xs : List T} (ih : ∀ x ∈ xs, TmC W x) : HdC 92 W 4 h xs := by
  intro cx B As ns cs Am nm cm Ac nc cc A n c w0 w hE hbm hsum hlen hb0 hk hv
  have hccap := hk.cx.cap
  have hcle := hk.cx.le
  have hcl := hk.cx.len
  have hscap := hk.sg.cap
  have hsle := hk.sg.le
  have hsl := hk.sg.len
  have hmcap := hk.ms.cap
  have hmle := hk.ms.le
  have hml := hk.ms.len
  unfold maxLen at hccap hscap hmcap
  have h0 := headV hbm.nod
  have hx : CLV w0 xs A n c := by
    obtain ⟨A', n', c', e, _, _, h3, h4, h5, h6⟩ := Rd_node.1 hv
    have e' : A = A' ∧ n = n' ∧ c = c' := by simpa using e
    obtain ⟨rfl, rfl, rfl⟩ := e'
    exact ⟨h3, h4, h5, h6⟩
  obtain ⟨W0, hW⟩ : ∃ W0, ((w.alloc (.cells #[.slice As ns cs, .slice Am nm cm, .slice Ac nc cc] 75)).alloc (.cells #[.int .i64 4, .int .i64 h, .slice A n c] 39)).alloc (.cells #[.int .i64 0, .int .i64 0, .slice none 0 0] 39) = W0 := ⟨_, rfl⟩
  have hb : Below w.heap.size w W0 := by rw [← hW]; exact (((Below.refl _ _).alloc (Nat.le_refl _) _).alloc (by simp) _).alloc (by simp; omega) _
  have x0 : Box W0 w.heap.size 75 #[.slice As ns cs, .slice Am nm cm, .slice Ac nc cc] := by rw [← hW]; exact ((Box.new _ _ _).alloc _).alloc _
  have x1 : Box W0 (w.heap.size + 1) 39 #[.int .i64 4, .int .i64 h, .slice A n c] := by rw [← hW]; exact ((Box.new (w.alloc _) _ _).at (by simp)).alloc _
  have x2 : Box W0 (w.heap.size + 1 + 1) 39 #[.int .i64 0, .int .i64 0, .slice none 0 0] := by rw [← hW]; exact (Box.new ((w.alloc _).alloc _) _ _).at (by simp)
  have HB0 := Lib.hid hb0
  have HB := Lib.hid (hb0.trans (hb.mono hb0.size))
  have HK := Lib.hid hk
  have HX := Lib.hid hx
  have HE := Lib.hid hE
  have HBM := Lib.hid hbm
  have HSUM := Lib.hid hsum
  have HLEN := Lib.hid hlen
  have HIH := Lib.hid ih
  have HBW := Lib.hid hb
  have HW := Lib.hid hW; clear hW hv hk hx hE hbm hsum hlen ih hb0 hb
  obtain ⟨c0, c1, c2⟩ := x0.three
  obtain ⟨d0, d1, d2⟩ := x1.three
  obtain ⟨r0, r1, r2⟩ := x2.three
  have f0 := x2.frozen 0
  have f1 := x2.frozen 1
  have f2 := x2.frozen 2
  have lz := x2.lt
  by_cases hlt : (nc : Int) ≤ h
  · have hd : decide (h ≥ (nc : Int)) = true := by simpa using hlt
    have HEQ := Lib.hid (cm_var_no (W := W) (xs := xs) (cx := cx) (h := h) (by omega))
    go_enter Tryz.func92, Tryz.ntmps92
    go_wp2_with fail
    rw [HW.out]
    clear HW
    go_wp2_with fail
    refine bodyPost_ret (v := .tuple #[.agg #[.int .i64 0, .int .i64 0, .slice none 0 0], .int .i64 2]) (by simp [results, Tryz.results92, go_sem, r0, r1, r2]) rfl ?_
    first | exact spE_err0 HEQ.out HBW.out | exact spE_err HEQ.out HBW.out (p := w.heap.size + 1 + 1) (by omega) _ _ _
  · have hd : decide (h ≥ (nc : Int)) = false := by simpa using hlt
    obtain ⟨i, hi⟩ : ∃ i : Nat, (i : Int) + h + 1 = nc := ⟨((nc : Int) - 1 - h).toNat, by omega⟩
    obtain ⟨en, hen⟩ := at_of HK.out.cx.len (show i < nc by omega)
    have HEN := Lib.hid hen
    have HEQ := Lib.hid (cm_var (W := W) (xs := xs) (h := h) i en hen (by omega) h0)
    obtain ⟨bc, oc, ke, he, Ae, ne, ce, eA, e0, e1, e2, hre⟩ := (HK.out.cx.at_ i en hen).full
    subst eA
    have hbc := cell_lt e0
    dsimp only at hbc
    replace e0 := (HB.out.cell (cell_lt e0)).trans e0
    replace e1 := (HB.out.cell (cell_lt e1)).trans e1
    replace e2 := (HB.out.cell (cell_lt e2)).trans e2
    replace hre := Rd.keep HB.out _ _ hre
    have hs00 := HB0.out.size
    have hbe := HE.out.cx en (List.mem_of_getElem? hen)
    have HBE := Lib.hid hbe
    have HRE := Lib.hid hre
    clear hen hre hbe
    have hw1 : IntKind.i64.wrap ((nc : Int) - 1) = (nc : Int) - 1 := by rw [wrapEq, wrap_small (by omega) (by omega)]
    have hw2 : IntKind.i64.wrap ((nc : Int) - 1 - h) = (i : Int) := by rw [wrapEq, wrap_small (by omega) (by omega)]; omega
    have hw3 : IntKind.i64.wrap (h + 1) = h + 1 := by rw [wrapEq, wrap_small (by omega) (by omega)]
    have hi0 : (0 : Int) ≤ i := by omega
    have hi1 : (i : Int) < nc := by omega
    have hn1 : nc ≤ 1000000 := by have := HLEN.out; omega
    have hBh : B ≤ hiV - dlV := by have := HSUM.out; have h1 : 1 ≤ nd (.node 4 h xs) := nd_pos _; unfold dlV hiV at *; omega
    have hue : upX en (h + 1) 0 = upT (h + 1) en 0 := upV_eq (M := B) (by unfold hiV dlV at *; omega) HBE.out ⟨by omega, by omega⟩
    have hbu : BdV (B + 1048576) (upT (h + 1) en 0) := (bd_up HBE.out (by omega)).mono (by omega)
    have HBU := Lib.hid hbu
    have hnd : nd en ≤ 1048576 := by have := ((myB_iff en).1 HBE.out.my).2.1; omega
    have HUP : Hid (∀ W' : World, Below W0.heap.size W0 W' → Calls Tryz.prog 106 #[.agg #[.int .i64 ke, .int .i64 he, .slice Ae ne ce], .int .i64 (h + 1), .int .i64 0] W' (OEnd (upT (h + 1) en 0) W')) := Lib.hid fun W' h' => by
      rw [← hue]
      exact upC en (h + 1) 0 _ W' (Rd.keep h' _ _ HRE.out) hnd
    have HSP : Hid (∀ (W' W2 : World) (k3 h3 : Int) (A3 : Option Addr) (n3 c3 : Nat), Below W0.heap.size W0 W2 → RdF (fun b => W'.heap.size ≤ b) W2 (upT (h + 1) en 0) (.agg #[.int .i64 k3, .int .i64 h3, .slice A3 n3 c3]) → Calls Tryz.prog 84 #[.agg #[.slice As ns cs, .slice Am nm cm, .slice (some ⟨bc, oc, none⟩) nc cc], .agg #[.int .i64 k3, .int .i64 h3, .slice A3 n3 c3], .slice A n c] W2 (SpE (fun b => W'.heap.size ≤ b) (spV W xs cx (upT (h + 1) en 0)) W2)) := Lib.hid fun W' W2 k3 h3 A3 n3 c3 h2 hrd =>
      vSpineC HIH.out HE.out (fun x hx => HBM.out.arg hx) HBU.out (by omega) (by have := HSUM.out; rw [nd] at this; unfold dlV hiV at *; omega) (by have := HLEN.out; rw [nd] at this; omega) W2 (HK.out.keep (HB.out.trans (h2.mono HB.out.size))) (HX.out.keep (HB.out.trans (h2.mono HB.out.size))) hrd
    obtain ⟨R, hR⟩ : ∃ R, spV W xs cx (upT (h + 1) en 0) = R := ⟨_, rfl⟩
    rw [hR] at HEQ HSP
    generalize upT (h + 1) en 0 = u at *
    clear hue hbu hR
    go_enter Tryz.func92, Tryz.ntmps92
    go_wp2_with fail
    rw [HW.out]
    clear HW
    go_wp2_with fail
    have HKS : Hid (∀ w' : World, Below W0.heap.size W0 w' → (fun w' => w'.cell? ⟨w.heap.size, 0, none⟩ = some (.slice As ns cs) ∧ w'.cell? ⟨w.heap.size, 1, none⟩ = some (.slice Am nm cm) ∧ w'.cell? ⟨w.heap.size, 2, none⟩ = some (.slice (some ⟨bc, oc, none⟩) nc cc) ∧ w'.cell? ⟨w.heap.size + 1, 1, none⟩ = some (.int .i64 h) ∧ w'.cell? ⟨w.heap.size + 1, 2, none⟩ = some (.slice A n c) ∧ w'.cell? ⟨bc, oc + i * 3, none⟩ = some (.int .i64 ke) ∧ w'.cell? ⟨bc, oc + i * 3 + 1, none⟩ = some (.int .i64 he) ∧ w'.cell? ⟨bc, oc + i * 3 + 2, none⟩ = some (.slice Ae ne ce)) w') := Lib.hid fun w' h => ⟨(h.cell (cell_lt c0)).trans c0, (h.cell (cell_lt c1)).trans c1, (h.cell (cell_lt c2)).trans c2, (h.cell (cell_lt d1)).trans d1, (h.cell (cell_lt d2)).trans d2, (h.cell (cell_lt e0)).trans e0, (h.cell (cell_lt e1)).trans e1, (h.cell (cell_lt e2)).trans e2⟩
    have hbd : Below W0.heap.size W0 W0.drew := (Below.refl _ W0).drew
    refine zzR HKS hbd (fun hS => ?_)
    simp only [List.size_toArray, List.length_cons, List.length_nil, Nat.reduceAdd]
    refine zzT (i := 0) (v := .agg #[.slice As ns cs, .slice Am nm cm, .slice (some ⟨bc, oc, none⟩) nc cc]) rfl hS ?_
    try simp only [Act.put, List.setIfInBounds_toArray]
    refine zzT (i := 1) (v := .pointer (some ⟨w.heap.size, 2, none⟩)) rfl hS ?_
    try simp only [Act.put]
    refine zzT (i := 2) (v := .slice (some ⟨bc, oc, none⟩) nc cc) rfl hS ?_
    try simp only [Act.put]
    refine zzT (i := 3) (v := .int .i64 nc) rfl hS ?_
    try simp only [Act.put]
    refine zzT (i := 4) (v := .int .i64 (nc - 1)) rfl hS ?_
    try simp only [Act.put]
    refine zzT (i := 5) (v := .pointer (some ⟨w.heap.size + 1, 1, none⟩)) rfl hS ?_
    try simp only [Act.put]
    refine zzT (i := 6) (v := .int .i64 h) rfl hS ?_
    try simp only [Act.put]
    refine zzT (i := 7) (v := .int .i64 i) rfl hS ?_
    try simp only [Act.put]
    refine zzT (i := 8) (v := .pointer (some ⟨bc, oc + i * 3, none⟩)) rfl hS ?_
    try simp only [Act.put]
    refine zzT (i := 9) (v := .agg #[.int .i64 ke, .int .i64 he, .slice Ae ne ce]) rfl hS ?_
    try simp only [Act.put]
    refine zzT (i := 10) (v := .pointer (some ⟨w.heap.size + 1, 1, none⟩)) rfl hS ?_
    try simp only [Act.put]
    refine zzT (i := 11) (v := .int .i64 h) rfl hS ?_
    try simp only [Act.put]
    refine zzT (i := 12) (v := .int .i64 (h + 1)) rfl hS ?_
    try simp only [Act.put]
    refine zzT (i := 14) (v := .pointer (some ⟨w.heap.size + 1, 2, none⟩)) rfl hS ?_
    try simp only [Act.put]
    refine zzT (i := 15) (v := .slice A n c) rfl hS ?_
    try simp only [Act.put]
    refine wpAnyH_ready (rs := [13]) (by kernel_rfl) (by simp) ?_
    refine AllReadyH.cons rfl (fun KN hK => ?_) AllReadyH.nil
    go_simp
    refine (HUP.out _ hbd).mono ?_
    rintro e w8 ⟨v8, rfl, hrd, hb8⟩
    obtain ⟨k3, h3, A3, n3, c3, rfl⟩ := hrd.full
    have hb8' : Below W0.heap.size W0 w8 := hbd.trans (hb8.mono hbd.size)
    have hrd8 := hrd.rdF
    refine hK.out _ _ (HKS.out _ hb8') (fun hS => ?_)
    clear hK KN
    try simp only [Act.put, zzP]
    clear hb8 hrd
    refine wpAnyH_ready (rs := [16]) (by kernel_rfl) (by simp) ?_
    refine AllReadyH.cons rfl (fun KN hK => ?_) AllReadyH.nil
    go_simp
    refine (HSP.out W0.drew w8 k3 h3 A3 n3 c3 hb8' hrd8).mono ?_
    rintro e w9 ⟨k4, h4, A4, n4, c4, rfl, hrd9, hb9⟩
    have hb9' : Below W0.heap.size W0 w9 := hb8'.trans (hb9.mono hb8'.size)
    have hs8 : W0.heap.size ≤ w8.heap.size := hb8'.size
    refine hK.out _ _ (HKS.out _ hb9') (fun hS => ?_)
    clear hK KN
    try simp only [Act.put, zzP]
    clear hb9 hb8' hrd8
    refine zzT (i := 17) (v := .agg #[.int .i64 k4, .int .i64 h4, .slice A4 n4 c4]) rfl hS ?_
    try simp only [Act.put, List.setIfInBounds_toArray]
    refine zzT (i := 18) (v := .int .i64 (erV R)) rfl hS ?_
    try simp only [Act.put]
    have z2 := x2.keep hb9' x2.lt
    obtain ⟨z0, z1, z3⟩ := z2.three
    have g0 := z2.frozen 0
    have g1 := z2.frozen 1
    have g2 := z2.frozen 2
    refine wpAnyH_ready (rs := [19]) (by kernel_rfl) (by simp) ?_
    refine AllReadyH.cons rfl (fun KN hK => ?_) AllReadyH.nil
    go_simp
    have hS2 : (fun w' => w'.cell? ⟨w.heap.size, 0, none⟩ = some (.slice As ns cs) ∧ w'.cell? ⟨w.heap.size, 1, none⟩ = some (.slice Am nm cm) ∧ w'.cell? ⟨w.heap.size, 2, none⟩ = some (.slice (some ⟨bc, oc, none⟩) nc cc) ∧ w'.cell? ⟨w.heap.size + 1, 1, none⟩ = some (.int .i64 h) ∧ w'.cell? ⟨w.heap.size + 1, 2, none⟩ = some (.slice A n c) ∧ w'.cell? ⟨bc, oc + i * 3, none⟩ = some (.int .i64 ke) ∧ w'.cell? ⟨bc, oc + i * 3 + 1, none⟩ = some (.int .i64 he) ∧ w'.cell? ⟨bc, oc + i * 3 + 2, none⟩ = some (.slice Ae ne ce)) (((w9.setCell ⟨w.heap.size + 1 + 1, 0, none⟩ (.int .i64 k4)).setCell ⟨w.heap.size + 1 + 1, 1, none⟩ (.int .i64 h4)).setCell ⟨w.heap.size + 1 + 1, 2, none⟩ (.slice A4 n4 c4)) := by
      obtain ⟨s0, s1, s2, s3, s4, s5, s6, s7⟩ := HKS.out _ hb9'
      exact ⟨(far3V _ _ _ _ _ _ (by omega)).trans s0, (far3V _ _ _ _ _ _ (by omega)).trans s1, (far3V _ _ _ _ _ _ (by omega)).trans s2, (far3V _ _ _ _ _ _ (by omega)).trans s3, (far3V _ _ _ _ _ _ (by omega)).trans s4, (far3V _ _ _ _ _ _ (by omega)).trans s5, (far3V _ _ _ _ _ _ (by omega)).trans s6, (far3V _ _ _ _ _ _ (by omega)).trans s7⟩
    refine hK.out _ _ hS2 (fun hS => ?_)
    clear hK KN hS2
    try simp only [Act.put, zzP]
    refine zzT (i := 20) (v := .int .i64 (erV R)) rfl hS ?_
    try simp only [Act.put, List.setIfInBounds_toArray]
    refine wpAnyH_done (by kernel_rfl) ?_ _
    try simp only [List.setIfInBounds_toArray]
    try simp only [zzP]
    have y := z2.put3 (.int .i64 k4) (.int .i64 h4) (.slice A4 n4 c4)
    obtain ⟨y0, y1, y2⟩ := y.three
    have HBF := Lib.hid (HBW.out.trans (hb9'.mono HBW.out.size))
    have HRD := Lib.hid hrd9
    have hdr : W0.drew.heap.size = W0.heap.size := rfl
    clear hS HKS hbd hb9' z2 z0 z1 z3 g0 g1 g2 x0 x1 x2 c0 c1 c2 d0 d1 d2 r0 r1 r2 f0 f1 f2 hrd9 e0 e1 e2 y
    go_wp2_with fail
    refine bodyPost_ret (v := .tuple #[.agg #[.int .i64 k4, .int .i64 h4, .slice A4 n4 c4], .int .i64 (erV R)]) (by simp [results, Tryz.results92, go_sem, y0, y1, y2]) rfl ?_
    rw [HEQ.out]
    exact spE_moved (p := w.heap.size + 1 + 1) (m := W0.heap.size) (fun t e => RdF.moveX (fun b hok hl => ⟨.inr (by rcases hok with h | h <;> omega), rfl⟩) _ _ (HRD.out t e)) HBF.out (by omega) (by omega) _ _ _ _ rfl
theorem vConstC {W : WV} {h : Int} {xs : List T} (ih : ∀ x ∈ xs, TmC W x) : HdC 93 W 5 h xs := by
  intro cx B As ns cs Am nm cm Ac nc cc A n c w0 w hE hbm hsum hlen hb0 hk hv
  have hccap := hk.cx.cap
  have hcle := hk.cx.le
  have hcl := hk.cx.len
  have hscap := hk.sg.cap
  have hsle := hk.sg.le
  have hsl := hk.sg.len
  have hmcap := hk.ms.cap
  have hmle := hk.ms.le
  have hml := hk.ms.len
  unfold maxLen at hccap hscap hmcap
  have h0 := headV hbm.nod
  have hx : CLV w0 xs A n c := by
    obtain ⟨A', n', c', e, _, _, h3, h4, h5, h6⟩ := Rd_node.1 hv
    have e' : A = A' ∧ n = n' ∧ c = c' := by simpa using e
    obtain ⟨rfl, rfl, rfl⟩ := e'
    exact ⟨h3, h4, h5, h6⟩
  obtain ⟨W0, hW⟩ : ∃ W0, ((w.alloc (.cells #[.slice As ns cs, .slice Am nm cm, .slice Ac nc cc] 75)).alloc (.cells #[.int .i64 5, .int .i64 h, .slice A n c] 39)).alloc (.cells #[.int .i64 0, .int .i64 0, .slice none 0 0] 39) = W0 := ⟨_, rfl⟩
  have hb : Below w.heap.size w W0 := by rw [← hW]; exact (((Below.refl _ _).alloc (Nat.le_refl _) _).alloc (by simp) _).alloc (by simp; omega) _
  have x0 : Box W0 w.heap.size 75 #[.slice As ns cs, .slice Am nm cm, .slice Ac nc cc] := by rw [← hW]; exact ((Box.new _ _ _).alloc _).alloc _
  have x1 : Box W0 (w.heap.size + 1) 39 #[.int .i64 5, .int .i64 h, .slice A n c] := by rw [← hW]; exact ((Box.new (w.alloc _) _ _).at (by simp)).alloc _
  have x2 : Box W0 (w.heap.size + 1 + 1) 39 #[.int .i64 0, .int .i64 0, .slice none 0 0] := by rw [← hW]; exact (Box.new ((w.alloc _).alloc _) _ _).at (by simp)
  have HB0 := Lib.hid hb0
  have HB := Lib.hid (hb0.trans (hb.mono hb0.size))
  have HK := Lib.hid hk
  have HX := Lib.hid hx
  have HE := Lib.hid hE
  have HBM := Lib.hid hbm
  have HSUM := Lib.hid hsum
  have HLEN := Lib.hid hlen
  have HIH := Lib.hid ih
  have HBW := Lib.hid hb
  have HW := Lib.hid hW; clear hW hv hk hx hE hbm hsum hlen ih hb0 hb
  obtain ⟨c0, c1, c2⟩ := x0.three
  obtain ⟨d0, d1, d2⟩ := x1.three
  obtain ⟨r0, r1, r2⟩ := x2.three
  have f0 := x2.frozen 0
  have f1 := x2.frozen 1
  have f2 := x2.frozen 2
  have lz := x2.lt
  by_cases hlt : (ns : Int) ≤ h
  · have hd : decide (h ≥ (ns : Int)) = true := by simpa using hlt
    have HEQ := Lib.hid (cm_con_no (W := W) (xs := xs) (cx := cx) (h := h) (by omega))
    go_enter Tryz.func93, Tryz.ntmps93
    go_wp2_with fail
    rw [HW.out]
    clear HW
    go_wp2_with fail
    refine bodyPost_ret (v := .tuple #[.agg #[.int .i64 0, .int .i64 0, .slice none 0 0], .int .i64 2]) (by simp [results, Tryz.results93, go_sem, r0, r1, r2]) rfl ?_
    first | exact spE_err0 HEQ.out HBW.out | exact spE_err HEQ.out HBW.out (p := w.heap.size + 1 + 1) (by omega) _ _ _
  · have hd : decide (h ≥ (ns : Int)) = false := by simpa using hlt
    obtain ⟨i, rfl⟩ : ∃ i : Nat, h = (i : Int) := ⟨h.toNat, by omega⟩
    obtain ⟨en, hen⟩ := at_of HK.out.sg.len (show i < ns by omega)
    have HEN := Lib.hid hen
    obtain ⟨bc, oc, s1, ke, he, Ae, ne, ce, eA, e9, e0, e1, e2, hre⟩ := HK.out.sg.at_ i en hen
    subst eA
    have hbc := cell_lt e0
    dsimp only at hbc
    replace e0 := (HB.out.cell (cell_lt e0)).trans e0
    replace e1 : W0.cell? ⟨bc, oc + i * 4 + 1 + 1, none⟩ = some (.int .i64 he) := (HB.out.cell (cell_lt e1)).trans e1
    replace e2 : W0.cell? ⟨bc, oc + i * 4 + 1 + 2, none⟩ = some (.slice Ae ne ce) := (HB.out.cell (cell_lt e2)).trans e2
    have hrf : RdF (fun b => b < w0.heap.size) W0 en (.agg #[.int .i64 ke, .int .i64 he, .slice Ae ne ce]) := RdF.moveX (fun b hok hl => ⟨hok, HB.out.block b hl⟩) _ _ (rdF_anyQ _ _ hre)
    have hs00 := HB0.out.size
    have hbe := HE.out.sg en (List.mem_of_getElem? hen)
    have HBE := Lib.hid hbe
    have HRE := Lib.hid hrf
    clear hen hre hbe hrf e9
    have hi0 : (0 : Int) ≤ i := by omega
    have hi1 : (i : Int) < ns := by omega
    have HKI : Hid (Calls Tryz.prog 83 #[.agg #[.int .i64 ke, .int .i64 he, .slice Ae ne ce]] W0 fun e w' => e = .returned (.bool (kiB en)) ∧ Below W0.heap.size W0 w') := Lib.hid (kindC en _ W0 (RdF.rd _ _ HRE.out))
    obtain ⟨r, hr⟩ : ∃ r, kiB en = r := ⟨_, rfl⟩
    rw [hr] at HKI
    have hW := HW.out
    go_enter Tryz.func93, Tryz.ntmps93
    go_wp2_with fail
    clear HW hW
    refine HKI.out.mono ?_
    clear HKI
    rintro e W1 ⟨rfl, hb1⟩
    replace x0 := x0.keep hb1 x0.lt
    replace x1 := x1.keep hb1 x1.lt
    replace x2 := x2.keep hb1 x2.lt
    replace e0 := (hb1.cell (cell_lt e0)).trans e0
    replace e1 := (hb1.cell (cell_lt e1)).trans e1
    replace e2 := (hb1.cell (cell_lt e2)).trans e2
    replace HRE := Lib.hid (RdF.moveX (ok' := fun b => b < w0.heap.size) (fun b hok hl => ⟨hok, hb1.block b hl⟩) _ _ HRE.out)
    replace HB := Lib.hid (HB.out.trans (hb1.mono HB.out.size))
    replace HBW := Lib.hid (HBW.out.trans (hb1.mono HBW.out.size))
    have lz1 := x2.lt
    clear hb1 c0 c1 c2 d0 d1 d2 r0 r1 r2 f0 f1 f2
    obtain ⟨c0, c1, c2⟩ := x0.three
    obtain ⟨d0, d1, d2⟩ := x1.three
    obtain ⟨r0, r1, r2⟩ := x2.three
    have f0 := x2.frozen 0
    have f1 := x2.frozen 1
    have f2 := x2.frozen 2
    cases r
    case' true =>
      have HEQ := Lib.hid (cm_con_ki (W := W) (xs := xs) (cx := cx) (i := i) en HEN.out hr)
      go_wp2_with fail
      refine bodyPost_ret (v := .tuple #[.agg #[.int .i64 0, .int .i64 0, .slice none 0 0], .int .i64 2]) (by simp [results, Tryz.results93, go_sem, r0, r1, r2]) rfl ?_
      first | exact spE_err0 HEQ.out HBW.out | exact spE_err HEQ.out HBW.out (p := w.heap.size + 1 + 1) (by omega) _ _ _
    have HEQ := Lib.hid (cm_con (W := W) (xs := xs) (cx := cx) (i := i) en HEN.out hr)
    have HSP : Hid (∀ (W2 : World), Below W1.heap.size W1 W2 → Calls Tryz.prog 84 #[.agg #[.slice (some ⟨bc, oc, none⟩) ns cs, .slice Am nm cm, .slice Ac nc cc], .agg #[.int .i64 ke, .int .i64 he, .slice Ae ne ce], .slice A n c] W2 (SpE (fun b => b < w0.heap.size) (spV W xs cx en) W2)) := Lib.hid fun W2 h2 =>
      vSpineC HIH.out HE.out (fun x hx => HBM.out.arg hx) (HBE.out.mono HE.out.lo) (by omega) (by have := HSUM.out; rw [nd] at this; unfold dlV hiV at *; omega) (by have := HLEN.out; rw [nd] at this; omega) W2 (HK.out.keep (HB.out.trans (h2.mono HB.out.size))) (HX.out.keep (HB.out.trans (h2.mono HB.out.size))) (RdF.moveX (fun b hok hl => ⟨hok, h2.block b hl⟩) _ _ HRE.out)
    obtain ⟨R, hR⟩ : ∃ R, spV W xs cx en = R := ⟨_, rfl⟩
    rw [hR] at HEQ HSP
    clear hR hr
    go_wp2_with fail
    have HKS : Hid (∀ w' : World, Below W1.heap.size W1 w' → (fun w' => w'.cell? ⟨w.heap.size, 0, none⟩ = some (.slice (some ⟨bc, oc, none⟩) ns cs) ∧ w'.cell? ⟨w.heap.size, 1, none⟩ = some (.slice Am nm cm) ∧ w'.cell? ⟨w.heap.size, 2, none⟩ = some (.slice Ac nc cc) ∧ w'.cell? ⟨w.heap.size + 1, 1, none⟩ = some (.int .i64 i) ∧ w'.cell? ⟨w.heap.size + 1, 2, none⟩ = some (.slice A n c) ∧ w'.cell? ⟨bc, oc + i * 4 + 1, none⟩ = some (.int .i64 ke) ∧ w'.cell? ⟨bc, oc + i * 4 + 1 + 1, none⟩ = some (.int .i64 he) ∧ w'.cell? ⟨bc, oc + i * 4 + 1 + 2, none⟩ = some (.slice Ae ne ce)) w') := Lib.hid fun w' h => ⟨(h.cell (cell_lt c0)).trans c0, (h.cell (cell_lt c1)).trans c1, (h.cell (cell_lt c2)).trans c2, (h.cell (cell_lt d1)).trans d1, (h.cell (cell_lt d2)).trans d2, (h.cell (cell_lt e0)).trans e0, (h.cell (cell_lt e1)).trans e1, (h.cell (cell_lt e2)).trans e2⟩
    have hbd : Below W1.heap.size W1 W1.drew := (Below.refl _ W1).drew
    refine zzR HKS hbd (fun hS => ?_)
    simp only [List.size_toArray, List.length_cons, List.length_nil, Nat.reduceAdd]
    refine zzT (i := 0) (v := .agg #[.slice (some ⟨bc, oc, none⟩) ns cs, .slice Am nm cm, .slice Ac nc cc]) rfl hS ?_
    try simp only [Act.put, List.setIfInBounds_toArray]
    refine zzT (i := 1) (v := .pointer (some ⟨w.heap.size, 0, none⟩)) rfl hS ?_
    try simp only [Act.put]
    refine zzT (i := 2) (v := .slice (some ⟨bc, oc, none⟩) ns cs) rfl hS ?_
    try simp only [Act.put]
    refine zzT (i := 3) (v := .pointer (some ⟨w.heap.size + 1, 1, none⟩)) rfl hS ?_
    try simp only [Act.put]
    refine zzT (i := 4) (v := .int .i64 i) rfl hS ?_
    try simp only [Act.put]
    refine zzT (i := 5) (v := .pointer (some ⟨bc, oc + i * 4, none⟩)) rfl hS ?_
    try simp only [Act.put]
    refine zzT (i := 6) (v := .pointer (some ⟨bc, oc + i * 4 + 1, none⟩)) rfl hS ?_
    try simp only [Act.put]
    refine zzT (i := 7) (v := .agg #[.int .i64 ke, .int .i64 he, .slice Ae ne ce]) rfl hS ?_
    try simp only [Act.put]
    refine zzT (i := 8) (v := .pointer (some ⟨w.heap.size + 1, 2, none⟩)) rfl hS ?_
    try simp only [Act.put]
    refine zzT (i := 9) (v := .slice A n c) rfl hS ?_
    try simp only [Act.put]
    refine wpAnyH_ready (rs := [10]) (by kernel_rfl) (by simp) ?_
    refine AllReadyH.cons rfl (fun KN hK => ?_) AllReadyH.nil
    go_simp
    refine (HSP.out _ hbd).mono ?_
    rintro e w9 ⟨k4, h4, A4, n4, c4, rfl, hrd9, hb9⟩
    have hb9' : Below W1.heap.size W1 w9 := hbd.trans (hb9.mono hbd.size)
    refine hK.out _ _ (HKS.out _ hb9') (fun hS => ?_)
    clear hK KN
    try simp only [Act.put, zzP]
    clear hb9
    refine zzT (i := 11) (v := .agg #[.int .i64 k4, .int .i64 h4, .slice A4 n4 c4]) rfl hS ?_
    try simp only [Act.put, List.setIfInBounds_toArray]
    refine zzT (i := 12) (v := .int .i64 (erV R)) rfl hS ?_
    try simp only [Act.put]
    have z2 := x2.keep hb9' x2.lt
    obtain ⟨z0, z1, z3⟩ := z2.three
    have g0 := z2.frozen 0
    have g1 := z2.frozen 1
    have g2 := z2.frozen 2
    refine wpAnyH_ready (rs := [13]) (by kernel_rfl) (by simp) ?_
    refine AllReadyH.cons rfl (fun KN hK => ?_) AllReadyH.nil
    go_simp
    have hS2 : (fun w' => w'.cell? ⟨w.heap.size, 0, none⟩ = some (.slice (some ⟨bc, oc, none⟩) ns cs) ∧ w'.cell? ⟨w.heap.size, 1, none⟩ = some (.slice Am nm cm) ∧ w'.cell? ⟨w.heap.size, 2, none⟩ = some (.slice Ac nc cc) ∧ w'.cell? ⟨w.heap.size + 1, 1, none⟩ = some (.int .i64 i) ∧ w'.cell? ⟨w.heap.size + 1, 2, none⟩ = some (.slice A n c) ∧ w'.cell? ⟨bc, oc + i * 4 + 1, none⟩ = some (.int .i64 ke) ∧ w'.cell? ⟨bc, oc + i * 4 + 1 + 1, none⟩ = some (.int .i64 he) ∧ w'.cell? ⟨bc, oc + i * 4 + 1 + 2, none⟩ = some (.slice Ae ne ce)) (((w9.setCell ⟨w.heap.size + 1 + 1, 0, none⟩ (.int .i64 k4)).setCell ⟨w.heap.size + 1 + 1, 1, none⟩ (.int .i64 h4)).setCell ⟨w.heap.size + 1 + 1, 2, none⟩ (.slice A4 n4 c4)) := by
      obtain ⟨s0, s1, s2, s3, s4, s5, s6, s7⟩ := HKS.out _ hb9'
      exact ⟨(far3V _ _ _ _ _ _ (by omega)).trans s0, (far3V _ _ _ _ _ _ (by omega)).trans s1, (far3V _ _ _ _ _ _ (by omega)).trans s2, (far3V _ _ _ _ _ _ (by omega)).trans s3, (far3V _ _ _ _ _ _ (by omega)).trans s4, (far3V _ _ _ _ _ _ (by omega)).trans s5, (far3V _ _ _ _ _ _ (by omega)).trans s6, (far3V _ _ _ _ _ _ (by omega)).trans s7⟩
    refine hK.out _ _ hS2 (fun hS => ?_)
    clear hK KN hS2
    try simp only [Act.put, zzP]
    refine zzT (i := 14) (v := .int .i64 (erV R)) rfl hS ?_
    try simp only [Act.put, List.setIfInBounds_toArray]
    refine wpAnyH_done (by kernel_rfl) ?_ _
    try simp only [List.setIfInBounds_toArray]
    try simp only [zzP]
    have y := z2.put3 (.int .i64 k4) (.int .i64 h4) (.slice A4 n4 c4)
    obtain ⟨y0, y1, y2⟩ := y.three
    have HBF := Lib.hid (HBW.out.trans (hb9'.mono HBW.out.size))
    have HRD := Lib.hid hrd9
    have hdr : W1.drew.heap.size = W1.heap.size := rfl
    clear hS HKS hbd hb9' z2 z0 z1 z3 g0 g1 g2 x0 x1 x2 c0 c1 c2 d0 d1 d2 r0 r1 r2 f0 f1 f2 hrd9 e0 e1 e2 y
    go_wp2_with fail
    refine bodyPost_ret (v := .tuple #[.agg #[.int .i64 k4, .int .i64 h4, .slice A4 n4 c4], .int .i64 (erV R)]) (by simp [results, Tryz.results93, go_sem, y0, y1, y2]) rfl ?_
    rw [HEQ.out]
    exact spE_moved (p := w.heap.size + 1 + 1) (m := W1.heap.size) (fun t e => RdF.moveX (fun b hok hl => ⟨by rcases hok with h | h; exact .inl ⟨h.1, by have := h.1; omega⟩; exact .inr (by omega), rfl⟩) _ _ (HRD.out t e)) HBF.out (by omega) (by omega) _ _ _ _ rfl
end Go.Proofs.YtbbjjdnnlnabaaaGreat
