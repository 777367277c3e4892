/- Texts of one proof, put together. No statement is proved here. -/
import Derived.Test.YtbbjjdnnlnabaaaGreatPkT
import Derived.Test.YtbbjjdnnlnabaaaGreatZt
namespace Go.Proofs.YtbbjjdnnlnabaaaGreat
open Go.ChangeShapes Go.WideShapes Go.ChangeAt Go.RowKit
set_option linter.unusedVariables false
set_option linter.unusedSimpArgs false
set_option maxRecDepth 100000
set_option maxHeartbeats 8000000
structure SqI (f : Nat) (t : T) (args : List T) (n : Nat) (w : World) (pw : Nat) (X : Nat → Prop) (wr : World) (t' : T) (args' : List T) (n1 : Nat) (k h : Int) (At : Option Addr) (nt ct : Nat) (A : Option Addr) (m c : Nat) : Prop where
  box : Box wr w.heap.size 39 #[.int .i64 k, .int .i64 h, .slice At nt ct]
  res : Box wr (w.heap.size + 1) 39 #[.int .i64 0, .int .i64 0, .slice none 0 0]
  rt : RX (YX X w) wr t' (.agg #[.int .i64 k, .int .i64 h, .slice At nt ct])
  ra : RXL (YX X w) wr args' A m c
  fr : Fr (fun k => k = pw) w wr
  wk : wk2 wr pw n1 0
  lo : n ≤ n1
  hi : n1 ≤ 40000
  wt : Way (bt n1) t'
  wa : WayL (bt n1) args'
  nt : nd t' ≤ 200000000
  na : ndL args' ≤ 200000000
  eq : sp f t args n = sp f t' args' n1
theorem SqI.done {f : Nat} {t : T} {args : List T} {n : Nat} {w : World} {pw : Nat} {X : Nat → Prop} {wr : World} {t' : T} {args' : List T} {n1 : Nat} {k h : Int} {At : Option Addr} {nt ct : Nat} {A : Option Addr} {m c : Nat} (I : SqI f t args n w pw X wr t' args' n1 k h At nt ct A m c)
    (lpw : pw < w.heap.size) {w2 : World} {u : T} {k2 h2 : Int} {A2 : Option Addr} {n2 c2 : Nat} (hfr : Fr (fun k => k = pw) w w2) (hwk : wk2 w2 pw n1 0) (hr : RX (YX X w) w2 u (.agg #[.int .i64 k2, .int .i64 h2, .slice A2 n2 c2])) (heq : sp f t' args' n1 = .ok (u, n1)) :
    QEnd pw X w (sp f t args n) (.returned (.agg #[.int .i64 k2, .int .i64 h2, .slice A2 n2 c2])) (((w2.setCell ⟨w.heap.size + 1, 0, none⟩ (.int .i64 k2)).setCell ⟨w.heap.size + 1, 1, none⟩ (.int .i64 h2)).setCell ⟨w.heap.size + 1, 2, none⟩ (.slice A2 n2 c2)) := by
  rw [I.eq, heq]
  exact ⟨_, _, _, _, _, rfl, hfr.set3 (fun h => by omega) _ _ _, RX.mono (RX.adv hr (Adv.set3 (.inr (.inr rfl)) _ _ _)) (fun i _ e => .inl e), hwk.other3 (by omega) _ _ _⟩
theorem SqI.stop {f : Nat} {t : T} {args : List T} {n : Nat} {w : World} {pw : Nat} {X : Nat → Prop} {wr : World} {t' : T} {args' : List T} {n1 : Nat} {k h : Int} {At : Option Addr} {nt ct : Nat} {A : Option Addr} {m c : Nat} (I : SqI f t args n w pw X wr t' args' n1 k h At nt ct A m c)
    (lpw : pw < w.heap.size) {w2 : World} {k2 h2 : Int} {A2 : Option Addr} {n2 c2 n3 : Nat} {ec : Int} (hfr : Fr (fun k => k = pw) w w2) (hwk : wk2 w2 pw n3 ec) (hne : ec ≠ 0) (hz : Value.agg #[.int .i64 k2, .int .i64 h2, .slice A2 n2 c2] = zT) (heq : sp f t' args' n1 = .error ec) :
    QEnd pw X w (sp f t args n) (.returned (.agg #[.int .i64 k2, .int .i64 h2, .slice A2 n2 c2])) (((w2.setCell ⟨w.heap.size + 1, 0, none⟩ (.int .i64 k2)).setCell ⟨w.heap.size + 1, 1, none⟩ (.int .i64 h2)).setCell ⟨w.heap.size + 1, 2, none⟩ (.slice A2 n2 c2)) := by
  rw [I.eq, heq]
  exact ⟨_, _, _, _, _, rfl, hfr.set3 (fun h => by omega) _ _ _, hne, ⟨n3, hwk.other3 (by omega) _ _ _⟩, hz⟩
def SSp (z bb bo ab ao nt ct : Nat) (bk bh : Int) (bA : Option Addr) (bn bc : Nat) (ak ah : Int) (aA : Option Addr) (an ac : Nat) (w' : World) : Prop :=
  w'.cell? ⟨z, 2, none⟩ = some (.slice (some ⟨bb, bo, none⟩) nt ct) ∧ w'.cell? ⟨bb, bo, none⟩ = some (.int .i64 bk) ∧ w'.cell? ⟨bb, bo + 1, none⟩ = some (.int .i64 bh) ∧ w'.cell? ⟨bb, bo + 2, none⟩ = some (.slice bA bn bc) ∧
    w'.cell? ⟨ab, ao, none⟩ = some (.int .i64 ak) ∧ w'.cell? ⟨ab, ao + 1, none⟩ = some (.int .i64 ah) ∧ w'.cell? ⟨ab, ao + 2, none⟩ = some (.slice aA an ac)
theorem rspineC {f : Nat} (hA : QpC f) : QsC f := by
  intro t args n v A m c w pw X hf hn ht ha hnt hna hX hbn hwk hv hva
  obtain ⟨k, h, At, nt, ct, rfl⟩ := RdF.full hv
  have lpw := hwk.lt
  have HF := Lib.hid hf; clear hf
  have HX := Lib.hid hX; clear hX
  have HBN := Lib.hid hbn; clear hbn
  have HAP := Lib.hid hA; clear hA
  obtain ⟨W, hW⟩ : ∃ W, (w.alloc (.cells #[.int .i64 k, .int .i64 h, .slice At nt ct] 39)).alloc (.cells #[.int .i64 0, .int .i64 0, .slice none 0 0] 39) = W := ⟨_, rfl⟩
  have hb : Below w.heap.size w W := by rw [← hW]; exact ((Below.refl _ _).alloc (Nat.le_refl _) _).alloc (by simp) _
  have x0 : Box W w.heap.size 39 #[.int .i64 k, .int .i64 h, .slice At nt ct] := by rw [← hW]; exact (Box.new _ _ _).alloc _
  have x1 : Box W (w.heap.size + 1) 39 #[.int .i64 0, .int .i64 0, .slice none 0 0] := by rw [← hW]; exact (Box.new (w.alloc _) _ _).at (by simp)
  have hnew : ∀ b, b < w.heap.size → YX X w b → X b := fun b hl e => by
    rcases e with e | e | e
    · exact e
    · omega
    · omega
  have hadv : Adv X w (YX X w) W := ⟨hb.size, fun _ h => .inl h, hnew, fun b hl _ => hb.block b hl⟩
  have HI : Hid (SqI f t args n w pw X W t args n k h At nt ct A m c) := Lib.hid ⟨x0, x1, RX.adv hv hadv, hva.adv hadv, Fr.below hb, hwk.keep hb lpw, Nat.le_refl _, hn, ht, ha, hnt, hna, rfl⟩
  clear hadv hnew x0 x1 hb hv hva hwk ht ha hnt hna
  have HW := Lib.hid hW; clear hW
  go_enter Tryz.func109, Tryz.ntmps109
  go_wp2_with fail
  rw [HW.out]
  clear HW
  go_loopw [2] (fun av wr => ∃ (t' : T) (args' : List T) (n1 : Nat) (k h : Int) (At : Option Addr) (nt ct : Nat) (A : Option Addr) (m c : Nat), av = .slice A m c ∧ Hid (SqI f t args n w pw X wr t' args' n1 k h At nt ct A m c)) (fun av _ => lenV av)
  case atStart => exact ⟨t, args, n, k, h, At, nt, ct, A, m, c, rfl, HI⟩
  case round =>
    clear HI
    obtain ⟨t', args', n1, k', h', At', nt', ct', A', m', c', rfl, HI⟩ := hrel
    obtain ⟨c0, c1, c2⟩ := HI.out.box.three
    have hle := HI.out.ra.le
    have hcap := HI.out.ra.cap
    unfold maxLen at hcap
    have l0 := HI.out.box.lt
    have l1 := HI.out.res.lt
    have lw := HI.out.wk.lt
    by_cases hm0 : m' = 0
    · subst hm0
      have hz : args' = [] := List.length_eq_zero_iff.1 HI.out.ra.len
      have heq : sp f t' args' n1 = .ok (t', n1) := by rw [hz, sp, spL]
      have HE := Lib.hid heq; clear heq hz
      obtain ⟨r0, r1, r2⟩ := HI.out.res.three
      have f0 := HI.out.res.frozen 0
      have f1 := HI.out.res.frozen 1
      have f2 := HI.out.res.frozen 2
      cases hk3 : (k' == 3)
      all_goals
        go_wp2_with fail
        refine bodyPost_ret (v := .agg #[.int .i64 k', .int .i64 h', .slice At' nt' ct']) (by simp [results, Tryz.results109, go_sem, r0, r1, r2]) rfl ?_
        exact HI.out.done lpw HI.out.fr HI.out.wk HI.out.rt HE.out
    · obtain ⟨a, bs, hargs⟩ : ∃ a bs, args' = a :: bs := by
        cases args' with
        | nil => have := HI.out.ra.len; simp at this; omega
        | cons a bs => exact ⟨a, bs, rfl⟩
      subst hargs
      have hpos : (0 : Int) < m' := by omega
      have hne0 : ((m' : Int) == 0) = false := by rw [beq_eq_false_iff_ne]; omega
      obtain ⟨kt, gt, xs⟩ := t'
      have hkt := RdF_node.1 HI.out.rt
      obtain ⟨Aq, nq, cq, eq, wfk, wfh, hl, hnc, hcm, hxs⟩ := hkt
      have eq' : k' = kt ∧ h' = gt ∧ At' = Aq ∧ nt' = nq ∧ ct' = cq := by simpa using eq
      obtain ⟨rfl, rfl, rfl, rfl, rfl⟩ := eq'
      clear eq
      have HXS := Lib.hid hxs; clear hxs
      have HL := Lib.hid hl; clear hl
      obtain ⟨ab, ao, ak, ah, aA, an, ac, rfl, a0, a1, a2, har⟩ := (HI.out.ra.at_ 0 a rfl).full
      rw [Nat.zero_mul, Nat.add_zero] at a0 a1 a2
      have HAR := Lib.hid har; clear har
      have HWF := Lib.hid (And.intro wfk wfh); clear wfk wfh
      have hnda : mayB a = myB a := mayB_big (by have := HI.out.na; rw [ndL] at this; omega)
      have HND := Lib.hid hnda; clear hnda
      by_cases hk3 : k' = 3
      · subst hk3
        cases hmy : myB a
        · have heq : sp f (.node 3 h' xs) (a :: bs) n1 = .error 4 := by rw [sp, spL, if_pos rfl, if_neg (by rw [hmy]; simp)]
          have HE := Lib.hid heq; clear heq
          have HMY := Lib.hid hmy; clear hmy
          go_wp2_with fail
          refine (refMay a _ _ (RX.rd HAR.out)).mono ?_
          rw [HND.out, HMY.out]
          rintro e w1 ⟨rfl, hb1⟩
          have z1 := HI.out.res.keep hb1 l1
          have zw := HI.out.wk.keep hb1 lw
          have HFR1 := Lib.hid (HI.out.fr.then hb1)
          clear hb1 c0 c1 c2 a0 a1 a2
          go_wp2_with fail
          refine (rfailC pw n1 4 w1 zw).mono ?_
          rintro e w2 ⟨rfl, hfr, zw2⟩
          have y1 := z1.fr hfr (by omega)
          have HFR2 := Lib.hid (HFR1.out.trans hfr fun i _ e => e)
          obtain ⟨r0, r1, r2⟩ := y1.three
          have f0 := y1.frozen 0
          have f1 := y1.frozen 1
          have f2 := y1.frozen 2
          clear hfr z1 zw y1
          have HZ := Lib.hid zw2; clear zw2
          go_wp2_with fail
          refine bodyPost_ret (v := zT) (by simp [results, Tryz.results109, go_sem, r0, r1, r2]) rfl ?_
          exact HI.out.stop lpw HFR2.out HZ.out (by omega) rfl HE.out
        · obtain ⟨x, rfl⟩ := lam_one rfl HI.out.wt
          obtain rfl : nt' = 1 := by have := HL.out; simpa using this.symm
          obtain ⟨bb, bo, bk, bh, bA, bn, bc, rfl, b0, b1, b2, hbr⟩ := (HXS.out 0 x rfl).full
          rw [Nat.zero_mul, Nat.add_zero] at b0 b1 b2
          have HBR := Lib.hid hbr; clear hbr
          have HMY := Lib.hid hmy; clear hmy
          have hbpw : bb ≠ pw := by
            obtain ⟨b', o', _, _, _, e, hb', _⟩ := HXS.out 0 x rfl
            injection e with e; injection e with e1 e2
            intro e3
            exact hb' (by rw [← e1, e3]; exact .inl HX.out)
          have habpw : ab ≠ pw := by
            obtain ⟨b', o', _, _, _, e, hb', _⟩ := HI.out.ra.at_ 0 a rfl
            injection e with e; injection e with e1 e2
            intro e3
            exact hb' (by rw [← e1, e3]; exact .inl HX.out)
          go_wp2_with fail
          refine (refMay a _ _ (RX.rd HAR.out)).mono ?_
          rw [HND.out, HMY.out]
          rintro e w1 ⟨rfl, hb1⟩
          have hbl : ∀ b, b < wr.heap.size → w1.heap[b]? = wr.heap[b]? := fun b hb => hb1.block b hb
          have lb := cell_lt b0
          have la := cell_lt a0
          dsimp only at lb la
          have HKS : Hid (∀ w' : World, (∀ g, g < wr.heap.size → g ≠ pw → w'.heap[g]? = wr.heap[g]?) → SSp w.heap.size bb bo ab ao 1 ct' bk bh bA bn bc ak ah aA an ac w') := Lib.hid fun w' hw' => by
            have m1 : ∀ q, w'.cell? ⟨w.heap.size, q, none⟩ = wr.cell? ⟨w.heap.size, q, none⟩ := fun q => World.cell?_of_block (hw' w.heap.size l0 (by omega))
            have mB : ∀ q, w'.cell? ⟨bb, q, none⟩ = wr.cell? ⟨bb, q, none⟩ := fun q => World.cell?_of_block (hw' bb lb hbpw)
            have mA : ∀ q, w'.cell? ⟨ab, q, none⟩ = wr.cell? ⟨ab, q, none⟩ := fun q => World.cell?_of_block (hw' ab la habpw)
            exact ⟨(m1 _).trans c2, (mB _).trans b0, (mB _).trans b1, (mB _).trans b2, (mA _).trans a0, (mA _).trans a1, (mA _).trans a2⟩
          have hS := HKS.out w1.drew fun g hg _ => hbl g hg
          clear hbl lb la c0 c1 c2 a0 a1 a2 b0 b1 b2
          have HB1 := Lib.hid hb1; clear hb1
          have lo1 := HI.out.lo
          have hi1 := HI.out.hi
          have hgood := ap_good f [a] 0 0 x n1 (Nat.zero_le _) hi1 ⟨fun t ht => by rw [List.mem_singleton.1 ht]; exact HMY.out, fun t ht => by rw [List.mem_singleton.1 ht]; exact (HI.out.wa a (List.mem_cons_self ..)).ok, by omega, by omega⟩ (by rw [Int.sub_zero]; exact HI.out.wt.args (List.mem_cons_self ..))
          have HG := Lib.hid hgood; clear hgood
          go_wp2_with fail
          refine wp_region_cut rfl (by kernel_rfl) (by kernel_rfl) ?_
          refine wpAny_of_held (S := SSp w.heap.size bb bo ab ao 1 ct' bk bh bA bn bc ak ah aA an ac) _ _ _ _ ?_
          simp only [List.pop_toArray, List.dropLast, List.size_toArray, List.length_cons, List.length_nil, Nat.reduceAdd, Nat.reduceSub]
          refine zzT (i := 0) (v := .pointer (some ⟨pw, 0, none⟩)) rfl hS ?_
          simp only [Act.put, List.setIfInBounds_toArray]
          refine zzT (i := 1) (v := .pointer (some ⟨w.heap.size, 2, none⟩)) rfl hS ?_
          simp only [Act.put]
          refine zzT (i := 2) (v := .slice (some ⟨bb, bo, none⟩) 1 ct') rfl hS ?_
          simp only [Act.put]
          refine zzT (i := 3) (v := .pointer (some ⟨bb, bo, none⟩)) rfl hS ?_
          simp only [Act.put]
          refine zzT (i := 4) (v := .agg #[.int .i64 bk, .int .i64 bh, .slice bA bn bc]) rfl hS ?_
          simp only [Act.put]
          refine zzT (i := 5) (v := .slice (some ⟨ab, ao, none⟩) m' c') rfl hS ?_
          simp only [Act.put]
          refine zzT (i := 6) (v := .pointer (some ⟨ab, ao, none⟩)) rfl hS ?_
          simp only [Act.put]
          refine zzT (i := 7) (v := .agg #[.int .i64 ak, .int .i64 ah, .slice aA an ac]) rfl hS ?_
          simp only [Act.put]
          refine wpAnyH_ready (rs := [8]) (by kernel_rfl) (by simp) ?_
          refine AllReadyH.cons rfl (fun K hK => ?_) AllReadyH.nil
          go_simp
          have hbD : Below wr.heap.size wr (w1.drew.alloc (.cells #[.int .i64 ak, .int .i64 ah, .slice aA an ac] 39)) := HB1.out.drew.alloc HB1.out.size _
          refine hK.out _ _ (HKS.out _ fun g hg _ => hbD.block g hg) (fun hS => ?_)
          clear hK K
          try simp only [Act.put, zzP]
          refine zzT (i := 9) (v := .agg #[.slice (some ⟨w1.heap.size, 0, none⟩) 1 1, .int .i64 0]) rfl hS ?_
          simp only [Act.put]
          refine wpAnyH_ready (rs := [10]) (by kernel_rfl) (by simp) ?_
          refine AllReadyH.cons rfl (fun K hK => ?_) AllReadyH.nil
          go_simp
          have hyx : ∀ b, YX X w b → b < wr.heap.size := fun b e => by
            rcases e with e | e | e
            · have := HBN.out b e; have := HI.out.fr.size; omega
            · omega
            · omega
          have bx5 : Box (w1.drew.alloc (.cells #[.int .i64 ak, .int .i64 ah, .slice aA an ac] 39)) w1.heap.size 39 #[.int .i64 ak, .int .i64 ah, .slice aA an ac] := Box.new w1.drew _ _
          have sz1 := HB1.out.size
          have adv5 : Adv (YX X w) wr (YX X w) (w1.drew.alloc (.cells #[.int .i64 ak, .int .i64 ah, .slice aA an ac] 39)) := Adv.below hbD
          have hAC := HAP.out [a] 0 0 x n1 (.agg #[.int .i64 bk, .int .i64 bh, .slice bA bn bc]) (w1.drew.alloc (.cells #[.int .i64 ak, .int .i64 ah, .slice aA an ac] 39)) pw (YX X w) (some ⟨w1.heap.size, 0, none⟩) 1 1
            (by have := HF.out; omega) (Nat.zero_le _) hi1 (by simp) ⟨fun t ht => by rw [List.mem_singleton.1 ht]; exact HMY.out, fun t ht => by rw [List.mem_singleton.1 ht]; exact (HI.out.wa a (List.mem_cons_self ..)).ok, by omega, by omega⟩
            (by rw [Int.sub_zero]; exact HI.out.wt.args (List.mem_cons_self ..)) (by have h1 := HI.out.nt; rw [nd, ndL] at h1; omega) (.inl HX.out) (fun b e => Nat.lt_of_lt_of_le (hyx b e) hbD.size) (HI.out.wk.keep hbD lw)
            (by
              rw [unN_zero]
              refine ⟨rfl, Nat.le_refl _, by unfold maxLen; omega, fun i u hu => ?_⟩
              cases i with
              | zero =>
                simp only [List.getElem?_cons_zero, Option.some.injEq] at hu
                subst hu
                obtain ⟨d0, d1, d2⟩ := bx5.three
                exact ⟨w1.heap.size, 0, _, _, _, rfl, fun e => by have := hyx _ e; omega, d0, d1, d2, RX.adv HAR.out adv5⟩
              | succ i => simp at hu) (RX.adv HBR.out adv5)
          rw [show (0 : Int) + ((0 : Nat) : Int) = 0 from rfl] at hAC
          refine hAC.mono ?_
          clear hAC adv5 bx5
          rintro e w9 ⟨k3, h3, A3, n3, c3, rfl, hfr, hcs⟩
          have hfr9 : Fr (fun k => k = pw) wr w9 := (Fr.below (X := fun k => k = pw) hbD).trans hfr fun i _ e => e
          refine hK.out _ _ (HKS.out w9 fun g hg hne => hfr9.block g hg hne) (fun hS => ?_)
          clear hK K hS
          try simp only [Act.put, zzP]
          refine wpAnyH_done (by kernel_rfl) ?_ _
          show wpList _ _ _ _ _ _
          have z0 := HI.out.box.fr hfr9 (by omega)
          have z1 := HI.out.res.fr hfr9 (by omega)
          have HFR9 := Lib.hid hfr9
          have hpne : pw ≠ w.heap.size := by omega
          clear hbD hfr hfr9 hyx
          obtain ⟨c0, c1, c2⟩ := z0.three
          have g0 := z0.frozen 0
          have g1 := z0.frozen 1
          have g2 := z0.frozen 2
          have lz0 := z0.lt
          cases hres : ap f [a] 0 0 x n1 with
          | error ec =>
            rw [hres] at hcs
            obtain ⟨hec, ⟨m9, hwk9⟩, hzz⟩ := hcs
            have HZZ := Lib.hid hzz; clear hzz
            have heq : sp f (.node 3 h' [x]) (a :: bs) n1 = .error ec := by rw [sp, spL, if_pos rfl, if_pos HMY.out]; simp only [List.headD_cons]; rw [hres]
            have HE := Lib.hid heq; clear heq hres
            obtain ⟨k0, k1⟩ := hwk9.two
            have lk := hwk9.lt
            have HK9 := Lib.hid hwk9; clear hwk9
            have hE1 : (ec != 0) = true := by simpa using hec
            have hE2 : decide (ec = 0) = false := by simpa using hec
            obtain ⟨r0, r1, r2⟩ := z1.three
            have f0 := z1.frozen 0
            have f1 := z1.frozen 1
            have f2 := z1.frozen 2
            have lz1 := z1.lt
            go_wp2_with fail
            refine bodyPost_ret (v := .agg #[.int .i64 k3, .int .i64 h3, .slice A3 n3 c3]) (by simp [results, Tryz.results109, go_sem, r0, r1, r2]) rfl ?_
            exact HI.out.stop lpw ((HI.out.fr.trans HFR9.out fun i _ e => e).set3 (fun h => absurd h (Nat.lt_irrefl _)) _ _ _) (HK9.out.other3 (by omega) _ _ _) hec HZZ.out HE.out
          | ok p =>
            obtain ⟨t2, n2⟩ := p
            rw [hres] at hcs
            obtain ⟨hrx, hwk9⟩ := hcs
            have heq : sp f (.node 3 h' [x]) (a :: bs) n1 = sp f t2 bs n2 := by rw [sp, spL, if_pos rfl, if_pos HMY.out]; simp only [List.headD_cons]; rw [hres]
            have HE := Lib.hid heq; clear heq
            have hg := HG.out t2 n2 hres
            have HGG := Lib.hid hg; clear hg hres HG
            obtain ⟨k0, k1⟩ := hwk9.two
            have lk := hwk9.lt
            have HK9 := Lib.hid hwk9; clear hwk9
            have HRX := Lib.hid hrx; clear hrx
            go_wp2_with fail
            obtain ⟨q1, q2, q3, q4⟩ := HGG.out
            have advs : Adv (YX X w) w9 (YX X w) (((w9.setCell ⟨w.heap.size, 0, none⟩ (.int .i64 k3)).setCell ⟨w.heap.size, 1, none⟩ (.int .i64 h3)).setCell ⟨w.heap.size, 2, none⟩ (.slice A3 n3 c3)) := Adv.set3 (.inr (.inl rfl)) _ _ _
            refine ⟨⟨t2, bs, n2, k3, h3, A3, n3, c3, _, m' - 1, c' - 1, rfl, Lib.hid ⟨z0.put3 _ _ _, z1.other3 (by omega) _ _ _, ?_, ?_, ?_, HK9.out.other3 (by omega) _ _ _, by omega, q2, q3, fun b hb => (HI.out.wa b (List.mem_cons_of_mem _ hb)).mono (bt_mono q1), by omega, ?_, HI.out.eq.trans HE.out⟩⟩, by simp [lenV]; omega⟩
            · exact RX.adv HRX.out advs
            · refine RXL.adv (w := w9) (X := YX X w) ?_ advs
              have hra := HI.out.ra.adv (Adv.fr (X := YX X w) HFR9.out fun i _ e => by subst e; exact .inl HX.out)
              by_cases hc1 : c' = 1
              · have hbs : bs = [] := by
                  have h1 := HI.out.ra.len
                  have : m' = 1 := by omega
                  rw [this] at h1
                  simpa using h1
                subst hbs
                obtain rfl : m' = 1 := by omega
                exact RXL.nil _ (by unfold maxLen; omega)
              · rw [if_neg hc1]
                obtain ⟨m2, rfl⟩ : ∃ m2, m' = m2 + 1 := ⟨m' - 1, by omega⟩
                obtain ⟨c2, rfl⟩ : ∃ c2, c' = c2 + 1 := ⟨c' - 1, by omega⟩
                exact hra.tail
            · exact (HI.out.fr.trans HFR9.out fun i _ e => e).set3 (fun h => absurd h (Nat.lt_irrefl _)) _ _ _
            · have h1 := HI.out.na; rw [ndL] at h1; omega
      · have e3 : (k' == 3) = false := by simpa using hk3
        by_cases hk2 : k' = 4 ∨ k' = 5 ∨ k' = 2
        · have heq : sp f (.node k' h' xs) (a :: bs) n1 = .ok (.node k' h' (xs ++ a :: bs), n1) := by rw [sp, spL, if_neg hk3, if_pos hk2]
          have HE := Lib.hid heq; clear heq hk3
          have hyx : ∀ b, YX X w b → b < wr.heap.size := fun b e => by
            rcases e with e | e | e
            · have := HBN.out b e; have := HI.out.fr.size; omega
            · omega
            · omega
          have hsum : nt' + m' ≤ 3518437208780 := by
            have h1 := HI.out.nt
            have h2 := HI.out.na
            rw [nd] at h1
            have h3 := (wdL_nd xs).2
            have h4 := (wdL_nd (a :: bs)).2
            have h5 := HL.out
            have h6 := HI.out.ra.len
            omega
          obtain ⟨A1, d1, w1, nw1, hrun1, hrow1, hbl1⟩ := (GRow.nil (YX X w) wr wr.heap.size).app (m := nt') (c := ct') (A := At') (zs := xs) ⟨HL.out, hnc, hcm, fun i u hu => RdFAt.moveX (fun b hb _ => ⟨fun e => by
            rcases e with e | e
            · exact hb e
            · simp [Value.ownBlock] at e, rfl⟩) (HXS.out i u hu)⟩ hyx (Nat.le_refl _) (by omega) 24
          simp only [Nat.zero_add, List.nil_append] at hrun1 hrow1
          have hra1 := HI.out.ra.adv (Adv.below (X := YX X w) hbl1)
          obtain ⟨A2, d2, w2, nw2, hrun2, hrow2, hbl2⟩ := hrow1.app (m := m') (c := c') (A := some ⟨ab, ao, none⟩) (zs := a :: bs) ⟨hra1.len, hra1.le, hra1.cap, fun i u hu => RdFAt.moveX (w := wr) (fun b hb hl => ⟨fun e => by
            rcases e with e | e
            · exact hb e
            · have := (hrow1.lt e.symm).1; omega, hbl1.block b hl⟩) (HI.out.ra.at_ i u hu)⟩ hyx hbl1.size hsum 24
          have hblw := hbl1.trans hbl2
          have hrl := hrow2.rxl hyx
          have z0 := HI.out.box.keep hblw l0
          have z1 := HI.out.res.keep hblw l1
          have HB := Lib.hid hblw
          have HRL := Lib.hid hrl
          have HKW := Lib.hid (HI.out.wk.keep hblw lw)
          have lz0 := z0.lt
          have lz1 := z1.lt
          clear hrow1 hrow2 hbl1 hbl2 hblw hra1 hrl hsum
          obtain ⟨p0, p1, p2⟩ := z0.three
          obtain ⟨r0, r1, r2⟩ := z1.three
          have f0 := z1.frozen 0
          have f1 := z1.frozen 1
          have f2 := z1.frozen 2
          rcases hk2 with rfl | rfl | rfl
          · go_wp2_with (at_builtin; first | (refine Lib.wpList_append_run _ rfl _ _ _ _ rfl _ _ rfl rfl _ _ hrun1 ?_) | (refine Lib.wpList_append_run _ rfl _ _ _ _ rfl _ _ rfl rfl _ _ hrun2 ?_))
            refine bodyPost_ret (v := .agg #[.int .i64 4, .int .i64 h', .slice A2 (nt' + m') d2]) (by simp [results, Tryz.results109, go_sem, r0, r1, r2]) rfl ?_
            exact HI.out.done lpw (HI.out.fr.then HB.out) HKW.out (RdF_node.2 ⟨_, _, _, rfl, HWF.out.1, HWF.out.2, HRL.out.len, HRL.out.le, HRL.out.cap, HRL.out.at_⟩) HE.out
          · go_wp2_with (at_builtin; first | (refine Lib.wpList_append_run _ rfl _ _ _ _ rfl _ _ rfl rfl _ _ hrun1 ?_) | (refine Lib.wpList_append_run _ rfl _ _ _ _ rfl _ _ rfl rfl _ _ hrun2 ?_))
            refine bodyPost_ret (v := .agg #[.int .i64 5, .int .i64 h', .slice A2 (nt' + m') d2]) (by simp [results, Tryz.results109, go_sem, r0, r1, r2]) rfl ?_
            exact HI.out.done lpw (HI.out.fr.then HB.out) HKW.out (RdF_node.2 ⟨_, _, _, rfl, HWF.out.1, HWF.out.2, HRL.out.len, HRL.out.le, HRL.out.cap, HRL.out.at_⟩) HE.out
          · go_wp2_with (at_builtin; first | (refine Lib.wpList_append_run _ rfl _ _ _ _ rfl _ _ rfl rfl _ _ hrun1 ?_) | (refine Lib.wpList_append_run _ rfl _ _ _ _ rfl _ _ rfl rfl _ _ hrun2 ?_))
            refine bodyPost_ret (v := .agg #[.int .i64 2, .int .i64 h', .slice A2 (nt' + m') d2]) (by simp [results, Tryz.results109, go_sem, r0, r1, r2]) rfl ?_
            exact HI.out.done lpw (HI.out.fr.then HB.out) HKW.out (RdF_node.2 ⟨_, _, _, rfl, HWF.out.1, HWF.out.2, HRL.out.len, HRL.out.le, HRL.out.cap, HRL.out.at_⟩) HE.out
        · have e4 : (k' != 4) = true := by simp; omega
          have e5 : (k' != 5) = true := by simp; omega
          have e2 : (k' != 2) = true := by simp; omega
          have heq : sp f (.node k' h' xs) (a :: bs) n1 = .error 3 := by rw [sp, spL, if_neg hk3, if_neg hk2]
          have HE := Lib.hid heq; clear heq hk3 hk2
          go_wp2_with fail
          refine (rfailC pw n1 3 wr HI.out.wk).mono ?_
          rintro e w2 ⟨rfl, hfr, zw2⟩
          have y1 := HI.out.res.fr hfr (by omega)
          have HFR2 := Lib.hid (HI.out.fr.trans hfr fun i _ e => e)
          obtain ⟨r0, r1, r2⟩ := y1.three
          have f0 := y1.frozen 0
          have f1 := y1.frozen 1
          have f2 := y1.frozen 2
          clear hfr y1 c0 c1 c2 a0 a1 a2
          have HZ := Lib.hid zw2; clear zw2
          go_wp2_with fail
          refine bodyPost_ret (v := zT) (by simp [results, Tryz.results109, go_sem, r0, r1, r2]) rfl ?_
          exact HI.out.stop lpw HFR2.out HZ.out (by omega) rfl HE.out
end Go.Proofs.YtbbjjdnnlnabaaaGreat
