/- Texts of one proof, put together. No statement is proved here. -/
import Derived.Test.YtbbjjdnnlnabaaaGreatPkWd
namespace Go.Proofs.YtbbjjdnnlnabaaaGreat
open Go.ChangeShapes Go.WideShapes Go.ChangeAt Go.RowKit
set_option linter.unusedVariables false
set_option linter.unusedSimpArgs false
set_option maxRecDepth 100000
set_option maxHeartbeats 4000000
theorem RXL.tail {X : Nat → Prop} {w : World} {a : T} {bs : List T} {b o m c : Nat} (h : RXL X w (a :: bs) (some ⟨b, o, none⟩) (m + 1) (c + 1)) : RXL X w bs (some ⟨b, o + 3, none⟩) m c := by
  refine ⟨by have := h.len; simpa using this, by have := h.le; omega, by have := h.cap; omega, fun i t ht => ?_⟩
  obtain ⟨b', o', v0, v1, v2, e, hb, d0, d1, d2, hr⟩ := h.at_ (i + 1) t (by simpa using ht)
  cases e
  refine ⟨b, o + 3, v0, v1, v2, rfl, hb, ?_, ?_, ?_, hr⟩
  · rw [show o + 3 + i * 3 = o + (i + 1) * 3 by omega]; exact d0
  · rw [show o + 3 + i * 3 = o + (i + 1) * 3 by omega]; exact d1
  · rw [show o + 3 + i * 3 = o + (i + 1) * 3 by omega]; exact d2
theorem RXL.head {X : Nat → Prop} {w : World} {a : T} {bs : List T} {A : Option Addr} {m c : Nat} (h : RXL X w (a :: bs) A m c) (hm : 1 ≤ c) : RXL X w [a] A 1 c := by
  refine ⟨rfl, hm, h.cap, fun i t ht => ?_⟩
  cases i with
  | zero => exact h.at_ 0 t (by simpa using ht)
  | succ i => simp at ht
theorem RXL.nil {X : Nat → Prop} {w : World} (A : Option Addr) {c : Nat} (hc : c ≤ maxLen) : RXL X w [] A 0 c := ⟨rfl, Nat.zero_le _, hc, fun i t ht => by simp at ht⟩
def lenV : Value → Nat
  | .slice _ n _ => n
  | _ => 0
structure SpI (f : Nat) (t : T) (args : List T) (n : Nat) (w : World) (pw : Nat) (X : Nat → Prop) (wr : World) (t' : T) (args' : List T) (n1 : Nat) (k h : Int) (At : Option Addr) (nt ct : Nat) (A : Option Addr) (m c : Nat) : Prop where
  box : Box wr w.heap.size 39 #[.int .i64 k, .int .i64 h, .slice At nt ct]
  res : Box wr (w.heap.size + 1) 39 #[.int .i64 0, .int .i64 0, .slice none 0 0]
  rt : RX (fun b => X b ∨ b = w.heap.size ∨ b = w.heap.size + 1) wr t' (.agg #[.int .i64 k, .int .i64 h, .slice At nt ct])
  ra : RXL (fun b => X b ∨ b = w.heap.size ∨ b = w.heap.size + 1) wr args' A m c
  fr : Fr (fun k => k = pw) w wr
  wk : wkB wr pw n1
  lo : n ≤ n1
  hi : n1 ≤ 40000
  wt : Way (bt n1) t'
  wa : WayL (bt n1) args'
  nt : nd t' ≤ 200000000
  na : ndL args' ≤ 200000000
  eq : sp f t args n = sp f t' args' n1
abbrev YX (X : Nat → Prop) (w : World) (b : Nat) : Prop := X b ∨ b = w.heap.size ∨ b = w.heap.size + 1
theorem SpI.done {f : Nat} {t : T} {args : List T} {n : Nat} {w : World} {pw : Nat} {X : Nat → Prop} {wr : World} {t' : T} {args' : List T} {n1 : Nat} {k h : Int} {At : Option Addr} {nt ct : Nat} {A : Option Addr} {m c : Nat} (I : SpI f t args n w pw X wr t' args' n1 k h At nt ct A m c)
    (lpw : pw < w.heap.size) {w2 : World} {u : T} {k2 h2 : Int} {A2 : Option Addr} {n2 c2 : Nat} (hfr : Fr (fun k => k = pw) w w2) (hwk : wkB w2 pw n1) (hr : RX (YX X w) w2 u (.agg #[.int .i64 k2, .int .i64 h2, .slice A2 n2 c2])) (heq : sp f t' args' n1 = .ok (u, n1)) :
    PEnd pw X w (sp f t args n) (.returned (.agg #[.int .i64 k2, .int .i64 h2, .slice A2 n2 c2])) (((w2.setCell ⟨w.heap.size + 1, 0, none⟩ (.int .i64 k2)).setCell ⟨w.heap.size + 1, 1, none⟩ (.int .i64 h2)).setCell ⟨w.heap.size + 1, 2, none⟩ (.slice A2 n2 c2)) := by
  rw [I.eq, heq]
  exact ⟨_, _, _, _, _, rfl, RX.mono (RX.adv hr (Adv.set3 (.inr (.inr rfl)) _ _ _)) (fun i _ e => .inl e), hfr.set3 (fun h => by omega) _ _ _, hwk.other3 (by omega) _ _ _⟩
theorem spineC {f : Nat} (hA : ApC f) : SpC f := by
  intro t args n v A m c w pw X hf hn ht ha hnt hna hX hbn hwk hv hva
  obtain ⟨k, h, At, nt, ct, rfl⟩ := RdF.full hv
  have lpw := hwk.lt
  have HF := Lib.hid hf; clear hf
  have HX := Lib.hid hX; clear hX
  have HBN := Lib.hid hbn; clear hbn
  have HAP := Lib.hid hA; clear hA
  obtain ⟨W, hW⟩ : ∃ W, (w.alloc (.cells #[.int .i64 k, .int .i64 h, .slice At nt ct] 39)).alloc (.cells #[.int .i64 0, .int .i64 0, .slice none 0 0] 39) = W := ⟨_, rfl⟩
  have hb : Below w.heap.size w W := by rw [← hW]; exact ((Below.refl _ _).alloc (Nat.le_refl _) _).alloc (by simp) _
  have x0 : Box W w.heap.size 39 #[.int .i64 k, .int .i64 h, .slice At nt ct] := by rw [← hW]; exact (Box.new _ _ _).alloc _
  have x1 : Box W (w.heap.size + 1) 39 #[.int .i64 0, .int .i64 0, .slice none 0 0] := by rw [← hW]; exact (Box.new (w.alloc _) _ _).at (by simp)
  have hnew : ∀ b, b < w.heap.size → (X b ∨ b = w.heap.size ∨ b = w.heap.size + 1) → X b := fun b hl e => by
    rcases e with e | e | e
    · exact e
    · omega
    · omega
  have hadv : Adv X w (fun b => X b ∨ b = w.heap.size ∨ b = w.heap.size + 1) W := ⟨hb.size, fun _ h => .inl h, hnew, fun b hl _ => hb.block b hl⟩
  have HI : Hid (SpI f t args n w pw X W t args n k h At nt ct A m c) := Lib.hid ⟨x0, x1, RX.adv hv hadv, hva.adv hadv, Fr.below hb, hwk.keep hb lpw, Nat.le_refl _, hn, ht, ha, hnt, hna, rfl⟩
  clear hadv hnew x0 x1 hb hv hva hwk ht ha hnt hna
  have HW := Lib.hid hW; clear hW
  go_enter Tryz.func126, Tryz.ntmps126
  go_wp2_with fail
  rw [HW.out]
  clear HW
  go_loopw [2] (fun av wr => ∃ (t' : T) (args' : List T) (n1 : Nat) (k h : Int) (At : Option Addr) (nt ct : Nat) (A : Option Addr) (m c : Nat), av = .slice A m c ∧ Hid (SpI f t args n w pw X wr t' args' n1 k h At nt ct A m c)) (fun av _ => lenV av)
  case atStart => exact ⟨t, args, n, k, h, At, nt, ct, A, m, c, rfl, HI⟩
  case round =>
    clear HI
    obtain ⟨t', args', n1, k', h', At', nt', ct', A', m', c', rfl, HI⟩ := hrel
    obtain ⟨c0, c1, c2⟩ := HI.out.box.three
    have hle := HI.out.ra.le
    have hcap := HI.out.ra.cap
    unfold maxLen at hcap
    by_cases hm0 : m' = 0
    · subst hm0
      have hz : args' = [] := List.length_eq_zero_iff.1 HI.out.ra.len
      have heq : sp f t' args' n1 = .ok (t', n1) := by rw [hz, sp, spL]
      have HE := Lib.hid heq; clear heq hz
      obtain ⟨r0, r1, r2⟩ := HI.out.res.three
      have f0 := HI.out.res.frozen 0
      have f1 := HI.out.res.frozen 1
      have f2 := HI.out.res.frozen 2
      cases hk3 : (k' == 3)
      all_goals
        go_wp2_with fail
        refine bodyPost_ret (v := .agg #[.int .i64 k', .int .i64 h', .slice At' nt' ct']) (by simp [results, Tryz.results126, go_sem, r0, r1, r2]) rfl ?_
        exact HI.out.done lpw HI.out.fr HI.out.wk HI.out.rt HE.out
    · obtain ⟨a, bs, hargs⟩ : ∃ a bs, args' = a :: bs := by
        cases args' with
        | nil => have := HI.out.ra.len; simp at this; omega
        | cons a bs => exact ⟨a, bs, rfl⟩
      subst hargs
      have hpos : (0 : Int) < m' := by omega
      have hne0 : ((m' : Int) == 0) = false := by rw [beq_eq_false_iff_ne]; omega
      obtain ⟨kt, gt, xs⟩ := t'
      have hkt := RdF_node.1 HI.out.rt
      obtain ⟨Aq, nq, cq, eq, wfk, wfh, hl, hnc, hcm, hxs⟩ := hkt
      have eq' : k' = kt ∧ h' = gt ∧ At' = Aq ∧ nt' = nq ∧ ct' = cq := by simpa using eq
      obtain ⟨rfl, rfl, rfl, rfl, rfl⟩ := eq'
      clear eq
      have HXS := Lib.hid hxs; clear hxs
      have HL := Lib.hid hl; clear hl
      obtain ⟨ab, ao, ak, ah, aA, an, ac, rfl, a0, a1, a2, har⟩ := (HI.out.ra.at_ 0 a rfl).full
      rw [Nat.zero_mul, Nat.add_zero] at a0 a1 a2
      have HAR := Lib.hid har; clear har
      have HWF := Lib.hid (And.intro wfk wfh); clear wfk wfh
      by_cases hk3 : k' = 3
      · subst hk3
        cases hmy : myB a
        · have heq : sp f (.node 3 h' xs) (a :: bs) n1 = .error 4 := by rw [sp, spL, if_pos rfl, if_neg (by rw [hmy]; simp)]
          have HE := Lib.hid heq; clear heq
          have HMY := Lib.hid hmy; clear hmy
          go_wp2_with fail
          refine (myC a _ _ (RX.rd HAR.out)).mono ?_
          rw [HMY.out]
          rintro e w1 ⟨rfl, hb1⟩
          have HB1 := Lib.hid hb1; clear hb1 c0 c1 c2 a0 a1 a2
          go_wp2_with fail
          refine ⟨rfl, ?_⟩
          rw [HI.out.eq, HE.out]
          exact ⟨rfl, HI.out.fr.then HB1.out⟩
        · obtain ⟨x, rfl⟩ := lam_one rfl HI.out.wt
          obtain rfl : nt' = 1 := by have := HL.out; simpa using this.symm
          obtain ⟨bb, bo, bk, bh, bA, bn, bc, rfl, b0, b1, b2, hbr⟩ := (HXS.out 0 x rfl).full
          rw [Nat.zero_mul, Nat.add_zero] at b0 b1 b2
          have HBR := Lib.hid hbr; clear hbr
          have HMY := Lib.hid hmy; clear hmy
          have lb := cell_lt b0
          dsimp only at lb
          have l0 := HI.out.box.lt
          have l1 := HI.out.res.lt
          have lw := HI.out.wk.lt
          go_wp2_with fail
          refine (myC a _ _ (RX.rd HAR.out)).mono ?_
          rw [HMY.out]
          rintro e w1 ⟨rfl, hb1⟩
          replace b0 := (hb1.cell (p := ⟨bb, bo, none⟩) lb).trans b0
          replace b1 := (hb1.cell (p := ⟨bb, bo + 1, none⟩) lb).trans b1
          replace b2 := (hb1.cell (p := ⟨bb, bo + 2, none⟩) lb).trans b2
          replace lb := Nat.lt_of_lt_of_le lb hb1.size
          have y0 := HI.out.box.keep hb1 l0
          have ly0 := y0.lt
          have HB1 := Lib.hid hb1; clear hb1
          clear c0 c1 c2 a0 a1 a2
          obtain ⟨c0, c1, c2⟩ := y0.three
          have hb5 : Below wr.heap.size wr (w1.alloc (.cells #[.slice (some ⟨ab, ao, none⟩) 1 c', .int .i64 0, .map none] 142)).drew := (HB1.out.alloc HB1.out.size _).drew
          obtain ⟨W5, hW5⟩ : ∃ W5, (w1.alloc (.cells #[.slice (some ⟨ab, ao, none⟩) 1 c', .int .i64 0, .map none] 142)).drew = W5 := ⟨_, rfl⟩
          have bx5 : Box W5 w1.heap.size 142 #[.slice (some ⟨ab, ao, none⟩) 1 c', .int .i64 0, .map none] := by rw [← hW5]; exact Box.new w1 _ _
          have sz1 := HB1.out.size
          have szf := HI.out.fr.size
          rw [hW5] at hb5
          have hYX : ∀ b, YX X w b → b < wr.heap.size := fun b e => by
            rcases e with e | e | e
            · have := HBN.out b e; omega
            · omega
            · omega
          have adv5 : Adv (YX X w) wr (fun b => YX X w b ∨ b = w1.heap.size) W5 := ⟨hb5.size, fun _ h => .inl h, fun b hl e => by
            rcases e with e | e
            · exact e
            · omega, fun b hl _ => hb5.block b hl⟩
          have lo1 := HI.out.lo
          have hi1 := HI.out.hi
          have hAC := HAP.out [a] 0 0 x n1 (.agg #[.int .i64 bk, .int .i64 bh, .slice bA bn bc]) W5 pw w1.heap.size (fun b => YX X w b ∨ b = w1.heap.size) (some ⟨ab, ao, none⟩) 1 c' (.map none) (by have := HF.out; omega) (Nat.zero_le _) hi1
            ⟨fun t ht => by rw [List.mem_singleton.1 ht]; exact HMY.out, fun t ht => by rw [List.mem_singleton.1 ht]; exact (HI.out.wa a (List.mem_cons_self ..)).ok, by omega, by omega⟩
            (by rw [Int.sub_zero]; exact HI.out.wt.args (List.mem_cons_self ..)) (by have h1 := HI.out.nt; rw [nd, ndL] at h1; omega) (.inl (.inl HX.out)) (by omega) (HI.out.wk.keep hb5 lw)
            ⟨bx5, .inr rfl, fun b e => by
              rcases e with e | e
              · exact Nat.lt_of_lt_of_le (hYX b e) hb5.size
              · rw [e]; exact bx5.lt, (HI.out.ra.head (by omega)).adv adv5, .inl rfl⟩ (RX.adv HBR.out adv5)
          rw [show ((0 : Nat) : Int) = 0 from rfl] at hAC
          have HAC := Lib.hid hAC; clear hAC
          cases hres : ap f [a] 0 0 x n1 with
          | error ec =>
            rw [hres] at HAC
            have heq : sp f (.node 3 h' [x]) (a :: bs) n1 = .error ec := by rw [sp, spL, if_pos rfl, if_pos HMY.out]; simp only [List.headD_cons]; rw [hres]
            have HERR : Hid (∀ w8, Fr (fun k => k = pw ∨ k = w1.heap.size ∨ Value.map none = .map (some k)) W5 w8 → PEnd pw X w (sp f t args n) (.panicked (stopC ec)) w8) := Lib.hid fun w8 h2 => by
              rw [HI.out.eq, heq]
              refine ⟨rfl, (HI.out.fr.then hb5).trans h2 fun i hi e => ?_⟩
              rcases e with e | e | e
              · exact e
              · omega
              · cases e
            clear hres heq adv5 hYX bx5 y0 hb5
            rw [← hW5] at HAC HERR
            clear hW5
            go_wp2_with fail
            go_region_with
              (first
                | (go_at_call 118
                   with_reducible refine HAC.out.mono ?_
                   rintro e w8 ⟨rfl, hfr⟩
                   suffices hfk : wpAny Tryz.prog .any #[] (fun _ _ _ => True) 0 #[] { tmps := #[], defers := [] } w8 from ⟨rfl, HERR.out _ hfr⟩))
            all_goals trivial
          | ok p =>
            obtain ⟨t2, n2⟩ := p
            rw [hres] at HAC
            have heq : sp f (.node 3 h' [x]) (a :: bs) n1 = sp f t2 bs n2 := by rw [sp, spL, if_pos rfl, if_pos HMY.out]; simp only [List.headD_cons]; rw [hres]
            have hgood := ap_good f [a] 0 0 x n1 (Nat.zero_le _) hi1 ⟨fun t ht => by rw [List.mem_singleton.1 ht]; exact HMY.out, fun t ht => by rw [List.mem_singleton.1 ht]; exact (HI.out.wa a (List.mem_cons_self ..)).ok, by omega, by omega⟩ (by rw [Int.sub_zero]; exact HI.out.wt.args (List.mem_cons_self ..)) t2 n2 hres
            have HG := Lib.hid hgood; clear hgood
            have HE := Lib.hid heq; clear heq hres
            have HFR : Hid (∀ w9, Fr (fun k => k = pw ∨ k = w1.heap.size ∨ Value.map none = .map (some k)) W5 w9 → Fr (fun k => k = pw) wr w9) := Lib.hid fun w9 h2 => (Fr.below (X := fun k => k = pw) hb5).trans h2 fun i hi e => by
              rcases e with e | e | e
              · exact e
              · omega
              · cases e
            have hsz5 : w1.heap.size < W5.heap.size := bx5.lt
            clear adv5 hYX bx5 y0 hb5
            rw [← hW5] at HAC HFR hsz5
            clear hW5
            go_wp2_with fail
            go_region_with
              (first
                | (go_at_call 118
                   with_reducible refine HAC.out.mono ?_
                   rintro e w9 ⟨k3, h3, A3, n3, c3, X3, mv3, rfl, hrx, hsc, hst, hwk⟩
                   have hfr9 := HFR.out _ hst.fr
                   have z0 := HI.out.box.fr hfr9 (by omega)
                   have z1 := HI.out.res.fr hfr9 (by omega)
                   have HH := Lib.hid (And.intro hrx (And.intro hst (And.intro hwk (And.intro hfr9 (And.intro z0 z1)))))
                   clear hrx hsc hst hwk hfr9 c0 c1 c2 b0 b1 b2
                   obtain ⟨c0, c1, c2⟩ := z0.three
                   have g0 := z0.frozen 0
                   have g1 := z0.frozen 1
                   have g2 := z0.frozen 2
                   clear z0 z1))
            all_goals
              go_wp2_with fail
              obtain ⟨hrx, hst, hwk, hfr9, z0, z1⟩ := HH.out
              obtain ⟨q1, q2, q3, q4⟩ := HG.out
              have advs : Adv (YX X w) w9 (YX X w) (((w9.setCell ⟨w.heap.size, 0, none⟩ (.int .i64 k3)).setCell ⟨w.heap.size, 1, none⟩ (.int .i64 h3)).setCell ⟨w.heap.size, 2, none⟩ (.slice A3 n3 c3)) := Adv.set3 (.inr (.inl rfl)) _ _ _
              refine ⟨⟨t2, bs, n2, k3, h3, A3, n3, c3, _, m' - 1, c' - 1, rfl, Lib.hid ⟨z0.put3 _ _ _, z1.other3 (by omega) _ _ _, ?_, ?_, ?_, hwk.other3 (by omega) _ _ _, by omega, q2, q3, fun b hb => (HI.out.wa b (List.mem_cons_of_mem _ hb)).mono (bt_mono q1), by omega, ?_, HI.out.eq.trans HE.out⟩⟩, by simp [lenV]; omega⟩
              · exact RX.adv (RX.mono hrx fun i _ e => hst.adv.more i (.inl e)) advs
              · refine RXL.adv (w := w9) (X := YX X w) ?_ advs
                have hra := HI.out.ra.adv (Adv.fr (X := YX X w) hfr9 fun i _ e => by subst e; exact .inl HX.out)
                by_cases hc1 : c' = 1
                · have hbs : bs = [] := by have h1 := HI.out.ra.len; have : m' = 1 := by omega
                                           rw [this] at h1; simpa using h1
                  subst hbs
                  obtain rfl : m' = 1 := by omega
                  exact RXL.nil _ (by unfold maxLen; omega)
                · rw [if_neg hc1]
                  obtain ⟨m2, rfl⟩ : ∃ m2, m' = m2 + 1 := ⟨m' - 1, by omega⟩
                  obtain ⟨c2, rfl⟩ : ∃ c2, c' = c2 + 1 := ⟨c' - 1, by omega⟩
                  exact hra.tail
              · exact (HI.out.fr.trans hfr9 fun i _ e => e).set3 (fun h => absurd h (Nat.lt_irrefl _)) _ _ _
              · have h1 := HI.out.na; rw [ndL] at h1; omega
      · have e3 : (k' == 3) = false := by simpa using hk3
        by_cases hk2 : k' = 4 ∨ k' = 5 ∨ k' = 2
        · have heq : sp f (.node k' h' xs) (a :: bs) n1 = .ok (.node k' h' (xs ++ a :: bs), n1) := by rw [sp, spL, if_neg hk3, if_pos hk2]
          have HE := Lib.hid heq; clear heq hk3
          have hb5 : Below wr.heap.size wr (wr.alloc (.cells #[.slice At' nt' ct', .slice (some ⟨ab, ao, none⟩) m' c'] 24)).drew := ((Below.refl _ _).alloc (Nat.le_refl _) _).drew
          have l0 := HI.out.box.lt
          have l1 := HI.out.res.lt
          have hsum : nt' + m' ≤ 3518437208780 := by
            have h1 := HI.out.nt
            have h2 := HI.out.na
            rw [nd] at h1
            have h3 := (wdL_nd xs).2
            have h4 := (wdL_nd (a :: bs)).2
            have h5 := HL.out
            have h6 := HI.out.ra.len
            omega
          have HCC : Hid (Calls Tryz.prog 38 #[.slice (some ⟨wr.heap.size, 0, none⟩) 2 2] (wr.alloc (.cells #[.slice At' nt' ct', .slice (some ⟨ab, ao, none⟩) m' c'] 24)).drew (CEnd (YX X w) (xs ++ a :: bs) (nt' + m') (wr.alloc (.cells #[.slice At' nt' ct', .slice (some ⟨ab, ao, none⟩) m' c'] 24)).drew)) := Lib.hid (by
            have bx := Box.new wr 24 #[.slice At' nt' ct', .slice (some ⟨ab, ao, none⟩) m' c']
            refine concatC (RXL.adv ⟨HL.out, hnc, hcm, HXS.out⟩ (Adv.below hb5)) (HI.out.ra.adv (Adv.below hb5)) (fun b e => ?_) (bx.cell 0) (bx.cell 1) (by omega) hsum
            have := hb5.size
            rcases e with e | e | e
            · have := HBN.out b e; have := HI.out.fr.size; omega
            · omega
            · omega)
          have HKS : Hid (∀ w', Below wr.heap.size wr w' → (w'.cell? ⟨w.heap.size, 0, none⟩ = some (.int .i64 k') ∧ w'.cell? ⟨w.heap.size, 1, none⟩ = some (.int .i64 h') ∧ w'.cell? ⟨w.heap.size, 2, none⟩ = some (.slice At' nt' ct'))) := Lib.hid fun w' h => (HI.out.box.keep h l0).three
          have hcur : Below wr.heap.size wr wr.drew := (Below.refl _ _).drew
          have hcur2 := hb5
          have HB5 := Lib.hid hb5; clear hb5
          have e4 : (k' == 4) = true ∨ (k' == 4) = false ∧ (k' == 5) = true ∨ (k' == 4) = false ∧ (k' == 5) = false ∧ (k' == 2) = true := by simp; omega
          clear hk2
          rcases e4 with e4 | ⟨e4, e5⟩ | ⟨e4, e5, e6⟩
          all_goals
            go_wp2_with fail
            go_region_held3 (fun w' => w'.cell? ⟨w.heap.size, 0, none⟩ = some (.int .i64 k') ∧ w'.cell? ⟨w.heap.size, 1, none⟩ = some (.int .i64 h') ∧ w'.cell? ⟨w.heap.size, 2, none⟩ = some (.slice At' nt' ct'))
              (first | exact HKS.out _ hcur | exact HKS.out _ hcur2 | exact HFIN.out | exact HFIN3.out)
              (first
                | (go_at_call 38
                   with_reducible refine HCC.out.mono ?_
                   rintro e w9 ⟨A9, c9, rfl, hrx, hb9⟩
                   have hb09 := HB5.out.trans (hb9.mono HB5.out.size)
                   have y0 := HI.out.box.keep hb09 l0
                   have y1 := HI.out.res.keep hb09 l1
                   have HFIN := Lib.hid y0.three
                   have HFIN3 := Lib.hid ((y0.other3 (a := w.heap.size + 1) (by omega) (.int .i64 k') (.int .i64 h') (.slice A9 (nt' + m') c9)).three)
                   have HRX := Lib.hid hrx
                   have HB09 := Lib.hid hb09
                   clear hb9 hrx hb09
                   obtain ⟨r0, r1, r2⟩ := y1.three
                   have f0 := y1.frozen 0
                   have f1 := y1.frozen 1
                   have f2 := y1.frozen 2))
            go_wp2_with fail
            refine bodyPost_ret (v := .agg #[.int .i64 k', .int .i64 h', .slice A9 (nt' + m') c9]) (by simp [results, Tryz.results126, go_sem, r0, r1, r2]) rfl ?_
            exact HI.out.done lpw (HI.out.fr.then HB09.out) (HI.out.wk.keep HB09.out HI.out.wk.lt) (RdF_node.2 ⟨_, _, _, rfl, HWF.out.1, HWF.out.2, HRX.out.len, HRX.out.le, HRX.out.cap, HRX.out.at_⟩) HE.out
        · have e4 : (k' == 4) = false := by simp; omega
          have e5 : (k' == 5) = false := by simp; omega
          have e2 : (k' == 2) = false := by simp; omega
          have heq : sp f (.node k' h' xs) (a :: bs) n1 = .error 3 := by rw [sp, spL, if_neg hk3, if_neg hk2]
          have HE := Lib.hid heq; clear heq hk3 hk2
          go_wp2_with fail
          refine ⟨rfl, ?_⟩
          rw [HI.out.eq, HE.out]
          exact ⟨rfl, HI.out.fr⟩
end Go.Proofs.YtbbjjdnnlnabaaaGreat
