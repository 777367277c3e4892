/-
  Contracts of the document's own Up and Down, and that they tell what package shift's do.
-/
import Derived.Test.YtinjeocfnhhlmaaRr
import Derived.Test.YtinjeocfnhhlmaaSn
namespace Go.Proofs.Ytinjeocfnhhlmaa
open Go.ChangeShapes Go.WideShapes Go.ChangeAt Go.RowKit
set_option linter.unusedVariables false

/-- what the document's Up and Down tell -/
def rupX (t : T) (b f : Int) : T := if (mvB b f && mayB t) = true then upW b t f else upW 0 t 0
def rdnX (t : T) (b f : Int) : Option T := if (mvB b f && mayB t) = true then dnW b t f else none

/-! ### They are the same -/
mutual
theorem upW_eq {M b : Int} (hM : M ≤ 1125899906842624) (hb : 0 ≤ b ∧ b ≤ 1048576) : ∀ (t : T) (f : Int), okT M t → 0 ≤ f → f + nd t ≤ 1099511627776 → upW b t f = upT b t f
  | .node k h xs, f, ho, hf, hn => by
    rw [okT] at ho
    rw [nd] at hn
    rw [upW, upT, upWL_eq hM hb k _ xs 0 f ho.2 hf (by omega)]
    by_cases hc : k = 4 ∧ f ≤ h
    · have := ho.1 hc.1
      rw [if_pos hc, if_pos hc, wrap_small (by omega) (by omega)]
    · rw [if_neg hc, if_neg hc]
theorem upWL_eq {M b : Int} (hM : M ≤ 1125899906842624) (hb : 0 ≤ b ∧ b ≤ 1048576) (k : Int) (n : Nat) : ∀ (xs : List T) (i : Nat) (f : Int), okL M xs → 0 ≤ f → f + 1 + ndL xs ≤ 1099511627776 → upWL b k n xs i f = upL b k n xs i f
  | [], _, _, _, _, _ => by rw [upWL, upL]
  | t :: ts, i, f, ho, hf, hn => by
    rw [okL] at ho
    rw [ndL] at hn
    have hbd := bd_cases k n i
    rw [upWL, upL, wrap_small (by omega) (by omega), upW_eq hM hb t _ ho.1 (by omega) (by omega), upWL_eq hM hb k n ts (i + 1) f ho.2 hf (by omega)]
end
mutual
theorem dnW_eq {M b : Int} (hM : M ≤ 1125899906842624) (hb : 0 ≤ b ∧ b ≤ 1048576) : ∀ (t : T) (f : Int), okT M t → 0 ≤ f → f + nd t ≤ 1099511627776 → dnW b t f = dnT b t f
  | .node k h xs, f, ho, hf, hn => by
    rw [okT] at ho
    rw [nd] at hn
    rw [dnW, dnT, dnWL_eq hM hb k _ xs 0 f ho.2 hf (by omega), wrap_small (x := f + b) (by omega) (by omega)]
    by_cases hc : k = 4 ∧ f ≤ h ∧ h < f + b
    · rw [if_pos hc, if_pos hc]
    · rw [if_neg hc, if_neg hc]
      by_cases hd : k = 4 ∧ f ≤ h
      · have := ho.1 hd.1
        rw [if_pos hd, if_pos hd, wrap_small (by omega) (by omega)]
      · rw [if_neg hd, if_neg hd]
theorem dnWL_eq {M b : Int} (hM : M ≤ 1125899906842624) (hb : 0 ≤ b ∧ b ≤ 1048576) (k : Int) (n : Nat) : ∀ (xs : List T) (i : Nat) (f : Int), okL M xs → 0 ≤ f → f + 1 + ndL xs ≤ 1099511627776 → dnWL b k n xs i f = dnL b k n xs i f
  | [], _, _, _, _, _ => by rw [dnWL, dnL]
  | t :: ts, i, f, ho, hf, hn => by
    rw [okL] at ho
    rw [ndL] at hn
    have hbd := bd_cases k n i
    rw [dnWL, dnL, wrap_small (by omega) (by omega), dnW_eq hM hb t _ ho.1 (by omega) (by omega), dnWL_eq hM hb k n ts (i + 1) f ho.2 hf (by omega)]
end
theorem list_same {g : Nat → T → T} : ∀ (xs : List T) (i : Nat) (F : List T → Nat → List T), (∀ t ts i, F (t :: ts) i = g i t :: F ts (i + 1)) → (∀ i, F [] i = []) → (∀ t ∈ xs, ∀ i, g i t = t) → F xs i = xs
  | [], i, F, _, h0, _ => h0 i
  | t :: ts, i, F, h1, h0, hg => by rw [h1, hg t (List.mem_cons_self ..), list_same ts (i + 1) F h1 h0 fun u hu => hg u (List.mem_cons_of_mem _ hu)]
/-- up by 0 is a copy -/
theorem upW_zero {w : World} (t : T) : ∀ (v : Value) (f : Int), Rd w t v → upW 0 t f = t := by
  induction t using T.ind with
  | step k h xs ih =>
    intro v f hv
    obtain ⟨A, n, c, rfl, hk, hh, hn, hc, hm, hx⟩ := Rd_node.1 hv
    have e : upWL 0 k xs.length xs 0 f = xs := by
      refine list_same (g := fun i t => upW 0 t (wrap64 (f + bd k xs.length i))) xs 0 (fun l i => upWL 0 k xs.length l i f) (fun t ts i => by rw [upWL]) (fun i => by rw [upWL]) fun t ht i => ?_
      obtain ⟨q, hq⟩ := List.getElem?_of_mem ht
      obtain ⟨b, o, v0, v1, v2, rfl, c0, c1, c2, hr⟩ := hx q t hq
      exact ih t ht _ _ hr
    rw [upW, e, Int.add_zero, wf_wrap hh]
    split <;> rfl

theorem rup_eq {t : T} {b f s d : Int} {w : World} {v : Value} (hv : Rd w t v) (hn : nd t ≤ 1048576) (hl : ltB t s d = true) : rupX t b f = upX t b f := by
  rw [rupX]
  by_cases hc : (mvB b f && mayB t) = true
  · rw [if_pos hc]
    rw [Bool.and_eq_true, mvB_iff] at hc
    have ho := okT_of t ((mayB_iff hn).1 hc.2).1 (low_of hl)
    rw [upX_eq (by omega) ho hn hc.2 hc.1.1 hc.1.2, upW_eq (by omega) hc.1.1 t f ho hc.1.2.1 (by omega)]
  · rw [if_neg hc, upX, if_neg hc, upW_zero t v 0 hv]
theorem rdn_eq {t : T} {b f s d : Int} (hn : nd t ≤ 1048576) (hl : ltB t s d = true) : rdnX t b f = dnX t b f := by
  rw [rdnX]
  by_cases hc : (mvB b f && mayB t) = true
  · rw [if_pos hc]
    rw [Bool.and_eq_true, mvB_iff] at hc
    have ho := okT_of t ((mayB_iff hn).1 hc.2).1 (low_of hl)
    rw [dnX_eq (by omega) ho hn hc.2 hc.1.1 hc.1.2, dnW_eq (by omega) hc.1.1 t f ho hc.1.2.1 (by omega)]
  · rw [if_neg hc, dnX, if_neg hc]

/-! ### The document's Up and Down -/
set_option maxRecDepth 100000 in
set_option maxHeartbeats 4000000 in
theorem refUpC (t : T) (b f : Int) (v : Value) (w : World) (hv : Rd w t v) (hs : nd t ≤ 1048576) : Calls Try.prog 95 #[v, .int .i64 b, .int .i64 f] w (FEnd (rupX t b f) w) := by
  obtain ⟨k, h, A, n, c, rfl⟩ := hv.full
  have HV := Lib.hid hv; clear hv
  obtain ⟨W, hW⟩ : ∃ W, (w.alloc (.cells #[.int .i64 k, .int .i64 h, .slice A n c] 24)).alloc (.cells #[.int .i64 0, .int .i64 0, .slice none 0 0] 24) = W := ⟨_, rfl⟩
  have hb : Below w.heap.size w W := by rw [← hW]; exact ((Below.refl _ _).alloc (Nat.le_refl _) _).alloc (by simp) _
  have xT : Box W w.heap.size 24 #[.int .i64 k, .int .i64 h, .slice A n c] := by rw [← hW]; exact (Box.new _ _ _).alloc _
  have xR : Box W (w.heap.size + 1) 24 #[.int .i64 0, .int .i64 0, .slice none 0 0] := by rw [← hW]; exact (Box.new (w.alloc _) _ _).at (by simp)
  have HWW := Lib.hid hW; clear hW
  have HU : Hid (rupX t b f = if (mvB b f && mayB t) = true then upW b t f else upW 0 t 0) := Lib.hid rfl
  go_enter Try.func95, Try.ntmps95
  go_wp2_with fail
  rw [HWW.out]
  clear HWW
  refine (refMay2 t b f _ _ (Rd.keep hb _ _ HV.out)).mono ?_
  generalize (mvB b f && mayB t) = M at *
  rintro e w1 ⟨rfl, hb1⟩
  replace xT := xT.keep hb1 xT.lt
  replace xR := xR.keep hb1 xR.lt
  replace hb := hb.trans (hb1.mono hb.size)
  clear hb1
  obtain ⟨c0, c1, c2⟩ := xT.three
  cases M
  · go_wp2_with fail
    refine (refUp t 0 0 _ _ (Rd.keep hb _ _ HV.out) hs).mono ?_
    rintro e w2 ⟨v2, rfl, hrf, hb2⟩
    obtain ⟨k3, h3, A3, n3, c3, rfl⟩ := hrf.full
    have lR := xR.lt
    have zR := xR.keep hb2 lR
    have sz := hb.size
    have HB := Lib.hid (hb.trans (hb2.mono hb.size))
    have HW := Lib.hid hrf; clear hrf hb2
    obtain ⟨r0, r1, r2⟩ := zR.three
    have f0 := zR.frozen 0
    have f1 := zR.frozen 1
    have f2 := zR.frozen 2
    go_wp2_with fail
    refine bodyPost_ret (v := .agg #[.int .i64 k3, .int .i64 h3, .slice A3 n3 c3]) (by simp [results, Try.results95, go_sem, r0, r1, r2]) rfl ?_
    refine ⟨_, rfl, ?_, below_set3 HB.out (by omega) _ _ _⟩
    rw [HU.out, if_neg (by simp)]
    exact RdF.move (fun g hg => ⟨by omega, by simpa using hg.2⟩) (fun g hg _ => heap_other3 _ _ _ _ _ _ (by omega)) _ _ HW.out
  · go_wp2_with fail
    refine (refUp t b f _ _ (Rd.keep hb _ _ HV.out) hs).mono ?_
    rintro e w2 ⟨v2, rfl, hrf, hb2⟩
    obtain ⟨k3, h3, A3, n3, c3, rfl⟩ := hrf.full
    have lR := xR.lt
    have zR := xR.keep hb2 lR
    have sz := hb.size
    have HB := Lib.hid (hb.trans (hb2.mono hb.size))
    have HW := Lib.hid hrf; clear hrf hb2
    obtain ⟨r0, r1, r2⟩ := zR.three
    have f0 := zR.frozen 0
    have f1 := zR.frozen 1
    have f2 := zR.frozen 2
    go_wp2_with fail
    refine bodyPost_ret (v := .agg #[.int .i64 k3, .int .i64 h3, .slice A3 n3 c3]) (by simp [results, Try.results95, go_sem, r0, r1, r2]) rfl ?_
    refine ⟨_, rfl, ?_, below_set3 HB.out (by omega) _ _ _⟩
    rw [HU.out, if_pos (by trivial)]
    exact RdF.move (fun g hg => ⟨by omega, by simpa using hg.2⟩) (fun g hg _ => heap_other3 _ _ _ _ _ _ (by omega)) _ _ HW.out


/-! ### What Down tells, a term or noughts -/
def nought : T := .node 0 0 []
theorem rd_nought (w : World) : Rd w nought (.agg #[.int .i64 0, .int .i64 0, .slice none 0 0]) :=
  Rd_node.2 ⟨none, 0, 0, rfl, by decide, by decide, rfl, Nat.le_refl _, Nat.zero_le _, fun i t h => by simp at h⟩
theorem REnd.tells {o : Option T} {w w' : World} {e : Ending} (h : REnd o w e w') : ∃ k h A n c, e = .returned (.tuple #[.agg #[.int .i64 k, .int .i64 h, .slice A n c], .bool o.isSome]) ∧ Rd w' (o.getD nought) (.agg #[.int .i64 k, .int .i64 h, .slice A n c]) ∧ Below w.heap.size w w' := by
  obtain ⟨k, h', A, n, c, bo, rfl, hout, hb⟩ := h.uni
  rcases hout with ⟨t, rfl, rfl, how⟩ | ⟨rfl, rfl, hv⟩
  · exact ⟨k, h', A, n, c, rfl, RdF.rd _ _ how.rdF, hb⟩
  · exact ⟨k, h', A, n, c, rfl, by rw [hv]; exact rd_nought _, hb⟩
theorem DEnd.tells {o : Option T} {w w' : World} {e : Ending} (h : DEnd o w e w') : ∃ k h A n c, e = .returned (.tuple #[.agg #[.int .i64 k, .int .i64 h, .slice A n c], .bool o.isSome]) ∧ Rd w' (o.getD nought) (.agg #[.int .i64 k, .int .i64 h, .slice A n c]) ∧ Below w.heap.size w w' := by
  obtain ⟨k, h', A, n, c, bo, rfl, hout, hb⟩ := h
  rcases hout with ⟨t, rfl, rfl, how⟩ | ⟨rfl, rfl, hv⟩
  · exact ⟨k, h', A, n, c, rfl, RdF.rd _ _ how, hb⟩
  · exact ⟨k, h', A, n, c, rfl, by rw [hv]; exact rd_nought _, hb⟩
end Go.Proofs.Ytinjeocfnhhlmaa
