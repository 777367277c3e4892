/-
  The walk of the law SubstApplies.
-/
import Derived.Test.YtinjeocfnhhlmaaTo
import Derived.Test.YtinjeocfnhhlmaaOl
namespace Go.Proofs.Ytinjeocfnhhlmaa
open Go.ChangeShapes Go.WideShapes Go.ChangeAt Go.RowKit Go.Deep
set_option linter.unusedVariables false
section
variable {H : Type} {enc : TypeId × Value → H} {w : World} {base : Nat} {spare : Nat → Bool} {held : Bool}

set_option maxRecDepth 100000 in
theorem trod_terms {fuel : Nat} {v : Value} {x : DataW H × List MemPlace} (hf : DataW.trod enc Try.prog w base spare held fuel 22 [v] = some x) :
    ∃ (xs : List T) (A : Option Addr) (n c : Nat), v = .slice A n c ∧ xs.length = n ∧ n ≤ c ∧ c ≤ maxLen ∧ (∀ i t, xs[i]? = some t → RdAt w A i t) ∧ ndL xs ≤ Rows.uptoBulk x.1 := by
  rcases DataW.trod_slice Try.underlying22 hf with ⟨e2, hy2⟩ | ⟨a, len, cap, elems, rest, m, rfl, e2, hy2, hb, hlc, hm, hel, hat, _, _⟩
  · simp only [List.cons.injEq, and_true] at e2
    exact ⟨[], none, 0, 0, e2, rfl, Nat.le_refl _, Nat.zero_le _, fun i t ht => by simp at ht, by simp [ndL]⟩
  · simp only [List.cons.injEq, and_true] at e2
    rw [e2]
    have each : ∀ i, i < len → ∃ t : T, ∃ d, (elems.map (·.1))[i]? = some d ∧ nd t ≤ Rows.uptoBulk d ∧ ((∀ n ∈ d.weights Try.prog 24, n ≤ reachBytes) → wd t ≤ 3518437208780) ∧ RdAt w (some a) i t := by
      intro i hi
      have hi' := hat i hi
      rw [List.getElem?_eq_getElem (by omega), Option.bind_eq_some_iff] at hi'
      obtain ⟨cs', hcs, htr⟩ := hi'
      obtain ⟨t, u0, u1, u2, rfl, hr, hle, hwt⟩ := trod_term m cs' _ htr
      rw [Try.cellsTerm] at hcs
      obtain ⟨_, _, hcell⟩ := World.cells?_some hcs
      have c0 := hcell 0 (by omega)
      have c1 := hcell 1 (by omega)
      have c2 := hcell 2 (by omega)
      simp only [List.getElem?_cons_zero, List.getElem?_cons_succ, add_add, Nat.add_zero] at c0 c1 c2
      have hs : a.spot = none := by
        have := cell_spot c0
        unfold Addr.add at this
        split at this
        · exact this
        · rename_i h3
          -- the first entry's address has the same spot
          have h0' := hat 0 (by omega)
          rw [List.getElem?_eq_getElem (by omega), Option.bind_eq_some_iff] at h0'
          obtain ⟨cs0, hcs0, _⟩ := h0'
          rw [Try.cellsTerm] at hcs0
          obtain ⟨_, hl0, hcell0⟩ := World.cells?_some hcs0
          have := hcell0 0 (by omega)
          rw [List.getElem?_eq_getElem (by omega)] at this
          have := cell_spot this
          simpa [Addr.add] using this
      obtain ⟨b, o, s⟩ := a
      dsimp only at hs
      subst hs
      rw [addr_add] at c0 c1 c2
      refine ⟨t, _, by rw [List.getElem?_map, List.getElem?_eq_getElem (by omega)]; rfl, hle, hwt, b, o, u0, u1, u2, rfl, c0, ?_, ?_, hr⟩
      · rw [Nat.add_assoc]; exact c1
      · rw [Nat.add_assoc]; exact c2

    obtain ⟨xs, hxl, hxs⟩ := list_of len each
    refine ⟨xs, some a, len, cap, rfl, hxl, hlc, hm, fun i t ht => by obtain ⟨_, _, _, _, hr⟩ := hxs i t ht; exact hr, ?_⟩
    have hge := bulk_ge xs (elems.map (·.1)) fun i t ht => by
      obtain ⟨d, hd, hle, _, _⟩ := hxs i t ht
      exact ⟨d, hd, hle⟩
    rw [hy2]
    simp only [Rows.uptoBulk]
    omega

set_option maxRecDepth 100000 in
theorem open_subst {r : Reach} {b0 : Nat} {v : Value} {d : DataW H} {p : List MemPlace} (hv : Value.okWide Try.prog w r b0 45 v) (h : DataW.Trod enc Try.prog w base spare held 45 v d p) :
    ∃ (xs : List T) (A : Option Addr) (n c : Nat) (s : Int), v = .agg #[.slice A n c, .int .i64 s] ∧ xs.length = n ∧ n ≤ c ∧ c ≤ maxLen ∧ (∀ i t, xs[i]? = some t → RdAt w A i t) ∧ ndL xs ≤ Rows.uptoBulk d := by
  obtain ⟨cs0, rfl, _⟩ := okWide_struct Try.underlying45 hv
  obtain ⟨fuel, hf⟩ := h
  obtain ⟨ys, n, rfl, hxe, hl, hyl, hff⟩ := DataW.trod_struct Try.underlying45 hf
  have hcl : Try.prog.cellsOf 45 = 2 := by kernel_rfl
  rw [hcl] at hl
  obtain ⟨cs, hcs⟩ : ∃ cs, Value.cells (.agg cs0) = cs := ⟨_, rfl⟩
  match hq : (Value.cells (.agg cs0)).toList, ys, hyl with
  | [v0, v1], [y0, y1], _ =>
    rw [hq] at hff
    have h0 : DataW.trod enc Try.prog w base spare held n 22 (([v0, v1].drop 0).take (Try.prog.cellsOf 22)) = some y0 := hff 0 _ rfl
    have h1 : DataW.trod enc Try.prog w base spare held n 3 (([v0, v1].drop 1).take (Try.prog.cellsOf 3)) = some y1 := hff 1 _ rfl
    simp only [Try.cellsInt, Try.cellsArgs, List.drop_zero, List.drop_succ_cons, List.take_succ_cons, List.take_zero] at h0 h1
    obtain ⟨s, e1, _, _⟩ := DataW.trod_int Try.underlying3 h1
    obtain ⟨xs, A, n', c, rfl, q1, q2, q3, q4, q5⟩ := trod_terms h0
    simp only [List.cons.injEq, and_true] at e1
    subst e1
    have e : cs0 = #[.slice A n' c, .int .i64 s] := by
      cases cs0
      simpa [Value.cells] using hq
    refine ⟨xs, A, n', c, s, by rw [e], q1, q2, q3, q4, ?_⟩
    have hd : d = .agg [y0.1, y1.1] := congrArg Prod.fst hxe
    rw [hd]
    simp only [Rows.uptoBulk, Rows.uptoBulkAll]
    omega
  | [], _, _ => rw [hq] at hl; simp at hl
  | [_], _, _ => rw [hq] at hl; simp at hl
  | _ :: _ :: _ :: _, _, _ => rw [hq] at hl; simp at hl
end

theorem lo_may {t : T} {s d : Int} (h : ltB t s d = true) : myB t = true → LoT t := fun hm => okT_mono (by omega) _ (okT_of t ((myB_iff t).1 hm).1 (low_of h))

set_option maxRecDepth 100000 in
set_option maxHeartbeats 8000000 in
theorem substAppliesC (t : T) (L : List T) (Al : Option Addr) (nl cl : Nat) (sh : Int) (v : Value) (w : World) (hvt : Rd w t v) (hn : L.length = nl) (hc : nl ≤ cl) (hm : cl ≤ maxLen) (hx : ∀ i t, L[i]? = some t → RdAt w Al i t) (hnt : nd t ≤ 1048576) (hnL : ndL L ≤ 1048576) :
    Calls Try.prog 15 #[v, .agg #[.slice Al nl cl, .int .i64 sh]] w fun e w' => e = .returned (.bool true) ∧ Below w.heap.size w w' := by
  obtain ⟨kt, ht, At, nt, ct, rfl⟩ := hvt.full
  obtain ⟨W, hW⟩ : ∃ W, (w.alloc (.cells #[.int .i64 kt, .int .i64 ht, .slice At nt ct] 24)).alloc (.cells #[.slice Al nl cl, .int .i64 sh] 45) = W := ⟨_, rfl⟩
  have hb : Below w.heap.size w W := by rw [← hW]; exact ((Below.refl _ _).alloc (Nat.le_refl _) _).alloc (by simp) _
  have x0 : Box W w.heap.size 24 #[.int .i64 kt, .int .i64 ht, .slice At nt ct] := by rw [← hW]; exact (Box.new _ _ _).alloc _
  have x1 : Box W (w.heap.size + 1) 45 #[.slice Al nl cl, .int .i64 sh] := by rw [← hW]; exact (Box.new (w.alloc _) _ _).at (by simp)
  have HW := Lib.hid hW; clear hW
  have HV := Lib.hid hvt; clear hvt
  have HN := Lib.hid hn; clear hn
  have HX := Lib.hid hx; clear hx
  have HMM := Lib.hid hm; clear hm
  have HNL := Lib.hid (show ∀ x ∈ L, nd x ≤ 1048576 from fun x hx => by have := nd_mem hx; omega); clear hnL
  go_enter Try.func15, Try.ntmps15
  go_wp2_with fail
  rw [HW.out]
  clear HW
  refine (awakeU _).mono ?_
  rintro e w1 ⟨rfl, hb1⟩
  replace x0 := x0.keep hb1 x0.lt
  replace x1 := x1.keep hb1 x1.lt
  replace hb := hb.trans (hb1.mono hb.size)
  clear hb1
  obtain ⟨c0, c1, c2⟩ := x0.three
  obtain ⟨d0, d1⟩ := x1.two
  go_wp2_with fail
  refine (fewC t _ L Al nl cl sh _ (Rd.keep hb _ _ HV.out) HN.out hc HMM.out (fun i u hu => RdAt.keep hb (HX.out i u hu))).mono ?_
  generalize hq : fwB t L = F at *
  rintro e w2 ⟨rfl, hb1⟩
  have HQ := Lib.hid hq; clear hq
  clear c0 c1 c2 d0 d1
  replace x0 := x0.keep hb1 x0.lt
  replace x1 := x1.keep hb1 x1.lt
  replace hb := hb.trans (hb1.mono hb.size)
  clear hb1
  cases F
  · go_wp2_with fail
    go_ret
    exact ⟨rfl, hb⟩
  have hlt : ltB t 5000 80 = true ∧ ∀ x ∈ L, ltB x 5000 80 = true := by
    have := HQ.out
    unfold fwB at this
    simp only [Bool.and_eq_true, List.all_eq_true] at this
    exact ⟨this.2.2, this.2.1⟩
  have HLT := Lib.hid hlt; clear hlt HQ
  obtain ⟨c0, c1, c2⟩ := x0.three
  obtain ⟨d0, d1⟩ := x1.two
  have l0 := x0.lt
  have l1 := x1.lt
  go_wp2_with fail
  refine (ApplyC (t := t) (L := L) (sh := sh) (Rd.keep hb _ _ HV.out) HN.out hc HMM.out (fun i u hu => RdAt.keep hb (HX.out i u hu)) (fun h => lo_may HLT.out.1 h) (fun x hx h => lo_may (HLT.out.2 x hx) h)).mono ?_
  rintro e w3 ⟨ka, ha, Aa, na, ca, rfl, hrd, hb1⟩
  have hra := RdF.rd _ _ hrd
  clear hrd c0 c1 c2 d0 d1 l0 l1
  obtain ⟨W3, hW3⟩ : ∃ W3, w3.alloc (.cells #[.int .i64 ka, .int .i64 ha, .slice Aa na ca] 24) = W3 := ⟨_, rfl⟩
  have hbA : Below w3.heap.size w3 W3 := by rw [← hW3]; exact (Below.refl _ _).alloc (Nat.le_refl _) _
  have xa : Box W3 w3.heap.size 24 #[.int .i64 ka, .int .i64 ha, .slice Aa na ca] := by rw [← hW3]; exact Box.new _ _ _
  have hb2 := hb1.trans (hbA.mono hb1.size)
  have HVA := Lib.hid (Rd.keep hbA _ _ hra); clear hra
  have y0 := x0.keep hb2 x0.lt
  have y1 := x1.keep hb2 x1.lt
  have z0 := x0.keep hb1 x0.lt
  have z1 := x1.keep hb1 x1.lt
  have hbB := hb.trans (hb2.mono hb.size)
  obtain ⟨c0, c1, c2⟩ := z0.three
  obtain ⟨d0, d1⟩ := z1.two
  have l0 := z0.lt
  have l1 := z1.lt
  have HW3 := Lib.hid hW3; clear hW3 hbA hb1 hb2 x0 x1 z0 z1
  go_wp2_with fail
  rw [HW3.out]
  clear HW3
  refine (rApplyC (t := t) (L := L) (sh := sh) (Rd.keep hbB _ _ HV.out) HN.out hc HMM.out (fun i u hu => RdAt.keep hbB (HX.out i u hu)) (by omega) (fun x hx => by have := HNL.out x hx; omega) (fun h => lo_may HLT.out.1 h) (fun x hx h => lo_may (HLT.out.2 x hx) h)).mono ?_
  rintro e w5 ⟨kb, hb_, Ab, nb, cb, rfl, hrb, hb1⟩
  clear c0 c1 c2 d0 d1 l0 l1 y0 y1
  obtain ⟨W5, hW5⟩ : ∃ W5, w5.alloc (.cells #[.int .i64 kb, .int .i64 hb_, .slice Ab nb cb] 24) = W5 := ⟨_, rfl⟩
  have hbA : Below w5.heap.size w5 W5 := by rw [← hW5]; exact (Below.refl _ _).alloc (Nat.le_refl _) _
  have hb2 := hb1.trans (hbA.mono hb1.size)
  have HVB := Lib.hid (Rd.keep hbA _ _ hrb); clear hrb
  replace HVA := Lib.hid (Rd.keep hb2 _ _ HVA.out)
  have za := xa.keep hb1 xa.lt
  have hbC := hbB.trans (hb2.mono hbB.size)
  obtain ⟨a0, a1, a2⟩ := za.three
  have la := za.lt
  have HW5 := Lib.hid hW5; clear hW5 hbA hb1 hb2 xa za
  go_wp2_with fail
  rw [HW5.out]
  clear HW5
  refine (refSame (apT t L sh) (apT t L sh) _ _ _ HVA.out HVB.out).mono ?_
  rw [sam_refl]
  rintro e w6 ⟨rfl, hb1⟩
  generalize apE t L sh = E at *
  have dE : decide (E = E) = true := by simp
  go_wp2_with fail
  go_ret
  exact ⟨by simp, hbC.trans (hb1.mono hbC.size)⟩
end Go.Proofs.Ytinjeocfnhhlmaa
