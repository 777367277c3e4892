/-
  The law CheckMore: its walk, and the law, proved whole, for every input.
-/
import Derived.Test.YtigfhhfpdggjfaaPkLvf
import Derived.Test.YtigfhhfpdggjfaaPkVw
import Derived.Test.YtigfhhfpdggjfaaPkVs
import Derived.SizedLaws

/-
  The walk of the law CheckMore.
-/
namespace Go.Proofs.Ytigfhhfpdggjfaa
open Go.ChangeShapes Go.WideShapes Go.ChangeAt Go.RowKit
set_option linter.unusedVariables false

def joV (W W2 : WV) : WV := ⟨W.sg ++ W2.sg, W.ms ++ W2.ms⟩
theorem lo_jo {W W2 : WV} {cx : List T} (L : LoV W cx) (L2 : LoV W2 []) : LoV (joV W W2) cx := ⟨fun t ht => by
    rcases List.mem_append.1 ht with ht | ht
    · exact L.sg t ht
    · exact L2.sg t ht, fun m hm => by
    rcases List.mem_append.1 hm with hm | hm
    · exact L.ms m hm
    · exact L2.ms m hm, L.cx⟩
theorem ck_more {W W2 : WV} {cx : List T} {m a : T} (h : ckT W cx m a = 0) : ckT (joV W W2) cx m a = 0 ∨ ckT (joV W W2) cx m a = 1 := by
  obtain ⟨h1, h2⟩ := ck_ok h
  have ym := (myB_iff m).1 (((mayV_iff W cx [m, a]).1 h1).2.2.1 m (by simp))
  unfold ckT
  split
  · exact Or.inl (tm_more (fr := []) ⟨⟨_, rfl⟩, ⟨_, rfl⟩, Or.inl rfl⟩ m cx a ym.1 h2)
  · exact Or.inr rfl
set_option maxRecDepth 100000 in
set_option maxHeartbeats 16000000 in
theorem checkMoreC (W W2 : WV) (cx : List T) (m a : T) (As : Option Addr) (ns cs : Nat) (Am : Option Addr) (nm cm : Nat) (Ac : Option Addr) (nc cc : Nat) (Bs : Option Addr) (ks es : Nat) (Bm : Option Addr) (km em : Nat) (vm va : Value) (w : World) (hk : CkV w W cx As ns cs Am nm cm Ac nc cc) (hk2 : CkV w W2 [] Bs ks es Bm km em none 0 0) (hvp : Rd w m vm) (hvq : Rd w a va) :
    Calls Try.prog 10 #[.slice As ns cs, .slice Bs ks es, .slice Am nm cm, .slice Bm km em, .slice Ac nc cc, vm, va] w fun e w' => e = .returned (.bool true) ∧ Below w.heap.size w w' := by
  have HK2 := Lib.hid hk2; clear hk2
  obtain ⟨rF, hrF⟩ : ∃ r, fwV W cx ns nm = r := ⟨_, rfl⟩
  obtain ⟨rG, hrG⟩ : ∃ r, fwV W2 [] ks km = r := ⟨_, rfl⟩
  obtain ⟨rm, hrm⟩ : ∃ r, ltB m 400 60 = r := ⟨_, rfl⟩
  obtain ⟨ra, hra⟩ : ∃ r, ltB a 400 60 = r := ⟨_, rfl⟩
  have HRF := Lib.hid hrF; clear hrF
  have HRG := Lib.hid hrG; clear hrG
  have HRm := Lib.hid hrm; clear hrm
  have HRa := Lib.hid hra; clear hra
  obtain ⟨kp, hp, Ap, np, cp, rfl⟩ := hvp.full
  have HVp := Lib.hid hvp; clear hvp
  obtain ⟨kq, hq, Aq, nq, cq, rfl⟩ := hvq.full
  have HVq := Lib.hid hvq; clear hvq
  have HK := Lib.hid hk; clear hk
  obtain ⟨w0, hW⟩ : ∃ w0, ((w.alloc (.cells #[.int .i64 kp, .int .i64 hp, .slice Ap np cp] 26)).alloc (.cells #[.int .i64 kq, .int .i64 hq, .slice Aq nq cq] 26)) = w0 := ⟨_, rfl⟩
  have hb0 : Below w.heap.size w w0 := by rw [← hW]; exact (((Below.refl _ _).alloc (by exact Nat.le_refl _) _).alloc (by simp) _)
  have Xp := Lib.hid (show Box w0 (w.heap.size) 26 #[.int .i64 kp, .int .i64 hp, .slice Ap np cp] by rw [← hW]; exact ((Box.new w _ _).alloc _))
  have Xq := Lib.hid (show Box w0 (w.heap.size + 1) 26 #[.int .i64 kq, .int .i64 hq, .slice Aq nq cq] by rw [← hW]; exact ((Box.new (w.alloc _) _ _).at (by simp)))
  have HB := Lib.hid hb0; clear hb0
  go_enter Try.func10, Try.ntmps10
  go_wp2_with fail
  clear hW
  refine (vAwakeC _).mono ?_
  rintro e w1 ⟨rfl, hb1⟩
  replace Xp := Lib.hid (Xp.out.keep hb1 Xp.out.lt)
  replace Xq := Lib.hid (Xq.out.keep hb1 Xq.out.lt)
  replace HB := Lib.hid (HB.out.trans (hb1.mono HB.out.size))
  clear hb1
  obtain ⟨bp0, bp1, bp2⟩ := Xp.out.three
  obtain ⟨bq0, bq1, bq2⟩ := Xq.out.three
  go_wp2_with fail
  clear bp0 bp1 bp2
  clear bq0 bq1 bq2
  have HC := Lib.hid (vFewC W cx As Am Ac ns cs nm cm nc cc _ (HK.out.keep HB.out))
  rw [HRF.out] at HC
  refine (HC.out).mono ?_
  rintro e w2 ⟨rfl, hb1⟩
  replace Xp := Lib.hid (Xp.out.keep hb1 Xp.out.lt)
  replace Xq := Lib.hid (Xq.out.keep hb1 Xq.out.lt)
  replace HB := Lib.hid (HB.out.trans (hb1.mono HB.out.size))
  clear hb1
  clear HC
  obtain ⟨bp0, bp1, bp2⟩ := Xp.out.three
  obtain ⟨bq0, bq1, bq2⟩ := Xq.out.three
  go_wp2_with fail
  clear bp0 bp1 bp2
  clear bq0 bq1 bq2
  have HC := Lib.hid (vFewC W2 [] Bs Bm none ks es km em 0 0 _ (HK2.out.keep HB.out))
  rw [HRG.out] at HC
  refine (HC.out).mono ?_
  rintro e w3 ⟨rfl, hb1⟩
  replace Xp := Lib.hid (Xp.out.keep hb1 Xp.out.lt)
  replace Xq := Lib.hid (Xq.out.keep hb1 Xq.out.lt)
  replace HB := Lib.hid (HB.out.trans (hb1.mono HB.out.size))
  clear hb1
  clear HC
  obtain ⟨bp0, bp1, bp2⟩ := Xp.out.three
  obtain ⟨bq0, bq1, bq2⟩ := Xq.out.three
  go_wp2_with fail
  clear bp0 bp1 bp2
  clear bq0 bq1 bq2
  have HC := Lib.hid (refLight m 400 60 _ _ (Rd.keep HB.out _ _ HVp.out))
  rw [HRm.out] at HC
  refine (HC.out).mono ?_
  rintro e w4 ⟨rfl, hb1⟩
  replace Xp := Lib.hid (Xp.out.keep hb1 Xp.out.lt)
  replace Xq := Lib.hid (Xq.out.keep hb1 Xq.out.lt)
  replace HB := Lib.hid (HB.out.trans (hb1.mono HB.out.size))
  clear hb1
  clear HC
  obtain ⟨bp0, bp1, bp2⟩ := Xp.out.three
  obtain ⟨bq0, bq1, bq2⟩ := Xq.out.three
  go_wp2_with fail
  clear bp0 bp1 bp2
  clear bq0 bq1 bq2
  have HC := Lib.hid (refLight a 400 60 _ _ (Rd.keep HB.out _ _ HVq.out))
  rw [HRa.out] at HC
  refine (HC.out).mono ?_
  rintro e w5 ⟨rfl, hb1⟩
  replace Xp := Lib.hid (Xp.out.keep hb1 Xp.out.lt)
  replace Xq := Lib.hid (Xq.out.keep hb1 Xq.out.lt)
  replace HB := Lib.hid (HB.out.trans (hb1.mono HB.out.size))
  clear hb1
  clear HC
  obtain ⟨bp0, bp1, bp2⟩ := Xp.out.three
  obtain ⟨bq0, bq1, bq2⟩ := Xq.out.three
  cases rF
  · go_wp2_with fail
    go_ret
    exact ⟨rfl, HB.out⟩
  clear bp0 bp1 bp2
  clear bq0 bq1 bq2
  obtain ⟨bp0, bp1, bp2⟩ := Xp.out.three
  obtain ⟨bq0, bq1, bq2⟩ := Xq.out.three
  cases rG
  · go_wp2_with fail
    go_ret
    exact ⟨rfl, HB.out⟩
  clear bp0 bp1 bp2
  clear bq0 bq1 bq2
  obtain ⟨bp0, bp1, bp2⟩ := Xp.out.three
  obtain ⟨bq0, bq1, bq2⟩ := Xq.out.three
  cases rm
  · go_wp2_with fail
    go_ret
    exact ⟨rfl, HB.out⟩
  clear bp0 bp1 bp2
  clear bq0 bq1 bq2
  obtain ⟨bp0, bp1, bp2⟩ := Xp.out.three
  obtain ⟨bq0, bq1, bq2⟩ := Xq.out.three
  cases ra
  · go_wp2_with fail
    go_ret
    exact ⟨rfl, HB.out⟩
  clear bp0 bp1 bp2
  clear bq0 bq1 bq2
  have hlo := loV_of HRF.out
  have HLO := Lib.hid hlo; clear hlo
  obtain ⟨e1, he1⟩ : ∃ e, ckT W cx m a = e := ⟨_, rfl⟩
  have HC := Lib.hid (vCheckTermC W cx m a As ns cs Am nm cm Ac nc cc _ _ _ (HK.out.keep HB.out) (Rd.keep HB.out _ _ HVp.out) (Rd.keep HB.out _ _ HVq.out) HLO.out (lo_lt HRm.out) (lo_lt HRa.out))
  rw [he1] at HC
  have HE1 := Lib.hid he1; clear he1
  obtain ⟨bp0, bp1, bp2⟩ := Xp.out.three
  obtain ⟨bq0, bq1, bq2⟩ := Xq.out.three
  go_wp2_with fail
  clear bp0 bp1 bp2
  clear bq0 bq1 bq2
  refine (HC.out).mono ?_
  rintro e w6 ⟨rfl, hb1⟩
  replace Xp := Lib.hid (Xp.out.keep hb1 Xp.out.lt)
  replace Xq := Lib.hid (Xq.out.keep hb1 Xq.out.lt)
  replace HB := Lib.hid (HB.out.trans (hb1.mono HB.out.size))
  clear hb1
  clear HC
  by_cases hz : e1 = 0
  case' neg =>
    have hd : (e1 != 0) = true := by simpa using hz
    go_wp2_with fail
    go_ret
    exact ⟨rfl, HB.out⟩
  subst hz
  have hl1 := few_len HRF.out
  have hl2 := few_len HRG.out
  have HLJ := Lib.hid (lo_jo (loV_of HRF.out) (loV_of HRG.out))
  have HE := Lib.hid (ck_more (W2 := W2) HE1.out)
  obtain ⟨A5, c5, u5, cs5, hrun5, hrow5, hb5⟩ := rowD_app (RowDv.none w6 w6) (HK.out.keep HB.out).sg (by omega) (Below.refl _ _)
  rw [Nat.zero_add] at hrun5 hrow5
  rw [List.nil_append] at hrow5
  obtain ⟨A6, c6, u6, cs6, hrun6, hrow6, hb6⟩ := rowD_app hrow5 (HK2.out.keep HB.out).sg (by omega) hb5
  have hB6 := HB.out.trans (hb6.mono HB.out.size)
  obtain ⟨A7, c7, u7, cs7, hrun7, hrow7, hb7⟩ := rowM_app (RowMv.none u6 u6) (HK.out.keep hB6).ms (by omega) (Below.refl _ _)
  rw [Nat.zero_add] at hrun7 hrow7
  rw [List.nil_append] at hrow7
  obtain ⟨A8, c8, u8, cs8, hrun8, hrow8, hb8⟩ := rowM_app hrow7 (HK2.out.keep hB6).ms (by omega) hb7
  have hb68 := hb6.trans (hb8.mono hb6.size)
  have HC := Lib.hid (vCheckTermC (joV W W2) cx m a A6 _ c6 A8 _ c8 Ac nc cc _ _ u8 ⟨(hrow6.lst hb6).keep hb8, hrow8.lst hb8, (HK.out.keep (HB.out.trans (hb68.mono HB.out.size))).cx⟩ (Rd.keep (HB.out.trans (hb68.mono HB.out.size)) _ _ HVp.out) (Rd.keep (HB.out.trans (hb68.mono HB.out.size)) _ _ HVq.out) HLJ.out (lo_lt HRm.out) (lo_lt HRa.out))
  replace HB := Lib.hid (HB.out.trans (hb68.mono HB.out.size))
  replace Xp := Lib.hid (Xp.out.keep hb68 Xp.out.lt)
  replace Xq := Lib.hid (Xq.out.keep hb68 Xq.out.lt)
  generalize ckT (joV W W2) cx m a = e2 at HC HE
  clear hrow5 hrow6 hrow7 hrow8 hb5 hb6 hb7 hb8 hB6 hb68 hl1 hl2
  obtain ⟨bp0, bp1, bp2⟩ := Xp.out.three
  obtain ⟨bq0, bq1, bq2⟩ := Xq.out.three
  go_wp2_with (at_builtin; first | (refine Lib.wpList_append_run _ rfl _ _ _ _ rfl _ _ rfl rfl _ _ hrun5 ?_; clear hrun5) | (refine Lib.wpList_append_run _ rfl _ _ _ _ rfl _ _ rfl rfl _ _ hrun6 ?_; clear hrun6) | (refine Lib.wpList_append_run _ rfl _ _ _ _ rfl _ _ rfl rfl _ _ hrun7 ?_; clear hrun7) | (refine Lib.wpList_append_run _ rfl _ _ _ _ rfl _ _ rfl rfl _ _ hrun8 ?_; clear hrun8))
  clear bp0 bp1 bp2
  clear bq0 bq1 bq2
  refine (HC.out).mono ?_
  rintro e w7 ⟨rfl, hb1⟩
  replace Xp := Lib.hid (Xp.out.keep hb1 Xp.out.lt)
  replace Xq := Lib.hid (Xq.out.keep hb1 Xq.out.lt)
  replace HB := Lib.hid (HB.out.trans (hb1.mono HB.out.size))
  clear hb1
  clear HC
  rcases HE.out with rfl | rfl
  · go_wp2_with fail
    go_ret
    exact ⟨rfl, HB.out⟩
  · go_wp2_with fail
    go_ret
    exact ⟨rfl, HB.out⟩

end Go.Proofs.Ytigfhhfpdggjfaa

/-
  The law CheckMore: with more declarations, and more metas, behind those that there are, what has a type has it. Proved whole, for every input.
-/
namespace Go.Proofs.Ytigfhhfpdggjfaa.checkMore
open Go.ChangeShapes Go.WideShapes Go.ChangeAt Go.RowKit
set_option linter.unusedVariables false

/-- a word -/
def isWord (w : List Char) : Bool := w.all fun c => !(c == Char.ofNat 32)
theorem words_word : ∀ (w r : List Char), isWord w = true → wordsSigns (w ++ Char.ofNat 32 :: r) = w :: wordsSigns r
  | [], r, _ => rfl
  | c :: w, r, h => by
    rw [isWord, List.all_cons, Bool.and_eq_true] at h
    have ih := words_word w r h.2
    have hc : c ≠ Char.ofNat 32 := by simpa using h.1
    rw [List.cons_append]
    conv => lhs; unfold wordsSigns
    split
    · rename_i e; cases e
    · rename_i e
      injection e with e1 e2
      exact absurd e1 hc
    · rename_i c' r' _ e
      injection e with e1 e2
      subst e1; subst e2
      rw [ih]
theorem toList_of {s : String} {l : List Char} (h : s = String.ofList l) : s.toList = l := by rw [h]; exact String.toList_ofList
def sign0 : List Char := ([104,97,114,110,101,115,115] : List Nat).map Char.ofNat
def sign1 : List Char := ([55,56,101,49,55,48,50,102,97,50,56,57,49,97,50,56,99,57,48,51,99,55,101,101,97,56,50,54,99,98,49,49,100,57,57,99,49,101,49,102,51,56,49,101,54,54,52,52,57,57,52,52,97,56,51,102,97,55,51,98,56,50,100,100] : List Nat).map Char.ofNat
def sign2 : List Char := ([99,117,116] : List Nat).map Char.ofNat
def signs : List Char := ([97,116,32,97,109,97,110,117,101,110,115,105,115,47,97,109,97,110,117,101,110,115,105,115,108,97,119,49,48,46,67,104,101,99,107,84,101,114,109,115,32,97,109,97,110,117,101,110,115,105,115,47,97,109,97,110,117,101,110,115,105,115,108,97,119,49,48,46,67,104,101,99,107,84,121,112,101,115,32,97,109,97,110,117,101,110,115,105,115,47,97,109,97,110,117,101,110,115,105,115,108,97,119,49,48,46,67,104,101,99,107,79,110,101,32,97,109,97,110,117,101,110,115,105,115,47,97,109,97,110,117,101,110,115,105,115,108,97,119,49,48,46,67,104,101,99,107,70,114,111,110,116,32,97,109,97,110,117,101,110,115,105,115,47,97,109,97,110,117,101,110,115,105,115,108,97,119,49,48,46,67,104,101,99,107,83,117,98,115,116,32,97,109,97,110,117,101,110,115,105,115,47,97,109,97,110,117,101,110,115,105,115,108,97,119,49,48,46,67,104,101,99,107,76,97,109,32,97,109,97,110,117,101,110,115,105,115,47,97,109,97,110,117,101,110,115,105,115,108,97,119,49,48,46,67,104,101,99,107,80,105,32,97,109,97,110,117,101,110,115,105,115,47,97,109,97,110,117,101,110,115,105,115,108,97,119,49,48,46,67,104,101,99,107,77,111,114,101,32,97,109,97,110,117,101,110,115,105,115,47,97,109,97,110,117,101,110,115,105,115,108,97,119,49,48,46,67,104,101,99,107,70,101,119] : List Nat).map Char.ofNat
set_option maxRecDepth 100000 in
theorem headLine : Try.prog.initOrder.toList = sign0 ++ Char.ofNat 32 :: (sign1 ++ Char.ofNat 32 :: (sign2 ++ Char.ofNat 32 :: signs)) := toList_of (by kernel_rfl)
theorem headWords : ∃ R, behindMainWord (wordsSigns Try.prog.initOrder.toList) = "cut".toList :: R := by
  refine ⟨wordsSigns signs, ?_⟩
  rw [headLine, words_word _ _ (by kernel_rfl), words_word _ _ (by kernel_rfl), words_word _ _ (by kernel_rfl)]
  generalize wordsSigns signs = R
  kernel_rfl
theorem strip_cut (R : List (List Char)) : stripLifts liftWords ("cut".toList :: R) = ([], "cut".toList :: R) := by kernel_rfl
theorem lifts_gen {P : Program} {R : List (List Char)} (h : behindMainWord (wordsSigns P.initOrder.toList) = "cut".toList :: R) : P.headLifts = [] := by
  unfold Program.headLifts
  rw [h, strip_cut]
  kernel_rfl
theorem make_gen {P : Program} {R : List (List Char)} (h : behindMainWord (wordsSigns P.initOrder.toList) = "cut".toList :: R) : P.make = some Make.cut := by
  unfold Program.make
  rw [h]
  kernel_rfl
theorem final_gen {P : Program} {R : List (List Char)} (h : behindMainWord (wordsSigns P.initOrder.toList) = "cut".toList :: R) : P.liftsFinal = false := by
  unfold Program.liftsFinal
  rw [lifts_gen h, h]
  kernel_rfl
theorem enter_gen {P : Program} {R : List (List Char)} (h : behindMainWord (wordsSigns P.initOrder.toList) = "cut".toList :: R) (h2 : P.laysLater = false) (h3 : P.bearsReflect = false) (h4 : P.doorFits [] = true) : P.mayEnter = true := by
  unfold Program.mayEnter
  rw [h]
  dsimp only
  rw [strip_cut, h2, h3]
  dsimp only
  rw [h4]
  kernel_rfl
theorem isLays : Try.prog.laysLater = false := by kernel_rfl
theorem isBears : Try.prog.bearsReflect = false := by kernel_rfl
theorem isDoor : Try.prog.doorFits [] = true := by kernel_rfl
theorem isMake : Try.prog.make = some Make.cut := by
  obtain ⟨R, h⟩ := headWords
  exact make_gen h
theorem isFinal : Try.prog.liftsFinal = false := by
  obtain ⟨R, h⟩ := headWords
  exact final_gen h
theorem isEnter : Try.prog.mayEnter = true := by
  obtain ⟨R, h⟩ := headWords
  exact enter_gen h isLays isBears isDoor

theorem own : ownKnob Try.prog.godebug = none := by kernel_rfl
theorem laidOut : laidOutB Try.prog = true := by kernel_rfl

set_option maxRecDepth 100000 in
theorem contract (H : Type) (enc : TypeId × Value → H) (W : World) (base : Nat) (args : Array Value) (ds gs : List (DataW H)) (before : List MemPlace)
    (hval : ∀ (j : Nat) t v, Try.f10.params[j]? = some t → args[j]? = some v → Value.okWide Try.prog W .any base t v)
    (hW : DataW.Whole enc Try.prog Try.f10.params.toList Rows.checkMoreSpec.vars false W args.toList ds gs before) (hsz : (DataW.weightsEach Try.prog (Try.f10.params.toList ++ Rows.checkMoreSpec.plain.varTypes Try.prog) (ds ++ gs)).all (· ≤ reachBytes) = true) :
    Calls Try.prog 10 args W fun e W' => ∃ v, e = .returned v ∧ Rows.checkMoreSpec.post enc Try.prog Try.f10 false true false false W args v W' := by
  have hW' := hW
  obtain ⟨p, q, hA0, hV, rfl, hfz, hnd⟩ := hW
  have hA : DataW.TrodAll enc Try.prog W 0 (fun _ => true) true Try.f10.params.toList args.toList ds p := hA0
  rw [Try.params10] at hA hval hsz
  obtain ⟨v0, v1, v2, v3, v4, v5, v6, d0, d1, d2, d3, d4, d5, d6, p0, p1, p2, p3, p4, p5, p6, rfl, rfl, rfl, h0, h1, h2, h3, h4, h5, h6⟩ := trodAll_seven hA
  obtain ⟨rfl, rfl⟩ := trodVars_none hV
  obtain ⟨t5, r5, le5, wt5⟩ := open_term (hval 5 26 v5 rfl rfl) h5
  obtain ⟨t6, r6, le6, wt6⟩ := open_term (hval 6 26 v6 rfl rfl) h6
  obtain ⟨t0, A0, n0, c0, rfl, r0, b0⟩ := open_decls (hval 0 22 v0 rfl rfl) h0
  obtain ⟨t1, A1, n1, c1, rfl, r1, b1⟩ := open_decls (hval 1 22 v1 rfl rfl) h1
  obtain ⟨t2, A2, n2, c2, rfl, r2, b2⟩ := open_metas (hval 2 23 v2 rfl rfl) h2
  obtain ⟨t3, A3, n3, c3, rfl, r3, b3⟩ := open_metas (hval 3 23 v3 rfl rfl) h3
  obtain ⟨t4, A4, n4, c4, rfl, r4, b4⟩ := open_clv (hval 4 24 v4 rfl rfl) h4
  have hsz' : ∀ n ∈ DataW.weightsEach Try.prog ([22, 22, 23, 23, 24, 26, 26] ++ Rows.checkMoreSpec.plain.varTypes Try.prog) ([d0, d1, d2, d3, d4, d5, d6] ++ []), n ≤ reachBytes := fun n hn => of_decide_eq_true (List.all_eq_true.1 hsz n hn)
  simp only [List.cons_append, List.nil_append, DataW.weightsEach, List.mem_append] at hsz'
  have s5 : wd t5 ≤ 3518437208780 := wt5 fun n hn => hsz' n (by simp [hn])
  have s6 : wd t6 ≤ 3518437208780 := wt6 fun n hn => hsz' n (by simp [hn])
  clear hA0 hsz
  simp only [List.append_nil] at hW'
  have lt0 : ∀ x ∈ p0, x.block < W.heap.size := fun x hx => by simpa using hW'.lt x (by simp [hx])
  have lt1 : ∀ x ∈ p1, x.block < W.heap.size := fun x hx => by simpa using hW'.lt x (by simp [hx])
  have lt2 : ∀ x ∈ p2, x.block < W.heap.size := fun x hx => by simpa using hW'.lt x (by simp [hx])
  have lt3 : ∀ x ∈ p3, x.block < W.heap.size := fun x hx => by simpa using hW'.lt x (by simp [hx])
  have lt4 : ∀ x ∈ p4, x.block < W.heap.size := fun x hx => by simpa using hW'.lt x (by simp [hx])
  have lt5 : ∀ x ∈ p5, x.block < W.heap.size := fun x hx => by simpa using hW'.lt x (by simp [hx])
  have lt6 : ∀ x ∈ p6, x.block < W.heap.size := fun x hx => by simpa using hW'.lt x (by simp [hx])
  refine (checkMoreC ⟨t0, t2⟩ ⟨t1, t3⟩ t4 t5 t6 A0 n0 c0 A2 n2 c2 A4 n4 c4 A1 n1 c1 A3 n3 c3 _ _ _ ⟨r0, r2, r4⟩ ⟨r1, r3, ⟨rfl, Nat.le_refl _, Nat.zero_le _, fun i x hx => by simp at hx⟩⟩ r5 r6).mono fun e W' ⟨he, hb⟩ => ?_
  subst he
  exact ⟨_, rfl, _, _, _, [], _, [], hW', trodAll_cons_mk (shut_bool Try.underlying4 _) trodAll_mk0,
    trodAll_mk7 (Below.trod laidOut (by kernel_rfl) (of_decide_eq_true (by kernel_rfl)) h0 hb lt0) (Below.trod laidOut (by kernel_rfl) (of_decide_eq_true (by kernel_rfl)) h1 hb lt1) (Below.trod laidOut (by kernel_rfl) (of_decide_eq_true (by kernel_rfl)) h2 hb lt2) (Below.trod laidOut (by kernel_rfl) (of_decide_eq_true (by kernel_rfl)) h3 hb lt3) (Below.trod laidOut (by kernel_rfl) (of_decide_eq_true (by kernel_rfl)) h4 hb lt4) (Below.trod laidOut (by kernel_rfl) (of_decide_eq_true (by kernel_rfl)) h5 hb lt5) (Below.trod laidOut (by kernel_rfl) (of_decide_eq_true (by kernel_rfl)) h6 hb lt6), rfl, hb.frame _, fun h => by cases h⟩

set_option maxRecDepth 100000 in
theorem lifted (os : Os) (started : os.Started) (H : Type) (enc : TypeId × Value → H) :
    ReturnsInHanded {} Try.checked os 10 .any (Rows.checkMoreSpec.pre6 enc Try.prog Try.f10 Rows.checkMoreRow.domain false) (Rows.checkMoreSpec.post enc Try.prog Try.f10 false true false false) := by
  refine returnsInHanded_of_change_sized (C := Try.checked) own started (by kernel_rfl) Try.func10
    (ChangeSpec.witness6 (enc := enc) (C := Try.checked) false ⟨#[], #[.slice none 0 0, .slice none 0 0, .slice none 0 0, .slice none 0 0, .slice none 0 0, .agg #[.int .i64 0, .int .i64 0, .slice none 0 0], .agg #[.int .i64 0, .int .i64 0, .slice none 0 0]], []⟩ 8 (by kernel_rfl) (by kernel_rfl) (by kernel_rfl) (by kernel_rfl)) ?_
  intro W base args ds gs before hval hW _ hsz _
  exact contract H enc W base args ds gs before hval hW hsz

theorem closed : joinedFacts Try.prog 10 Try.f10 Rows.checkMoreSpec Rows.checkMoreRow = true := by
  unfold joinedFacts
  rw [isEnter, isFinal, isMake]
  kernel_rfl

theorem over : Rows.checkMoreRow.holds Try.pinned (OpenSpec.ofChange Rows.checkMoreSpec) :=
  OpenClaim.holds_of_wide 10 Try.f10 rfl rfl rfl rfl rfl rfl rfl ⟨rfl, rfl, rfl, rfl, rfl⟩ rfl rfl rfl rfl rfl (by kernel_rfl) Try.func10 closed
    (of_decide_eq_true (by kernel_rfl)) (by unfold Func.isWrapper; first | (rw [if_pos (by decide +kernel)]; kernel_rfl) | (rw [if_neg (by decide +kernel)]; exact ⟨rfl, rfl⟩))
    (fun os started H enc _ => lifted os started H enc)

theorem proved : Rows.CheckMoreSaid :=
  over
#print axioms proved
end Go.Proofs.Ytigfhhfpdggjfaa.checkMore
