/-
  Contract of package invert's Invert. No statement is proved here.
-/
import Derived.Test.YtdllbljjlaipoaaIe
namespace Go.Proofs.Ytdllbljjlaipoaa
open Go.ChangeShapes Go.WideShapes Go.ChangeAt Go.RowKit
set_option linter.unusedVariables false

/-- how Invert ends -/
def IEnd (R : Except Int T) (w : World) (e : Ending) (w' : World) : Prop :=
  ∃ k h A n c, e = .returned (.tuple #[.agg #[.int .i64 k, .int .i64 h, .slice A n c], .int .i64 (ivE R)]) ∧ RdF (fun b => w.heap.size ≤ b) w' (ivA R) (.agg #[.int .i64 k, .int .i64 h, .slice A n c]) ∧ Below w.heap.size w w'
theorem rd_nought {ok : Nat → Prop} {w : World} : RdF ok w (.node 0 0 []) (.agg #[.int .i64 0, .int .i64 0, .slice none 0 0]) := RdF_node.2 ⟨none, 0, 0, rfl, by decide, by decide, rfl, Nat.le_refl _, Nat.zero_le _, fun i t h => by simp at h⟩
theorem ivR_bad {t : T} {vs : List Int} {n : Int} (h : (decide (0 ≤ n) && decide (n ≤ 1000) && mayB t && vB n [] vs) = false) : ivR t vs n = .error 1 := by rw [ivR, if_neg (by rw [h]; exact Bool.false_ne_true)]
theorem IEnd.bad {R : Except Int T} {w w' : World} {x : Int} (h : R = .error x) (hb : Below w.heap.size w w') : IEnd R w (.returned (.tuple #[.agg #[.int .i64 0, .int .i64 0, .slice none 0 0], .int .i64 x])) w' := by
  subst h
  exact ⟨0, 0, none, 0, 0, rfl, rd_nought, hb⟩

set_option maxRecDepth 100000 in
set_option maxHeartbeats 8000000 in
theorem InvertC (t : T) (vs : List Int) (A : Option Addr) (nv cv : Nat) (x : Int) (v : Value) (w : World) (hvt : Rd w t v) (hs : nd t ≤ 1048576) (hn : vs.length = nv) (hc : nv ≤ cv) (hm : cv ≤ maxLen) (hx : ∀ i z, vs[i]? = some z → ∃ b o, A = some ⟨b, o, none⟩ ∧ w.cell? ⟨b, o + i, none⟩ = some (.int .i64 z)) :
    Calls Try.prog 11 #[v, .slice A nv cv, .int .i64 x] w (IEnd (ivR t vs x) w) := by
  obtain ⟨k, h, At, nt, ct, rfl⟩ := hvt.full
  have HX := Lib.hid hx; clear hx
  have HN := Lib.hid hn; clear hn
  have HM := Lib.hid hm; clear hm
  have HC := Lib.hid hc; clear hc
  have HV := Lib.hid hvt; clear hvt
  have HS := Lib.hid hs; clear hs
  obtain ⟨W, hW⟩ : ∃ W, (w.alloc (.cells #[.int .i64 k, .int .i64 h, .slice At nt ct] 24)).alloc (.cells #[.int .i64 0, .int .i64 0, .slice none 0 0] 24) = W := ⟨_, rfl⟩
  have hb : Below w.heap.size w W := by rw [← hW]; exact ((Below.refl _ _).alloc (Nat.le_refl _) _).alloc (by simp) _
  have xT : Box W w.heap.size 24 #[.int .i64 k, .int .i64 h, .slice At nt ct] := by rw [← hW]; exact (Box.new _ _ _).alloc _
  have xR : Box W (w.heap.size + 1) 24 #[.int .i64 0, .int .i64 0, .slice none 0 0] := by rw [← hW]; exact (Box.new (w.alloc _) _ _).at (by simp)
  have HWW := Lib.hid hW; clear hW
  have HMY : Hid (∀ W', Below w.heap.size w W' → Calls Try.prog 14 #[.agg #[.int .i64 k, .int .i64 h, .slice At nt ct]] W' fun e w' => e = .returned (.bool (mayB t)) ∧ Below W'.heap.size W' w') := Lib.hid fun W' h' => mayC t _ _ (Rd.keep h' _ _ HV.out) HS.out
  obtain ⟨R, hR⟩ : ∃ R, R = ivR t vs x := ⟨_, rfl⟩
  rw [← hR]
  have HR := Lib.hid hR; clear hR
  obtain ⟨c0, c1, c2⟩ := xT.three
  obtain ⟨r0, r1, r2⟩ := xR.three
  have lR := xR.lt
  have f0 := xR.frozen 0
  have f1 := xR.frozen 1
  have f2 := xR.frozen 2
  by_cases h0 : x < 0
  · have d0 : decide (x < 0) = true := by simpa using h0
    have hbad := Lib.hid (HR.out.trans (ivR_bad (by rw [decide_eq_false (by omega)]; rfl)))
    clear h0
    go_enter Try.func11, Try.ntmps11
    go_wp2_with fail
    rw [HWW.out]
    go_wp2_with fail
    refine bodyPost_ret (v := .tuple #[.agg #[.int .i64 0, .int .i64 0, .slice none 0 0], .int .i64 1]) (by simp [results, Try.results11, go_sem, r0, r1, r2]) rfl ?_
    exact .bad hbad.out hb
  have d0 : decide (x < 0) = false := by simpa using h0
  by_cases h1 : 1000 < x
  · have d1 : decide (1000 < x) = true := by simpa using h1
    have hbad := Lib.hid (HR.out.trans (ivR_bad (by rw [decide_eq_false (p := x ≤ 1000) (by omega), Bool.and_false]; rfl)))
    clear h0 h1
    go_enter Try.func11, Try.ntmps11
    go_wp2_with fail
    rw [HWW.out]
    go_wp2_with fail
    refine bodyPost_ret (v := .tuple #[.agg #[.int .i64 0, .int .i64 0, .slice none 0 0], .int .i64 1]) (by simp [results, Try.results11, go_sem, r0, r1, r2]) rfl ?_
    exact .bad hbad.out hb
  have d1 : decide (1000 < x) = false := by simpa using h1
  obtain ⟨N, rfl⟩ : ∃ N : Nat, x = N := ⟨x.toNat, by omega⟩
  have hN : N ≤ 1000 := by omega
  clear h0 h1
  go_enter Try.func11, Try.ntmps11
  go_wp2_with fail
  rw [HWW.out]
  clear HWW c0 c1 c2 r0 r1 r2 f0 f1 f2
  refine (HMY.out W hb).mono ?_
  generalize hq : mayB t = M at *
  rintro e w1 ⟨rfl, hb1⟩
  have HMB := Lib.hid hq; clear hq
  replace xT := xT.keep hb1 xT.lt
  replace xR := xR.keep hb1 lR
  replace hb := hb.trans (hb1.mono hb.size)
  clear hb1 lR HMY
  have lR := xR.lt
  cases M
  · have hbad := Lib.hid (HR.out.trans (ivR_bad (by rw [HMB.out]; simp)))
    obtain ⟨r0, r1, r2⟩ := xR.three
    have f0 := xR.frozen 0
    have f1 := xR.frozen 1
    have f2 := xR.frozen 2
    go_wp2_with fail
    refine bodyPost_ret (v := .tuple #[.agg #[.int .i64 0, .int .i64 0, .slice none 0 0], .int .i64 1]) (by simp [results, Try.results11, go_sem, r0, r1, r2]) rfl ?_
    exact .bad hbad.out (below_set3 hb (by omega) _ _ _)
  go_wp2_with fail
  refine (inverseC vs A nv cv N w1 hN HN.out HC.out HM.out (fun i z hz => by obtain ⟨b, o, e, h⟩ := HX.out i z hz; exact ⟨b, o, e, (hb.cell (cell_lt h)).trans h⟩)).mono ?_
  rintro e w2 ⟨hb1, ⟨hgood, p, rfl, hinv⟩ | ⟨hbd, rfl⟩⟩
  · replace xT := xT.keep hb1 xT.lt
    replace xR := xR.keep hb1 lR
    replace hb := hb.trans (hb1.mono hb.size)
    have lR := xR.lt
    have lT := xT.lt
    rw [Int.toNat_natCast] at hinv ⊢
    have HIV := Lib.hid hinv; clear hinv
    have HGD := Lib.hid hgood; clear hgood hb1
    obtain ⟨c0, c1, c2⟩ := xT.three
    obtain ⟨K, hK⟩ : ∃ K : Int, (vs.length : Int) = K := ⟨_, rfl⟩
    rw [hK]
    have HK := Lib.hid hK; clear hK
    obtain ⟨Wb, hWb⟩ : ∃ Wb, w2.alloc (.cells #[.slice (some ⟨p, 0, none⟩) N N, .int .i64 K] 47) = Wb := ⟨_, rfl⟩
    have hbA : Below w2.heap.size w2 Wb := by rw [← hWb]; exact (Below.refl _ _).alloc (Nat.le_refl _) _
    have xI : Box Wb w2.heap.size 47 #[.slice (some ⟨p, 0, none⟩) N N, .int .i64 K] := by rw [← hWb]; exact Box.new _ _ _
    have HWB := Lib.hid hWb; clear hWb
    have hbb := hb.trans (hbA.mono hb.size)
    have HRN := Lib.hid (RenumC entersGoes t _ Wb (goesM vs N p K HK.out hN Wb (HIV.out.keep hbA)) HS.out (Rd.keep hbb _ _ HV.out))
    go_wp2_with fail
    rw [HWB.out]
    refine HRN.out.mono ?_
    generalize hq : rn (igW vs (N : Int)) t 0 = O at *
    have HO := Lib.hid hq; clear hq
    intro e w3 hE
    obtain ⟨k3, h3, A3, n3, c3, bo, rfl, hout, hb3⟩ := hE.uni
    have hbw3 := hbA.trans (hb3.mono hbA.size)
    have s2 : w.heap.size + 2 ≤ Wb.heap.size := by have := hbA.size; omega
    have s4 := hb3.size
    replace xR := xR.keep hbw3 lR
    replace hb := hb.trans (hbw3.mono hb.size)
    have s3 := hbw3.size
    have HOUT := Lib.hid hout; clear hout hE hb3 hbA hbb xI HRN HWB
    clear c0 c1 c2 lT lR hbw3
    have lR := xR.lt
    have hiv : ivR t vs N = ivO O := by
      rw [ivR, if_pos (by rw [HMB.out, HGD.out, decide_eq_true (p := (0 : Int) ≤ N) (by omega), decide_eq_true (p := (N : Int) ≤ 1000) (by omega)]; rfl), HO.out]
    have HIR := Lib.hid (HR.out.trans hiv); clear hiv
    obtain ⟨r0, r1, r2⟩ := xR.three
    have f0 := xR.frozen 0
    have f1 := xR.frozen 1
    have f2 := xR.frozen 2
    have z3 := Box.new w3 24 #[.int .i64 k3, .int .i64 h3, .slice A3 n3 c3]
    cases bo
    · have hno : O = none := by
        rcases HOUT.out with ⟨_, _, h, _⟩ | ⟨h, _, _⟩
        · cases h
        · exact h
      subst hno
      go_wp2_with fail
      refine bodyPost_ret (v := .tuple #[.agg #[.int .i64 0, .int .i64 0, .slice none 0 0], .int .i64 7]) (by simp [results, Try.results11, go_sem, r0, r1, r2, lR]) rfl ?_
      exact .bad HIR.out ((below_set3 hb (by omega) _ _ _).alloc (by simp; omega) _)
    · obtain ⟨u, hu, hown⟩ : ∃ u, O = some u ∧ OwT w3 Wb.heap.size u (.agg #[.int .i64 k3, .int .i64 h3, .slice A3 n3 c3]) := by
        rcases HOUT.out with ⟨u, h1, _, h3⟩ | ⟨_, h, _⟩
        · exact ⟨u, h1, h3⟩
        · cases h
      subst hu
      have HOW := Lib.hid hown; clear hown HOUT
      go_wp2_with fail
      refine bodyPost_ret (v := .tuple #[.agg #[.int .i64 k3, .int .i64 h3, .slice A3 n3 c3], .int .i64 0]) (by simp [results, Try.results11, go_sem, r0, r1, r2, lR]) rfl ?_
      have hR : R = .ok u := HIR.out
      refine ⟨k3, h3, A3, n3, c3, by rw [hR]; rfl, ?_, (below_set3 hb (by omega) _ _ _).alloc (by simp; omega) _⟩
      rw [hR]
      have hr := RdF.move (w' := (((w3.setCell ⟨w.heap.size + 1, 0, none⟩ (.int .i64 k3)).setCell ⟨w.heap.size + 1, 1, none⟩ (.int .i64 h3)).setCell ⟨w.heap.size + 1, 2, none⟩ (.slice A3 n3 c3)).alloc (.cells #[.int .i64 k3, .int .i64 h3, .slice A3 n3 c3] 24)) (fun g hg => (show w.heap.size ≤ g by omega)) (fun g hg hg' => (Below.heap_alloc _ _ _ (by simpa using hg')).trans (heap_other3 _ _ _ _ _ _ (by omega))) _ _ HOW.out.rdF
      exact hr
  · replace xT := xT.keep hb1 xT.lt
    replace xR := xR.keep hb1 lR
    replace hb := hb.trans (hb1.mono hb.size)
    have lR := xR.lt
    have hbad := Lib.hid (HR.out.trans (ivR_bad (by rw [hbd]; simp)))
    clear hbd hb1
    obtain ⟨r0, r1, r2⟩ := xR.three
    have f0 := xR.frozen 0
    have f1 := xR.frozen 1
    have f2 := xR.frozen 2
    go_wp2_with fail
    refine bodyPost_ret (v := .tuple #[.agg #[.int .i64 0, .int .i64 0, .slice none 0 0], .int .i64 1]) (by simp [results, Try.results11, go_sem, r0, r1, r2, lR]) rfl ?_
    exact .bad hbad.out ((below_set3 hb (by omega) _ _ _).alloc (by simp; omega) _)
end Go.Proofs.Ytdllbljjlaipoaa
