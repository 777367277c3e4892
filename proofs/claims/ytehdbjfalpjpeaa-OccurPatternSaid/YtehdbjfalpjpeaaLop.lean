/-
  The walk of the law OccurPattern.
-/
import Derived.Test.YtehdbjfalpjpeaaOn
namespace Go.Proofs.Ytehdbjfalpjpeaa
open Go.ChangeShapes Go.WideShapes Go.ChangeAt Go.RowKit
set_option linter.unusedVariables false

set_option maxRecDepth 100000 in
set_option maxHeartbeats 8000000 in
theorem occurPatternC (L : List T) (AL : Option Addr) (nL cL : Nat) (b : Int) (w : World) (hnL : L.length = nL) (hcL : nL ≤ cL) (hmL : cL ≤ maxLen) (hxL : ∀ i t, L[i]? = some t → RdAt w AL i t) :
    Calls Try.prog 4 #[.slice AL nL cL, .int .i64 b] w fun e w' => e = .returned (.bool true) ∧ Below w.heap.size w w' := by
  have hmmL := hmL
  have HXL := Lib.hid hxL; clear hxL
  have HNL := Lib.hid hnL; clear hnL
  unfold maxLen at hmL
  go_enter Try.func4, Try.ntmps4
  go_wp2_with fail
  refine (awakeO _).mono ?_
  rintro e w1 ⟨rfl, hb1⟩
  by_cases h60 : 60 < nL
  · have d1 : decide ((60 : Int) < (nL : Int)) = true := by simp; omega
    go_wp2_with fail
    go_ret
    exact ⟨rfl, hb1⟩
  · have d1 : decide ((60 : Int) < (nL : Int)) = false := by simp; omega
    have HP1 := Lib.hid (oPatternC L AL nL cL b w1 HNL.out hcL hmmL (by omega) (fun i u hu => RdAt.keep hb1 (HXL.out i u hu)))
    have HP2 := Lib.hid fun w2 (h : Below w1.heap.size w1 w2) => rfPatternC L AL nL cL b w2 HNL.out hcL hmmL (by omega) (fun i u hu => RdAt.keep (hb1.trans (h.mono hb1.size)) (HXL.out i u hu))
    generalize ptn b [] L = O at *
    go_wp2_with fail
    refine HP1.out.mono ?_
    rintro e w2 (⟨zs, v1, rfl, rfl, hn1, hb2⟩ | ⟨rfl, rfl, hb2⟩)
    · have HQ := Lib.hid (HP2.out w2 hb2)
      clear HP1 HP2
      go_wp2_with fail
      refine HQ.out.mono ?_
      rintro e w3 (⟨zs', v2, hz, rfl, hn2, hb3⟩ | ⟨h0, _⟩)
      · obtain rfl : zs = zs' := by simpa using hz
        have HI := Lib.hid (intsC zs zs v1 v2 w3 (hn1.keep hb3) hn2)
        have hb4 := hb1.trans ((hb2.trans (hb3.mono hb2.size)).mono hb1.size)
        clear hz hn1 hn2 hb1 hb2 hb3 HQ
        go_wp2_with (go_at_call 12; refine HI.out.mono ?_; rintro e w4 ⟨rfl, hb5⟩)
        go_ret
        exact ⟨ret_bool (by simp), hb4.trans (hb5.mono hb4.size)⟩
      · exact absurd h0 (by simp)
    · have HQ := Lib.hid (HP2.out w2 hb2)
      clear HP1 HP2
      go_wp2_with fail
      refine HQ.out.mono ?_
      rintro e w3 (⟨zs', v2, hz, rfl, hn2, hb3⟩ | ⟨_, rfl, hb3⟩)
      · exact absurd hz (by simp)
      · have HI := Lib.hid (intsC [] [] _ _ w3 (Ns.nil w3) (Ns.nil w3))
        have hb4 := hb1.trans ((hb2.trans (hb3.mono hb2.size)).mono hb1.size)
        clear hb1 hb2 hb3 HQ
        go_wp2_with (go_at_call 12; refine HI.out.mono ?_; rintro e w4 ⟨rfl, hb5⟩)
        go_ret
        exact ⟨ret_bool (by simp), hb4.trans (hb5.mono hb4.size)⟩
end Go.Proofs.Ytehdbjfalpjpeaa
