/-
  What the law SubstTwice needs of substitutions, as plain facts. No statement is proved here.
-/
import Derived.Test.YtinjeocfnhhlmaaPd
import Derived.Test.YtinjeocfnhhlmaaCn
import Derived.Test.YtinjeocfnhhlmaaLr
namespace Go.Proofs.Ytinjeocfnhhlmaa
open Go.ChangeShapes Go.WideShapes Go.ChangeAt Go.RowKit
set_option linter.unusedVariables false

/-- where there is no error the run tells the answer, which may be -/
theorem ap_was {t : T} {L : List T} {sh : Int} (h : apE t L sh = 0) : ∃ n, ap fl L sh 0 t 0 = .ok (apT t L sh, n) ∧ myB (apT t L sh) = true := by
  unfold apE at h
  unfold apT
  by_cases hc : (myB t && sbB L sh) = true
  · rw [if_pos hc] at h ⊢
    cases hr : apR t L sh with
    | error e => rw [hr] at h; exact absurd h (ap_err _ _ _ _ _ _ _ hr)
    | ok p =>
      obtain ⟨t', n'⟩ := p
      rw [hr] at h
      have hm : myB t' = true := by
        cases hm : myB t' with
        | true => rfl
        | false => simp [anE, hm] at h
      simp only [anT, hm, if_pos]
      exact ⟨n', hr, trivial⟩
  · rw [if_neg hc] at h
    omega
theorem twice_tells {s d s' d' s'' d'' : Nat} {t n m : T} (kt : Kn s d t) (kn : Kn s' d' n) (km : Kn s'' d'' m) (h1 : apE t [n] 0 = 0) (h2 : apE (apT t [n] 0) [m] 0 = 0) (h3 : apE n [m] 0 = 0) (h4 : apE t [m, apT n [m] 0] 0 = 0) :
    apT (apT t [n] 0) [m] 0 = apT t [m, apT n [m] 0] 0 ∧ nodB (apT t [m, apT n [m] 0] 0) = true := by
  obtain ⟨_, e1, _⟩ := ap_was h1
  obtain ⟨_, e2, _⟩ := ap_was h2
  obtain ⟨_, e3, _⟩ := ap_was h3
  obtain ⟨_, e4, m4⟩ := ap_was h4
  exact ⟨ap_twice kt.nod kn.nod km.nod e1 e2 e3 e4, ((myB_iff _).1 m4).1⟩
end Go.Proofs.Ytinjeocfnhhlmaa
