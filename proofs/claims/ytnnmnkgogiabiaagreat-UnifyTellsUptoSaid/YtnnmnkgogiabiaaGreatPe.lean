/-
  What the laws SubstScopes and SubstUnder need of substitutions, as plain facts. No statement is proved here.
-/
import Derived.Test.YtnnmnkgogiabiaaGreatPd
import Derived.Test.YtnnmnkgogiabiaaGreatOl
namespace Go.Proofs.YtnnmnkgogiabiaaGreat
open Go.ChangeShapes Go.WideShapes Go.ChangeAt Go.RowKit
set_option linter.unusedVariables false

theorem scopes_tells {t : T} {L : List T} {more vars : Int} (kt : Kn 300 60 t) (hL : ∀ x ∈ L, Kn 300 60 x) (h20 : L.length ≤ 20) (hm : 0 ≤ more ∧ more ≤ 20) (hv : more ≤ vars ∧ vars ≤ 20)
    (ht : scB t (L.length + more) 1099511627776 = true) (hl : ∀ x ∈ L, scB x vars 1099511627776 = true) (he : apE t L (vars - more) = 0) : scB (apT t L (vars - more)) vars 1099511627776 = true := by
  have h0 : sbB L (vars - more) = true := sb_of (by omega) (by omega) (fun y hy => (hL y hy).my)
  have e1 : apE t L (vars - more) = anE (apR t L (vars - more)) := by unfold apE; rw [kt.my, h0]; rfl
  have e2 : apT t L (vars - more) = anT (apR t L (vars - more)) := by unfold apT; rw [kt.my, h0]; rfl
  rw [e1] at he
  rw [e2]
  cases hr : apR t L (vars - more) with
  | error e => rw [hr] at he; exact absurd he (ap_err _ _ _ _ _ _ _ hr)
  | ok p =>
    obtain ⟨t', n'⟩ := p
    have hm' : myB t' = true := by
      cases hm : myB t' with
      | true => rfl
      | false => rw [hr] at he; simp [anE, hm] at he
    simp only [anT, hm', if_pos]
    have hs := ap_sc (metas := 1099511627776) fl L (vars - more) vars more 0 t 0 t' n' (fun x hx => ⟨(hL x hx).nod, (scB_iff 1099511627776 x vars (by omega) (by have := (hL x hx).nd; omega)).1 (hl x hx)⟩) rfl (by omega) (by omega) ⟨kt.nod, by
      have := (scB_iff 1099511627776 t (L.length + more) (by omega) (by have := kt.nd; omega)).1 ht
      simpa using this⟩ hr
    have h4 := ((myB_iff t').1 hm').2.1
    exact (scB_iff 1099511627776 t' vars (by omega) (by omega)).2 (by simpa using hs.sc)
end Go.Proofs.YtnnmnkgogiabiaaGreat
