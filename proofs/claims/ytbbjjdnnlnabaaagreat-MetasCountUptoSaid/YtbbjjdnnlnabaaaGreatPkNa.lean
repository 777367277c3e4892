/- Texts of one proof, put together. No statement is proved here. -/
import Derived.Test.YtbbjjdnnlnabaaaGreatPkZa
import Derived.Test.YtbbjjdnnlnabaaaGreatPkZf
import Derived.Test.YtbbjjdnnlnabaaaGreatPkK
import Derived.Test.YtbbjjdnnlnabaaaGreatPkKl
import Derived.Test.YtbbjjdnnlnabaaaGreatPkNe
namespace Go.Proofs.YtbbjjdnnlnabaaaGreat.Cr
open Go.RowKit
set_option linter.unusedVariables false
structure CK (q : Int → Int → Lm) : Prop where
  clo : ∀ k h, Clo (q k h)
  pi : q 1 0 = .c 1 0
def scons (x : Lm) (s : Nat → Lm) : Nat → Lm
  | 0 => x
  | i + 1 => s i
def consL (s : Nat → Lm) : List Lm → Nat → Lm
  | [] => s
  | x :: xs => consL (scons x s) xs
end Go.Proofs.YtbbjjdnnlnabaaaGreat.Cr
namespace Go.Proofs.YtbbjjdnnlnabaaaGreat
open Go.RowKit
set_option linter.unusedVariables false
set_option linter.unusedSimpArgs false
theorem ckT_okN {W : WV} {cx : List T} {m a : T} (h : ckT W cx m a = 0) : mayV W cx [m, a] = true ∧ tmV W m cx a = 0 := by
  unfold ckT at h
  split at h
  · rename_i h1; exact ⟨h1, h⟩
  · cases h
end Go.Proofs.YtbbjjdnnlnabaaaGreat
