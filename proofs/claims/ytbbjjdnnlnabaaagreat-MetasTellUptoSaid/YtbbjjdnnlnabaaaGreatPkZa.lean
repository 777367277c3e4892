/- Texts of one proof, put together. No statement is proved here. -/
import Derived.Test.YtbbjjdnnlnabaaaGreatPkCr
import Derived.Test.YtbbjjdnnlnabaaaGreatPkC
import Derived.Test.YtbbjjdnnlnabaaaGreatPkP
import Derived.Test.YtbbjjdnnlnabaaaGreatPkV
import Derived.Test.YtbbjjdnnlnabaaaGreatPkVn
import Derived.Test.YtbbjjdnnlnabaaaGreatPkY
namespace Go.Proofs.YtbbjjdnnlnabaaaGreat.Cr
open Go.RowKit
set_option linter.unusedVariables false
def pi (A B : Lm) : Lm := .a (.a (.c 1 0) A) (.l B)
def Clo (t : Lm) : Prop := ∀ s, sub s t = t
end Go.Proofs.YtbbjjdnnlnabaaaGreat.Cr
namespace Go.Proofs.YtbbjjdnnlnabaaaGreat
open Go.RowKit
set_option linter.unusedVariables false
set_option linter.unusedSimpArgs false
inductive S0 where
  | o : S0
  | r (a b : S0) : S0
mutual
def er : T → S0
  | .node k _ xs => if k = 1 then erL xs else .o
def erL : List T → S0
  | [] => .o
  | x :: xs => erM (er x) xs
def erM (s : S0) : List T → S0
  | [] => .o
  | y :: _ => .r s (er y)
end
mutual
inductive StT (C : Int → Int → Option S0) : List S0 → T → S0 → Prop where
  | lam {G : List S0} {h : Int} {x : T} {a b : S0} : StT C (a :: G) x b → StT C G (.node 3 h [x]) (.r a b)
  | var {G : List S0} {h : Int} {xs : List T} {s : S0} : 0 ≤ h → G[h.toNat]? = some s → StS C G xs s → StT C G (.node 4 h xs) .o
  | con {G : List S0} {k h : Int} {xs : List T} {s : S0} : k = 5 ∨ k = 6 → C k h = some s → StS C G xs s → StT C G (.node k h xs) .o
inductive StS (C : Int → Int → Option S0) : List S0 → List T → S0 → Prop where
  | nil {G : List S0} : StS C G [] .o
  | cons {G : List S0} {x : T} {xs : List T} {a b : S0} : StT C G x a → StS C G xs b → StS C G (x :: xs) (.r a b)
end
inductive Wf (C : Int → Int → Option S0) : Bool → List S0 → T → Prop where
  | sort {G : List S0} {h : Int} : Wf C false G (.node 0 h [])
  | pi {b : Bool} {G : List S0} {h : Int} {x y : T} : Wf C true G x → Wf C b (er x :: G) y → Wf C b G (.node 1 h [x, y])
  | fam {G : List S0} {h : Int} {xs : List T} {s : S0} : C 2 h = some s → StS C G xs s → Wf C true G (.node 2 h xs)
end Go.Proofs.YtbbjjdnnlnabaaaGreat
