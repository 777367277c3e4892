/- Texts of one proof, put together. No statement is proved here. -/
import Derived.Test.YtbbjjdnnlnabaaaGreatPkP
namespace Go.Proofs.YtbbjjdnnlnabaaaGreat.Cr
set_option linter.unusedVariables false
inductive Lm where
  | v (i : Nat) : Lm
  | c (k h : Int) : Lm
  | a (f x : Lm) : Lm
  | l (b : Lm) : Lm
def upr (r : Nat → Nat) : Nat → Nat
  | 0 => 0
  | i + 1 => r i + 1
def ren : (Nat → Nat) → Lm → Lm
  | r, .v i => .v (r i)
  | _, .c k h => .c k h
  | r, .a f x => .a (ren r f) (ren r x)
  | r, .l b => .l (ren (upr r) b)
def ups (s : Nat → Lm) : Nat → Lm
  | 0 => .v 0
  | i + 1 => ren (· + 1) (s i)
def sub : (Nat → Lm) → Lm → Lm
  | s, .v i => s i
  | _, .c k h => .c k h
  | s, .a f x => .a (sub s f) (sub s x)
  | s, .l b => .l (sub (ups s) b)
def one (x : Lm) : Nat → Lm
  | 0 => x
  | i + 1 => .v i
end Go.Proofs.YtbbjjdnnlnabaaaGreat.Cr
