/-
  How the document's own apply and spine of layer 3 end. No statement is proved here.
-/
import Derived.Test.YtinjeocfnhhlmaaTi
namespace Go.Proofs.Ytinjeocfnhhlmaa
open Go.ChangeShapes Go.WideShapes Go.ChangeAt Go.RowKit
set_option linter.unusedVariables false

/-- how the document's apply and spine end -/
def QEnd (pw : Nat) (X : Nat → Prop) (w : World) (r : Res) (e : Ending) (w' : World) : Prop :=
  ∃ k h A n c, e = .returned (.agg #[.int .i64 k, .int .i64 h, .slice A n c]) ∧ Fr (fun k => k = pw) w w' ∧
    match r with
    | .ok (t, m) => RX X w' t (.agg #[.int .i64 k, .int .i64 h, .slice A n c]) ∧ wk2 w' pw m 0
    | .error ec => ec ≠ 0 ∧ (∃ m, wk2 w' pw m ec) ∧ Value.agg #[.int .i64 k, .int .i64 h, .slice A n c] = zT
def QpC (f : Nat) : Prop := ∀ (L : List T) (sh : Int) (u : Nat) (t : T) (n : Nat) (v : Value) (w : World) (pw : Nat) (X : Nat → Prop) (A : Option Addr) (m c : Nat),
  40001 ≤ n + f → u ≤ n → n ≤ 40000 → L.length ≤ 1000000 → Sub (bt n) L sh → Way (bt n - sh) t → nd t ≤ 200000000 → X pw → (∀ b, X b → b < w.heap.size) → wk2 w pw n 0 → RXL X w (unN u L) A m c → RX X w t v →
  Calls Try.prog 89 #[.pointer (some ⟨pw, 0, none⟩), v, .agg #[.slice A m c, .int .i64 (sh + u)]] w (QEnd pw X w (ap f L sh u t n))
def QsC (f : Nat) : Prop := ∀ (t : T) (args : List T) (n : Nat) (v : Value) (A : Option Addr) (m c : Nat) (w : World) (pw : Nat) (X : Nat → Prop),
  40001 ≤ n + f → n ≤ 40000 → Way (bt n) t → WayL (bt n) args → nd t ≤ 200000000 → ndL args ≤ 200000000 → X pw → (∀ b, X b → b < w.heap.size) → wk2 w pw n 0 → RX X w t v → RXL X w args A m c →
  Calls Try.prog 94 #[.pointer (some ⟨pw, 0, none⟩), v, .slice A m c] w (QEnd pw X w (sp f t args n))

end Go.Proofs.Ytinjeocfnhhlmaa
