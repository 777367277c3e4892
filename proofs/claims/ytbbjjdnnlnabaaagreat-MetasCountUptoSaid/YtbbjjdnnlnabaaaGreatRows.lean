/-
  NARROWER THAN 'FOR EVERY INPUT', by the rows' own cells (each row's printed sentence says how): MetasTell: loops · MetasCount: loops.
  DERIVED. THE GIVEN ROWS OF THIS SEAT. 2 by the template 'for every input the law returns true; each argument reads behind the call as it read before'; 0 by the template 'total and deterministic' (their statements: YtbbjjdnnlnabaaaGreatTotals.lean).
  GIVEN WITH THE SEED: the statements are not yours to turn. If you find one false, say at which input.
  Laid BY PROGRAM, IN A SANDBOX (cutbox-rows.mjs): the forced cells as the released guide's own fill.sh prints them over the translation 6a356859681b4428… (all of the seat's roots in one cut). By AI agents, Wed Nov 11 2026. No macro, syntax, notation, axiom, sorry.
-/
import Derived.Test.YtbbjjdnnlnabaaaGreatChecked
import GoSem.Claim
import GoSem.ClaimJoined
import GoSem.ClaimMapViews
import Derived.JoinedTies
import Derived.KernelRfl
namespace Go.Proofs.YtbbjjdnnlnabaaaGreat
/- THE CELL 'sum', in the pinned program and in every row, IS THE sha256 OF THE DUMP (.gsa) THAT YtbbjjdnnlnabaaaGreatProg.lean LOADS. Nothing in Lean hashes anything: it is a label: what it is worth is what the hold of that sum in a sandbox is worth. -/
noncomputable def Tryz.pinned : Pinned := { name := "ytbbjjdnnlnabaaagreat", sum := "6a356859681b4428be33f8e4aa5966820e28d1a5219c1ea53cdd83f90a0b03a5", checked := Tryz.checked }
namespace Rows
def none {H : Type} : Left H := { results := [], args := [] }

/-- 'amanuensislaw12.MetasTell': WHATEVER THE INPUT: true; the input reads as it did. -/
def metasTellSpec : ChangeSpec := { name := "metasTell", fn := fun _ => fun
  | [d1, d2, d3, d4, d5] => { results := [.lit (.bool true)], args := [d1, d2, d3, d4, d5] }
  | _ => none }
def metasTellRow : OpenClaim := { program := "ytbbjjdnnlnabaaagreat", sum := "6a356859681b4428be33f8e4aa5966820e28d1a5219c1ea53cdd83f90a0b03a5", func := "amanuensis/amanuensislaw12.MetasTell", spec := "metasTell", unfollowed := true, recurses := true, loops := true, plainKeys := false, apart := false }
def MetasTellSaid : Prop := metasTellRow.holds Tryz.pinned (OpenSpec.ofChange metasTellSpec)

/-- ITS FALSE NEIGHBOUR: 'it returns false'. Refute it at one input. -/
def metasTellWrong : ChangeSpec := { name := "metasTell", fn := fun _ => fun
  | [d1, d2, d3, d4, d5] => { results := [.lit (.bool false)], args := [d1, d2, d3, d4, d5] }
  | _ => none }
def MetasTellWrongFalsely : Prop := metasTellRow.holds Tryz.pinned (OpenSpec.ofChange metasTellWrong)

/-- 'amanuensislaw12.MetasCount': WHATEVER THE INPUT: true; the input reads as it did. -/
def metasCountSpec : ChangeSpec := { name := "metasCount", fn := fun _ => fun
  | [d1, d2, d3, d4] => { results := [.lit (.bool true)], args := [d1, d2, d3, d4] }
  | _ => none }
def metasCountRow : OpenClaim := { program := "ytbbjjdnnlnabaaagreat", sum := "6a356859681b4428be33f8e4aa5966820e28d1a5219c1ea53cdd83f90a0b03a5", func := "amanuensis/amanuensislaw12.MetasCount", spec := "metasCount", unfollowed := true, recurses := true, loops := true, plainKeys := false, apart := false }
def MetasCountSaid : Prop := metasCountRow.holds Tryz.pinned (OpenSpec.ofChange metasCountSpec)

/-- ITS FALSE NEIGHBOUR: 'it returns false'. Refute it at one input. -/
def metasCountWrong : ChangeSpec := { name := "metasCount", fn := fun _ => fun
  | [d1, d2, d3, d4] => { results := [.lit (.bool false)], args := [d1, d2, d3, d4] }
  | _ => none }
def MetasCountWrongFalsely : Prop := metasCountRow.holds Tryz.pinned (OpenSpec.ofChange metasCountWrong)

/- THE SECOND FORM. 'bulk': how many values and letters a reading holds, each counted each time it is reached (what is shared counts as often as it is met; a slice's spare places count too). A statement '..UptoSaid' is the law's where the arguments, and the package variables that the reading takes, are together of bulk at most 1048576: NARROWER than '..Said'. Prove '..Said' where nothing that the law and all that it calls make is longer than what came in: it says more and counts as full. Else prove '..UptoSaid'. A law counts once. -/
mutual
def uptoBulk {H : Type} : DataW H → Nat
  | .lit (.string bytes) => bytes.length + 1
  | .lit _ => 1
  | .nil => 1
  | .ptr d => uptoBulk d + 1
  | .slice elems spare => uptoBulkAll elems + uptoBulkAll spare + 1
  | .agg parts => uptoBulkAll parts + 1
  | .iface _ d => uptoBulk d + 1
  | .map entries => uptoBulkEntries entries + 1
  | .held _ => 1
def uptoBulkAll {H : Type} : List (DataW H) → Nat
  | [] => 0
  | d :: r => uptoBulk d + uptoBulkAll r
def uptoBulkEntries {H : Type} : List (Lit × DataW H) → Nat
  | [] => 0
  | x :: r => uptoBulkEntry x + uptoBulkEntries r
def uptoBulkEntry {H : Type} : Lit × DataW H → Nat
  | (.string bytes, d) => bytes.length + uptoBulk d + 1
  | (_, d) => uptoBulk d + 1
 end
def uptoSmall : (H : Type) → List (DataW H) → Bool := fun _ ds => decide (uptoBulkAll ds ≤ 1048576)
def OpenSpec.upto (s : _root_.Go.ChangeSpec) : _root_.Go.OpenSpec := { _root_.Go.OpenSpec.ofChange s with cond := some uptoSmall }

/-- 'amanuensislaw12.MetasTell', WHERE WHAT IT READS IS OF BULK AT MOST 1048576: true; the input reads as it did. -/
def metasTellUptoRow : OpenClaim := { program := "ytbbjjdnnlnabaaagreat", sum := "6a356859681b4428be33f8e4aa5966820e28d1a5219c1ea53cdd83f90a0b03a5", func := "amanuensis/amanuensislaw12.MetasTell", spec := "metasTell", unfollowed := true, recurses := true, loops := true, plainKeys := false, apart := false, narrowed := true }
def MetasTellUptoSaid : Prop := metasTellUptoRow.holds Tryz.pinned (OpenSpec.upto metasTellSpec)

/-- 'amanuensislaw12.MetasCount', WHERE WHAT IT READS IS OF BULK AT MOST 1048576: true; the input reads as it did. -/
def metasCountUptoRow : OpenClaim := { program := "ytbbjjdnnlnabaaagreat", sum := "6a356859681b4428be33f8e4aa5966820e28d1a5219c1ea53cdd83f90a0b03a5", func := "amanuensis/amanuensislaw12.MetasCount", spec := "metasCount", unfollowed := true, recurses := true, loops := true, plainKeys := false, apart := false, narrowed := true }
def MetasCountUptoSaid : Prop := metasCountUptoRow.holds Tryz.pinned (OpenSpec.upto metasCountSpec)

end Rows
end Go.Proofs.YtbbjjdnnlnabaaaGreat
