/-
  NARROWER THAN 'FOR EVERY INPUT', by the rows' own cells (each row's printed sentence says how): CheckTerms: loops · CheckTypes: loops · MetasSelf: loops · MetasFilled: loops · MetasBegin: loops · MetasSizes: loops.
  DERIVED. THE GIVEN ROWS OF THIS SEAT. 6 by the template 'for every input the law returns true; each argument reads behind the call as it read before'; 0 by the template 'total and deterministic' (their statements: YtloeainlpcnhnaaTotals.lean).
  GIVEN WITH THE SEED: the statements are not yours to turn. If you find one false, say at which input.
  Laid BY PROGRAM, IN A SANDBOX (cutbox-rows.mjs): the forced cells as the released guide's own fill.sh prints them over the translation 7df40f2254d2a6c5… (all of the seat's roots in one cut). By AI agents, Wed Nov 11 2026. No macro, syntax, notation, axiom, sorry.
-/
import Derived.Test.YtloeainlpcnhnaaChecked
import GoSem.Claim
import GoSem.ClaimJoined
import GoSem.ClaimMapViews
import Derived.JoinedTies
import Derived.KernelRfl
namespace Go.Proofs.Ytloeainlpcnhnaa
/- THE CELL 'sum', in the pinned program and in every row, IS THE sha256 OF THE DUMP (.gsa) THAT YtloeainlpcnhnaaProg.lean LOADS. Nothing in Lean hashes anything: it is a label: what it is worth is what the hold of that sum in a sandbox is worth. -/
noncomputable def Try.pinned : Pinned := { name := "ytloeainlpcnhnaa", sum := "7df40f2254d2a6c585ba956c86e2f5f275d4c960384b26cfcf34d474a8c2ca71", checked := Try.checked }
namespace Rows
def none {H : Type} : Left H := { results := [], args := [] }

/-- 'amanuensislaw10.CheckTerms': WHATEVER THE INPUT: true; the input reads as it did. -/
def checkTermsSpec : ChangeSpec := { name := "checkTerms", fn := fun _ => fun
  | [d1, d2, d3, d4, d5] => { results := [.lit (.bool true)], args := [d1, d2, d3, d4, d5] }
  | _ => none }
def checkTermsRow : OpenClaim := { program := "ytloeainlpcnhnaa", sum := "7df40f2254d2a6c585ba956c86e2f5f275d4c960384b26cfcf34d474a8c2ca71", func := "amanuensis/amanuensislaw10.CheckTerms", spec := "checkTerms", unfollowed := true, recurses := true, loops := true, plainKeys := false, apart := false }
def CheckTermsSaid : Prop := checkTermsRow.holds Try.pinned (OpenSpec.ofChange checkTermsSpec)

/-- ITS FALSE NEIGHBOUR: 'it returns false'. Refute it at one input. -/
def checkTermsWrong : ChangeSpec := { name := "checkTerms", fn := fun _ => fun
  | [d1, d2, d3, d4, d5] => { results := [.lit (.bool false)], args := [d1, d2, d3, d4, d5] }
  | _ => none }
def CheckTermsWrongFalsely : Prop := checkTermsRow.holds Try.pinned (OpenSpec.ofChange checkTermsWrong)

/-- 'amanuensislaw10.CheckTypes': WHATEVER THE INPUT: true; the input reads as it did. -/
def checkTypesSpec : ChangeSpec := { name := "checkTypes", fn := fun _ => fun
  | [d1, d2, d3, d4] => { results := [.lit (.bool true)], args := [d1, d2, d3, d4] }
  | _ => none }
def checkTypesRow : OpenClaim := { program := "ytloeainlpcnhnaa", sum := "7df40f2254d2a6c585ba956c86e2f5f275d4c960384b26cfcf34d474a8c2ca71", func := "amanuensis/amanuensislaw10.CheckTypes", spec := "checkTypes", unfollowed := true, recurses := true, loops := true, plainKeys := false, apart := false }
def CheckTypesSaid : Prop := checkTypesRow.holds Try.pinned (OpenSpec.ofChange checkTypesSpec)

/-- ITS FALSE NEIGHBOUR: 'it returns false'. Refute it at one input. -/
def checkTypesWrong : ChangeSpec := { name := "checkTypes", fn := fun _ => fun
  | [d1, d2, d3, d4] => { results := [.lit (.bool false)], args := [d1, d2, d3, d4] }
  | _ => none }
def CheckTypesWrongFalsely : Prop := checkTypesRow.holds Try.pinned (OpenSpec.ofChange checkTypesWrong)

/-- 'amanuensislaw12.MetasSelf': WHATEVER THE INPUT: true; the input reads as it did. -/
def metasSelfSpec : ChangeSpec := { name := "metasSelf", fn := fun _ => fun
  | [d1, d2] => { results := [.lit (.bool true)], args := [d1, d2] }
  | _ => none }
def metasSelfRow : OpenClaim := { program := "ytloeainlpcnhnaa", sum := "7df40f2254d2a6c585ba956c86e2f5f275d4c960384b26cfcf34d474a8c2ca71", func := "amanuensis/amanuensislaw12.MetasSelf", spec := "metasSelf", unfollowed := true, recurses := true, loops := true, plainKeys := false, apart := false }
def MetasSelfSaid : Prop := metasSelfRow.holds Try.pinned (OpenSpec.ofChange metasSelfSpec)

/-- ITS FALSE NEIGHBOUR: 'it returns false'. Refute it at one input. -/
def metasSelfWrong : ChangeSpec := { name := "metasSelf", fn := fun _ => fun
  | [d1, d2] => { results := [.lit (.bool false)], args := [d1, d2] }
  | _ => none }
def MetasSelfWrongFalsely : Prop := metasSelfRow.holds Try.pinned (OpenSpec.ofChange metasSelfWrong)

/-- 'amanuensislaw12.MetasFilled': WHATEVER THE INPUT: true; the input reads as it did. -/
def metasFilledSpec : ChangeSpec := { name := "metasFilled", fn := fun _ => fun
  | [d1, d2, d3, d4, d5, d6, d7] => { results := [.lit (.bool true)], args := [d1, d2, d3, d4, d5, d6, d7] }
  | _ => none }
def metasFilledRow : OpenClaim := { program := "ytloeainlpcnhnaa", sum := "7df40f2254d2a6c585ba956c86e2f5f275d4c960384b26cfcf34d474a8c2ca71", func := "amanuensis/amanuensislaw12.MetasFilled", spec := "metasFilled", unfollowed := true, recurses := true, loops := true, plainKeys := false, apart := false }
def MetasFilledSaid : Prop := metasFilledRow.holds Try.pinned (OpenSpec.ofChange metasFilledSpec)

/-- ITS FALSE NEIGHBOUR: 'it returns false'. Refute it at one input. -/
def metasFilledWrong : ChangeSpec := { name := "metasFilled", fn := fun _ => fun
  | [d1, d2, d3, d4, d5, d6, d7] => { results := [.lit (.bool false)], args := [d1, d2, d3, d4, d5, d6, d7] }
  | _ => none }
def MetasFilledWrongFalsely : Prop := metasFilledRow.holds Try.pinned (OpenSpec.ofChange metasFilledWrong)

/-- 'amanuensislaw12.MetasBegin': WHATEVER THE INPUT: true; the input reads as it did. -/
def metasBeginSpec : ChangeSpec := { name := "metasBegin", fn := fun _ => fun
  | [d1, d2, d3, d4] => { results := [.lit (.bool true)], args := [d1, d2, d3, d4] }
  | _ => none }
def metasBeginRow : OpenClaim := { program := "ytloeainlpcnhnaa", sum := "7df40f2254d2a6c585ba956c86e2f5f275d4c960384b26cfcf34d474a8c2ca71", func := "amanuensis/amanuensislaw12.MetasBegin", spec := "metasBegin", unfollowed := true, recurses := true, loops := true, plainKeys := false, apart := false }
def MetasBeginSaid : Prop := metasBeginRow.holds Try.pinned (OpenSpec.ofChange metasBeginSpec)

/-- ITS FALSE NEIGHBOUR: 'it returns false'. Refute it at one input. -/
def metasBeginWrong : ChangeSpec := { name := "metasBegin", fn := fun _ => fun
  | [d1, d2, d3, d4] => { results := [.lit (.bool false)], args := [d1, d2, d3, d4] }
  | _ => none }
def MetasBeginWrongFalsely : Prop := metasBeginRow.holds Try.pinned (OpenSpec.ofChange metasBeginWrong)

/-- 'amanuensislaw12.MetasSizes': WHATEVER THE INPUT: true; the input reads as it did. -/
def metasSizesSpec : ChangeSpec := { name := "metasSizes", fn := fun _ => fun
  | [d1, d2] => { results := [.lit (.bool true)], args := [d1, d2] }
  | _ => none }
def metasSizesRow : OpenClaim := { program := "ytloeainlpcnhnaa", sum := "7df40f2254d2a6c585ba956c86e2f5f275d4c960384b26cfcf34d474a8c2ca71", func := "amanuensis/amanuensislaw12.MetasSizes", spec := "metasSizes", unfollowed := true, recurses := true, loops := true, plainKeys := false, apart := false }
def MetasSizesSaid : Prop := metasSizesRow.holds Try.pinned (OpenSpec.ofChange metasSizesSpec)

/-- ITS FALSE NEIGHBOUR: 'it returns false'. Refute it at one input. -/
def metasSizesWrong : ChangeSpec := { name := "metasSizes", fn := fun _ => fun
  | [d1, d2] => { results := [.lit (.bool false)], args := [d1, d2] }
  | _ => none }
def MetasSizesWrongFalsely : Prop := metasSizesRow.holds Try.pinned (OpenSpec.ofChange metasSizesWrong)

/- THE SECOND FORM. 'bulk': how many values and letters a reading holds, each counted each time it is reached (what is shared counts as often as it is met; a slice's spare places count too). A statement '..UptoSaid' is the law's where the arguments, and the package variables that the reading takes, are together of bulk at most 1048576: NARROWER than '..Said'. Prove '..Said' where nothing that the law and all that it calls make is longer than what came in: it says more and counts as full. Else prove '..UptoSaid'. A law counts once. -/
mutual
def uptoBulk {H : Type} : DataW H → Nat
  | .lit (.string bytes) => bytes.length + 1
  | .lit _ => 1
  | .nil => 1
  | .ptr d => uptoBulk d + 1
  | .slice elems spare => uptoBulkAll elems + uptoBulkAll spare + 1
  | .agg parts => uptoBulkAll parts + 1
  | .iface _ d => uptoBulk d + 1
  | .map entries => uptoBulkEntries entries + 1
  | .held _ => 1
def uptoBulkAll {H : Type} : List (DataW H) → Nat
  | [] => 0
  | d :: r => uptoBulk d + uptoBulkAll r
def uptoBulkEntries {H : Type} : List (Lit × DataW H) → Nat
  | [] => 0
  | x :: r => uptoBulkEntry x + uptoBulkEntries r
def uptoBulkEntry {H : Type} : Lit × DataW H → Nat
  | (.string bytes, d) => bytes.length + uptoBulk d + 1
  | (_, d) => uptoBulk d + 1
 end
def uptoSmall : (H : Type) → List (DataW H) → Bool := fun _ ds => decide (uptoBulkAll ds ≤ 1048576)
def OpenSpec.upto (s : _root_.Go.ChangeSpec) : _root_.Go.OpenSpec := { _root_.Go.OpenSpec.ofChange s with cond := some uptoSmall }

/-- 'amanuensislaw10.CheckTerms', WHERE WHAT IT READS IS OF BULK AT MOST 1048576: true; the input reads as it did. -/
def checkTermsUptoRow : OpenClaim := { program := "ytloeainlpcnhnaa", sum := "7df40f2254d2a6c585ba956c86e2f5f275d4c960384b26cfcf34d474a8c2ca71", func := "amanuensis/amanuensislaw10.CheckTerms", spec := "checkTerms", unfollowed := true, recurses := true, loops := true, plainKeys := false, apart := false, narrowed := true }
def CheckTermsUptoSaid : Prop := checkTermsUptoRow.holds Try.pinned (OpenSpec.upto checkTermsSpec)

/-- 'amanuensislaw10.CheckTypes', WHERE WHAT IT READS IS OF BULK AT MOST 1048576: true; the input reads as it did. -/
def checkTypesUptoRow : OpenClaim := { program := "ytloeainlpcnhnaa", sum := "7df40f2254d2a6c585ba956c86e2f5f275d4c960384b26cfcf34d474a8c2ca71", func := "amanuensis/amanuensislaw10.CheckTypes", spec := "checkTypes", unfollowed := true, recurses := true, loops := true, plainKeys := false, apart := false, narrowed := true }
def CheckTypesUptoSaid : Prop := checkTypesUptoRow.holds Try.pinned (OpenSpec.upto checkTypesSpec)

/-- 'amanuensislaw12.MetasSelf', WHERE WHAT IT READS IS OF BULK AT MOST 1048576: true; the input reads as it did. -/
def metasSelfUptoRow : OpenClaim := { program := "ytloeainlpcnhnaa", sum := "7df40f2254d2a6c585ba956c86e2f5f275d4c960384b26cfcf34d474a8c2ca71", func := "amanuensis/amanuensislaw12.MetasSelf", spec := "metasSelf", unfollowed := true, recurses := true, loops := true, plainKeys := false, apart := false, narrowed := true }
def MetasSelfUptoSaid : Prop := metasSelfUptoRow.holds Try.pinned (OpenSpec.upto metasSelfSpec)

/-- 'amanuensislaw12.MetasFilled', WHERE WHAT IT READS IS OF BULK AT MOST 1048576: true; the input reads as it did. -/
def metasFilledUptoRow : OpenClaim := { program := "ytloeainlpcnhnaa", sum := "7df40f2254d2a6c585ba956c86e2f5f275d4c960384b26cfcf34d474a8c2ca71", func := "amanuensis/amanuensislaw12.MetasFilled", spec := "metasFilled", unfollowed := true, recurses := true, loops := true, plainKeys := false, apart := false, narrowed := true }
def MetasFilledUptoSaid : Prop := metasFilledUptoRow.holds Try.pinned (OpenSpec.upto metasFilledSpec)

/-- 'amanuensislaw12.MetasBegin', WHERE WHAT IT READS IS OF BULK AT MOST 1048576: true; the input reads as it did. -/
def metasBeginUptoRow : OpenClaim := { program := "ytloeainlpcnhnaa", sum := "7df40f2254d2a6c585ba956c86e2f5f275d4c960384b26cfcf34d474a8c2ca71", func := "amanuensis/amanuensislaw12.MetasBegin", spec := "metasBegin", unfollowed := true, recurses := true, loops := true, plainKeys := false, apart := false, narrowed := true }
def MetasBeginUptoSaid : Prop := metasBeginUptoRow.holds Try.pinned (OpenSpec.upto metasBeginSpec)

/-- 'amanuensislaw12.MetasSizes', WHERE WHAT IT READS IS OF BULK AT MOST 1048576: true; the input reads as it did. -/
def metasSizesUptoRow : OpenClaim := { program := "ytloeainlpcnhnaa", sum := "7df40f2254d2a6c585ba956c86e2f5f275d4c960384b26cfcf34d474a8c2ca71", func := "amanuensis/amanuensislaw12.MetasSizes", spec := "metasSizes", unfollowed := true, recurses := true, loops := true, plainKeys := false, apart := false, narrowed := true }
def MetasSizesUptoSaid : Prop := metasSizesUptoRow.holds Try.pinned (OpenSpec.upto metasSizesSpec)

end Rows
end Go.Proofs.Ytloeainlpcnhnaa
