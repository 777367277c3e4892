/-
  NARROWER THAN 'FOR EVERY INPUT', by the rows' own cells (each row's printed sentence says how): OccurTells: loops · OccurPattern: loops · OccurScoped: loops · OccurShifts: loops · OccurRises: loops · OccurParts: loops · OccurLess: loops.
  DERIVED. THE GIVEN ROWS OF THIS SEAT. 7 by the template 'for every input the law returns true; each argument reads behind the call as it read before'; 0 by the template 'total and deterministic' (their statements: YtehdbjfalpjpeaaTotals.lean).
  GIVEN WITH THE SEED: the statements are not yours to turn. If you find one false, say at which input.
  Laid BY PROGRAM, IN A SANDBOX (cutbox-rows.mjs): the forced cells as the released guide's own fill.sh prints them over the translation be3c90e44529682d… (all of the seat's roots in one cut). By AI agents, Wed Nov 11 2026. No macro, syntax, notation, axiom, sorry.
-/
import Derived.Test.YtehdbjfalpjpeaaChecked
import GoSem.Claim
import GoSem.ClaimJoined
import GoSem.ClaimMapViews
import Derived.JoinedTies
import Derived.KernelRfl
namespace Go.Proofs.Ytehdbjfalpjpeaa
/- THE CELL 'sum', in the pinned program and in every row, IS THE sha256 OF THE DUMP (.gsa) THAT YtehdbjfalpjpeaaProg.lean LOADS. Nothing in Lean hashes anything: it is a label: what it is worth is what the hold of that sum in a sandbox is worth. -/
noncomputable def Try.pinned : Pinned := { name := "ytehdbjfalpjpeaa", sum := "be3c90e44529682d7bc42db39646abf7720a20d39583b08f6592a24961410fdc", checked := Try.checked }
namespace Rows
def none {H : Type} : Left H := { results := [], args := [] }

/-- 'amanuensislaw05.OccurTells': WHATEVER THE INPUT: true; the input reads as it did. -/
def occurTellsSpec : ChangeSpec := { name := "occurTells", fn := fun _ => fun
  | [d1, d2] => { results := [.lit (.bool true)], args := [d1, d2] }
  | _ => none }
def occurTellsRow : OpenClaim := { program := "ytehdbjfalpjpeaa", sum := "be3c90e44529682d7bc42db39646abf7720a20d39583b08f6592a24961410fdc", func := "amanuensis/amanuensislaw05.OccurTells", spec := "occurTells", unfollowed := true, recurses := true, loops := true, apart := false }
def OccurTellsSaid : Prop := occurTellsRow.holds Try.pinned (OpenSpec.ofChange occurTellsSpec)

/-- ITS FALSE NEIGHBOUR: 'it returns false'. Refute it at one input. -/
def occurTellsWrong : ChangeSpec := { name := "occurTells", fn := fun _ => fun
  | [d1, d2] => { results := [.lit (.bool false)], args := [d1, d2] }
  | _ => none }
def OccurTellsWrongFalsely : Prop := occurTellsRow.holds Try.pinned (OpenSpec.ofChange occurTellsWrong)

/-- 'amanuensislaw05.OccurPattern': WHATEVER THE INPUT: true; the input reads as it did. -/
def occurPatternSpec : ChangeSpec := { name := "occurPattern", fn := fun _ => fun
  | [d1, d2] => { results := [.lit (.bool true)], args := [d1, d2] }
  | _ => none }
def occurPatternRow : OpenClaim := { program := "ytehdbjfalpjpeaa", sum := "be3c90e44529682d7bc42db39646abf7720a20d39583b08f6592a24961410fdc", func := "amanuensis/amanuensislaw05.OccurPattern", spec := "occurPattern", unfollowed := true, recurses := true, loops := true, apart := false }
def OccurPatternSaid : Prop := occurPatternRow.holds Try.pinned (OpenSpec.ofChange occurPatternSpec)

/-- ITS FALSE NEIGHBOUR: 'it returns false'. Refute it at one input. -/
def occurPatternWrong : ChangeSpec := { name := "occurPattern", fn := fun _ => fun
  | [d1, d2] => { results := [.lit (.bool false)], args := [d1, d2] }
  | _ => none }
def OccurPatternWrongFalsely : Prop := occurPatternRow.holds Try.pinned (OpenSpec.ofChange occurPatternWrong)

/-- 'amanuensislaw05.OccurScoped': WHATEVER THE INPUT: true; the input reads as it did. -/
def occurScopedSpec : ChangeSpec := { name := "occurScoped", fn := fun _ => fun
  | [d1, d2] => { results := [.lit (.bool true)], args := [d1, d2] }
  | _ => none }
def occurScopedRow : OpenClaim := { program := "ytehdbjfalpjpeaa", sum := "be3c90e44529682d7bc42db39646abf7720a20d39583b08f6592a24961410fdc", func := "amanuensis/amanuensislaw05.OccurScoped", spec := "occurScoped", unfollowed := true, recurses := true, loops := true, apart := false }
def OccurScopedSaid : Prop := occurScopedRow.holds Try.pinned (OpenSpec.ofChange occurScopedSpec)

/-- ITS FALSE NEIGHBOUR: 'it returns false'. Refute it at one input. -/
def occurScopedWrong : ChangeSpec := { name := "occurScoped", fn := fun _ => fun
  | [d1, d2] => { results := [.lit (.bool false)], args := [d1, d2] }
  | _ => none }
def OccurScopedWrongFalsely : Prop := occurScopedRow.holds Try.pinned (OpenSpec.ofChange occurScopedWrong)

/-- 'amanuensislaw05.OccurShifts': WHATEVER THE INPUT: true; the input reads as it did. -/
def occurShiftsSpec : ChangeSpec := { name := "occurShifts", fn := fun _ => fun
  | [d1, d2, d3] => { results := [.lit (.bool true)], args := [d1, d2, d3] }
  | _ => none }
def occurShiftsRow : OpenClaim := { program := "ytehdbjfalpjpeaa", sum := "be3c90e44529682d7bc42db39646abf7720a20d39583b08f6592a24961410fdc", func := "amanuensis/amanuensislaw05.OccurShifts", spec := "occurShifts", unfollowed := true, recurses := true, loops := true, apart := false }
def OccurShiftsSaid : Prop := occurShiftsRow.holds Try.pinned (OpenSpec.ofChange occurShiftsSpec)

/-- ITS FALSE NEIGHBOUR: 'it returns false'. Refute it at one input. -/
def occurShiftsWrong : ChangeSpec := { name := "occurShifts", fn := fun _ => fun
  | [d1, d2, d3] => { results := [.lit (.bool false)], args := [d1, d2, d3] }
  | _ => none }
def OccurShiftsWrongFalsely : Prop := occurShiftsRow.holds Try.pinned (OpenSpec.ofChange occurShiftsWrong)

/-- 'amanuensislaw05.OccurRises': WHATEVER THE INPUT: true; the input reads as it did. -/
def occurRisesSpec : ChangeSpec := { name := "occurRises", fn := fun _ => fun
  | [d] => { results := [.lit (.bool true)], args := [d] }
  | _ => none }
def occurRisesRow : OpenClaim := { program := "ytehdbjfalpjpeaa", sum := "be3c90e44529682d7bc42db39646abf7720a20d39583b08f6592a24961410fdc", func := "amanuensis/amanuensislaw05.OccurRises", spec := "occurRises", unfollowed := true, recurses := true, loops := true, apart := false }
def OccurRisesSaid : Prop := occurRisesRow.holds Try.pinned (OpenSpec.ofChange occurRisesSpec)

/-- ITS FALSE NEIGHBOUR: 'it returns false'. Refute it at one input. -/
def occurRisesWrong : ChangeSpec := { name := "occurRises", fn := fun _ => fun
  | [d] => { results := [.lit (.bool false)], args := [d] }
  | _ => none }
def OccurRisesWrongFalsely : Prop := occurRisesRow.holds Try.pinned (OpenSpec.ofChange occurRisesWrong)

/-- 'amanuensislaw05.OccurParts': WHATEVER THE INPUT: true; the input reads as it did. -/
def occurPartsSpec : ChangeSpec := { name := "occurParts", fn := fun _ => fun
  | [d1, d2] => { results := [.lit (.bool true)], args := [d1, d2] }
  | _ => none }
def occurPartsRow : OpenClaim := { program := "ytehdbjfalpjpeaa", sum := "be3c90e44529682d7bc42db39646abf7720a20d39583b08f6592a24961410fdc", func := "amanuensis/amanuensislaw05.OccurParts", spec := "occurParts", unfollowed := true, recurses := true, loops := true, apart := false }
def OccurPartsSaid : Prop := occurPartsRow.holds Try.pinned (OpenSpec.ofChange occurPartsSpec)

/-- ITS FALSE NEIGHBOUR: 'it returns false'. Refute it at one input. -/
def occurPartsWrong : ChangeSpec := { name := "occurParts", fn := fun _ => fun
  | [d1, d2] => { results := [.lit (.bool false)], args := [d1, d2] }
  | _ => none }
def OccurPartsWrongFalsely : Prop := occurPartsRow.holds Try.pinned (OpenSpec.ofChange occurPartsWrong)

/-- 'amanuensislaw05.OccurLess': WHATEVER THE INPUT: true; the input reads as it did. -/
def occurLessSpec : ChangeSpec := { name := "occurLess", fn := fun _ => fun
  | [d1, d2, d3, d4] => { results := [.lit (.bool true)], args := [d1, d2, d3, d4] }
  | _ => none }
def occurLessRow : OpenClaim := { program := "ytehdbjfalpjpeaa", sum := "be3c90e44529682d7bc42db39646abf7720a20d39583b08f6592a24961410fdc", func := "amanuensis/amanuensislaw05.OccurLess", spec := "occurLess", unfollowed := true, recurses := true, loops := true, apart := false }
def OccurLessSaid : Prop := occurLessRow.holds Try.pinned (OpenSpec.ofChange occurLessSpec)

/-- ITS FALSE NEIGHBOUR: 'it returns false'. Refute it at one input. -/
def occurLessWrong : ChangeSpec := { name := "occurLess", fn := fun _ => fun
  | [d1, d2, d3, d4] => { results := [.lit (.bool false)], args := [d1, d2, d3, d4] }
  | _ => none }
def OccurLessWrongFalsely : Prop := occurLessRow.holds Try.pinned (OpenSpec.ofChange occurLessWrong)

/- THE SECOND FORM. 'bulk': how many values and letters a reading holds, each counted each time it is reached (what is shared counts as often as it is met; a slice's spare places count too). A statement '..UptoSaid' is the law's where the arguments, and the package variables that the reading takes, are together of bulk at most 1048576: NARROWER than '..Said'. Prove '..Said' where nothing that the law and all that it calls make is longer than what came in: it says more and counts as full. Else prove '..UptoSaid'. A law counts once. -/
mutual
def uptoBulk {H : Type} : DataW H → Nat
  | .lit (.string bytes) => bytes.length + 1
  | .lit _ => 1
  | .nil => 1
  | .ptr d => uptoBulk d + 1
  | .slice elems spare => uptoBulkAll elems + uptoBulkAll spare + 1
  | .agg parts => uptoBulkAll parts + 1
  | .iface _ d => uptoBulk d + 1
  | .map entries => uptoBulkEntries entries + 1
  | .held _ => 1
def uptoBulkAll {H : Type} : List (DataW H) → Nat
  | [] => 0
  | d :: r => uptoBulk d + uptoBulkAll r
def uptoBulkEntries {H : Type} : List (Lit × DataW H) → Nat
  | [] => 0
  | x :: r => uptoBulkEntry x + uptoBulkEntries r
def uptoBulkEntry {H : Type} : Lit × DataW H → Nat
  | (.string bytes, d) => bytes.length + uptoBulk d + 1
  | (_, d) => uptoBulk d + 1
 end
def uptoSmall : (H : Type) → List (DataW H) → Bool := fun _ ds => decide (uptoBulkAll ds ≤ 1048576)
def OpenSpec.upto (s : _root_.Go.ChangeSpec) : _root_.Go.OpenSpec := { _root_.Go.OpenSpec.ofChange s with cond := some uptoSmall }

/-- 'amanuensislaw05.OccurTells', WHERE WHAT IT READS IS OF BULK AT MOST 1048576: true; the input reads as it did. -/
def occurTellsUptoRow : OpenClaim := { program := "ytehdbjfalpjpeaa", sum := "be3c90e44529682d7bc42db39646abf7720a20d39583b08f6592a24961410fdc", func := "amanuensis/amanuensislaw05.OccurTells", spec := "occurTells", unfollowed := true, recurses := true, loops := true, apart := false, narrowed := true }
def OccurTellsUptoSaid : Prop := occurTellsUptoRow.holds Try.pinned (OpenSpec.upto occurTellsSpec)

/-- 'amanuensislaw05.OccurPattern', WHERE WHAT IT READS IS OF BULK AT MOST 1048576: true; the input reads as it did. -/
def occurPatternUptoRow : OpenClaim := { program := "ytehdbjfalpjpeaa", sum := "be3c90e44529682d7bc42db39646abf7720a20d39583b08f6592a24961410fdc", func := "amanuensis/amanuensislaw05.OccurPattern", spec := "occurPattern", unfollowed := true, recurses := true, loops := true, apart := false, narrowed := true }
def OccurPatternUptoSaid : Prop := occurPatternUptoRow.holds Try.pinned (OpenSpec.upto occurPatternSpec)

/-- 'amanuensislaw05.OccurScoped', WHERE WHAT IT READS IS OF BULK AT MOST 1048576: true; the input reads as it did. -/
def occurScopedUptoRow : OpenClaim := { program := "ytehdbjfalpjpeaa", sum := "be3c90e44529682d7bc42db39646abf7720a20d39583b08f6592a24961410fdc", func := "amanuensis/amanuensislaw05.OccurScoped", spec := "occurScoped", unfollowed := true, recurses := true, loops := true, apart := false, narrowed := true }
def OccurScopedUptoSaid : Prop := occurScopedUptoRow.holds Try.pinned (OpenSpec.upto occurScopedSpec)

/-- 'amanuensislaw05.OccurShifts', WHERE WHAT IT READS IS OF BULK AT MOST 1048576: true; the input reads as it did. -/
def occurShiftsUptoRow : OpenClaim := { program := "ytehdbjfalpjpeaa", sum := "be3c90e44529682d7bc42db39646abf7720a20d39583b08f6592a24961410fdc", func := "amanuensis/amanuensislaw05.OccurShifts", spec := "occurShifts", unfollowed := true, recurses := true, loops := true, apart := false, narrowed := true }
def OccurShiftsUptoSaid : Prop := occurShiftsUptoRow.holds Try.pinned (OpenSpec.upto occurShiftsSpec)

/-- 'amanuensislaw05.OccurRises', WHERE WHAT IT READS IS OF BULK AT MOST 1048576: true; the input reads as it did. -/
def occurRisesUptoRow : OpenClaim := { program := "ytehdbjfalpjpeaa", sum := "be3c90e44529682d7bc42db39646abf7720a20d39583b08f6592a24961410fdc", func := "amanuensis/amanuensislaw05.OccurRises", spec := "occurRises", unfollowed := true, recurses := true, loops := true, apart := false, narrowed := true }
def OccurRisesUptoSaid : Prop := occurRisesUptoRow.holds Try.pinned (OpenSpec.upto occurRisesSpec)

/-- 'amanuensislaw05.OccurParts', WHERE WHAT IT READS IS OF BULK AT MOST 1048576: true; the input reads as it did. -/
def occurPartsUptoRow : OpenClaim := { program := "ytehdbjfalpjpeaa", sum := "be3c90e44529682d7bc42db39646abf7720a20d39583b08f6592a24961410fdc", func := "amanuensis/amanuensislaw05.OccurParts", spec := "occurParts", unfollowed := true, recurses := true, loops := true, apart := false, narrowed := true }
def OccurPartsUptoSaid : Prop := occurPartsUptoRow.holds Try.pinned (OpenSpec.upto occurPartsSpec)

/-- 'amanuensislaw05.OccurLess', WHERE WHAT IT READS IS OF BULK AT MOST 1048576: true; the input reads as it did. -/
def occurLessUptoRow : OpenClaim := { program := "ytehdbjfalpjpeaa", sum := "be3c90e44529682d7bc42db39646abf7720a20d39583b08f6592a24961410fdc", func := "amanuensis/amanuensislaw05.OccurLess", spec := "occurLess", unfollowed := true, recurses := true, loops := true, apart := false, narrowed := true }
def OccurLessUptoSaid : Prop := occurLessUptoRow.holds Try.pinned (OpenSpec.upto occurLessSpec)

end Rows
end Go.Proofs.Ytehdbjfalpjpeaa
