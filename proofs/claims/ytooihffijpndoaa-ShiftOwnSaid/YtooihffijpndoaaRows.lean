/-
  NARROWER THAN 'FOR EVERY INPUT', by the rows' own cells (each row's printed sentence says how): ShiftTells: loops · ShiftBack: loops · ShiftScopes: loops · ShiftFar: loops · ShiftParts: loops · ShiftOwn: loops · OccurShifts: loops.
  DERIVED. THE GIVEN ROWS OF THIS SEAT. 7 by the template 'for every input the law returns true; each argument reads behind the call as it read before'; 0 by the template 'total and deterministic' (their statements: YtooihffijpndoaaTotals.lean).
  GIVEN WITH THE SEED: the statements are not yours to turn. If you find one false, say at which input.
  Laid BY PROGRAM, IN A SANDBOX (cutbox-rows.mjs): the forced cells as the released guide's own fill.sh prints them over the translation fdbad9e1e4920bd2… (all of the seat's roots in one cut). By AI agents, Wed Nov 11 2026. No macro, syntax, notation, axiom, sorry.
-/
import Derived.Test.YtooihffijpndoaaChecked
import GoSem.Claim
import GoSem.ClaimJoined
import GoSem.ClaimMapViews
import Derived.JoinedTies
import Derived.KernelRfl
namespace Go.Proofs.Ytooihffijpndoaa
/- THE CELL 'sum', in the pinned program and in every row, IS THE sha256 OF THE DUMP (.gsa) THAT YtooihffijpndoaaProg.lean LOADS. Nothing in Lean hashes anything: it is a label: what it is worth is what the hold of that sum in a sandbox is worth. -/
noncomputable def Try.pinned : Pinned := { name := "ytooihffijpndoaa", sum := "fdbad9e1e4920bd2243f8b3121bf28da2420276430febf08e085f5c2494aedc8", checked := Try.checked }
namespace Rows
def none {H : Type} : Left H := { results := [], args := [] }

/-- 'amanuensislaw02.ShiftTells': WHATEVER THE INPUT: true; the input reads as it did. -/
def shiftTellsSpec : ChangeSpec := { name := "shiftTells", fn := fun _ => fun
  | [d1, d2, d3] => { results := [.lit (.bool true)], args := [d1, d2, d3] }
  | _ => none }
def shiftTellsRow : OpenClaim := { program := "ytooihffijpndoaa", sum := "fdbad9e1e4920bd2243f8b3121bf28da2420276430febf08e085f5c2494aedc8", func := "amanuensis/amanuensislaw02.ShiftTells", spec := "shiftTells", unfollowed := true, recurses := true, loops := true, apart := false }
def ShiftTellsSaid : Prop := shiftTellsRow.holds Try.pinned (OpenSpec.ofChange shiftTellsSpec)

/-- ITS FALSE NEIGHBOUR: 'it returns false'. Refute it at one input. -/
def shiftTellsWrong : ChangeSpec := { name := "shiftTells", fn := fun _ => fun
  | [d1, d2, d3] => { results := [.lit (.bool false)], args := [d1, d2, d3] }
  | _ => none }
def ShiftTellsWrongFalsely : Prop := shiftTellsRow.holds Try.pinned (OpenSpec.ofChange shiftTellsWrong)

/-- 'amanuensislaw02.ShiftBack': WHATEVER THE INPUT: true; the input reads as it did. -/
def shiftBackSpec : ChangeSpec := { name := "shiftBack", fn := fun _ => fun
  | [d1, d2, d3, d4] => { results := [.lit (.bool true)], args := [d1, d2, d3, d4] }
  | _ => none }
def shiftBackRow : OpenClaim := { program := "ytooihffijpndoaa", sum := "fdbad9e1e4920bd2243f8b3121bf28da2420276430febf08e085f5c2494aedc8", func := "amanuensis/amanuensislaw02.ShiftBack", spec := "shiftBack", unfollowed := true, recurses := true, loops := true, apart := false }
def ShiftBackSaid : Prop := shiftBackRow.holds Try.pinned (OpenSpec.ofChange shiftBackSpec)

/-- ITS FALSE NEIGHBOUR: 'it returns false'. Refute it at one input. -/
def shiftBackWrong : ChangeSpec := { name := "shiftBack", fn := fun _ => fun
  | [d1, d2, d3, d4] => { results := [.lit (.bool false)], args := [d1, d2, d3, d4] }
  | _ => none }
def ShiftBackWrongFalsely : Prop := shiftBackRow.holds Try.pinned (OpenSpec.ofChange shiftBackWrong)

/-- 'amanuensislaw02.ShiftScopes': WHATEVER THE INPUT: true; the input reads as it did. -/
def shiftScopesSpec : ChangeSpec := { name := "shiftScopes", fn := fun _ => fun
  | [d1, d2, d3, d4] => { results := [.lit (.bool true)], args := [d1, d2, d3, d4] }
  | _ => none }
def shiftScopesRow : OpenClaim := { program := "ytooihffijpndoaa", sum := "fdbad9e1e4920bd2243f8b3121bf28da2420276430febf08e085f5c2494aedc8", func := "amanuensis/amanuensislaw02.ShiftScopes", spec := "shiftScopes", unfollowed := true, recurses := true, loops := true, apart := false }
def ShiftScopesSaid : Prop := shiftScopesRow.holds Try.pinned (OpenSpec.ofChange shiftScopesSpec)

/-- ITS FALSE NEIGHBOUR: 'it returns false'. Refute it at one input. -/
def shiftScopesWrong : ChangeSpec := { name := "shiftScopes", fn := fun _ => fun
  | [d1, d2, d3, d4] => { results := [.lit (.bool false)], args := [d1, d2, d3, d4] }
  | _ => none }
def ShiftScopesWrongFalsely : Prop := shiftScopesRow.holds Try.pinned (OpenSpec.ofChange shiftScopesWrong)

/-- 'amanuensislaw02.ShiftFar': WHATEVER THE INPUT: true; the input reads as it did. -/
def shiftFarSpec : ChangeSpec := { name := "shiftFar", fn := fun _ => fun
  | [d1, d2, d3] => { results := [.lit (.bool true)], args := [d1, d2, d3] }
  | _ => none }
def shiftFarRow : OpenClaim := { program := "ytooihffijpndoaa", sum := "fdbad9e1e4920bd2243f8b3121bf28da2420276430febf08e085f5c2494aedc8", func := "amanuensis/amanuensislaw02.ShiftFar", spec := "shiftFar", unfollowed := true, recurses := true, loops := true, apart := false }
def ShiftFarSaid : Prop := shiftFarRow.holds Try.pinned (OpenSpec.ofChange shiftFarSpec)

/-- ITS FALSE NEIGHBOUR: 'it returns false'. Refute it at one input. -/
def shiftFarWrong : ChangeSpec := { name := "shiftFar", fn := fun _ => fun
  | [d1, d2, d3] => { results := [.lit (.bool false)], args := [d1, d2, d3] }
  | _ => none }
def ShiftFarWrongFalsely : Prop := shiftFarRow.holds Try.pinned (OpenSpec.ofChange shiftFarWrong)

/-- 'amanuensislaw02.ShiftParts': WHATEVER THE INPUT: true; the input reads as it did. -/
def shiftPartsSpec : ChangeSpec := { name := "shiftParts", fn := fun _ => fun
  | [d1, d2, d3] => { results := [.lit (.bool true)], args := [d1, d2, d3] }
  | _ => none }
def shiftPartsRow : OpenClaim := { program := "ytooihffijpndoaa", sum := "fdbad9e1e4920bd2243f8b3121bf28da2420276430febf08e085f5c2494aedc8", func := "amanuensis/amanuensislaw02.ShiftParts", spec := "shiftParts", unfollowed := true, recurses := true, loops := true, apart := false }
def ShiftPartsSaid : Prop := shiftPartsRow.holds Try.pinned (OpenSpec.ofChange shiftPartsSpec)

/-- ITS FALSE NEIGHBOUR: 'it returns false'. Refute it at one input. -/
def shiftPartsWrong : ChangeSpec := { name := "shiftParts", fn := fun _ => fun
  | [d1, d2, d3] => { results := [.lit (.bool false)], args := [d1, d2, d3] }
  | _ => none }
def ShiftPartsWrongFalsely : Prop := shiftPartsRow.holds Try.pinned (OpenSpec.ofChange shiftPartsWrong)

/-- 'amanuensislaw02.ShiftOwn': WHATEVER THE INPUT: true; the input reads as it did. -/
def shiftOwnSpec : ChangeSpec := { name := "shiftOwn", fn := fun _ => fun
  | [d1, d2] => { results := [.lit (.bool true)], args := [d1, d2] }
  | _ => none }
def shiftOwnRow : OpenClaim := { program := "ytooihffijpndoaa", sum := "fdbad9e1e4920bd2243f8b3121bf28da2420276430febf08e085f5c2494aedc8", func := "amanuensis/amanuensislaw02.ShiftOwn", spec := "shiftOwn", unfollowed := true, recurses := true, loops := true, apart := false }
def ShiftOwnSaid : Prop := shiftOwnRow.holds Try.pinned (OpenSpec.ofChange shiftOwnSpec)

/-- ITS FALSE NEIGHBOUR: 'it returns false'. Refute it at one input. -/
def shiftOwnWrong : ChangeSpec := { name := "shiftOwn", fn := fun _ => fun
  | [d1, d2] => { results := [.lit (.bool false)], args := [d1, d2] }
  | _ => none }
def ShiftOwnWrongFalsely : Prop := shiftOwnRow.holds Try.pinned (OpenSpec.ofChange shiftOwnWrong)

/-- 'amanuensislaw05.OccurShifts': WHATEVER THE INPUT: true; the input reads as it did. -/
def occurShiftsSpec : ChangeSpec := { name := "occurShifts", fn := fun _ => fun
  | [d1, d2, d3] => { results := [.lit (.bool true)], args := [d1, d2, d3] }
  | _ => none }
def occurShiftsRow : OpenClaim := { program := "ytooihffijpndoaa", sum := "fdbad9e1e4920bd2243f8b3121bf28da2420276430febf08e085f5c2494aedc8", func := "amanuensis/amanuensislaw05.OccurShifts", spec := "occurShifts", unfollowed := true, recurses := true, loops := true, apart := false }
def OccurShiftsSaid : Prop := occurShiftsRow.holds Try.pinned (OpenSpec.ofChange occurShiftsSpec)

/-- ITS FALSE NEIGHBOUR: 'it returns false'. Refute it at one input. -/
def occurShiftsWrong : ChangeSpec := { name := "occurShifts", fn := fun _ => fun
  | [d1, d2, d3] => { results := [.lit (.bool false)], args := [d1, d2, d3] }
  | _ => none }
def OccurShiftsWrongFalsely : Prop := occurShiftsRow.holds Try.pinned (OpenSpec.ofChange occurShiftsWrong)

/- THE SECOND FORM. 'bulk': how many values and letters a reading holds, each counted each time it is reached (what is shared counts as often as it is met; a slice's spare places count too). A statement '..UptoSaid' is the law's where the arguments, and the package variables that the reading takes, are together of bulk at most 1048576: NARROWER than '..Said'. Prove '..Said' where nothing that the law and all that it calls make is longer than what came in: it says more and counts as full. Else prove '..UptoSaid'. A law counts once. -/
mutual
def uptoBulk {H : Type} : DataW H → Nat
  | .lit (.string bytes) => bytes.length + 1
  | .lit _ => 1
  | .nil => 1
  | .ptr d => uptoBulk d + 1
  | .slice elems spare => uptoBulkAll elems + uptoBulkAll spare + 1
  | .agg parts => uptoBulkAll parts + 1
  | .iface _ d => uptoBulk d + 1
  | .map entries => uptoBulkEntries entries + 1
  | .held _ => 1
def uptoBulkAll {H : Type} : List (DataW H) → Nat
  | [] => 0
  | d :: r => uptoBulk d + uptoBulkAll r
def uptoBulkEntries {H : Type} : List (Lit × DataW H) → Nat
  | [] => 0
  | x :: r => uptoBulkEntry x + uptoBulkEntries r
def uptoBulkEntry {H : Type} : Lit × DataW H → Nat
  | (.string bytes, d) => bytes.length + uptoBulk d + 1
  | (_, d) => uptoBulk d + 1
 end
def uptoSmall : (H : Type) → List (DataW H) → Bool := fun _ ds => decide (uptoBulkAll ds ≤ 1048576)
def OpenSpec.upto (s : _root_.Go.ChangeSpec) : _root_.Go.OpenSpec := { _root_.Go.OpenSpec.ofChange s with cond := some uptoSmall }

/-- 'amanuensislaw02.ShiftTells', WHERE WHAT IT READS IS OF BULK AT MOST 1048576: true; the input reads as it did. -/
def shiftTellsUptoRow : OpenClaim := { program := "ytooihffijpndoaa", sum := "fdbad9e1e4920bd2243f8b3121bf28da2420276430febf08e085f5c2494aedc8", func := "amanuensis/amanuensislaw02.ShiftTells", spec := "shiftTells", unfollowed := true, recurses := true, loops := true, apart := false, narrowed := true }
def ShiftTellsUptoSaid : Prop := shiftTellsUptoRow.holds Try.pinned (OpenSpec.upto shiftTellsSpec)

/-- 'amanuensislaw02.ShiftBack', WHERE WHAT IT READS IS OF BULK AT MOST 1048576: true; the input reads as it did. -/
def shiftBackUptoRow : OpenClaim := { program := "ytooihffijpndoaa", sum := "fdbad9e1e4920bd2243f8b3121bf28da2420276430febf08e085f5c2494aedc8", func := "amanuensis/amanuensislaw02.ShiftBack", spec := "shiftBack", unfollowed := true, recurses := true, loops := true, apart := false, narrowed := true }
def ShiftBackUptoSaid : Prop := shiftBackUptoRow.holds Try.pinned (OpenSpec.upto shiftBackSpec)

/-- 'amanuensislaw02.ShiftScopes', WHERE WHAT IT READS IS OF BULK AT MOST 1048576: true; the input reads as it did. -/
def shiftScopesUptoRow : OpenClaim := { program := "ytooihffijpndoaa", sum := "fdbad9e1e4920bd2243f8b3121bf28da2420276430febf08e085f5c2494aedc8", func := "amanuensis/amanuensislaw02.ShiftScopes", spec := "shiftScopes", unfollowed := true, recurses := true, loops := true, apart := false, narrowed := true }
def ShiftScopesUptoSaid : Prop := shiftScopesUptoRow.holds Try.pinned (OpenSpec.upto shiftScopesSpec)

/-- 'amanuensislaw02.ShiftFar', WHERE WHAT IT READS IS OF BULK AT MOST 1048576: true; the input reads as it did. -/
def shiftFarUptoRow : OpenClaim := { program := "ytooihffijpndoaa", sum := "fdbad9e1e4920bd2243f8b3121bf28da2420276430febf08e085f5c2494aedc8", func := "amanuensis/amanuensislaw02.ShiftFar", spec := "shiftFar", unfollowed := true, recurses := true, loops := true, apart := false, narrowed := true }
def ShiftFarUptoSaid : Prop := shiftFarUptoRow.holds Try.pinned (OpenSpec.upto shiftFarSpec)

/-- 'amanuensislaw02.ShiftParts', WHERE WHAT IT READS IS OF BULK AT MOST 1048576: true; the input reads as it did. -/
def shiftPartsUptoRow : OpenClaim := { program := "ytooihffijpndoaa", sum := "fdbad9e1e4920bd2243f8b3121bf28da2420276430febf08e085f5c2494aedc8", func := "amanuensis/amanuensislaw02.ShiftParts", spec := "shiftParts", unfollowed := true, recurses := true, loops := true, apart := false, narrowed := true }
def ShiftPartsUptoSaid : Prop := shiftPartsUptoRow.holds Try.pinned (OpenSpec.upto shiftPartsSpec)

/-- 'amanuensislaw02.ShiftOwn', WHERE WHAT IT READS IS OF BULK AT MOST 1048576: true; the input reads as it did. -/
def shiftOwnUptoRow : OpenClaim := { program := "ytooihffijpndoaa", sum := "fdbad9e1e4920bd2243f8b3121bf28da2420276430febf08e085f5c2494aedc8", func := "amanuensis/amanuensislaw02.ShiftOwn", spec := "shiftOwn", unfollowed := true, recurses := true, loops := true, apart := false, narrowed := true }
def ShiftOwnUptoSaid : Prop := shiftOwnUptoRow.holds Try.pinned (OpenSpec.upto shiftOwnSpec)

/-- 'amanuensislaw05.OccurShifts', WHERE WHAT IT READS IS OF BULK AT MOST 1048576: true; the input reads as it did. -/
def occurShiftsUptoRow : OpenClaim := { program := "ytooihffijpndoaa", sum := "fdbad9e1e4920bd2243f8b3121bf28da2420276430febf08e085f5c2494aedc8", func := "amanuensis/amanuensislaw05.OccurShifts", spec := "occurShifts", unfollowed := true, recurses := true, loops := true, apart := false, narrowed := true }
def OccurShiftsUptoSaid : Prop := occurShiftsUptoRow.holds Try.pinned (OpenSpec.upto occurShiftsSpec)

end Rows
end Go.Proofs.Ytooihffijpndoaa
