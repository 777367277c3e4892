/-
  NARROWER THAN 'FOR EVERY INPUT', by the rows' own cells (each row's printed sentence says how): TermTells: loops · TermSame: loops · TermScopes: loops · TermOwn: loops · TermCounts: loops · TermParts: loops · ShiftTells: loops · ShiftBack: loops · ShiftScopes: loops · ShiftFar: loops · ShiftParts: loops · ShiftOwn: loops.
  DERIVED. THE GIVEN ROWS OF THIS SEAT. 12 by the template 'for every input the law returns true; each argument reads behind the call as it read before'; 0 by the template 'total and deterministic' (their statements: YtlcoadbeiaiioaaTotals.lean).
  GIVEN WITH THE SEED: the statements are not yours to turn. If you find one false, say at which input.
  Laid BY PROGRAM, IN A SANDBOX (cutbox-rows.mjs): the forced cells as the released guide's own fill.sh prints them over the translation c017a21792ff1cbd… (all of the seat's roots in one cut). By AI agents, Wed Nov 11 2026. No macro, syntax, notation, axiom, sorry.
-/
import Derived.Test.YtlcoadbeiaiioaaChecked
import GoSem.Claim
import GoSem.ClaimJoined
import GoSem.ClaimMapViews
import Derived.JoinedTies
import Derived.KernelRfl
namespace Go.Proofs.Ytlcoadbeiaiioaa
/- THE CELL 'sum', in the pinned program and in every row, IS THE sha256 OF THE DUMP (.gsa) THAT YtlcoadbeiaiioaaProg.lean LOADS. Nothing in Lean hashes anything: it is a label: what it is worth is what the hold of that sum in a sandbox is worth. -/
noncomputable def Try.pinned : Pinned := { name := "ytlcoadbeiaiioaa", sum := "c017a21792ff1cbdd3f1e4b26ff458237e0c3fb07f7fd95b93116a8751b5c775", checked := Try.checked }
namespace Rows
def none {H : Type} : Left H := { results := [], args := [] }

/-- 'amanuensislaw01.TermTells': WHATEVER THE INPUT: true; the input reads as it did. -/
def termTellsSpec : ChangeSpec := { name := "termTells", fn := fun _ => fun
  | [d1, d2, d3] => { results := [.lit (.bool true)], args := [d1, d2, d3] }
  | _ => none }
def termTellsRow : OpenClaim := { program := "ytlcoadbeiaiioaa", sum := "c017a21792ff1cbdd3f1e4b26ff458237e0c3fb07f7fd95b93116a8751b5c775", func := "amanuensis/amanuensislaw01.TermTells", spec := "termTells", unfollowed := true, recurses := true, loops := true, apart := false }
def TermTellsSaid : Prop := termTellsRow.holds Try.pinned (OpenSpec.ofChange termTellsSpec)

/-- ITS FALSE NEIGHBOUR: 'it returns false'. Refute it at one input. -/
def termTellsWrong : ChangeSpec := { name := "termTells", fn := fun _ => fun
  | [d1, d2, d3] => { results := [.lit (.bool false)], args := [d1, d2, d3] }
  | _ => none }
def TermTellsWrongFalsely : Prop := termTellsRow.holds Try.pinned (OpenSpec.ofChange termTellsWrong)

/-- 'amanuensislaw01.TermSame': WHATEVER THE INPUT: true; the input reads as it did. -/
def termSameSpec : ChangeSpec := { name := "termSame", fn := fun _ => fun
  | [d1, d2] => { results := [.lit (.bool true)], args := [d1, d2] }
  | _ => none }
def termSameRow : OpenClaim := { program := "ytlcoadbeiaiioaa", sum := "c017a21792ff1cbdd3f1e4b26ff458237e0c3fb07f7fd95b93116a8751b5c775", func := "amanuensis/amanuensislaw01.TermSame", spec := "termSame", unfollowed := true, recurses := true, loops := true, apart := false }
def TermSameSaid : Prop := termSameRow.holds Try.pinned (OpenSpec.ofChange termSameSpec)

/-- ITS FALSE NEIGHBOUR: 'it returns false'. Refute it at one input. -/
def termSameWrong : ChangeSpec := { name := "termSame", fn := fun _ => fun
  | [d1, d2] => { results := [.lit (.bool false)], args := [d1, d2] }
  | _ => none }
def TermSameWrongFalsely : Prop := termSameRow.holds Try.pinned (OpenSpec.ofChange termSameWrong)

/-- 'amanuensislaw01.TermScopes': WHATEVER THE INPUT: true; the input reads as it did. -/
def termScopesSpec : ChangeSpec := { name := "termScopes", fn := fun _ => fun
  | [d1, d2, d3, d4] => { results := [.lit (.bool true)], args := [d1, d2, d3, d4] }
  | _ => none }
def termScopesRow : OpenClaim := { program := "ytlcoadbeiaiioaa", sum := "c017a21792ff1cbdd3f1e4b26ff458237e0c3fb07f7fd95b93116a8751b5c775", func := "amanuensis/amanuensislaw01.TermScopes", spec := "termScopes", unfollowed := true, recurses := true, loops := true, apart := false }
def TermScopesSaid : Prop := termScopesRow.holds Try.pinned (OpenSpec.ofChange termScopesSpec)

/-- ITS FALSE NEIGHBOUR: 'it returns false'. Refute it at one input. -/
def termScopesWrong : ChangeSpec := { name := "termScopes", fn := fun _ => fun
  | [d1, d2, d3, d4] => { results := [.lit (.bool false)], args := [d1, d2, d3, d4] }
  | _ => none }
def TermScopesWrongFalsely : Prop := termScopesRow.holds Try.pinned (OpenSpec.ofChange termScopesWrong)

/-- 'amanuensislaw01.TermOwn': WHATEVER THE INPUT: true; the input reads as it did. -/
def termOwnSpec : ChangeSpec := { name := "termOwn", fn := fun _ => fun
  | [d] => { results := [.lit (.bool true)], args := [d] }
  | _ => none }
def termOwnRow : OpenClaim := { program := "ytlcoadbeiaiioaa", sum := "c017a21792ff1cbdd3f1e4b26ff458237e0c3fb07f7fd95b93116a8751b5c775", func := "amanuensis/amanuensislaw01.TermOwn", spec := "termOwn", unfollowed := true, recurses := true, loops := true, apart := false }
def TermOwnSaid : Prop := termOwnRow.holds Try.pinned (OpenSpec.ofChange termOwnSpec)

/-- ITS FALSE NEIGHBOUR: 'it returns false'. Refute it at one input. -/
def termOwnWrong : ChangeSpec := { name := "termOwn", fn := fun _ => fun
  | [d] => { results := [.lit (.bool false)], args := [d] }
  | _ => none }
def TermOwnWrongFalsely : Prop := termOwnRow.holds Try.pinned (OpenSpec.ofChange termOwnWrong)

/-- 'amanuensislaw01.TermCounts': WHATEVER THE INPUT: true; the input reads as it did. -/
def termCountsSpec : ChangeSpec := { name := "termCounts", fn := fun _ => fun
  | [d] => { results := [.lit (.bool true)], args := [d] }
  | _ => none }
def termCountsRow : OpenClaim := { program := "ytlcoadbeiaiioaa", sum := "c017a21792ff1cbdd3f1e4b26ff458237e0c3fb07f7fd95b93116a8751b5c775", func := "amanuensis/amanuensislaw01.TermCounts", spec := "termCounts", unfollowed := true, recurses := true, loops := true, apart := false }
def TermCountsSaid : Prop := termCountsRow.holds Try.pinned (OpenSpec.ofChange termCountsSpec)

/-- ITS FALSE NEIGHBOUR: 'it returns false'. Refute it at one input. -/
def termCountsWrong : ChangeSpec := { name := "termCounts", fn := fun _ => fun
  | [d] => { results := [.lit (.bool false)], args := [d] }
  | _ => none }
def TermCountsWrongFalsely : Prop := termCountsRow.holds Try.pinned (OpenSpec.ofChange termCountsWrong)

/-- 'amanuensislaw01.TermParts': WHATEVER THE INPUT: true; the input reads as it did. -/
def termPartsSpec : ChangeSpec := { name := "termParts", fn := fun _ => fun
  | [d] => { results := [.lit (.bool true)], args := [d] }
  | _ => none }
def termPartsRow : OpenClaim := { program := "ytlcoadbeiaiioaa", sum := "c017a21792ff1cbdd3f1e4b26ff458237e0c3fb07f7fd95b93116a8751b5c775", func := "amanuensis/amanuensislaw01.TermParts", spec := "termParts", unfollowed := true, recurses := true, loops := true, apart := false }
def TermPartsSaid : Prop := termPartsRow.holds Try.pinned (OpenSpec.ofChange termPartsSpec)

/-- ITS FALSE NEIGHBOUR: 'it returns false'. Refute it at one input. -/
def termPartsWrong : ChangeSpec := { name := "termParts", fn := fun _ => fun
  | [d] => { results := [.lit (.bool false)], args := [d] }
  | _ => none }
def TermPartsWrongFalsely : Prop := termPartsRow.holds Try.pinned (OpenSpec.ofChange termPartsWrong)

/-- 'amanuensislaw02.ShiftTells': WHATEVER THE INPUT: true; the input reads as it did. -/
def shiftTellsSpec : ChangeSpec := { name := "shiftTells", fn := fun _ => fun
  | [d1, d2, d3] => { results := [.lit (.bool true)], args := [d1, d2, d3] }
  | _ => none }
def shiftTellsRow : OpenClaim := { program := "ytlcoadbeiaiioaa", sum := "c017a21792ff1cbdd3f1e4b26ff458237e0c3fb07f7fd95b93116a8751b5c775", func := "amanuensis/amanuensislaw02.ShiftTells", spec := "shiftTells", unfollowed := true, recurses := true, loops := true, apart := false }
def ShiftTellsSaid : Prop := shiftTellsRow.holds Try.pinned (OpenSpec.ofChange shiftTellsSpec)

/-- ITS FALSE NEIGHBOUR: 'it returns false'. Refute it at one input. -/
def shiftTellsWrong : ChangeSpec := { name := "shiftTells", fn := fun _ => fun
  | [d1, d2, d3] => { results := [.lit (.bool false)], args := [d1, d2, d3] }
  | _ => none }
def ShiftTellsWrongFalsely : Prop := shiftTellsRow.holds Try.pinned (OpenSpec.ofChange shiftTellsWrong)

/-- 'amanuensislaw02.ShiftBack': WHATEVER THE INPUT: true; the input reads as it did. -/
def shiftBackSpec : ChangeSpec := { name := "shiftBack", fn := fun _ => fun
  | [d1, d2, d3, d4] => { results := [.lit (.bool true)], args := [d1, d2, d3, d4] }
  | _ => none }
def shiftBackRow : OpenClaim := { program := "ytlcoadbeiaiioaa", sum := "c017a21792ff1cbdd3f1e4b26ff458237e0c3fb07f7fd95b93116a8751b5c775", func := "amanuensis/amanuensislaw02.ShiftBack", spec := "shiftBack", unfollowed := true, recurses := true, loops := true, apart := false }
def ShiftBackSaid : Prop := shiftBackRow.holds Try.pinned (OpenSpec.ofChange shiftBackSpec)

/-- ITS FALSE NEIGHBOUR: 'it returns false'. Refute it at one input. -/
def shiftBackWrong : ChangeSpec := { name := "shiftBack", fn := fun _ => fun
  | [d1, d2, d3, d4] => { results := [.lit (.bool false)], args := [d1, d2, d3, d4] }
  | _ => none }
def ShiftBackWrongFalsely : Prop := shiftBackRow.holds Try.pinned (OpenSpec.ofChange shiftBackWrong)

/-- 'amanuensislaw02.ShiftScopes': WHATEVER THE INPUT: true; the input reads as it did. -/
def shiftScopesSpec : ChangeSpec := { name := "shiftScopes", fn := fun _ => fun
  | [d1, d2, d3, d4] => { results := [.lit (.bool true)], args := [d1, d2, d3, d4] }
  | _ => none }
def shiftScopesRow : OpenClaim := { program := "ytlcoadbeiaiioaa", sum := "c017a21792ff1cbdd3f1e4b26ff458237e0c3fb07f7fd95b93116a8751b5c775", func := "amanuensis/amanuensislaw02.ShiftScopes", spec := "shiftScopes", unfollowed := true, recurses := true, loops := true, apart := false }
def ShiftScopesSaid : Prop := shiftScopesRow.holds Try.pinned (OpenSpec.ofChange shiftScopesSpec)

/-- ITS FALSE NEIGHBOUR: 'it returns false'. Refute it at one input. -/
def shiftScopesWrong : ChangeSpec := { name := "shiftScopes", fn := fun _ => fun
  | [d1, d2, d3, d4] => { results := [.lit (.bool false)], args := [d1, d2, d3, d4] }
  | _ => none }
def ShiftScopesWrongFalsely : Prop := shiftScopesRow.holds Try.pinned (OpenSpec.ofChange shiftScopesWrong)

/-- 'amanuensislaw02.ShiftFar': WHATEVER THE INPUT: true; the input reads as it did. -/
def shiftFarSpec : ChangeSpec := { name := "shiftFar", fn := fun _ => fun
  | [d1, d2, d3] => { results := [.lit (.bool true)], args := [d1, d2, d3] }
  | _ => none }
def shiftFarRow : OpenClaim := { program := "ytlcoadbeiaiioaa", sum := "c017a21792ff1cbdd3f1e4b26ff458237e0c3fb07f7fd95b93116a8751b5c775", func := "amanuensis/amanuensislaw02.ShiftFar", spec := "shiftFar", unfollowed := true, recurses := true, loops := true, apart := false }
def ShiftFarSaid : Prop := shiftFarRow.holds Try.pinned (OpenSpec.ofChange shiftFarSpec)

/-- ITS FALSE NEIGHBOUR: 'it returns false'. Refute it at one input. -/
def shiftFarWrong : ChangeSpec := { name := "shiftFar", fn := fun _ => fun
  | [d1, d2, d3] => { results := [.lit (.bool false)], args := [d1, d2, d3] }
  | _ => none }
def ShiftFarWrongFalsely : Prop := shiftFarRow.holds Try.pinned (OpenSpec.ofChange shiftFarWrong)

/-- 'amanuensislaw02.ShiftParts': WHATEVER THE INPUT: true; the input reads as it did. -/
def shiftPartsSpec : ChangeSpec := { name := "shiftParts", fn := fun _ => fun
  | [d1, d2, d3] => { results := [.lit (.bool true)], args := [d1, d2, d3] }
  | _ => none }
def shiftPartsRow : OpenClaim := { program := "ytlcoadbeiaiioaa", sum := "c017a21792ff1cbdd3f1e4b26ff458237e0c3fb07f7fd95b93116a8751b5c775", func := "amanuensis/amanuensislaw02.ShiftParts", spec := "shiftParts", unfollowed := true, recurses := true, loops := true, apart := false }
def ShiftPartsSaid : Prop := shiftPartsRow.holds Try.pinned (OpenSpec.ofChange shiftPartsSpec)

/-- ITS FALSE NEIGHBOUR: 'it returns false'. Refute it at one input. -/
def shiftPartsWrong : ChangeSpec := { name := "shiftParts", fn := fun _ => fun
  | [d1, d2, d3] => { results := [.lit (.bool false)], args := [d1, d2, d3] }
  | _ => none }
def ShiftPartsWrongFalsely : Prop := shiftPartsRow.holds Try.pinned (OpenSpec.ofChange shiftPartsWrong)

/-- 'amanuensislaw02.ShiftOwn': WHATEVER THE INPUT: true; the input reads as it did. -/
def shiftOwnSpec : ChangeSpec := { name := "shiftOwn", fn := fun _ => fun
  | [d1, d2] => { results := [.lit (.bool true)], args := [d1, d2] }
  | _ => none }
def shiftOwnRow : OpenClaim := { program := "ytlcoadbeiaiioaa", sum := "c017a21792ff1cbdd3f1e4b26ff458237e0c3fb07f7fd95b93116a8751b5c775", func := "amanuensis/amanuensislaw02.ShiftOwn", spec := "shiftOwn", unfollowed := true, recurses := true, loops := true, apart := false }
def ShiftOwnSaid : Prop := shiftOwnRow.holds Try.pinned (OpenSpec.ofChange shiftOwnSpec)

/-- ITS FALSE NEIGHBOUR: 'it returns false'. Refute it at one input. -/
def shiftOwnWrong : ChangeSpec := { name := "shiftOwn", fn := fun _ => fun
  | [d1, d2] => { results := [.lit (.bool false)], args := [d1, d2] }
  | _ => none }
def ShiftOwnWrongFalsely : Prop := shiftOwnRow.holds Try.pinned (OpenSpec.ofChange shiftOwnWrong)

/- THE SECOND FORM. 'bulk': how many values and letters a reading holds, each counted each time it is reached (what is shared counts as often as it is met; a slice's spare places count too). A statement '..UptoSaid' is the law's where the arguments, and the package variables that the reading takes, are together of bulk at most 1048576: NARROWER than '..Said'. Prove '..Said' where nothing that the law and all that it calls make is longer than what came in: it says more and counts as full. Else prove '..UptoSaid'. A law counts once. -/
mutual
def uptoBulk {H : Type} : DataW H → Nat
  | .lit (.string bytes) => bytes.length + 1
  | .lit _ => 1
  | .nil => 1
  | .ptr d => uptoBulk d + 1
  | .slice elems spare => uptoBulkAll elems + uptoBulkAll spare + 1
  | .agg parts => uptoBulkAll parts + 1
  | .iface _ d => uptoBulk d + 1
  | .map entries => uptoBulkEntries entries + 1
  | .held _ => 1
def uptoBulkAll {H : Type} : List (DataW H) → Nat
  | [] => 0
  | d :: r => uptoBulk d + uptoBulkAll r
def uptoBulkEntries {H : Type} : List (Lit × DataW H) → Nat
  | [] => 0
  | x :: r => uptoBulkEntry x + uptoBulkEntries r
def uptoBulkEntry {H : Type} : Lit × DataW H → Nat
  | (.string bytes, d) => bytes.length + uptoBulk d + 1
  | (_, d) => uptoBulk d + 1
 end
def uptoSmall : (H : Type) → List (DataW H) → Bool := fun _ ds => decide (uptoBulkAll ds ≤ 1048576)
def OpenSpec.upto (s : _root_.Go.ChangeSpec) : _root_.Go.OpenSpec := { _root_.Go.OpenSpec.ofChange s with cond := some uptoSmall }

/-- 'amanuensislaw01.TermTells', WHERE WHAT IT READS IS OF BULK AT MOST 1048576: true; the input reads as it did. -/
def termTellsUptoRow : OpenClaim := { program := "ytlcoadbeiaiioaa", sum := "c017a21792ff1cbdd3f1e4b26ff458237e0c3fb07f7fd95b93116a8751b5c775", func := "amanuensis/amanuensislaw01.TermTells", spec := "termTells", unfollowed := true, recurses := true, loops := true, apart := false, narrowed := true }
def TermTellsUptoSaid : Prop := termTellsUptoRow.holds Try.pinned (OpenSpec.upto termTellsSpec)

/-- 'amanuensislaw01.TermSame', WHERE WHAT IT READS IS OF BULK AT MOST 1048576: true; the input reads as it did. -/
def termSameUptoRow : OpenClaim := { program := "ytlcoadbeiaiioaa", sum := "c017a21792ff1cbdd3f1e4b26ff458237e0c3fb07f7fd95b93116a8751b5c775", func := "amanuensis/amanuensislaw01.TermSame", spec := "termSame", unfollowed := true, recurses := true, loops := true, apart := false, narrowed := true }
def TermSameUptoSaid : Prop := termSameUptoRow.holds Try.pinned (OpenSpec.upto termSameSpec)

/-- 'amanuensislaw01.TermScopes', WHERE WHAT IT READS IS OF BULK AT MOST 1048576: true; the input reads as it did. -/
def termScopesUptoRow : OpenClaim := { program := "ytlcoadbeiaiioaa", sum := "c017a21792ff1cbdd3f1e4b26ff458237e0c3fb07f7fd95b93116a8751b5c775", func := "amanuensis/amanuensislaw01.TermScopes", spec := "termScopes", unfollowed := true, recurses := true, loops := true, apart := false, narrowed := true }
def TermScopesUptoSaid : Prop := termScopesUptoRow.holds Try.pinned (OpenSpec.upto termScopesSpec)

/-- 'amanuensislaw01.TermOwn', WHERE WHAT IT READS IS OF BULK AT MOST 1048576: true; the input reads as it did. -/
def termOwnUptoRow : OpenClaim := { program := "ytlcoadbeiaiioaa", sum := "c017a21792ff1cbdd3f1e4b26ff458237e0c3fb07f7fd95b93116a8751b5c775", func := "amanuensis/amanuensislaw01.TermOwn", spec := "termOwn", unfollowed := true, recurses := true, loops := true, apart := false, narrowed := true }
def TermOwnUptoSaid : Prop := termOwnUptoRow.holds Try.pinned (OpenSpec.upto termOwnSpec)

/-- 'amanuensislaw01.TermCounts', WHERE WHAT IT READS IS OF BULK AT MOST 1048576: true; the input reads as it did. -/
def termCountsUptoRow : OpenClaim := { program := "ytlcoadbeiaiioaa", sum := "c017a21792ff1cbdd3f1e4b26ff458237e0c3fb07f7fd95b93116a8751b5c775", func := "amanuensis/amanuensislaw01.TermCounts", spec := "termCounts", unfollowed := true, recurses := true, loops := true, apart := false, narrowed := true }
def TermCountsUptoSaid : Prop := termCountsUptoRow.holds Try.pinned (OpenSpec.upto termCountsSpec)

/-- 'amanuensislaw01.TermParts', WHERE WHAT IT READS IS OF BULK AT MOST 1048576: true; the input reads as it did. -/
def termPartsUptoRow : OpenClaim := { program := "ytlcoadbeiaiioaa", sum := "c017a21792ff1cbdd3f1e4b26ff458237e0c3fb07f7fd95b93116a8751b5c775", func := "amanuensis/amanuensislaw01.TermParts", spec := "termParts", unfollowed := true, recurses := true, loops := true, apart := false, narrowed := true }
def TermPartsUptoSaid : Prop := termPartsUptoRow.holds Try.pinned (OpenSpec.upto termPartsSpec)

/-- 'amanuensislaw02.ShiftTells', WHERE WHAT IT READS IS OF BULK AT MOST 1048576: true; the input reads as it did. -/
def shiftTellsUptoRow : OpenClaim := { program := "ytlcoadbeiaiioaa", sum := "c017a21792ff1cbdd3f1e4b26ff458237e0c3fb07f7fd95b93116a8751b5c775", func := "amanuensis/amanuensislaw02.ShiftTells", spec := "shiftTells", unfollowed := true, recurses := true, loops := true, apart := false, narrowed := true }
def ShiftTellsUptoSaid : Prop := shiftTellsUptoRow.holds Try.pinned (OpenSpec.upto shiftTellsSpec)

/-- 'amanuensislaw02.ShiftBack', WHERE WHAT IT READS IS OF BULK AT MOST 1048576: true; the input reads as it did. -/
def shiftBackUptoRow : OpenClaim := { program := "ytlcoadbeiaiioaa", sum := "c017a21792ff1cbdd3f1e4b26ff458237e0c3fb07f7fd95b93116a8751b5c775", func := "amanuensis/amanuensislaw02.ShiftBack", spec := "shiftBack", unfollowed := true, recurses := true, loops := true, apart := false, narrowed := true }
def ShiftBackUptoSaid : Prop := shiftBackUptoRow.holds Try.pinned (OpenSpec.upto shiftBackSpec)

/-- 'amanuensislaw02.ShiftScopes', WHERE WHAT IT READS IS OF BULK AT MOST 1048576: true; the input reads as it did. -/
def shiftScopesUptoRow : OpenClaim := { program := "ytlcoadbeiaiioaa", sum := "c017a21792ff1cbdd3f1e4b26ff458237e0c3fb07f7fd95b93116a8751b5c775", func := "amanuensis/amanuensislaw02.ShiftScopes", spec := "shiftScopes", unfollowed := true, recurses := true, loops := true, apart := false, narrowed := true }
def ShiftScopesUptoSaid : Prop := shiftScopesUptoRow.holds Try.pinned (OpenSpec.upto shiftScopesSpec)

/-- 'amanuensislaw02.ShiftFar', WHERE WHAT IT READS IS OF BULK AT MOST 1048576: true; the input reads as it did. -/
def shiftFarUptoRow : OpenClaim := { program := "ytlcoadbeiaiioaa", sum := "c017a21792ff1cbdd3f1e4b26ff458237e0c3fb07f7fd95b93116a8751b5c775", func := "amanuensis/amanuensislaw02.ShiftFar", spec := "shiftFar", unfollowed := true, recurses := true, loops := true, apart := false, narrowed := true }
def ShiftFarUptoSaid : Prop := shiftFarUptoRow.holds Try.pinned (OpenSpec.upto shiftFarSpec)

/-- 'amanuensislaw02.ShiftParts', WHERE WHAT IT READS IS OF BULK AT MOST 1048576: true; the input reads as it did. -/
def shiftPartsUptoRow : OpenClaim := { program := "ytlcoadbeiaiioaa", sum := "c017a21792ff1cbdd3f1e4b26ff458237e0c3fb07f7fd95b93116a8751b5c775", func := "amanuensis/amanuensislaw02.ShiftParts", spec := "shiftParts", unfollowed := true, recurses := true, loops := true, apart := false, narrowed := true }
def ShiftPartsUptoSaid : Prop := shiftPartsUptoRow.holds Try.pinned (OpenSpec.upto shiftPartsSpec)

/-- 'amanuensislaw02.ShiftOwn', WHERE WHAT IT READS IS OF BULK AT MOST 1048576: true; the input reads as it did. -/
def shiftOwnUptoRow : OpenClaim := { program := "ytlcoadbeiaiioaa", sum := "c017a21792ff1cbdd3f1e4b26ff458237e0c3fb07f7fd95b93116a8751b5c775", func := "amanuensis/amanuensislaw02.ShiftOwn", spec := "shiftOwn", unfollowed := true, recurses := true, loops := true, apart := false, narrowed := true }
def ShiftOwnUptoSaid : Prop := shiftOwnUptoRow.holds Try.pinned (OpenSpec.upto shiftOwnSpec)

end Rows
end Go.Proofs.Ytlcoadbeiaiioaa
