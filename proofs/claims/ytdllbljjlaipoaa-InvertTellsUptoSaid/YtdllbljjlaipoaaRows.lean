/-
  NARROWER THAN 'FOR EVERY INPUT', by the rows' own cells (each row's printed sentence says how): InvertTells: loops · InvertBack: loops · InvertOnly: loops · InvertSame: loops · InvertNone: loops · InvertApply: loops.
  DERIVED. THE GIVEN ROWS OF THIS SEAT. 6 by the template 'for every input the law returns true; each argument reads behind the call as it read before'; 0 by the template 'total and deterministic' (their statements: YtdllbljjlaipoaaTotals.lean).
  GIVEN WITH THE SEED: the statements are not yours to turn. If you find one false, say at which input.
  Laid BY PROGRAM, IN A SANDBOX (cutbox-rows.mjs): the forced cells as the released guide's own fill.sh prints them over the translation 78c9278d2a02d6d8… (all of the seat's roots in one cut). By AI agents, Wed Nov 11 2026. No macro, syntax, notation, axiom, sorry.
-/
import Derived.Test.YtdllbljjlaipoaaChecked
import GoSem.Claim
import GoSem.ClaimJoined
import GoSem.ClaimMapViews
import Derived.JoinedTies
import Derived.KernelRfl
namespace Go.Proofs.Ytdllbljjlaipoaa
/- THE CELL 'sum', in the pinned program and in every row, IS THE sha256 OF THE DUMP (.gsa) THAT YtdllbljjlaipoaaProg.lean LOADS. Nothing in Lean hashes anything: it is a label: what it is worth is what the hold of that sum in a sandbox is worth. -/
noncomputable def Try.pinned : Pinned := { name := "ytdllbljjlaipoaa", sum := "78c9278d2a02d6d8b07b3ce0e5e4b52d84398df927f393695bfad2eb865c9619", checked := Try.checked }
namespace Rows
def none {H : Type} : Left H := { results := [], args := [] }

/-- 'amanuensislaw06.InvertTells': WHATEVER THE INPUT: true; the input reads as it did. -/
def invertTellsSpec : ChangeSpec := { name := "invertTells", fn := fun _ => fun
  | [d1, d2, d3] => { results := [.lit (.bool true)], args := [d1, d2, d3] }
  | _ => none }
def invertTellsRow : OpenClaim := { program := "ytdllbljjlaipoaa", sum := "78c9278d2a02d6d8b07b3ce0e5e4b52d84398df927f393695bfad2eb865c9619", func := "amanuensis/amanuensislaw06.InvertTells", spec := "invertTells", unfollowed := true, recurses := true, loops := true, plainKeys := false, apart := false }
def InvertTellsSaid : Prop := invertTellsRow.holds Try.pinned (OpenSpec.ofChange invertTellsSpec)

/-- ITS FALSE NEIGHBOUR: 'it returns false'. Refute it at one input. -/
def invertTellsWrong : ChangeSpec := { name := "invertTells", fn := fun _ => fun
  | [d1, d2, d3] => { results := [.lit (.bool false)], args := [d1, d2, d3] }
  | _ => none }
def InvertTellsWrongFalsely : Prop := invertTellsRow.holds Try.pinned (OpenSpec.ofChange invertTellsWrong)

/-- 'amanuensislaw06.InvertBack': WHATEVER THE INPUT: true; the input reads as it did. -/
def invertBackSpec : ChangeSpec := { name := "invertBack", fn := fun _ => fun
  | [d1, d2, d3] => { results := [.lit (.bool true)], args := [d1, d2, d3] }
  | _ => none }
def invertBackRow : OpenClaim := { program := "ytdllbljjlaipoaa", sum := "78c9278d2a02d6d8b07b3ce0e5e4b52d84398df927f393695bfad2eb865c9619", func := "amanuensis/amanuensislaw06.InvertBack", spec := "invertBack", unfollowed := true, recurses := true, loops := true, plainKeys := false, apart := false }
def InvertBackSaid : Prop := invertBackRow.holds Try.pinned (OpenSpec.ofChange invertBackSpec)

/-- ITS FALSE NEIGHBOUR: 'it returns false'. Refute it at one input. -/
def invertBackWrong : ChangeSpec := { name := "invertBack", fn := fun _ => fun
  | [d1, d2, d3] => { results := [.lit (.bool false)], args := [d1, d2, d3] }
  | _ => none }
def InvertBackWrongFalsely : Prop := invertBackRow.holds Try.pinned (OpenSpec.ofChange invertBackWrong)

/-- 'amanuensislaw06.InvertOnly': WHATEVER THE INPUT: true; the input reads as it did. -/
def invertOnlySpec : ChangeSpec := { name := "invertOnly", fn := fun _ => fun
  | [d1, d2, d3] => { results := [.lit (.bool true)], args := [d1, d2, d3] }
  | _ => none }
def invertOnlyRow : OpenClaim := { program := "ytdllbljjlaipoaa", sum := "78c9278d2a02d6d8b07b3ce0e5e4b52d84398df927f393695bfad2eb865c9619", func := "amanuensis/amanuensislaw06.InvertOnly", spec := "invertOnly", unfollowed := true, recurses := true, loops := true, plainKeys := false, apart := false }
def InvertOnlySaid : Prop := invertOnlyRow.holds Try.pinned (OpenSpec.ofChange invertOnlySpec)

/-- ITS FALSE NEIGHBOUR: 'it returns false'. Refute it at one input. -/
def invertOnlyWrong : ChangeSpec := { name := "invertOnly", fn := fun _ => fun
  | [d1, d2, d3] => { results := [.lit (.bool false)], args := [d1, d2, d3] }
  | _ => none }
def InvertOnlyWrongFalsely : Prop := invertOnlyRow.holds Try.pinned (OpenSpec.ofChange invertOnlyWrong)

/-- 'amanuensislaw06.InvertSame': WHATEVER THE INPUT: true; the input reads as it did. -/
def invertSameSpec : ChangeSpec := { name := "invertSame", fn := fun _ => fun
  | [d1, d2] => { results := [.lit (.bool true)], args := [d1, d2] }
  | _ => none }
def invertSameRow : OpenClaim := { program := "ytdllbljjlaipoaa", sum := "78c9278d2a02d6d8b07b3ce0e5e4b52d84398df927f393695bfad2eb865c9619", func := "amanuensis/amanuensislaw06.InvertSame", spec := "invertSame", unfollowed := true, recurses := true, loops := true, plainKeys := false, apart := false }
def InvertSameSaid : Prop := invertSameRow.holds Try.pinned (OpenSpec.ofChange invertSameSpec)

/-- ITS FALSE NEIGHBOUR: 'it returns false'. Refute it at one input. -/
def invertSameWrong : ChangeSpec := { name := "invertSame", fn := fun _ => fun
  | [d1, d2] => { results := [.lit (.bool false)], args := [d1, d2] }
  | _ => none }
def InvertSameWrongFalsely : Prop := invertSameRow.holds Try.pinned (OpenSpec.ofChange invertSameWrong)

/-- 'amanuensislaw06.InvertNone': WHATEVER THE INPUT: true; the input reads as it did. -/
def invertNoneSpec : ChangeSpec := { name := "invertNone", fn := fun _ => fun
  | [d1, d2] => { results := [.lit (.bool true)], args := [d1, d2] }
  | _ => none }
def invertNoneRow : OpenClaim := { program := "ytdllbljjlaipoaa", sum := "78c9278d2a02d6d8b07b3ce0e5e4b52d84398df927f393695bfad2eb865c9619", func := "amanuensis/amanuensislaw06.InvertNone", spec := "invertNone", unfollowed := true, recurses := true, loops := true, plainKeys := false, apart := false }
def InvertNoneSaid : Prop := invertNoneRow.holds Try.pinned (OpenSpec.ofChange invertNoneSpec)

/-- ITS FALSE NEIGHBOUR: 'it returns false'. Refute it at one input. -/
def invertNoneWrong : ChangeSpec := { name := "invertNone", fn := fun _ => fun
  | [d1, d2] => { results := [.lit (.bool false)], args := [d1, d2] }
  | _ => none }
def InvertNoneWrongFalsely : Prop := invertNoneRow.holds Try.pinned (OpenSpec.ofChange invertNoneWrong)

/-- 'amanuensislaw06.InvertApply': WHATEVER THE INPUT: true; the input reads as it did. -/
def invertApplySpec : ChangeSpec := { name := "invertApply", fn := fun _ => fun
  | [d1, d2, d3] => { results := [.lit (.bool true)], args := [d1, d2, d3] }
  | _ => none }
def invertApplyRow : OpenClaim := { program := "ytdllbljjlaipoaa", sum := "78c9278d2a02d6d8b07b3ce0e5e4b52d84398df927f393695bfad2eb865c9619", func := "amanuensis/amanuensislaw06.InvertApply", spec := "invertApply", unfollowed := true, recurses := true, loops := true, plainKeys := false, apart := false }
def InvertApplySaid : Prop := invertApplyRow.holds Try.pinned (OpenSpec.ofChange invertApplySpec)

/-- ITS FALSE NEIGHBOUR: 'it returns false'. Refute it at one input. -/
def invertApplyWrong : ChangeSpec := { name := "invertApply", fn := fun _ => fun
  | [d1, d2, d3] => { results := [.lit (.bool false)], args := [d1, d2, d3] }
  | _ => none }
def InvertApplyWrongFalsely : Prop := invertApplyRow.holds Try.pinned (OpenSpec.ofChange invertApplyWrong)

/- THE SECOND FORM. 'bulk': how many values and letters a reading holds, each counted each time it is reached (what is shared counts as often as it is met; a slice's spare places count too). A statement '..UptoSaid' is the law's where the arguments, and the package variables that the reading takes, are together of bulk at most 1048576: NARROWER than '..Said'. Prove '..Said' where nothing that the law and all that it calls make is longer than what came in: it says more and counts as full. Else prove '..UptoSaid'. A law counts once. -/
mutual
def uptoBulk {H : Type} : DataW H → Nat
  | .lit (.string bytes) => bytes.length + 1
  | .lit _ => 1
  | .nil => 1
  | .ptr d => uptoBulk d + 1
  | .slice elems spare => uptoBulkAll elems + uptoBulkAll spare + 1
  | .agg parts => uptoBulkAll parts + 1
  | .iface _ d => uptoBulk d + 1
  | .map entries => uptoBulkEntries entries + 1
  | .held _ => 1
def uptoBulkAll {H : Type} : List (DataW H) → Nat
  | [] => 0
  | d :: r => uptoBulk d + uptoBulkAll r
def uptoBulkEntries {H : Type} : List (Lit × DataW H) → Nat
  | [] => 0
  | x :: r => uptoBulkEntry x + uptoBulkEntries r
def uptoBulkEntry {H : Type} : Lit × DataW H → Nat
  | (.string bytes, d) => bytes.length + uptoBulk d + 1
  | (_, d) => uptoBulk d + 1
 end
def uptoSmall : (H : Type) → List (DataW H) → Bool := fun _ ds => decide (uptoBulkAll ds ≤ 1048576)
def OpenSpec.upto (s : _root_.Go.ChangeSpec) : _root_.Go.OpenSpec := { _root_.Go.OpenSpec.ofChange s with cond := some uptoSmall }

/-- 'amanuensislaw06.InvertTells', WHERE WHAT IT READS IS OF BULK AT MOST 1048576: true; the input reads as it did. -/
def invertTellsUptoRow : OpenClaim := { program := "ytdllbljjlaipoaa", sum := "78c9278d2a02d6d8b07b3ce0e5e4b52d84398df927f393695bfad2eb865c9619", func := "amanuensis/amanuensislaw06.InvertTells", spec := "invertTells", unfollowed := true, recurses := true, loops := true, plainKeys := false, apart := false, narrowed := true }
def InvertTellsUptoSaid : Prop := invertTellsUptoRow.holds Try.pinned (OpenSpec.upto invertTellsSpec)

/-- 'amanuensislaw06.InvertBack', WHERE WHAT IT READS IS OF BULK AT MOST 1048576: true; the input reads as it did. -/
def invertBackUptoRow : OpenClaim := { program := "ytdllbljjlaipoaa", sum := "78c9278d2a02d6d8b07b3ce0e5e4b52d84398df927f393695bfad2eb865c9619", func := "amanuensis/amanuensislaw06.InvertBack", spec := "invertBack", unfollowed := true, recurses := true, loops := true, plainKeys := false, apart := false, narrowed := true }
def InvertBackUptoSaid : Prop := invertBackUptoRow.holds Try.pinned (OpenSpec.upto invertBackSpec)

/-- 'amanuensislaw06.InvertOnly', WHERE WHAT IT READS IS OF BULK AT MOST 1048576: true; the input reads as it did. -/
def invertOnlyUptoRow : OpenClaim := { program := "ytdllbljjlaipoaa", sum := "78c9278d2a02d6d8b07b3ce0e5e4b52d84398df927f393695bfad2eb865c9619", func := "amanuensis/amanuensislaw06.InvertOnly", spec := "invertOnly", unfollowed := true, recurses := true, loops := true, plainKeys := false, apart := false, narrowed := true }
def InvertOnlyUptoSaid : Prop := invertOnlyUptoRow.holds Try.pinned (OpenSpec.upto invertOnlySpec)

/-- 'amanuensislaw06.InvertSame', WHERE WHAT IT READS IS OF BULK AT MOST 1048576: true; the input reads as it did. -/
def invertSameUptoRow : OpenClaim := { program := "ytdllbljjlaipoaa", sum := "78c9278d2a02d6d8b07b3ce0e5e4b52d84398df927f393695bfad2eb865c9619", func := "amanuensis/amanuensislaw06.InvertSame", spec := "invertSame", unfollowed := true, recurses := true, loops := true, plainKeys := false, apart := false, narrowed := true }
def InvertSameUptoSaid : Prop := invertSameUptoRow.holds Try.pinned (OpenSpec.upto invertSameSpec)

/-- 'amanuensislaw06.InvertNone', WHERE WHAT IT READS IS OF BULK AT MOST 1048576: true; the input reads as it did. -/
def invertNoneUptoRow : OpenClaim := { program := "ytdllbljjlaipoaa", sum := "78c9278d2a02d6d8b07b3ce0e5e4b52d84398df927f393695bfad2eb865c9619", func := "amanuensis/amanuensislaw06.InvertNone", spec := "invertNone", unfollowed := true, recurses := true, loops := true, plainKeys := false, apart := false, narrowed := true }
def InvertNoneUptoSaid : Prop := invertNoneUptoRow.holds Try.pinned (OpenSpec.upto invertNoneSpec)

/-- 'amanuensislaw06.InvertApply', WHERE WHAT IT READS IS OF BULK AT MOST 1048576: true; the input reads as it did. -/
def invertApplyUptoRow : OpenClaim := { program := "ytdllbljjlaipoaa", sum := "78c9278d2a02d6d8b07b3ce0e5e4b52d84398df927f393695bfad2eb865c9619", func := "amanuensis/amanuensislaw06.InvertApply", spec := "invertApply", unfollowed := true, recurses := true, loops := true, plainKeys := false, apart := false, narrowed := true }
def InvertApplyUptoSaid : Prop := invertApplyUptoRow.holds Try.pinned (OpenSpec.upto invertApplySpec)

end Rows
end Go.Proofs.Ytdllbljjlaipoaa
