/-
  NARROWER THAN 'FOR EVERY INPUT', by the rows' own cells (each row's printed sentence says how): UnifyFull: loops · UnifySelf: loops · UnifyTurns: loops · UnifyOne: loops.
  DERIVED. THE GIVEN ROWS OF THIS SEAT. 4 by the template 'for every input the law returns true; each argument reads behind the call as it read before'; 0 by the template 'total and deterministic' (their statements: YtelicajhamgibaaTotals.lean).
  GIVEN WITH THE SEED: the statements are not yours to turn. If you find one false, say at which input.
  Laid BY PROGRAM, IN A SANDBOX (cutbox-rows.mjs): the forced cells as the released guide's own fill.sh prints them over the translation 81741eefd1099b72… (all of the seat's roots in one cut). By AI agents, Wed Nov 11 2026. No macro, syntax, notation, axiom, sorry.
-/
import Derived.Test.YtelicajhamgibaaChecked
import GoSem.Claim
import GoSem.ClaimJoined
import GoSem.ClaimMapViews
import Derived.JoinedTies
import Derived.KernelRfl
namespace Go.Proofs.Ytelicajhamgibaa
/- THE CELL 'sum', in the pinned program and in every row, IS THE sha256 OF THE DUMP (.gsa) THAT YtelicajhamgibaaProg.lean LOADS. Nothing in Lean hashes anything: it is a label: what it is worth is what the hold of that sum in a sandbox is worth. -/
noncomputable def Try.pinned : Pinned := { name := "ytelicajhamgibaa", sum := "81741eefd1099b726a6bbdd262ca1ae2d5df8d9ab44e051c8fd0d9a20476518b", checked := Try.checked }
namespace Rows
def none {H : Type} : Left H := { results := [], args := [] }

/-- 'amanuensislaw08.UnifyFull': WHATEVER THE INPUT: true; the input reads as it did. -/
def unifyFullSpec : ChangeSpec := { name := "unifyFull", fn := fun _ => fun
  | [d1, d2] => { results := [.lit (.bool true)], args := [d1, d2] }
  | _ => none }
def unifyFullRow : OpenClaim := { program := "ytelicajhamgibaa", sum := "81741eefd1099b726a6bbdd262ca1ae2d5df8d9ab44e051c8fd0d9a20476518b", func := "amanuensis/amanuensislaw08.UnifyFull", spec := "unifyFull", unfollowed := true, recurses := true, loops := true, plainKeys := false, apart := false }
def UnifyFullSaid : Prop := unifyFullRow.holds Try.pinned (OpenSpec.ofChange unifyFullSpec)

/-- ITS FALSE NEIGHBOUR: 'it returns false'. Refute it at one input. -/
def unifyFullWrong : ChangeSpec := { name := "unifyFull", fn := fun _ => fun
  | [d1, d2] => { results := [.lit (.bool false)], args := [d1, d2] }
  | _ => none }
def UnifyFullWrongFalsely : Prop := unifyFullRow.holds Try.pinned (OpenSpec.ofChange unifyFullWrong)

/-- 'amanuensislaw08.UnifySelf': WHATEVER THE INPUT: true; the input reads as it did. -/
def unifySelfSpec : ChangeSpec := { name := "unifySelf", fn := fun _ => fun
  | [d1, d2, d3, d4] => { results := [.lit (.bool true)], args := [d1, d2, d3, d4] }
  | _ => none }
def unifySelfRow : OpenClaim := { program := "ytelicajhamgibaa", sum := "81741eefd1099b726a6bbdd262ca1ae2d5df8d9ab44e051c8fd0d9a20476518b", func := "amanuensis/amanuensislaw08.UnifySelf", spec := "unifySelf", unfollowed := true, recurses := true, loops := true, plainKeys := false, apart := false }
def UnifySelfSaid : Prop := unifySelfRow.holds Try.pinned (OpenSpec.ofChange unifySelfSpec)

/-- ITS FALSE NEIGHBOUR: 'it returns false'. Refute it at one input. -/
def unifySelfWrong : ChangeSpec := { name := "unifySelf", fn := fun _ => fun
  | [d1, d2, d3, d4] => { results := [.lit (.bool false)], args := [d1, d2, d3, d4] }
  | _ => none }
def UnifySelfWrongFalsely : Prop := unifySelfRow.holds Try.pinned (OpenSpec.ofChange unifySelfWrong)

/-- 'amanuensislaw08.UnifyTurns': WHATEVER THE INPUT: true; the input reads as it did. -/
def unifyTurnsSpec : ChangeSpec := { name := "unifyTurns", fn := fun _ => fun
  | [d1, d2, d3, d4] => { results := [.lit (.bool true)], args := [d1, d2, d3, d4] }
  | _ => none }
def unifyTurnsRow : OpenClaim := { program := "ytelicajhamgibaa", sum := "81741eefd1099b726a6bbdd262ca1ae2d5df8d9ab44e051c8fd0d9a20476518b", func := "amanuensis/amanuensislaw08.UnifyTurns", spec := "unifyTurns", unfollowed := true, recurses := true, loops := true, plainKeys := false, apart := false }
def UnifyTurnsSaid : Prop := unifyTurnsRow.holds Try.pinned (OpenSpec.ofChange unifyTurnsSpec)

/-- ITS FALSE NEIGHBOUR: 'it returns false'. Refute it at one input. -/
def unifyTurnsWrong : ChangeSpec := { name := "unifyTurns", fn := fun _ => fun
  | [d1, d2, d3, d4] => { results := [.lit (.bool false)], args := [d1, d2, d3, d4] }
  | _ => none }
def UnifyTurnsWrongFalsely : Prop := unifyTurnsRow.holds Try.pinned (OpenSpec.ofChange unifyTurnsWrong)

/-- 'amanuensislaw08.UnifyOne': WHATEVER THE INPUT: true; the input reads as it did. -/
def unifyOneSpec : ChangeSpec := { name := "unifyOne", fn := fun _ => fun
  | [d1, d2] => { results := [.lit (.bool true)], args := [d1, d2] }
  | _ => none }
def unifyOneRow : OpenClaim := { program := "ytelicajhamgibaa", sum := "81741eefd1099b726a6bbdd262ca1ae2d5df8d9ab44e051c8fd0d9a20476518b", func := "amanuensis/amanuensislaw08.UnifyOne", spec := "unifyOne", unfollowed := true, recurses := true, loops := true, plainKeys := false, apart := false }
def UnifyOneSaid : Prop := unifyOneRow.holds Try.pinned (OpenSpec.ofChange unifyOneSpec)

/-- ITS FALSE NEIGHBOUR: 'it returns false'. Refute it at one input. -/
def unifyOneWrong : ChangeSpec := { name := "unifyOne", fn := fun _ => fun
  | [d1, d2] => { results := [.lit (.bool false)], args := [d1, d2] }
  | _ => none }
def UnifyOneWrongFalsely : Prop := unifyOneRow.holds Try.pinned (OpenSpec.ofChange unifyOneWrong)

/- THE SECOND FORM. 'bulk': how many values and letters a reading holds, each counted each time it is reached (what is shared counts as often as it is met; a slice's spare places count too). A statement '..UptoSaid' is the law's where the arguments, and the package variables that the reading takes, are together of bulk at most 1048576: NARROWER than '..Said'. Prove '..Said' where nothing that the law and all that it calls make is longer than what came in: it says more and counts as full. Else prove '..UptoSaid'. A law counts once. -/
mutual
def uptoBulk {H : Type} : DataW H → Nat
  | .lit (.string bytes) => bytes.length + 1
  | .lit _ => 1
  | .nil => 1
  | .ptr d => uptoBulk d + 1
  | .slice elems spare => uptoBulkAll elems + uptoBulkAll spare + 1
  | .agg parts => uptoBulkAll parts + 1
  | .iface _ d => uptoBulk d + 1
  | .map entries => uptoBulkEntries entries + 1
  | .held _ => 1
def uptoBulkAll {H : Type} : List (DataW H) → Nat
  | [] => 0
  | d :: r => uptoBulk d + uptoBulkAll r
def uptoBulkEntries {H : Type} : List (Lit × DataW H) → Nat
  | [] => 0
  | x :: r => uptoBulkEntry x + uptoBulkEntries r
def uptoBulkEntry {H : Type} : Lit × DataW H → Nat
  | (.string bytes, d) => bytes.length + uptoBulk d + 1
  | (_, d) => uptoBulk d + 1
 end
def uptoSmall : (H : Type) → List (DataW H) → Bool := fun _ ds => decide (uptoBulkAll ds ≤ 1048576)
def OpenSpec.upto (s : _root_.Go.ChangeSpec) : _root_.Go.OpenSpec := { _root_.Go.OpenSpec.ofChange s with cond := some uptoSmall }

/-- 'amanuensislaw08.UnifyFull', WHERE WHAT IT READS IS OF BULK AT MOST 1048576: true; the input reads as it did. -/
def unifyFullUptoRow : OpenClaim := { program := "ytelicajhamgibaa", sum := "81741eefd1099b726a6bbdd262ca1ae2d5df8d9ab44e051c8fd0d9a20476518b", func := "amanuensis/amanuensislaw08.UnifyFull", spec := "unifyFull", unfollowed := true, recurses := true, loops := true, plainKeys := false, apart := false, narrowed := true }
def UnifyFullUptoSaid : Prop := unifyFullUptoRow.holds Try.pinned (OpenSpec.upto unifyFullSpec)

/-- 'amanuensislaw08.UnifySelf', WHERE WHAT IT READS IS OF BULK AT MOST 1048576: true; the input reads as it did. -/
def unifySelfUptoRow : OpenClaim := { program := "ytelicajhamgibaa", sum := "81741eefd1099b726a6bbdd262ca1ae2d5df8d9ab44e051c8fd0d9a20476518b", func := "amanuensis/amanuensislaw08.UnifySelf", spec := "unifySelf", unfollowed := true, recurses := true, loops := true, plainKeys := false, apart := false, narrowed := true }
def UnifySelfUptoSaid : Prop := unifySelfUptoRow.holds Try.pinned (OpenSpec.upto unifySelfSpec)

/-- 'amanuensislaw08.UnifyTurns', WHERE WHAT IT READS IS OF BULK AT MOST 1048576: true; the input reads as it did. -/
def unifyTurnsUptoRow : OpenClaim := { program := "ytelicajhamgibaa", sum := "81741eefd1099b726a6bbdd262ca1ae2d5df8d9ab44e051c8fd0d9a20476518b", func := "amanuensis/amanuensislaw08.UnifyTurns", spec := "unifyTurns", unfollowed := true, recurses := true, loops := true, plainKeys := false, apart := false, narrowed := true }
def UnifyTurnsUptoSaid : Prop := unifyTurnsUptoRow.holds Try.pinned (OpenSpec.upto unifyTurnsSpec)

/-- 'amanuensislaw08.UnifyOne', WHERE WHAT IT READS IS OF BULK AT MOST 1048576: true; the input reads as it did. -/
def unifyOneUptoRow : OpenClaim := { program := "ytelicajhamgibaa", sum := "81741eefd1099b726a6bbdd262ca1ae2d5df8d9ab44e051c8fd0d9a20476518b", func := "amanuensis/amanuensislaw08.UnifyOne", spec := "unifyOne", unfollowed := true, recurses := true, loops := true, plainKeys := false, apart := false, narrowed := true }
def UnifyOneUptoSaid : Prop := unifyOneUptoRow.holds Try.pinned (OpenSpec.upto unifyOneSpec)

end Rows
end Go.Proofs.Ytelicajhamgibaa
