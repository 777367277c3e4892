/-
  NARROWER THAN 'FOR EVERY INPUT', by the rows' own cells (each row's printed sentence says how): SignTells: loops · SignJoins: loops · SignOnce: loops · SignPis: loops · SignMore: loops.
  DERIVED. THE GIVEN ROWS OF THIS SEAT. 5 by the template 'for every input the law returns true; each argument reads behind the call as it read before'; 0 by the template 'total and deterministic' (their statements: YtclhllkgamnpoaaTotals.lean).
  GIVEN WITH THE SEED: the statements are not yours to turn. If you find one false, say at which input.
  Laid BY PROGRAM, IN A SANDBOX (cutbox-rows.mjs): the forced cells as the released guide's own fill.sh prints them over the translation 432b09fe4b21b32c… (all of the seat's roots in one cut). By AI agents, Wed Nov 11 2026. No macro, syntax, notation, axiom, sorry.
-/
import Derived.Test.YtclhllkgamnpoaaChecked
import GoSem.Claim
import GoSem.ClaimJoined
import GoSem.ClaimMapViews
import Derived.JoinedTies
import Derived.KernelRfl
namespace Go.Proofs.Ytclhllkgamnpoaa
/- THE CELL 'sum', in the pinned program and in every row, IS THE sha256 OF THE DUMP (.gsa) THAT YtclhllkgamnpoaaProg.lean LOADS. Nothing in Lean hashes anything: it is a label: what it is worth is what the hold of that sum in a sandbox is worth. -/
noncomputable def Try.pinned : Pinned := { name := "ytclhllkgamnpoaa", sum := "432b09fe4b21b32c2bbe058f2249b64ddc8196ad7a6cc2ad673cf15c306556f2", checked := Try.checked }
namespace Rows
def none {H : Type} : Left H := { results := [], args := [] }

/-- 'amanuensislaw09.SignTells': WHATEVER THE INPUT: true; the input reads as it did. -/
def signTellsSpec : ChangeSpec := { name := "signTells", fn := fun _ => fun
  | [d1, d2, d3] => { results := [.lit (.bool true)], args := [d1, d2, d3] }
  | _ => none }
def signTellsRow : OpenClaim := { program := "ytclhllkgamnpoaa", sum := "432b09fe4b21b32c2bbe058f2249b64ddc8196ad7a6cc2ad673cf15c306556f2", func := "amanuensis/amanuensislaw09.SignTells", spec := "signTells", unfollowed := true, recurses := true, loops := true, apart := false }
def SignTellsSaid : Prop := signTellsRow.holds Try.pinned (OpenSpec.ofChange signTellsSpec)

/-- ITS FALSE NEIGHBOUR: 'it returns false'. Refute it at one input. -/
def signTellsWrong : ChangeSpec := { name := "signTells", fn := fun _ => fun
  | [d1, d2, d3] => { results := [.lit (.bool false)], args := [d1, d2, d3] }
  | _ => none }
def SignTellsWrongFalsely : Prop := signTellsRow.holds Try.pinned (OpenSpec.ofChange signTellsWrong)

/-- 'amanuensislaw09.SignJoins': WHATEVER THE INPUT: true; the input reads as it did. -/
def signJoinsSpec : ChangeSpec := { name := "signJoins", fn := fun _ => fun
  | [d1, d2] => { results := [.lit (.bool true)], args := [d1, d2] }
  | _ => none }
def signJoinsRow : OpenClaim := { program := "ytclhllkgamnpoaa", sum := "432b09fe4b21b32c2bbe058f2249b64ddc8196ad7a6cc2ad673cf15c306556f2", func := "amanuensis/amanuensislaw09.SignJoins", spec := "signJoins", unfollowed := true, recurses := true, loops := true, apart := false }
def SignJoinsSaid : Prop := signJoinsRow.holds Try.pinned (OpenSpec.ofChange signJoinsSpec)

/-- ITS FALSE NEIGHBOUR: 'it returns false'. Refute it at one input. -/
def signJoinsWrong : ChangeSpec := { name := "signJoins", fn := fun _ => fun
  | [d1, d2] => { results := [.lit (.bool false)], args := [d1, d2] }
  | _ => none }
def SignJoinsWrongFalsely : Prop := signJoinsRow.holds Try.pinned (OpenSpec.ofChange signJoinsWrong)

/-- 'amanuensislaw09.SignOnce': WHATEVER THE INPUT: true; the input reads as it did. -/
def signOnceSpec : ChangeSpec := { name := "signOnce", fn := fun _ => fun
  | [d1, d2] => { results := [.lit (.bool true)], args := [d1, d2] }
  | _ => none }
def signOnceRow : OpenClaim := { program := "ytclhllkgamnpoaa", sum := "432b09fe4b21b32c2bbe058f2249b64ddc8196ad7a6cc2ad673cf15c306556f2", func := "amanuensis/amanuensislaw09.SignOnce", spec := "signOnce", unfollowed := true, recurses := true, loops := true, apart := false }
def SignOnceSaid : Prop := signOnceRow.holds Try.pinned (OpenSpec.ofChange signOnceSpec)

/-- ITS FALSE NEIGHBOUR: 'it returns false'. Refute it at one input. -/
def signOnceWrong : ChangeSpec := { name := "signOnce", fn := fun _ => fun
  | [d1, d2] => { results := [.lit (.bool false)], args := [d1, d2] }
  | _ => none }
def SignOnceWrongFalsely : Prop := signOnceRow.holds Try.pinned (OpenSpec.ofChange signOnceWrong)

/-- 'amanuensislaw09.SignPis': WHATEVER THE INPUT: true; the input reads as it did. -/
def signPisSpec : ChangeSpec := { name := "signPis", fn := fun _ => fun
  | [d] => { results := [.lit (.bool true)], args := [d] }
  | _ => none }
def signPisRow : OpenClaim := { program := "ytclhllkgamnpoaa", sum := "432b09fe4b21b32c2bbe058f2249b64ddc8196ad7a6cc2ad673cf15c306556f2", func := "amanuensis/amanuensislaw09.SignPis", spec := "signPis", unfollowed := true, recurses := true, loops := true, apart := false }
def SignPisSaid : Prop := signPisRow.holds Try.pinned (OpenSpec.ofChange signPisSpec)

/-- ITS FALSE NEIGHBOUR: 'it returns false'. Refute it at one input. -/
def signPisWrong : ChangeSpec := { name := "signPis", fn := fun _ => fun
  | [d] => { results := [.lit (.bool false)], args := [d] }
  | _ => none }
def SignPisWrongFalsely : Prop := signPisRow.holds Try.pinned (OpenSpec.ofChange signPisWrong)

/-- 'amanuensislaw09.SignMore': WHATEVER THE INPUT: true; the input reads as it did. -/
def signMoreSpec : ChangeSpec := { name := "signMore", fn := fun _ => fun
  | [d1, d2, d3] => { results := [.lit (.bool true)], args := [d1, d2, d3] }
  | _ => none }
def signMoreRow : OpenClaim := { program := "ytclhllkgamnpoaa", sum := "432b09fe4b21b32c2bbe058f2249b64ddc8196ad7a6cc2ad673cf15c306556f2", func := "amanuensis/amanuensislaw09.SignMore", spec := "signMore", unfollowed := true, recurses := true, loops := true, apart := false }
def SignMoreSaid : Prop := signMoreRow.holds Try.pinned (OpenSpec.ofChange signMoreSpec)

/-- ITS FALSE NEIGHBOUR: 'it returns false'. Refute it at one input. -/
def signMoreWrong : ChangeSpec := { name := "signMore", fn := fun _ => fun
  | [d1, d2, d3] => { results := [.lit (.bool false)], args := [d1, d2, d3] }
  | _ => none }
def SignMoreWrongFalsely : Prop := signMoreRow.holds Try.pinned (OpenSpec.ofChange signMoreWrong)

/- THE SECOND FORM. 'bulk': how many values and letters a reading holds, each counted each time it is reached (what is shared counts as often as it is met; a slice's spare places count too). A statement '..UptoSaid' is the law's where the arguments, and the package variables that the reading takes, are together of bulk at most 1048576: NARROWER than '..Said'. Prove '..Said' where nothing that the law and all that it calls make is longer than what came in: it says more and counts as full. Else prove '..UptoSaid'. A law counts once. -/
mutual
def uptoBulk {H : Type} : DataW H → Nat
  | .lit (.string bytes) => bytes.length + 1
  | .lit _ => 1
  | .nil => 1
  | .ptr d => uptoBulk d + 1
  | .slice elems spare => uptoBulkAll elems + uptoBulkAll spare + 1
  | .agg parts => uptoBulkAll parts + 1
  | .iface _ d => uptoBulk d + 1
  | .map entries => uptoBulkEntries entries + 1
  | .held _ => 1
def uptoBulkAll {H : Type} : List (DataW H) → Nat
  | [] => 0
  | d :: r => uptoBulk d + uptoBulkAll r
def uptoBulkEntries {H : Type} : List (Lit × DataW H) → Nat
  | [] => 0
  | x :: r => uptoBulkEntry x + uptoBulkEntries r
def uptoBulkEntry {H : Type} : Lit × DataW H → Nat
  | (.string bytes, d) => bytes.length + uptoBulk d + 1
  | (_, d) => uptoBulk d + 1
 end
def uptoSmall : (H : Type) → List (DataW H) → Bool := fun _ ds => decide (uptoBulkAll ds ≤ 1048576)
def OpenSpec.upto (s : _root_.Go.ChangeSpec) : _root_.Go.OpenSpec := { _root_.Go.OpenSpec.ofChange s with cond := some uptoSmall }

/-- 'amanuensislaw09.SignTells', WHERE WHAT IT READS IS OF BULK AT MOST 1048576: true; the input reads as it did. -/
def signTellsUptoRow : OpenClaim := { program := "ytclhllkgamnpoaa", sum := "432b09fe4b21b32c2bbe058f2249b64ddc8196ad7a6cc2ad673cf15c306556f2", func := "amanuensis/amanuensislaw09.SignTells", spec := "signTells", unfollowed := true, recurses := true, loops := true, apart := false, narrowed := true }
def SignTellsUptoSaid : Prop := signTellsUptoRow.holds Try.pinned (OpenSpec.upto signTellsSpec)

/-- 'amanuensislaw09.SignJoins', WHERE WHAT IT READS IS OF BULK AT MOST 1048576: true; the input reads as it did. -/
def signJoinsUptoRow : OpenClaim := { program := "ytclhllkgamnpoaa", sum := "432b09fe4b21b32c2bbe058f2249b64ddc8196ad7a6cc2ad673cf15c306556f2", func := "amanuensis/amanuensislaw09.SignJoins", spec := "signJoins", unfollowed := true, recurses := true, loops := true, apart := false, narrowed := true }
def SignJoinsUptoSaid : Prop := signJoinsUptoRow.holds Try.pinned (OpenSpec.upto signJoinsSpec)

/-- 'amanuensislaw09.SignOnce', WHERE WHAT IT READS IS OF BULK AT MOST 1048576: true; the input reads as it did. -/
def signOnceUptoRow : OpenClaim := { program := "ytclhllkgamnpoaa", sum := "432b09fe4b21b32c2bbe058f2249b64ddc8196ad7a6cc2ad673cf15c306556f2", func := "amanuensis/amanuensislaw09.SignOnce", spec := "signOnce", unfollowed := true, recurses := true, loops := true, apart := false, narrowed := true }
def SignOnceUptoSaid : Prop := signOnceUptoRow.holds Try.pinned (OpenSpec.upto signOnceSpec)

/-- 'amanuensislaw09.SignPis', WHERE WHAT IT READS IS OF BULK AT MOST 1048576: true; the input reads as it did. -/
def signPisUptoRow : OpenClaim := { program := "ytclhllkgamnpoaa", sum := "432b09fe4b21b32c2bbe058f2249b64ddc8196ad7a6cc2ad673cf15c306556f2", func := "amanuensis/amanuensislaw09.SignPis", spec := "signPis", unfollowed := true, recurses := true, loops := true, apart := false, narrowed := true }
def SignPisUptoSaid : Prop := signPisUptoRow.holds Try.pinned (OpenSpec.upto signPisSpec)

/-- 'amanuensislaw09.SignMore', WHERE WHAT IT READS IS OF BULK AT MOST 1048576: true; the input reads as it did. -/
def signMoreUptoRow : OpenClaim := { program := "ytclhllkgamnpoaa", sum := "432b09fe4b21b32c2bbe058f2249b64ddc8196ad7a6cc2ad673cf15c306556f2", func := "amanuensis/amanuensislaw09.SignMore", spec := "signMore", unfollowed := true, recurses := true, loops := true, apart := false, narrowed := true }
def SignMoreUptoSaid : Prop := signMoreUptoRow.holds Try.pinned (OpenSpec.upto signMoreSpec)

end Rows
end Go.Proofs.Ytclhllkgamnpoaa
