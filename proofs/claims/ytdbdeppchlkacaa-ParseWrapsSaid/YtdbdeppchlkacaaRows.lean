/-
  NARROWER THAN 'FOR EVERY INPUT', by the rows' own cells (each row's printed sentence says how): ParseWraps: loops.
  DERIVED. THE GIVEN ROWS OF THIS SEAT. 5 by the template 'for every input the law returns true; each argument reads behind the call as it read before'; 0 by the template 'total and deterministic' (their statements: YtdbdeppchlkacaaTotals.lean).
  GIVEN WITH THE SEED: the statements are not yours to turn. If you find one false, say at which input.
  Laid BY PROGRAM, IN A SANDBOX (cutbox-rows.mjs): the forced cells as the released guide's own fill.sh prints them over the translation 1ed770aea470cd70… (all of the seat's roots in one cut). By AI agents, Wed Nov 11 2026. No macro, syntax, notation, axiom, sorry.
-/
import Derived.Test.YtdbdeppchlkacaaChecked
import GoSem.Claim
import GoSem.ClaimJoined
import GoSem.ClaimMapViews
import Derived.JoinedTies
import Derived.KernelRfl
namespace Go.Proofs.Ytdbdeppchlkacaa
/- THE CELL 'sum', in the pinned program and in every row, IS THE sha256 OF THE DUMP (.gsa) THAT YtdbdeppchlkacaaProg.lean LOADS. Nothing in Lean hashes anything: it is a label: what it is worth is what the hold of that sum in a sandbox is worth. -/
noncomputable def Try.pinned : Pinned := { name := "ytdbdeppchlkacaa", sum := "1ed770aea470cd70e58f77b5f474411ac6ffc02e8787bd8cc8a4061d160f85eb", checked := Try.checked }
namespace Rows
def none {H : Type} : Left H := { results := [], args := [] }

/-- 'amanuensislaw14.ParseScopes': WHATEVER THE INPUT: true; the input reads as it did. -/
def parseScopesSpec : ChangeSpec := { name := "parseScopes", fn := fun _ => fun
  | [d] => { results := [.lit (.bool true)], args := [d] }
  | _ => none }
def parseScopesRow : OpenClaim := { program := "ytdbdeppchlkacaa", sum := "1ed770aea470cd70e58f77b5f474411ac6ffc02e8787bd8cc8a4061d160f85eb", func := "amanuensis/amanuensislaw14.ParseScopes", spec := "parseScopes", inPlace := ["internal/bytealg.IndexByteString", "internal/bytealg.IndexString"], unfollowed := true, recurses := true, named := ["internal/bytealg.MaxLen"], apart := false }
def ParseScopesSaid : Prop := parseScopesRow.holds Try.pinned (OpenSpec.ofChange parseScopesSpec)

/-- ITS FALSE NEIGHBOUR: 'it returns false'. Refute it at one input. -/
def parseScopesWrong : ChangeSpec := { name := "parseScopes", fn := fun _ => fun
  | [d] => { results := [.lit (.bool false)], args := [d] }
  | _ => none }
def ParseScopesWrongFalsely : Prop := parseScopesRow.holds Try.pinned (OpenSpec.ofChange parseScopesWrong)

/-- 'amanuensislaw14.ParseBegins': WHATEVER THE INPUT: true; the input reads as it did. -/
def parseBeginsSpec : ChangeSpec := { name := "parseBegins", fn := fun _ => fun
  | [d1, d2] => { results := [.lit (.bool true)], args := [d1, d2] }
  | _ => none }
def parseBeginsRow : OpenClaim := { program := "ytdbdeppchlkacaa", sum := "1ed770aea470cd70e58f77b5f474411ac6ffc02e8787bd8cc8a4061d160f85eb", func := "amanuensis/amanuensislaw14.ParseBegins", spec := "parseBegins", inPlace := ["internal/bytealg.IndexByteString", "internal/bytealg.IndexString"], unfollowed := true, recurses := true, named := ["internal/bytealg.MaxLen"], apart := false }
def ParseBeginsSaid : Prop := parseBeginsRow.holds Try.pinned (OpenSpec.ofChange parseBeginsSpec)

/-- ITS FALSE NEIGHBOUR: 'it returns false'. Refute it at one input. -/
def parseBeginsWrong : ChangeSpec := { name := "parseBegins", fn := fun _ => fun
  | [d1, d2] => { results := [.lit (.bool false)], args := [d1, d2] }
  | _ => none }
def ParseBeginsWrongFalsely : Prop := parseBeginsRow.holds Try.pinned (OpenSpec.ofChange parseBeginsWrong)

/-- 'amanuensislaw14.ParseWraps': WHATEVER THE INPUT: true; the input reads as it did. -/
def parseWrapsSpec : ChangeSpec := { name := "parseWraps", fn := fun _ => fun
  | [d1, d2] => { results := [.lit (.bool true)], args := [d1, d2] }
  | _ => none }
def parseWrapsRow : OpenClaim := { program := "ytdbdeppchlkacaa", sum := "1ed770aea470cd70e58f77b5f474411ac6ffc02e8787bd8cc8a4061d160f85eb", func := "amanuensis/amanuensislaw14.ParseWraps", spec := "parseWraps", inPlace := ["internal/bytealg.IndexByteString", "internal/bytealg.IndexString"], unfollowed := true, recurses := true, named := ["internal/bytealg.MaxLen"], loops := true, apart := false }
def ParseWrapsSaid : Prop := parseWrapsRow.holds Try.pinned (OpenSpec.ofChange parseWrapsSpec)

/-- ITS FALSE NEIGHBOUR: 'it returns false'. Refute it at one input. -/
def parseWrapsWrong : ChangeSpec := { name := "parseWraps", fn := fun _ => fun
  | [d1, d2] => { results := [.lit (.bool false)], args := [d1, d2] }
  | _ => none }
def ParseWrapsWrongFalsely : Prop := parseWrapsRow.holds Try.pinned (OpenSpec.ofChange parseWrapsWrong)

/-- 'amanuensislaw14.ParseNames': WHATEVER THE INPUT: true; the input reads as it did. -/
def parseNamesSpec : ChangeSpec := { name := "parseNames", fn := fun _ => fun
  | [d] => { results := [.lit (.bool true)], args := [d] }
  | _ => none }
def parseNamesRow : OpenClaim := { program := "ytdbdeppchlkacaa", sum := "1ed770aea470cd70e58f77b5f474411ac6ffc02e8787bd8cc8a4061d160f85eb", func := "amanuensis/amanuensislaw14.ParseNames", spec := "parseNames", inPlace := ["internal/bytealg.IndexByteString", "internal/bytealg.IndexString"], unfollowed := true, recurses := true, named := ["internal/bytealg.MaxLen"], apart := false }
def ParseNamesSaid : Prop := parseNamesRow.holds Try.pinned (OpenSpec.ofChange parseNamesSpec)

/-- ITS FALSE NEIGHBOUR: 'it returns false'. Refute it at one input. -/
def parseNamesWrong : ChangeSpec := { name := "parseNames", fn := fun _ => fun
  | [d] => { results := [.lit (.bool false)], args := [d] }
  | _ => none }
def ParseNamesWrongFalsely : Prop := parseNamesRow.holds Try.pinned (OpenSpec.ofChange parseNamesWrong)

/-- 'amanuensislaw14.ParseBound': WHATEVER THE INPUT: true; the input reads as it did. -/
def parseBoundSpec : ChangeSpec := { name := "parseBound", fn := fun _ => fun
  | [d1, d2] => { results := [.lit (.bool true)], args := [d1, d2] }
  | _ => none }
def parseBoundRow : OpenClaim := { program := "ytdbdeppchlkacaa", sum := "1ed770aea470cd70e58f77b5f474411ac6ffc02e8787bd8cc8a4061d160f85eb", func := "amanuensis/amanuensislaw14.ParseBound", spec := "parseBound", inPlace := ["internal/bytealg.IndexByteString", "internal/bytealg.IndexString"], unfollowed := true, recurses := true, named := ["internal/bytealg.MaxLen"], apart := false }
def ParseBoundSaid : Prop := parseBoundRow.holds Try.pinned (OpenSpec.ofChange parseBoundSpec)

/-- ITS FALSE NEIGHBOUR: 'it returns false'. Refute it at one input. -/
def parseBoundWrong : ChangeSpec := { name := "parseBound", fn := fun _ => fun
  | [d1, d2] => { results := [.lit (.bool false)], args := [d1, d2] }
  | _ => none }
def ParseBoundWrongFalsely : Prop := parseBoundRow.holds Try.pinned (OpenSpec.ofChange parseBoundWrong)

/- THE SECOND FORM. 'bulk': how many values and letters a reading holds, each counted each time it is reached (what is shared counts as often as it is met; a slice's spare places count too). A statement '..UptoSaid' is the law's where the arguments, and the package variables that the reading takes, are together of bulk at most 1048576: NARROWER than '..Said'. Prove '..Said' where nothing that the law and all that it calls make is longer than what came in: it says more and counts as full. Else prove '..UptoSaid'. A law counts once. -/
mutual
def uptoBulk {H : Type} : DataW H → Nat
  | .lit (.string bytes) => bytes.length + 1
  | .lit _ => 1
  | .nil => 1
  | .ptr d => uptoBulk d + 1
  | .slice elems spare => uptoBulkAll elems + uptoBulkAll spare + 1
  | .agg parts => uptoBulkAll parts + 1
  | .iface _ d => uptoBulk d + 1
  | .map entries => uptoBulkEntries entries + 1
  | .held _ => 1
def uptoBulkAll {H : Type} : List (DataW H) → Nat
  | [] => 0
  | d :: r => uptoBulk d + uptoBulkAll r
def uptoBulkEntries {H : Type} : List (Lit × DataW H) → Nat
  | [] => 0
  | x :: r => uptoBulkEntry x + uptoBulkEntries r
def uptoBulkEntry {H : Type} : Lit × DataW H → Nat
  | (.string bytes, d) => bytes.length + uptoBulk d + 1
  | (_, d) => uptoBulk d + 1
 end
def uptoSmall : (H : Type) → List (DataW H) → Bool := fun _ ds => decide (uptoBulkAll ds ≤ 1048576)
def OpenSpec.upto (s : _root_.Go.ChangeSpec) : _root_.Go.OpenSpec := { _root_.Go.OpenSpec.ofChange s with cond := some uptoSmall }

/-- 'amanuensislaw14.ParseScopes', WHERE WHAT IT READS IS OF BULK AT MOST 1048576: true; the input reads as it did. -/
def parseScopesUptoRow : OpenClaim := { program := "ytdbdeppchlkacaa", sum := "1ed770aea470cd70e58f77b5f474411ac6ffc02e8787bd8cc8a4061d160f85eb", func := "amanuensis/amanuensislaw14.ParseScopes", spec := "parseScopes", inPlace := ["internal/bytealg.IndexByteString", "internal/bytealg.IndexString"], unfollowed := true, recurses := true, named := ["internal/bytealg.MaxLen"], apart := false, narrowed := true }
def ParseScopesUptoSaid : Prop := parseScopesUptoRow.holds Try.pinned (OpenSpec.upto parseScopesSpec)

/-- 'amanuensislaw14.ParseBegins', WHERE WHAT IT READS IS OF BULK AT MOST 1048576: true; the input reads as it did. -/
def parseBeginsUptoRow : OpenClaim := { program := "ytdbdeppchlkacaa", sum := "1ed770aea470cd70e58f77b5f474411ac6ffc02e8787bd8cc8a4061d160f85eb", func := "amanuensis/amanuensislaw14.ParseBegins", spec := "parseBegins", inPlace := ["internal/bytealg.IndexByteString", "internal/bytealg.IndexString"], unfollowed := true, recurses := true, named := ["internal/bytealg.MaxLen"], apart := false, narrowed := true }
def ParseBeginsUptoSaid : Prop := parseBeginsUptoRow.holds Try.pinned (OpenSpec.upto parseBeginsSpec)

/-- 'amanuensislaw14.ParseWraps', WHERE WHAT IT READS IS OF BULK AT MOST 1048576: true; the input reads as it did. -/
def parseWrapsUptoRow : OpenClaim := { program := "ytdbdeppchlkacaa", sum := "1ed770aea470cd70e58f77b5f474411ac6ffc02e8787bd8cc8a4061d160f85eb", func := "amanuensis/amanuensislaw14.ParseWraps", spec := "parseWraps", inPlace := ["internal/bytealg.IndexByteString", "internal/bytealg.IndexString"], unfollowed := true, recurses := true, named := ["internal/bytealg.MaxLen"], loops := true, apart := false, narrowed := true }
def ParseWrapsUptoSaid : Prop := parseWrapsUptoRow.holds Try.pinned (OpenSpec.upto parseWrapsSpec)

/-- 'amanuensislaw14.ParseNames', WHERE WHAT IT READS IS OF BULK AT MOST 1048576: true; the input reads as it did. -/
def parseNamesUptoRow : OpenClaim := { program := "ytdbdeppchlkacaa", sum := "1ed770aea470cd70e58f77b5f474411ac6ffc02e8787bd8cc8a4061d160f85eb", func := "amanuensis/amanuensislaw14.ParseNames", spec := "parseNames", inPlace := ["internal/bytealg.IndexByteString", "internal/bytealg.IndexString"], unfollowed := true, recurses := true, named := ["internal/bytealg.MaxLen"], apart := false, narrowed := true }
def ParseNamesUptoSaid : Prop := parseNamesUptoRow.holds Try.pinned (OpenSpec.upto parseNamesSpec)

/-- 'amanuensislaw14.ParseBound', WHERE WHAT IT READS IS OF BULK AT MOST 1048576: true; the input reads as it did. -/
def parseBoundUptoRow : OpenClaim := { program := "ytdbdeppchlkacaa", sum := "1ed770aea470cd70e58f77b5f474411ac6ffc02e8787bd8cc8a4061d160f85eb", func := "amanuensis/amanuensislaw14.ParseBound", spec := "parseBound", inPlace := ["internal/bytealg.IndexByteString", "internal/bytealg.IndexString"], unfollowed := true, recurses := true, named := ["internal/bytealg.MaxLen"], apart := false, narrowed := true }
def ParseBoundUptoSaid : Prop := parseBoundUptoRow.holds Try.pinned (OpenSpec.upto parseBoundSpec)

end Rows
end Go.Proofs.Ytdbdeppchlkacaa
