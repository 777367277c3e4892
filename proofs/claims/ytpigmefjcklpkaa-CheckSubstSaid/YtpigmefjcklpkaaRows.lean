/-
  NARROWER THAN 'FOR EVERY INPUT', by the rows' own cells (each row's printed sentence says how): WorldBegins: loops · WorldConforms: loops · WorldLimits: loops · WorldParts: loops · WorldMore: loops · CheckTerms: loops · CheckTypes: loops · CheckFront: loops · CheckSubst: loops.
  DERIVED. THE GIVEN ROWS OF THIS SEAT. 9 by the template 'for every input the law returns true; each argument reads behind the call as it read before'; 0 by the template 'total and deterministic' (their statements: YtpigmefjcklpkaaTotals.lean).
  GIVEN WITH THE SEED: the statements are not yours to turn. If you find one false, say at which input.
  Laid BY PROGRAM, IN A SANDBOX (cutbox-rows.mjs): the forced cells as the released guide's own fill.sh prints them over the translation 509a9a5922a6316a… (all of the seat's roots in one cut). By AI agents, Wed Nov 11 2026. No macro, syntax, notation, axiom, sorry.
-/
import Derived.Test.YtpigmefjcklpkaaChecked
import GoSem.Claim
import GoSem.ClaimJoined
import GoSem.ClaimMapViews
import Derived.JoinedTies
import Derived.KernelRfl
namespace Go.Proofs.Ytpigmefjcklpkaa
/- THE CELL 'sum', in the pinned program and in every row, IS THE sha256 OF THE DUMP (.gsa) THAT YtpigmefjcklpkaaProg.lean LOADS. Nothing in Lean hashes anything: it is a label: what it is worth is what the hold of that sum in a sandbox is worth. -/
noncomputable def Try.pinned : Pinned := { name := "ytpigmefjcklpkaa", sum := "509a9a5922a6316ab4f5b7c7671eacb3439426f1cdf8b8f54ba7cb8bfa2290f8", checked := Try.checked }
namespace Rows
def none {H : Type} : Left H := { results := [], args := [] }

/-- 'amanuensislaw11.WorldBegins': WHATEVER THE INPUT: true; the input reads as it did. -/
def worldBeginsSpec : ChangeSpec := { name := "worldBegins", fn := fun _ => fun
  | [d1, d2, d3] => { results := [.lit (.bool true)], args := [d1, d2, d3] }
  | _ => none }
def worldBeginsRow : OpenClaim := { program := "ytpigmefjcklpkaa", sum := "509a9a5922a6316ab4f5b7c7671eacb3439426f1cdf8b8f54ba7cb8bfa2290f8", func := "amanuensis/amanuensislaw11.WorldBegins", spec := "worldBegins", unfollowed := true, recurses := true, loops := true, plainKeys := false, apart := false }
def WorldBeginsSaid : Prop := worldBeginsRow.holds Try.pinned (OpenSpec.ofChange worldBeginsSpec)

/-- ITS FALSE NEIGHBOUR: 'it returns false'. Refute it at one input. -/
def worldBeginsWrong : ChangeSpec := { name := "worldBegins", fn := fun _ => fun
  | [d1, d2, d3] => { results := [.lit (.bool false)], args := [d1, d2, d3] }
  | _ => none }
def WorldBeginsWrongFalsely : Prop := worldBeginsRow.holds Try.pinned (OpenSpec.ofChange worldBeginsWrong)

/-- 'amanuensislaw11.WorldConforms': WHATEVER THE INPUT: true; the input reads as it did. -/
def worldConformsSpec : ChangeSpec := { name := "worldConforms", fn := fun _ => fun
  | [d1, d2, d3, d4] => { results := [.lit (.bool true)], args := [d1, d2, d3, d4] }
  | _ => none }
def worldConformsRow : OpenClaim := { program := "ytpigmefjcklpkaa", sum := "509a9a5922a6316ab4f5b7c7671eacb3439426f1cdf8b8f54ba7cb8bfa2290f8", func := "amanuensis/amanuensislaw11.WorldConforms", spec := "worldConforms", unfollowed := true, recurses := true, loops := true, plainKeys := false, apart := false }
def WorldConformsSaid : Prop := worldConformsRow.holds Try.pinned (OpenSpec.ofChange worldConformsSpec)

/-- ITS FALSE NEIGHBOUR: 'it returns false'. Refute it at one input. -/
def worldConformsWrong : ChangeSpec := { name := "worldConforms", fn := fun _ => fun
  | [d1, d2, d3, d4] => { results := [.lit (.bool false)], args := [d1, d2, d3, d4] }
  | _ => none }
def WorldConformsWrongFalsely : Prop := worldConformsRow.holds Try.pinned (OpenSpec.ofChange worldConformsWrong)

/-- 'amanuensislaw11.WorldLimits': WHATEVER THE INPUT: true; the input reads as it did. -/
def worldLimitsSpec : ChangeSpec := { name := "worldLimits", fn := fun _ => fun
  | [d1, d2, d3] => { results := [.lit (.bool true)], args := [d1, d2, d3] }
  | _ => none }
def worldLimitsRow : OpenClaim := { program := "ytpigmefjcklpkaa", sum := "509a9a5922a6316ab4f5b7c7671eacb3439426f1cdf8b8f54ba7cb8bfa2290f8", func := "amanuensis/amanuensislaw11.WorldLimits", spec := "worldLimits", unfollowed := true, recurses := true, loops := true, plainKeys := false, apart := false }
def WorldLimitsSaid : Prop := worldLimitsRow.holds Try.pinned (OpenSpec.ofChange worldLimitsSpec)

/-- ITS FALSE NEIGHBOUR: 'it returns false'. Refute it at one input. -/
def worldLimitsWrong : ChangeSpec := { name := "worldLimits", fn := fun _ => fun
  | [d1, d2, d3] => { results := [.lit (.bool false)], args := [d1, d2, d3] }
  | _ => none }
def WorldLimitsWrongFalsely : Prop := worldLimitsRow.holds Try.pinned (OpenSpec.ofChange worldLimitsWrong)

/-- 'amanuensislaw11.WorldParts': WHATEVER THE INPUT: true; the input reads as it did. -/
def worldPartsSpec : ChangeSpec := { name := "worldParts", fn := fun _ => fun
  | [d1, d2, d3] => { results := [.lit (.bool true)], args := [d1, d2, d3] }
  | _ => none }
def worldPartsRow : OpenClaim := { program := "ytpigmefjcklpkaa", sum := "509a9a5922a6316ab4f5b7c7671eacb3439426f1cdf8b8f54ba7cb8bfa2290f8", func := "amanuensis/amanuensislaw11.WorldParts", spec := "worldParts", unfollowed := true, recurses := true, loops := true, plainKeys := false, apart := false }
def WorldPartsSaid : Prop := worldPartsRow.holds Try.pinned (OpenSpec.ofChange worldPartsSpec)

/-- ITS FALSE NEIGHBOUR: 'it returns false'. Refute it at one input. -/
def worldPartsWrong : ChangeSpec := { name := "worldParts", fn := fun _ => fun
  | [d1, d2, d3] => { results := [.lit (.bool false)], args := [d1, d2, d3] }
  | _ => none }
def WorldPartsWrongFalsely : Prop := worldPartsRow.holds Try.pinned (OpenSpec.ofChange worldPartsWrong)

/-- 'amanuensislaw11.WorldMore': WHATEVER THE INPUT: true; the input reads as it did. -/
def worldMoreSpec : ChangeSpec := { name := "worldMore", fn := fun _ => fun
  | [d1, d2, d3] => { results := [.lit (.bool true)], args := [d1, d2, d3] }
  | _ => none }
def worldMoreRow : OpenClaim := { program := "ytpigmefjcklpkaa", sum := "509a9a5922a6316ab4f5b7c7671eacb3439426f1cdf8b8f54ba7cb8bfa2290f8", func := "amanuensis/amanuensislaw11.WorldMore", spec := "worldMore", unfollowed := true, recurses := true, loops := true, plainKeys := false, apart := false }
def WorldMoreSaid : Prop := worldMoreRow.holds Try.pinned (OpenSpec.ofChange worldMoreSpec)

/-- ITS FALSE NEIGHBOUR: 'it returns false'. Refute it at one input. -/
def worldMoreWrong : ChangeSpec := { name := "worldMore", fn := fun _ => fun
  | [d1, d2, d3] => { results := [.lit (.bool false)], args := [d1, d2, d3] }
  | _ => none }
def WorldMoreWrongFalsely : Prop := worldMoreRow.holds Try.pinned (OpenSpec.ofChange worldMoreWrong)

/-- 'amanuensislaw10.CheckTerms': WHATEVER THE INPUT: true; the input reads as it did. -/
def checkTermsSpec : ChangeSpec := { name := "checkTerms", fn := fun _ => fun
  | [d1, d2, d3, d4, d5] => { results := [.lit (.bool true)], args := [d1, d2, d3, d4, d5] }
  | _ => none }
def checkTermsRow : OpenClaim := { program := "ytpigmefjcklpkaa", sum := "509a9a5922a6316ab4f5b7c7671eacb3439426f1cdf8b8f54ba7cb8bfa2290f8", func := "amanuensis/amanuensislaw10.CheckTerms", spec := "checkTerms", unfollowed := true, recurses := true, loops := true, plainKeys := false, apart := false }
def CheckTermsSaid : Prop := checkTermsRow.holds Try.pinned (OpenSpec.ofChange checkTermsSpec)

/-- ITS FALSE NEIGHBOUR: 'it returns false'. Refute it at one input. -/
def checkTermsWrong : ChangeSpec := { name := "checkTerms", fn := fun _ => fun
  | [d1, d2, d3, d4, d5] => { results := [.lit (.bool false)], args := [d1, d2, d3, d4, d5] }
  | _ => none }
def CheckTermsWrongFalsely : Prop := checkTermsRow.holds Try.pinned (OpenSpec.ofChange checkTermsWrong)

/-- 'amanuensislaw10.CheckTypes': WHATEVER THE INPUT: true; the input reads as it did. -/
def checkTypesSpec : ChangeSpec := { name := "checkTypes", fn := fun _ => fun
  | [d1, d2, d3, d4] => { results := [.lit (.bool true)], args := [d1, d2, d3, d4] }
  | _ => none }
def checkTypesRow : OpenClaim := { program := "ytpigmefjcklpkaa", sum := "509a9a5922a6316ab4f5b7c7671eacb3439426f1cdf8b8f54ba7cb8bfa2290f8", func := "amanuensis/amanuensislaw10.CheckTypes", spec := "checkTypes", unfollowed := true, recurses := true, loops := true, plainKeys := false, apart := false }
def CheckTypesSaid : Prop := checkTypesRow.holds Try.pinned (OpenSpec.ofChange checkTypesSpec)

/-- ITS FALSE NEIGHBOUR: 'it returns false'. Refute it at one input. -/
def checkTypesWrong : ChangeSpec := { name := "checkTypes", fn := fun _ => fun
  | [d1, d2, d3, d4] => { results := [.lit (.bool false)], args := [d1, d2, d3, d4] }
  | _ => none }
def CheckTypesWrongFalsely : Prop := checkTypesRow.holds Try.pinned (OpenSpec.ofChange checkTypesWrong)

/-- 'amanuensislaw10.CheckFront': WHATEVER THE INPUT: true; the input reads as it did. -/
def checkFrontSpec : ChangeSpec := { name := "checkFront", fn := fun _ => fun
  | [d1, d2, d3, d4, d5] => { results := [.lit (.bool true)], args := [d1, d2, d3, d4, d5] }
  | _ => none }
def checkFrontRow : OpenClaim := { program := "ytpigmefjcklpkaa", sum := "509a9a5922a6316ab4f5b7c7671eacb3439426f1cdf8b8f54ba7cb8bfa2290f8", func := "amanuensis/amanuensislaw10.CheckFront", spec := "checkFront", unfollowed := true, recurses := true, loops := true, plainKeys := false, apart := false }
def CheckFrontSaid : Prop := checkFrontRow.holds Try.pinned (OpenSpec.ofChange checkFrontSpec)

/-- ITS FALSE NEIGHBOUR: 'it returns false'. Refute it at one input. -/
def checkFrontWrong : ChangeSpec := { name := "checkFront", fn := fun _ => fun
  | [d1, d2, d3, d4, d5] => { results := [.lit (.bool false)], args := [d1, d2, d3, d4, d5] }
  | _ => none }
def CheckFrontWrongFalsely : Prop := checkFrontRow.holds Try.pinned (OpenSpec.ofChange checkFrontWrong)

/-- 'amanuensislaw10.CheckSubst': WHATEVER THE INPUT: true; the input reads as it did. -/
def checkSubstSpec : ChangeSpec := { name := "checkSubst", fn := fun _ => fun
  | [d1, d2, d3, d4, d5] => { results := [.lit (.bool true)], args := [d1, d2, d3, d4, d5] }
  | _ => none }
def checkSubstRow : OpenClaim := { program := "ytpigmefjcklpkaa", sum := "509a9a5922a6316ab4f5b7c7671eacb3439426f1cdf8b8f54ba7cb8bfa2290f8", func := "amanuensis/amanuensislaw10.CheckSubst", spec := "checkSubst", unfollowed := true, recurses := true, loops := true, plainKeys := false, apart := false }
def CheckSubstSaid : Prop := checkSubstRow.holds Try.pinned (OpenSpec.ofChange checkSubstSpec)

/-- ITS FALSE NEIGHBOUR: 'it returns false'. Refute it at one input. -/
def checkSubstWrong : ChangeSpec := { name := "checkSubst", fn := fun _ => fun
  | [d1, d2, d3, d4, d5] => { results := [.lit (.bool false)], args := [d1, d2, d3, d4, d5] }
  | _ => none }
def CheckSubstWrongFalsely : Prop := checkSubstRow.holds Try.pinned (OpenSpec.ofChange checkSubstWrong)

/- THE SECOND FORM. 'bulk': how many values and letters a reading holds, each counted each time it is reached (what is shared counts as often as it is met; a slice's spare places count too). A statement '..UptoSaid' is the law's where the arguments, and the package variables that the reading takes, are together of bulk at most 1048576: NARROWER than '..Said'. Prove '..Said' where nothing that the law and all that it calls make is longer than what came in: it says more and counts as full. Else prove '..UptoSaid'. A law counts once. -/
mutual
def uptoBulk {H : Type} : DataW H → Nat
  | .lit (.string bytes) => bytes.length + 1
  | .lit _ => 1
  | .nil => 1
  | .ptr d => uptoBulk d + 1
  | .slice elems spare => uptoBulkAll elems + uptoBulkAll spare + 1
  | .agg parts => uptoBulkAll parts + 1
  | .iface _ d => uptoBulk d + 1
  | .map entries => uptoBulkEntries entries + 1
  | .held _ => 1
def uptoBulkAll {H : Type} : List (DataW H) → Nat
  | [] => 0
  | d :: r => uptoBulk d + uptoBulkAll r
def uptoBulkEntries {H : Type} : List (Lit × DataW H) → Nat
  | [] => 0
  | x :: r => uptoBulkEntry x + uptoBulkEntries r
def uptoBulkEntry {H : Type} : Lit × DataW H → Nat
  | (.string bytes, d) => bytes.length + uptoBulk d + 1
  | (_, d) => uptoBulk d + 1
 end
def uptoSmall : (H : Type) → List (DataW H) → Bool := fun _ ds => decide (uptoBulkAll ds ≤ 1048576)
def OpenSpec.upto (s : _root_.Go.ChangeSpec) : _root_.Go.OpenSpec := { _root_.Go.OpenSpec.ofChange s with cond := some uptoSmall }

/-- 'amanuensislaw11.WorldBegins', WHERE WHAT IT READS IS OF BULK AT MOST 1048576: true; the input reads as it did. -/
def worldBeginsUptoRow : OpenClaim := { program := "ytpigmefjcklpkaa", sum := "509a9a5922a6316ab4f5b7c7671eacb3439426f1cdf8b8f54ba7cb8bfa2290f8", func := "amanuensis/amanuensislaw11.WorldBegins", spec := "worldBegins", unfollowed := true, recurses := true, loops := true, plainKeys := false, apart := false, narrowed := true }
def WorldBeginsUptoSaid : Prop := worldBeginsUptoRow.holds Try.pinned (OpenSpec.upto worldBeginsSpec)

/-- 'amanuensislaw11.WorldConforms', WHERE WHAT IT READS IS OF BULK AT MOST 1048576: true; the input reads as it did. -/
def worldConformsUptoRow : OpenClaim := { program := "ytpigmefjcklpkaa", sum := "509a9a5922a6316ab4f5b7c7671eacb3439426f1cdf8b8f54ba7cb8bfa2290f8", func := "amanuensis/amanuensislaw11.WorldConforms", spec := "worldConforms", unfollowed := true, recurses := true, loops := true, plainKeys := false, apart := false, narrowed := true }
def WorldConformsUptoSaid : Prop := worldConformsUptoRow.holds Try.pinned (OpenSpec.upto worldConformsSpec)

/-- 'amanuensislaw11.WorldLimits', WHERE WHAT IT READS IS OF BULK AT MOST 1048576: true; the input reads as it did. -/
def worldLimitsUptoRow : OpenClaim := { program := "ytpigmefjcklpkaa", sum := "509a9a5922a6316ab4f5b7c7671eacb3439426f1cdf8b8f54ba7cb8bfa2290f8", func := "amanuensis/amanuensislaw11.WorldLimits", spec := "worldLimits", unfollowed := true, recurses := true, loops := true, plainKeys := false, apart := false, narrowed := true }
def WorldLimitsUptoSaid : Prop := worldLimitsUptoRow.holds Try.pinned (OpenSpec.upto worldLimitsSpec)

/-- 'amanuensislaw11.WorldParts', WHERE WHAT IT READS IS OF BULK AT MOST 1048576: true; the input reads as it did. -/
def worldPartsUptoRow : OpenClaim := { program := "ytpigmefjcklpkaa", sum := "509a9a5922a6316ab4f5b7c7671eacb3439426f1cdf8b8f54ba7cb8bfa2290f8", func := "amanuensis/amanuensislaw11.WorldParts", spec := "worldParts", unfollowed := true, recurses := true, loops := true, plainKeys := false, apart := false, narrowed := true }
def WorldPartsUptoSaid : Prop := worldPartsUptoRow.holds Try.pinned (OpenSpec.upto worldPartsSpec)

/-- 'amanuensislaw11.WorldMore', WHERE WHAT IT READS IS OF BULK AT MOST 1048576: true; the input reads as it did. -/
def worldMoreUptoRow : OpenClaim := { program := "ytpigmefjcklpkaa", sum := "509a9a5922a6316ab4f5b7c7671eacb3439426f1cdf8b8f54ba7cb8bfa2290f8", func := "amanuensis/amanuensislaw11.WorldMore", spec := "worldMore", unfollowed := true, recurses := true, loops := true, plainKeys := false, apart := false, narrowed := true }
def WorldMoreUptoSaid : Prop := worldMoreUptoRow.holds Try.pinned (OpenSpec.upto worldMoreSpec)

/-- 'amanuensislaw10.CheckTerms', WHERE WHAT IT READS IS OF BULK AT MOST 1048576: true; the input reads as it did. -/
def checkTermsUptoRow : OpenClaim := { program := "ytpigmefjcklpkaa", sum := "509a9a5922a6316ab4f5b7c7671eacb3439426f1cdf8b8f54ba7cb8bfa2290f8", func := "amanuensis/amanuensislaw10.CheckTerms", spec := "checkTerms", unfollowed := true, recurses := true, loops := true, plainKeys := false, apart := false, narrowed := true }
def CheckTermsUptoSaid : Prop := checkTermsUptoRow.holds Try.pinned (OpenSpec.upto checkTermsSpec)

/-- 'amanuensislaw10.CheckTypes', WHERE WHAT IT READS IS OF BULK AT MOST 1048576: true; the input reads as it did. -/
def checkTypesUptoRow : OpenClaim := { program := "ytpigmefjcklpkaa", sum := "509a9a5922a6316ab4f5b7c7671eacb3439426f1cdf8b8f54ba7cb8bfa2290f8", func := "amanuensis/amanuensislaw10.CheckTypes", spec := "checkTypes", unfollowed := true, recurses := true, loops := true, plainKeys := false, apart := false, narrowed := true }
def CheckTypesUptoSaid : Prop := checkTypesUptoRow.holds Try.pinned (OpenSpec.upto checkTypesSpec)

/-- 'amanuensislaw10.CheckFront', WHERE WHAT IT READS IS OF BULK AT MOST 1048576: true; the input reads as it did. -/
def checkFrontUptoRow : OpenClaim := { program := "ytpigmefjcklpkaa", sum := "509a9a5922a6316ab4f5b7c7671eacb3439426f1cdf8b8f54ba7cb8bfa2290f8", func := "amanuensis/amanuensislaw10.CheckFront", spec := "checkFront", unfollowed := true, recurses := true, loops := true, plainKeys := false, apart := false, narrowed := true }
def CheckFrontUptoSaid : Prop := checkFrontUptoRow.holds Try.pinned (OpenSpec.upto checkFrontSpec)

/-- 'amanuensislaw10.CheckSubst', WHERE WHAT IT READS IS OF BULK AT MOST 1048576: true; the input reads as it did. -/
def checkSubstUptoRow : OpenClaim := { program := "ytpigmefjcklpkaa", sum := "509a9a5922a6316ab4f5b7c7671eacb3439426f1cdf8b8f54ba7cb8bfa2290f8", func := "amanuensis/amanuensislaw10.CheckSubst", spec := "checkSubst", unfollowed := true, recurses := true, loops := true, plainKeys := false, apart := false, narrowed := true }
def CheckSubstUptoSaid : Prop := checkSubstUptoRow.holds Try.pinned (OpenSpec.upto checkSubstSpec)

end Rows
end Go.Proofs.Ytpigmefjcklpkaa
