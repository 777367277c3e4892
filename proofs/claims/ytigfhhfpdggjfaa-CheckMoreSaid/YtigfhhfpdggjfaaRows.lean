/-
  NARROWER THAN 'FOR EVERY INPUT', by the rows' own cells (each row's printed sentence says how): CheckTerms: loops · CheckTypes: loops · CheckOne: loops · CheckFront: loops · CheckSubst: loops · CheckLam: loops · CheckPi: loops · CheckMore: loops · CheckFew: loops.
  DERIVED. THE GIVEN ROWS OF THIS SEAT. 9 by the template 'for every input the law returns true; each argument reads behind the call as it read before'; 0 by the template 'total and deterministic' (their statements: YtigfhhfpdggjfaaTotals.lean).
  GIVEN WITH THE SEED: the statements are not yours to turn. If you find one false, say at which input.
  Laid BY PROGRAM, IN A SANDBOX (cutbox-rows.mjs): the forced cells as the released guide's own fill.sh prints them over the translation 5e1a4f692b9efe66… (all of the seat's roots in one cut). By AI agents, Wed Nov 11 2026. No macro, syntax, notation, axiom, sorry.
-/
import Derived.Test.YtigfhhfpdggjfaaChecked
import GoSem.Claim
import GoSem.ClaimJoined
import GoSem.ClaimMapViews
import Derived.JoinedTies
import Derived.KernelRfl
namespace Go.Proofs.Ytigfhhfpdggjfaa
/- THE CELL 'sum', in the pinned program and in every row, IS THE sha256 OF THE DUMP (.gsa) THAT YtigfhhfpdggjfaaProg.lean LOADS. Nothing in Lean hashes anything: it is a label: what it is worth is what the hold of that sum in a sandbox is worth. -/
noncomputable def Try.pinned : Pinned := { name := "ytigfhhfpdggjfaa", sum := "5e1a4f692b9efe66321dc3f5d3b48d0417ed79f49d5a097f962a2bf948f85446", checked := Try.checked }
namespace Rows
def none {H : Type} : Left H := { results := [], args := [] }

/-- 'amanuensislaw10.CheckTerms': WHATEVER THE INPUT: true; the input reads as it did. -/
def checkTermsSpec : ChangeSpec := { name := "checkTerms", fn := fun _ => fun
  | [d1, d2, d3, d4, d5] => { results := [.lit (.bool true)], args := [d1, d2, d3, d4, d5] }
  | _ => none }
def checkTermsRow : OpenClaim := { program := "ytigfhhfpdggjfaa", sum := "5e1a4f692b9efe66321dc3f5d3b48d0417ed79f49d5a097f962a2bf948f85446", func := "amanuensis/amanuensislaw10.CheckTerms", spec := "checkTerms", unfollowed := true, recurses := true, loops := true, plainKeys := false, apart := false }
def CheckTermsSaid : Prop := checkTermsRow.holds Try.pinned (OpenSpec.ofChange checkTermsSpec)

/-- ITS FALSE NEIGHBOUR: 'it returns false'. Refute it at one input. -/
def checkTermsWrong : ChangeSpec := { name := "checkTerms", fn := fun _ => fun
  | [d1, d2, d3, d4, d5] => { results := [.lit (.bool false)], args := [d1, d2, d3, d4, d5] }
  | _ => none }
def CheckTermsWrongFalsely : Prop := checkTermsRow.holds Try.pinned (OpenSpec.ofChange checkTermsWrong)

/-- 'amanuensislaw10.CheckTypes': WHATEVER THE INPUT: true; the input reads as it did. -/
def checkTypesSpec : ChangeSpec := { name := "checkTypes", fn := fun _ => fun
  | [d1, d2, d3, d4] => { results := [.lit (.bool true)], args := [d1, d2, d3, d4] }
  | _ => none }
def checkTypesRow : OpenClaim := { program := "ytigfhhfpdggjfaa", sum := "5e1a4f692b9efe66321dc3f5d3b48d0417ed79f49d5a097f962a2bf948f85446", func := "amanuensis/amanuensislaw10.CheckTypes", spec := "checkTypes", unfollowed := true, recurses := true, loops := true, plainKeys := false, apart := false }
def CheckTypesSaid : Prop := checkTypesRow.holds Try.pinned (OpenSpec.ofChange checkTypesSpec)

/-- ITS FALSE NEIGHBOUR: 'it returns false'. Refute it at one input. -/
def checkTypesWrong : ChangeSpec := { name := "checkTypes", fn := fun _ => fun
  | [d1, d2, d3, d4] => { results := [.lit (.bool false)], args := [d1, d2, d3, d4] }
  | _ => none }
def CheckTypesWrongFalsely : Prop := checkTypesRow.holds Try.pinned (OpenSpec.ofChange checkTypesWrong)

/-- 'amanuensislaw10.CheckOne': WHATEVER THE INPUT: true; the input reads as it did. -/
def checkOneSpec : ChangeSpec := { name := "checkOne", fn := fun _ => fun
  | [d1, d2, d3, d4, d5, d6] => { results := [.lit (.bool true)], args := [d1, d2, d3, d4, d5, d6] }
  | _ => none }
def checkOneRow : OpenClaim := { program := "ytigfhhfpdggjfaa", sum := "5e1a4f692b9efe66321dc3f5d3b48d0417ed79f49d5a097f962a2bf948f85446", func := "amanuensis/amanuensislaw10.CheckOne", spec := "checkOne", unfollowed := true, recurses := true, loops := true, plainKeys := false, apart := false }
def CheckOneSaid : Prop := checkOneRow.holds Try.pinned (OpenSpec.ofChange checkOneSpec)

/-- ITS FALSE NEIGHBOUR: 'it returns false'. Refute it at one input. -/
def checkOneWrong : ChangeSpec := { name := "checkOne", fn := fun _ => fun
  | [d1, d2, d3, d4, d5, d6] => { results := [.lit (.bool false)], args := [d1, d2, d3, d4, d5, d6] }
  | _ => none }
def CheckOneWrongFalsely : Prop := checkOneRow.holds Try.pinned (OpenSpec.ofChange checkOneWrong)

/-- 'amanuensislaw10.CheckFront': WHATEVER THE INPUT: true; the input reads as it did. -/
def checkFrontSpec : ChangeSpec := { name := "checkFront", fn := fun _ => fun
  | [d1, d2, d3, d4, d5] => { results := [.lit (.bool true)], args := [d1, d2, d3, d4, d5] }
  | _ => none }
def checkFrontRow : OpenClaim := { program := "ytigfhhfpdggjfaa", sum := "5e1a4f692b9efe66321dc3f5d3b48d0417ed79f49d5a097f962a2bf948f85446", func := "amanuensis/amanuensislaw10.CheckFront", spec := "checkFront", unfollowed := true, recurses := true, loops := true, plainKeys := false, apart := false }
def CheckFrontSaid : Prop := checkFrontRow.holds Try.pinned (OpenSpec.ofChange checkFrontSpec)

/-- ITS FALSE NEIGHBOUR: 'it returns false'. Refute it at one input. -/
def checkFrontWrong : ChangeSpec := { name := "checkFront", fn := fun _ => fun
  | [d1, d2, d3, d4, d5] => { results := [.lit (.bool false)], args := [d1, d2, d3, d4, d5] }
  | _ => none }
def CheckFrontWrongFalsely : Prop := checkFrontRow.holds Try.pinned (OpenSpec.ofChange checkFrontWrong)

/-- 'amanuensislaw10.CheckSubst': WHATEVER THE INPUT: true; the input reads as it did. -/
def checkSubstSpec : ChangeSpec := { name := "checkSubst", fn := fun _ => fun
  | [d1, d2, d3, d4, d5] => { results := [.lit (.bool true)], args := [d1, d2, d3, d4, d5] }
  | _ => none }
def checkSubstRow : OpenClaim := { program := "ytigfhhfpdggjfaa", sum := "5e1a4f692b9efe66321dc3f5d3b48d0417ed79f49d5a097f962a2bf948f85446", func := "amanuensis/amanuensislaw10.CheckSubst", spec := "checkSubst", unfollowed := true, recurses := true, loops := true, plainKeys := false, apart := false }
def CheckSubstSaid : Prop := checkSubstRow.holds Try.pinned (OpenSpec.ofChange checkSubstSpec)

/-- ITS FALSE NEIGHBOUR: 'it returns false'. Refute it at one input. -/
def checkSubstWrong : ChangeSpec := { name := "checkSubst", fn := fun _ => fun
  | [d1, d2, d3, d4, d5] => { results := [.lit (.bool false)], args := [d1, d2, d3, d4, d5] }
  | _ => none }
def CheckSubstWrongFalsely : Prop := checkSubstRow.holds Try.pinned (OpenSpec.ofChange checkSubstWrong)

/-- 'amanuensislaw10.CheckLam': WHATEVER THE INPUT: true; the input reads as it did. -/
def checkLamSpec : ChangeSpec := { name := "checkLam", fn := fun _ => fun
  | [d1, d2, d3, d4, d5] => { results := [.lit (.bool true)], args := [d1, d2, d3, d4, d5] }
  | _ => none }
def checkLamRow : OpenClaim := { program := "ytigfhhfpdggjfaa", sum := "5e1a4f692b9efe66321dc3f5d3b48d0417ed79f49d5a097f962a2bf948f85446", func := "amanuensis/amanuensislaw10.CheckLam", spec := "checkLam", unfollowed := true, recurses := true, loops := true, plainKeys := false, apart := false }
def CheckLamSaid : Prop := checkLamRow.holds Try.pinned (OpenSpec.ofChange checkLamSpec)

/-- ITS FALSE NEIGHBOUR: 'it returns false'. Refute it at one input. -/
def checkLamWrong : ChangeSpec := { name := "checkLam", fn := fun _ => fun
  | [d1, d2, d3, d4, d5] => { results := [.lit (.bool false)], args := [d1, d2, d3, d4, d5] }
  | _ => none }
def CheckLamWrongFalsely : Prop := checkLamRow.holds Try.pinned (OpenSpec.ofChange checkLamWrong)

/-- 'amanuensislaw10.CheckPi': WHATEVER THE INPUT: true; the input reads as it did. -/
def checkPiSpec : ChangeSpec := { name := "checkPi", fn := fun _ => fun
  | [d1, d2, d3, d4] => { results := [.lit (.bool true)], args := [d1, d2, d3, d4] }
  | _ => none }
def checkPiRow : OpenClaim := { program := "ytigfhhfpdggjfaa", sum := "5e1a4f692b9efe66321dc3f5d3b48d0417ed79f49d5a097f962a2bf948f85446", func := "amanuensis/amanuensislaw10.CheckPi", spec := "checkPi", unfollowed := true, recurses := true, loops := true, plainKeys := false, apart := false }
def CheckPiSaid : Prop := checkPiRow.holds Try.pinned (OpenSpec.ofChange checkPiSpec)

/-- ITS FALSE NEIGHBOUR: 'it returns false'. Refute it at one input. -/
def checkPiWrong : ChangeSpec := { name := "checkPi", fn := fun _ => fun
  | [d1, d2, d3, d4] => { results := [.lit (.bool false)], args := [d1, d2, d3, d4] }
  | _ => none }
def CheckPiWrongFalsely : Prop := checkPiRow.holds Try.pinned (OpenSpec.ofChange checkPiWrong)

/-- 'amanuensislaw10.CheckMore': WHATEVER THE INPUT: true; the input reads as it did. -/
def checkMoreSpec : ChangeSpec := { name := "checkMore", fn := fun _ => fun
  | [d1, d2, d3, d4, d5, d6, d7] => { results := [.lit (.bool true)], args := [d1, d2, d3, d4, d5, d6, d7] }
  | _ => none }
def checkMoreRow : OpenClaim := { program := "ytigfhhfpdggjfaa", sum := "5e1a4f692b9efe66321dc3f5d3b48d0417ed79f49d5a097f962a2bf948f85446", func := "amanuensis/amanuensislaw10.CheckMore", spec := "checkMore", unfollowed := true, recurses := true, loops := true, plainKeys := false, apart := false }
def CheckMoreSaid : Prop := checkMoreRow.holds Try.pinned (OpenSpec.ofChange checkMoreSpec)

/-- ITS FALSE NEIGHBOUR: 'it returns false'. Refute it at one input. -/
def checkMoreWrong : ChangeSpec := { name := "checkMore", fn := fun _ => fun
  | [d1, d2, d3, d4, d5, d6, d7] => { results := [.lit (.bool false)], args := [d1, d2, d3, d4, d5, d6, d7] }
  | _ => none }
def CheckMoreWrongFalsely : Prop := checkMoreRow.holds Try.pinned (OpenSpec.ofChange checkMoreWrong)

/-- 'amanuensislaw10.CheckFew': WHATEVER THE INPUT: true; the input reads as it did. -/
def checkFewSpec : ChangeSpec := { name := "checkFew", fn := fun _ => fun
  | [d1, d2, d3, d4, d5, d6] => { results := [.lit (.bool true)], args := [d1, d2, d3, d4, d5, d6] }
  | _ => none }
def checkFewRow : OpenClaim := { program := "ytigfhhfpdggjfaa", sum := "5e1a4f692b9efe66321dc3f5d3b48d0417ed79f49d5a097f962a2bf948f85446", func := "amanuensis/amanuensislaw10.CheckFew", spec := "checkFew", unfollowed := true, recurses := true, loops := true, plainKeys := false, apart := false }
def CheckFewSaid : Prop := checkFewRow.holds Try.pinned (OpenSpec.ofChange checkFewSpec)

/-- ITS FALSE NEIGHBOUR: 'it returns false'. Refute it at one input. -/
def checkFewWrong : ChangeSpec := { name := "checkFew", fn := fun _ => fun
  | [d1, d2, d3, d4, d5, d6] => { results := [.lit (.bool false)], args := [d1, d2, d3, d4, d5, d6] }
  | _ => none }
def CheckFewWrongFalsely : Prop := checkFewRow.holds Try.pinned (OpenSpec.ofChange checkFewWrong)

/- THE SECOND FORM. 'bulk': how many values and letters a reading holds, each counted each time it is reached (what is shared counts as often as it is met; a slice's spare places count too). A statement '..UptoSaid' is the law's where the arguments, and the package variables that the reading takes, are together of bulk at most 1048576: NARROWER than '..Said'. Prove '..Said' where nothing that the law and all that it calls make is longer than what came in: it says more and counts as full. Else prove '..UptoSaid'. A law counts once. -/
mutual
def uptoBulk {H : Type} : DataW H → Nat
  | .lit (.string bytes) => bytes.length + 1
  | .lit _ => 1
  | .nil => 1
  | .ptr d => uptoBulk d + 1
  | .slice elems spare => uptoBulkAll elems + uptoBulkAll spare + 1
  | .agg parts => uptoBulkAll parts + 1
  | .iface _ d => uptoBulk d + 1
  | .map entries => uptoBulkEntries entries + 1
  | .held _ => 1
def uptoBulkAll {H : Type} : List (DataW H) → Nat
  | [] => 0
  | d :: r => uptoBulk d + uptoBulkAll r
def uptoBulkEntries {H : Type} : List (Lit × DataW H) → Nat
  | [] => 0
  | x :: r => uptoBulkEntry x + uptoBulkEntries r
def uptoBulkEntry {H : Type} : Lit × DataW H → Nat
  | (.string bytes, d) => bytes.length + uptoBulk d + 1
  | (_, d) => uptoBulk d + 1
 end
def uptoSmall : (H : Type) → List (DataW H) → Bool := fun _ ds => decide (uptoBulkAll ds ≤ 1048576)
def OpenSpec.upto (s : _root_.Go.ChangeSpec) : _root_.Go.OpenSpec := { _root_.Go.OpenSpec.ofChange s with cond := some uptoSmall }

/-- 'amanuensislaw10.CheckTerms', WHERE WHAT IT READS IS OF BULK AT MOST 1048576: true; the input reads as it did. -/
def checkTermsUptoRow : OpenClaim := { program := "ytigfhhfpdggjfaa", sum := "5e1a4f692b9efe66321dc3f5d3b48d0417ed79f49d5a097f962a2bf948f85446", func := "amanuensis/amanuensislaw10.CheckTerms", spec := "checkTerms", unfollowed := true, recurses := true, loops := true, plainKeys := false, apart := false, narrowed := true }
def CheckTermsUptoSaid : Prop := checkTermsUptoRow.holds Try.pinned (OpenSpec.upto checkTermsSpec)

/-- 'amanuensislaw10.CheckTypes', WHERE WHAT IT READS IS OF BULK AT MOST 1048576: true; the input reads as it did. -/
def checkTypesUptoRow : OpenClaim := { program := "ytigfhhfpdggjfaa", sum := "5e1a4f692b9efe66321dc3f5d3b48d0417ed79f49d5a097f962a2bf948f85446", func := "amanuensis/amanuensislaw10.CheckTypes", spec := "checkTypes", unfollowed := true, recurses := true, loops := true, plainKeys := false, apart := false, narrowed := true }
def CheckTypesUptoSaid : Prop := checkTypesUptoRow.holds Try.pinned (OpenSpec.upto checkTypesSpec)

/-- 'amanuensislaw10.CheckOne', WHERE WHAT IT READS IS OF BULK AT MOST 1048576: true; the input reads as it did. -/
def checkOneUptoRow : OpenClaim := { program := "ytigfhhfpdggjfaa", sum := "5e1a4f692b9efe66321dc3f5d3b48d0417ed79f49d5a097f962a2bf948f85446", func := "amanuensis/amanuensislaw10.CheckOne", spec := "checkOne", unfollowed := true, recurses := true, loops := true, plainKeys := false, apart := false, narrowed := true }
def CheckOneUptoSaid : Prop := checkOneUptoRow.holds Try.pinned (OpenSpec.upto checkOneSpec)

/-- 'amanuensislaw10.CheckFront', WHERE WHAT IT READS IS OF BULK AT MOST 1048576: true; the input reads as it did. -/
def checkFrontUptoRow : OpenClaim := { program := "ytigfhhfpdggjfaa", sum := "5e1a4f692b9efe66321dc3f5d3b48d0417ed79f49d5a097f962a2bf948f85446", func := "amanuensis/amanuensislaw10.CheckFront", spec := "checkFront", unfollowed := true, recurses := true, loops := true, plainKeys := false, apart := false, narrowed := true }
def CheckFrontUptoSaid : Prop := checkFrontUptoRow.holds Try.pinned (OpenSpec.upto checkFrontSpec)

/-- 'amanuensislaw10.CheckSubst', WHERE WHAT IT READS IS OF BULK AT MOST 1048576: true; the input reads as it did. -/
def checkSubstUptoRow : OpenClaim := { program := "ytigfhhfpdggjfaa", sum := "5e1a4f692b9efe66321dc3f5d3b48d0417ed79f49d5a097f962a2bf948f85446", func := "amanuensis/amanuensislaw10.CheckSubst", spec := "checkSubst", unfollowed := true, recurses := true, loops := true, plainKeys := false, apart := false, narrowed := true }
def CheckSubstUptoSaid : Prop := checkSubstUptoRow.holds Try.pinned (OpenSpec.upto checkSubstSpec)

/-- 'amanuensislaw10.CheckLam', WHERE WHAT IT READS IS OF BULK AT MOST 1048576: true; the input reads as it did. -/
def checkLamUptoRow : OpenClaim := { program := "ytigfhhfpdggjfaa", sum := "5e1a4f692b9efe66321dc3f5d3b48d0417ed79f49d5a097f962a2bf948f85446", func := "amanuensis/amanuensislaw10.CheckLam", spec := "checkLam", unfollowed := true, recurses := true, loops := true, plainKeys := false, apart := false, narrowed := true }
def CheckLamUptoSaid : Prop := checkLamUptoRow.holds Try.pinned (OpenSpec.upto checkLamSpec)

/-- 'amanuensislaw10.CheckPi', WHERE WHAT IT READS IS OF BULK AT MOST 1048576: true; the input reads as it did. -/
def checkPiUptoRow : OpenClaim := { program := "ytigfhhfpdggjfaa", sum := "5e1a4f692b9efe66321dc3f5d3b48d0417ed79f49d5a097f962a2bf948f85446", func := "amanuensis/amanuensislaw10.CheckPi", spec := "checkPi", unfollowed := true, recurses := true, loops := true, plainKeys := false, apart := false, narrowed := true }
def CheckPiUptoSaid : Prop := checkPiUptoRow.holds Try.pinned (OpenSpec.upto checkPiSpec)

/-- 'amanuensislaw10.CheckMore', WHERE WHAT IT READS IS OF BULK AT MOST 1048576: true; the input reads as it did. -/
def checkMoreUptoRow : OpenClaim := { program := "ytigfhhfpdggjfaa", sum := "5e1a4f692b9efe66321dc3f5d3b48d0417ed79f49d5a097f962a2bf948f85446", func := "amanuensis/amanuensislaw10.CheckMore", spec := "checkMore", unfollowed := true, recurses := true, loops := true, plainKeys := false, apart := false, narrowed := true }
def CheckMoreUptoSaid : Prop := checkMoreUptoRow.holds Try.pinned (OpenSpec.upto checkMoreSpec)

/-- 'amanuensislaw10.CheckFew', WHERE WHAT IT READS IS OF BULK AT MOST 1048576: true; the input reads as it did. -/
def checkFewUptoRow : OpenClaim := { program := "ytigfhhfpdggjfaa", sum := "5e1a4f692b9efe66321dc3f5d3b48d0417ed79f49d5a097f962a2bf948f85446", func := "amanuensis/amanuensislaw10.CheckFew", spec := "checkFew", unfollowed := true, recurses := true, loops := true, plainKeys := false, apart := false, narrowed := true }
def CheckFewUptoSaid : Prop := checkFewUptoRow.holds Try.pinned (OpenSpec.upto checkFewSpec)

end Rows
end Go.Proofs.Ytigfhhfpdggjfaa
