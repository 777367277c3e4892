/-
  NARROWER THAN 'FOR EVERY INPUT', by the rows' own cells (each row's printed sentence says how): MetaFills: loops · MetaNone: loops · MetaWhole: loops · MetaTwice: loops · MetaScopes: loops · MetaLists: loops.
  DERIVED. THE GIVEN ROWS OF THIS SEAT. 6 by the template 'for every input the law returns true; each argument reads behind the call as it read before'; 0 by the template 'total and deterministic' (their statements: YtaccaamdbfccmaaTotals.lean).
  GIVEN WITH THE SEED: the statements are not yours to turn. If you find one false, say at which input.
  Laid BY PROGRAM, IN A SANDBOX (cutbox-rows.mjs): the forced cells as the released guide's own fill.sh prints them over the translation ec9552816d88a054… (all of the seat's roots in one cut). By AI agents, Wed Nov 11 2026. No macro, syntax, notation, axiom, sorry.
-/
import Derived.Test.YtaccaamdbfccmaaChecked
import GoSem.Claim
import GoSem.ClaimJoined
import GoSem.ClaimMapViews
import Derived.JoinedTies
import Derived.KernelRfl
namespace Go.Proofs.Ytaccaamdbfccmaa
/- THE CELL 'sum', in the pinned program and in every row, IS THE sha256 OF THE DUMP (.gsa) THAT YtaccaamdbfccmaaProg.lean LOADS. Nothing in Lean hashes anything: it is a label: what it is worth is what the hold of that sum in a sandbox is worth. -/
noncomputable def Try.pinned : Pinned := { name := "ytaccaamdbfccmaa", sum := "ec9552816d88a0540ca53b7ffac882215ccb2aa208149cd7917779a66f0534b0", checked := Try.checked }
namespace Rows
def none {H : Type} : Left H := { results := [], args := [] }

/-- 'amanuensislaw04.MetaFills': WHATEVER THE INPUT: true; the input reads as it did. -/
def metaFillsSpec : ChangeSpec := { name := "metaFills", fn := fun _ => fun
  | [d1, d2, d3, d4, d5] => { results := [.lit (.bool true)], args := [d1, d2, d3, d4, d5] }
  | _ => none }
def metaFillsRow : OpenClaim := { program := "ytaccaamdbfccmaa", sum := "ec9552816d88a0540ca53b7ffac882215ccb2aa208149cd7917779a66f0534b0", func := "amanuensis/amanuensislaw04.MetaFills", spec := "metaFills", unfollowed := true, recurses := true, loops := true, plainKeys := false, apart := false }
def MetaFillsSaid : Prop := metaFillsRow.holds Try.pinned (OpenSpec.ofChange metaFillsSpec)

/-- ITS FALSE NEIGHBOUR: 'it returns false'. Refute it at one input. -/
def metaFillsWrong : ChangeSpec := { name := "metaFills", fn := fun _ => fun
  | [d1, d2, d3, d4, d5] => { results := [.lit (.bool false)], args := [d1, d2, d3, d4, d5] }
  | _ => none }
def MetaFillsWrongFalsely : Prop := metaFillsRow.holds Try.pinned (OpenSpec.ofChange metaFillsWrong)

/-- 'amanuensislaw04.MetaNone': WHATEVER THE INPUT: true; the input reads as it did. -/
def metaNoneSpec : ChangeSpec := { name := "metaNone", fn := fun _ => fun
  | [d1, d2, d3] => { results := [.lit (.bool true)], args := [d1, d2, d3] }
  | _ => none }
def metaNoneRow : OpenClaim := { program := "ytaccaamdbfccmaa", sum := "ec9552816d88a0540ca53b7ffac882215ccb2aa208149cd7917779a66f0534b0", func := "amanuensis/amanuensislaw04.MetaNone", spec := "metaNone", unfollowed := true, recurses := true, loops := true, plainKeys := false, apart := false }
def MetaNoneSaid : Prop := metaNoneRow.holds Try.pinned (OpenSpec.ofChange metaNoneSpec)

/-- ITS FALSE NEIGHBOUR: 'it returns false'. Refute it at one input. -/
def metaNoneWrong : ChangeSpec := { name := "metaNone", fn := fun _ => fun
  | [d1, d2, d3] => { results := [.lit (.bool false)], args := [d1, d2, d3] }
  | _ => none }
def MetaNoneWrongFalsely : Prop := metaNoneRow.holds Try.pinned (OpenSpec.ofChange metaNoneWrong)

/-- 'amanuensislaw04.MetaWhole': WHATEVER THE INPUT: true; the input reads as it did. -/
def metaWholeSpec : ChangeSpec := { name := "metaWhole", fn := fun _ => fun
  | [d1, d2, d3] => { results := [.lit (.bool true)], args := [d1, d2, d3] }
  | _ => none }
def metaWholeRow : OpenClaim := { program := "ytaccaamdbfccmaa", sum := "ec9552816d88a0540ca53b7ffac882215ccb2aa208149cd7917779a66f0534b0", func := "amanuensis/amanuensislaw04.MetaWhole", spec := "metaWhole", unfollowed := true, recurses := true, loops := true, plainKeys := false, apart := false }
def MetaWholeSaid : Prop := metaWholeRow.holds Try.pinned (OpenSpec.ofChange metaWholeSpec)

/-- ITS FALSE NEIGHBOUR: 'it returns false'. Refute it at one input. -/
def metaWholeWrong : ChangeSpec := { name := "metaWhole", fn := fun _ => fun
  | [d1, d2, d3] => { results := [.lit (.bool false)], args := [d1, d2, d3] }
  | _ => none }
def MetaWholeWrongFalsely : Prop := metaWholeRow.holds Try.pinned (OpenSpec.ofChange metaWholeWrong)

/-- 'amanuensislaw04.MetaTwice': WHATEVER THE INPUT: true; the input reads as it did. -/
def metaTwiceSpec : ChangeSpec := { name := "metaTwice", fn := fun _ => fun
  | [d1, d2, d3] => { results := [.lit (.bool true)], args := [d1, d2, d3] }
  | _ => none }
def metaTwiceRow : OpenClaim := { program := "ytaccaamdbfccmaa", sum := "ec9552816d88a0540ca53b7ffac882215ccb2aa208149cd7917779a66f0534b0", func := "amanuensis/amanuensislaw04.MetaTwice", spec := "metaTwice", unfollowed := true, recurses := true, loops := true, plainKeys := false, apart := false }
def MetaTwiceSaid : Prop := metaTwiceRow.holds Try.pinned (OpenSpec.ofChange metaTwiceSpec)

/-- ITS FALSE NEIGHBOUR: 'it returns false'. Refute it at one input. -/
def metaTwiceWrong : ChangeSpec := { name := "metaTwice", fn := fun _ => fun
  | [d1, d2, d3] => { results := [.lit (.bool false)], args := [d1, d2, d3] }
  | _ => none }
def MetaTwiceWrongFalsely : Prop := metaTwiceRow.holds Try.pinned (OpenSpec.ofChange metaTwiceWrong)

/-- 'amanuensislaw04.MetaScopes': WHATEVER THE INPUT: true; the input reads as it did. -/
def metaScopesSpec : ChangeSpec := { name := "metaScopes", fn := fun _ => fun
  | [d1, d2, d3, d4] => { results := [.lit (.bool true)], args := [d1, d2, d3, d4] }
  | _ => none }
def metaScopesRow : OpenClaim := { program := "ytaccaamdbfccmaa", sum := "ec9552816d88a0540ca53b7ffac882215ccb2aa208149cd7917779a66f0534b0", func := "amanuensis/amanuensislaw04.MetaScopes", spec := "metaScopes", unfollowed := true, recurses := true, loops := true, plainKeys := false, apart := false }
def MetaScopesSaid : Prop := metaScopesRow.holds Try.pinned (OpenSpec.ofChange metaScopesSpec)

/-- ITS FALSE NEIGHBOUR: 'it returns false'. Refute it at one input. -/
def metaScopesWrong : ChangeSpec := { name := "metaScopes", fn := fun _ => fun
  | [d1, d2, d3, d4] => { results := [.lit (.bool false)], args := [d1, d2, d3, d4] }
  | _ => none }
def MetaScopesWrongFalsely : Prop := metaScopesRow.holds Try.pinned (OpenSpec.ofChange metaScopesWrong)

/-- 'amanuensislaw04.MetaLists': WHATEVER THE INPUT: true; the input reads as it did. -/
def metaListsSpec : ChangeSpec := { name := "metaLists", fn := fun _ => fun
  | [d1, d2, d3, d4] => { results := [.lit (.bool true)], args := [d1, d2, d3, d4] }
  | _ => none }
def metaListsRow : OpenClaim := { program := "ytaccaamdbfccmaa", sum := "ec9552816d88a0540ca53b7ffac882215ccb2aa208149cd7917779a66f0534b0", func := "amanuensis/amanuensislaw04.MetaLists", spec := "metaLists", unfollowed := true, recurses := true, loops := true, plainKeys := false, apart := false }
def MetaListsSaid : Prop := metaListsRow.holds Try.pinned (OpenSpec.ofChange metaListsSpec)

/-- ITS FALSE NEIGHBOUR: 'it returns false'. Refute it at one input. -/
def metaListsWrong : ChangeSpec := { name := "metaLists", fn := fun _ => fun
  | [d1, d2, d3, d4] => { results := [.lit (.bool false)], args := [d1, d2, d3, d4] }
  | _ => none }
def MetaListsWrongFalsely : Prop := metaListsRow.holds Try.pinned (OpenSpec.ofChange metaListsWrong)

/- THE SECOND FORM. 'bulk': how many values and letters a reading holds, each counted each time it is reached (what is shared counts as often as it is met; a slice's spare places count too). A statement '..UptoSaid' is the law's where the arguments, and the package variables that the reading takes, are together of bulk at most 1048576: NARROWER than '..Said'. Prove '..Said' where nothing that the law and all that it calls make is longer than what came in: it says more and counts as full. Else prove '..UptoSaid'. A law counts once. -/
mutual
def uptoBulk {H : Type} : DataW H → Nat
  | .lit (.string bytes) => bytes.length + 1
  | .lit _ => 1
  | .nil => 1
  | .ptr d => uptoBulk d + 1
  | .slice elems spare => uptoBulkAll elems + uptoBulkAll spare + 1
  | .agg parts => uptoBulkAll parts + 1
  | .iface _ d => uptoBulk d + 1
  | .map entries => uptoBulkEntries entries + 1
  | .held _ => 1
def uptoBulkAll {H : Type} : List (DataW H) → Nat
  | [] => 0
  | d :: r => uptoBulk d + uptoBulkAll r
def uptoBulkEntries {H : Type} : List (Lit × DataW H) → Nat
  | [] => 0
  | x :: r => uptoBulkEntry x + uptoBulkEntries r
def uptoBulkEntry {H : Type} : Lit × DataW H → Nat
  | (.string bytes, d) => bytes.length + uptoBulk d + 1
  | (_, d) => uptoBulk d + 1
 end
def uptoSmall : (H : Type) → List (DataW H) → Bool := fun _ ds => decide (uptoBulkAll ds ≤ 1048576)
def OpenSpec.upto (s : _root_.Go.ChangeSpec) : _root_.Go.OpenSpec := { _root_.Go.OpenSpec.ofChange s with cond := some uptoSmall }

/-- 'amanuensislaw04.MetaFills', WHERE WHAT IT READS IS OF BULK AT MOST 1048576: true; the input reads as it did. -/
def metaFillsUptoRow : OpenClaim := { program := "ytaccaamdbfccmaa", sum := "ec9552816d88a0540ca53b7ffac882215ccb2aa208149cd7917779a66f0534b0", func := "amanuensis/amanuensislaw04.MetaFills", spec := "metaFills", unfollowed := true, recurses := true, loops := true, plainKeys := false, apart := false, narrowed := true }
def MetaFillsUptoSaid : Prop := metaFillsUptoRow.holds Try.pinned (OpenSpec.upto metaFillsSpec)

/-- 'amanuensislaw04.MetaNone', WHERE WHAT IT READS IS OF BULK AT MOST 1048576: true; the input reads as it did. -/
def metaNoneUptoRow : OpenClaim := { program := "ytaccaamdbfccmaa", sum := "ec9552816d88a0540ca53b7ffac882215ccb2aa208149cd7917779a66f0534b0", func := "amanuensis/amanuensislaw04.MetaNone", spec := "metaNone", unfollowed := true, recurses := true, loops := true, plainKeys := false, apart := false, narrowed := true }
def MetaNoneUptoSaid : Prop := metaNoneUptoRow.holds Try.pinned (OpenSpec.upto metaNoneSpec)

/-- 'amanuensislaw04.MetaWhole', WHERE WHAT IT READS IS OF BULK AT MOST 1048576: true; the input reads as it did. -/
def metaWholeUptoRow : OpenClaim := { program := "ytaccaamdbfccmaa", sum := "ec9552816d88a0540ca53b7ffac882215ccb2aa208149cd7917779a66f0534b0", func := "amanuensis/amanuensislaw04.MetaWhole", spec := "metaWhole", unfollowed := true, recurses := true, loops := true, plainKeys := false, apart := false, narrowed := true }
def MetaWholeUptoSaid : Prop := metaWholeUptoRow.holds Try.pinned (OpenSpec.upto metaWholeSpec)

/-- 'amanuensislaw04.MetaTwice', WHERE WHAT IT READS IS OF BULK AT MOST 1048576: true; the input reads as it did. -/
def metaTwiceUptoRow : OpenClaim := { program := "ytaccaamdbfccmaa", sum := "ec9552816d88a0540ca53b7ffac882215ccb2aa208149cd7917779a66f0534b0", func := "amanuensis/amanuensislaw04.MetaTwice", spec := "metaTwice", unfollowed := true, recurses := true, loops := true, plainKeys := false, apart := false, narrowed := true }
def MetaTwiceUptoSaid : Prop := metaTwiceUptoRow.holds Try.pinned (OpenSpec.upto metaTwiceSpec)

/-- 'amanuensislaw04.MetaScopes', WHERE WHAT IT READS IS OF BULK AT MOST 1048576: true; the input reads as it did. -/
def metaScopesUptoRow : OpenClaim := { program := "ytaccaamdbfccmaa", sum := "ec9552816d88a0540ca53b7ffac882215ccb2aa208149cd7917779a66f0534b0", func := "amanuensis/amanuensislaw04.MetaScopes", spec := "metaScopes", unfollowed := true, recurses := true, loops := true, plainKeys := false, apart := false, narrowed := true }
def MetaScopesUptoSaid : Prop := metaScopesUptoRow.holds Try.pinned (OpenSpec.upto metaScopesSpec)

/-- 'amanuensislaw04.MetaLists', WHERE WHAT IT READS IS OF BULK AT MOST 1048576: true; the input reads as it did. -/
def metaListsUptoRow : OpenClaim := { program := "ytaccaamdbfccmaa", sum := "ec9552816d88a0540ca53b7ffac882215ccb2aa208149cd7917779a66f0534b0", func := "amanuensis/amanuensislaw04.MetaLists", spec := "metaLists", unfollowed := true, recurses := true, loops := true, plainKeys := false, apart := false, narrowed := true }
def MetaListsUptoSaid : Prop := metaListsUptoRow.holds Try.pinned (OpenSpec.upto metaListsSpec)

end Rows
end Go.Proofs.Ytaccaamdbfccmaa
