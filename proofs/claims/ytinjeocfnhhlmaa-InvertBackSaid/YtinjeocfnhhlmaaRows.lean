/-
  NARROWER THAN 'FOR EVERY INPUT', by the rows' own cells (each row's printed sentence says how): InvertTells: loops · InvertBack: loops · InvertOnly: loops · InvertSame: loops · InvertNone: loops · InvertApply: loops · MetaFills: loops · MetaNone: loops · MetaWhole: loops · MetaTwice: loops · MetaScopes: loops · MetaLists: loops · SubstApplies: loops · SubstSpines: loops · SubstWeakens: loops · SubstTwice: loops · SubstScopes: loops · SubstUnder: loops · SubstUp: loops · SubstBeta: loops.
  DERIVED. THE GIVEN ROWS OF THIS SEAT. 20 by the template 'for every input the law returns true; each argument reads behind the call as it read before'; 0 by the template 'total and deterministic' (their statements: YtinjeocfnhhlmaaTotals.lean).
  GIVEN WITH THE SEED: the statements are not yours to turn. If you find one false, say at which input.
  Laid BY PROGRAM, IN A SANDBOX (cutbox-rows.mjs): the forced cells as the released guide's own fill.sh prints them over the translation 3ef929accb7c0444… (all of the seat's roots in one cut). By AI agents, Wed Nov 11 2026. No macro, syntax, notation, axiom, sorry.
-/
import Derived.Test.YtinjeocfnhhlmaaChecked
import GoSem.Claim
import GoSem.ClaimJoined
import GoSem.ClaimMapViews
import Derived.JoinedTies
import Derived.KernelRfl
namespace Go.Proofs.Ytinjeocfnhhlmaa
/- THE CELL 'sum', in the pinned program and in every row, IS THE sha256 OF THE DUMP (.gsa) THAT YtinjeocfnhhlmaaProg.lean LOADS. Nothing in Lean hashes anything: it is a label: what it is worth is what the hold of that sum in a sandbox is worth. -/
noncomputable def Try.pinned : Pinned := { name := "ytinjeocfnhhlmaa", sum := "3ef929accb7c0444e62b44d63021d5837be3ab231c784c9d44b8a122b140c5b2", checked := Try.checked }
namespace Rows
def none {H : Type} : Left H := { results := [], args := [] }

/-- 'amanuensislaw06.InvertTells': WHATEVER THE INPUT: true; the input reads as it did. -/
def invertTellsSpec : ChangeSpec := { name := "invertTells", fn := fun _ => fun
  | [d1, d2, d3] => { results := [.lit (.bool true)], args := [d1, d2, d3] }
  | _ => none }
def invertTellsRow : OpenClaim := { program := "ytinjeocfnhhlmaa", sum := "3ef929accb7c0444e62b44d63021d5837be3ab231c784c9d44b8a122b140c5b2", func := "amanuensis/amanuensislaw06.InvertTells", spec := "invertTells", unfollowed := true, recurses := true, loops := true, plainKeys := false, apart := false }
def InvertTellsSaid : Prop := invertTellsRow.holds Try.pinned (OpenSpec.ofChange invertTellsSpec)

/-- ITS FALSE NEIGHBOUR: 'it returns false'. Refute it at one input. -/
def invertTellsWrong : ChangeSpec := { name := "invertTells", fn := fun _ => fun
  | [d1, d2, d3] => { results := [.lit (.bool false)], args := [d1, d2, d3] }
  | _ => none }
def InvertTellsWrongFalsely : Prop := invertTellsRow.holds Try.pinned (OpenSpec.ofChange invertTellsWrong)

/-- 'amanuensislaw06.InvertBack': WHATEVER THE INPUT: true; the input reads as it did. -/
def invertBackSpec : ChangeSpec := { name := "invertBack", fn := fun _ => fun
  | [d1, d2, d3] => { results := [.lit (.bool true)], args := [d1, d2, d3] }
  | _ => none }
def invertBackRow : OpenClaim := { program := "ytinjeocfnhhlmaa", sum := "3ef929accb7c0444e62b44d63021d5837be3ab231c784c9d44b8a122b140c5b2", func := "amanuensis/amanuensislaw06.InvertBack", spec := "invertBack", unfollowed := true, recurses := true, loops := true, plainKeys := false, apart := false }
def InvertBackSaid : Prop := invertBackRow.holds Try.pinned (OpenSpec.ofChange invertBackSpec)

/-- ITS FALSE NEIGHBOUR: 'it returns false'. Refute it at one input. -/
def invertBackWrong : ChangeSpec := { name := "invertBack", fn := fun _ => fun
  | [d1, d2, d3] => { results := [.lit (.bool false)], args := [d1, d2, d3] }
  | _ => none }
def InvertBackWrongFalsely : Prop := invertBackRow.holds Try.pinned (OpenSpec.ofChange invertBackWrong)

/-- 'amanuensislaw06.InvertOnly': WHATEVER THE INPUT: true; the input reads as it did. -/
def invertOnlySpec : ChangeSpec := { name := "invertOnly", fn := fun _ => fun
  | [d1, d2, d3] => { results := [.lit (.bool true)], args := [d1, d2, d3] }
  | _ => none }
def invertOnlyRow : OpenClaim := { program := "ytinjeocfnhhlmaa", sum := "3ef929accb7c0444e62b44d63021d5837be3ab231c784c9d44b8a122b140c5b2", func := "amanuensis/amanuensislaw06.InvertOnly", spec := "invertOnly", unfollowed := true, recurses := true, loops := true, plainKeys := false, apart := false }
def InvertOnlySaid : Prop := invertOnlyRow.holds Try.pinned (OpenSpec.ofChange invertOnlySpec)

/-- ITS FALSE NEIGHBOUR: 'it returns false'. Refute it at one input. -/
def invertOnlyWrong : ChangeSpec := { name := "invertOnly", fn := fun _ => fun
  | [d1, d2, d3] => { results := [.lit (.bool false)], args := [d1, d2, d3] }
  | _ => none }
def InvertOnlyWrongFalsely : Prop := invertOnlyRow.holds Try.pinned (OpenSpec.ofChange invertOnlyWrong)

/-- 'amanuensislaw06.InvertSame': WHATEVER THE INPUT: true; the input reads as it did. -/
def invertSameSpec : ChangeSpec := { name := "invertSame", fn := fun _ => fun
  | [d1, d2] => { results := [.lit (.bool true)], args := [d1, d2] }
  | _ => none }
def invertSameRow : OpenClaim := { program := "ytinjeocfnhhlmaa", sum := "3ef929accb7c0444e62b44d63021d5837be3ab231c784c9d44b8a122b140c5b2", func := "amanuensis/amanuensislaw06.InvertSame", spec := "invertSame", unfollowed := true, recurses := true, loops := true, plainKeys := false, apart := false }
def InvertSameSaid : Prop := invertSameRow.holds Try.pinned (OpenSpec.ofChange invertSameSpec)

/-- ITS FALSE NEIGHBOUR: 'it returns false'. Refute it at one input. -/
def invertSameWrong : ChangeSpec := { name := "invertSame", fn := fun _ => fun
  | [d1, d2] => { results := [.lit (.bool false)], args := [d1, d2] }
  | _ => none }
def InvertSameWrongFalsely : Prop := invertSameRow.holds Try.pinned (OpenSpec.ofChange invertSameWrong)

/-- 'amanuensislaw06.InvertNone': WHATEVER THE INPUT: true; the input reads as it did. -/
def invertNoneSpec : ChangeSpec := { name := "invertNone", fn := fun _ => fun
  | [d1, d2] => { results := [.lit (.bool true)], args := [d1, d2] }
  | _ => none }
def invertNoneRow : OpenClaim := { program := "ytinjeocfnhhlmaa", sum := "3ef929accb7c0444e62b44d63021d5837be3ab231c784c9d44b8a122b140c5b2", func := "amanuensis/amanuensislaw06.InvertNone", spec := "invertNone", unfollowed := true, recurses := true, loops := true, plainKeys := false, apart := false }
def InvertNoneSaid : Prop := invertNoneRow.holds Try.pinned (OpenSpec.ofChange invertNoneSpec)

/-- ITS FALSE NEIGHBOUR: 'it returns false'. Refute it at one input. -/
def invertNoneWrong : ChangeSpec := { name := "invertNone", fn := fun _ => fun
  | [d1, d2] => { results := [.lit (.bool false)], args := [d1, d2] }
  | _ => none }
def InvertNoneWrongFalsely : Prop := invertNoneRow.holds Try.pinned (OpenSpec.ofChange invertNoneWrong)

/-- 'amanuensislaw06.InvertApply': WHATEVER THE INPUT: true; the input reads as it did. -/
def invertApplySpec : ChangeSpec := { name := "invertApply", fn := fun _ => fun
  | [d1, d2, d3] => { results := [.lit (.bool true)], args := [d1, d2, d3] }
  | _ => none }
def invertApplyRow : OpenClaim := { program := "ytinjeocfnhhlmaa", sum := "3ef929accb7c0444e62b44d63021d5837be3ab231c784c9d44b8a122b140c5b2", func := "amanuensis/amanuensislaw06.InvertApply", spec := "invertApply", unfollowed := true, recurses := true, loops := true, plainKeys := false, apart := false }
def InvertApplySaid : Prop := invertApplyRow.holds Try.pinned (OpenSpec.ofChange invertApplySpec)

/-- ITS FALSE NEIGHBOUR: 'it returns false'. Refute it at one input. -/
def invertApplyWrong : ChangeSpec := { name := "invertApply", fn := fun _ => fun
  | [d1, d2, d3] => { results := [.lit (.bool false)], args := [d1, d2, d3] }
  | _ => none }
def InvertApplyWrongFalsely : Prop := invertApplyRow.holds Try.pinned (OpenSpec.ofChange invertApplyWrong)

/-- 'amanuensislaw04.MetaFills': WHATEVER THE INPUT: true; the input reads as it did. -/
def metaFillsSpec : ChangeSpec := { name := "metaFills", fn := fun _ => fun
  | [d1, d2, d3, d4, d5] => { results := [.lit (.bool true)], args := [d1, d2, d3, d4, d5] }
  | _ => none }
def metaFillsRow : OpenClaim := { program := "ytinjeocfnhhlmaa", sum := "3ef929accb7c0444e62b44d63021d5837be3ab231c784c9d44b8a122b140c5b2", func := "amanuensis/amanuensislaw04.MetaFills", spec := "metaFills", unfollowed := true, recurses := true, loops := true, plainKeys := false, apart := false }
def MetaFillsSaid : Prop := metaFillsRow.holds Try.pinned (OpenSpec.ofChange metaFillsSpec)

/-- ITS FALSE NEIGHBOUR: 'it returns false'. Refute it at one input. -/
def metaFillsWrong : ChangeSpec := { name := "metaFills", fn := fun _ => fun
  | [d1, d2, d3, d4, d5] => { results := [.lit (.bool false)], args := [d1, d2, d3, d4, d5] }
  | _ => none }
def MetaFillsWrongFalsely : Prop := metaFillsRow.holds Try.pinned (OpenSpec.ofChange metaFillsWrong)

/-- 'amanuensislaw04.MetaNone': WHATEVER THE INPUT: true; the input reads as it did. -/
def metaNoneSpec : ChangeSpec := { name := "metaNone", fn := fun _ => fun
  | [d1, d2, d3] => { results := [.lit (.bool true)], args := [d1, d2, d3] }
  | _ => none }
def metaNoneRow : OpenClaim := { program := "ytinjeocfnhhlmaa", sum := "3ef929accb7c0444e62b44d63021d5837be3ab231c784c9d44b8a122b140c5b2", func := "amanuensis/amanuensislaw04.MetaNone", spec := "metaNone", unfollowed := true, recurses := true, loops := true, plainKeys := false, apart := false }
def MetaNoneSaid : Prop := metaNoneRow.holds Try.pinned (OpenSpec.ofChange metaNoneSpec)

/-- ITS FALSE NEIGHBOUR: 'it returns false'. Refute it at one input. -/
def metaNoneWrong : ChangeSpec := { name := "metaNone", fn := fun _ => fun
  | [d1, d2, d3] => { results := [.lit (.bool false)], args := [d1, d2, d3] }
  | _ => none }
def MetaNoneWrongFalsely : Prop := metaNoneRow.holds Try.pinned (OpenSpec.ofChange metaNoneWrong)

/-- 'amanuensislaw04.MetaWhole': WHATEVER THE INPUT: true; the input reads as it did. -/
def metaWholeSpec : ChangeSpec := { name := "metaWhole", fn := fun _ => fun
  | [d1, d2, d3] => { results := [.lit (.bool true)], args := [d1, d2, d3] }
  | _ => none }
def metaWholeRow : OpenClaim := { program := "ytinjeocfnhhlmaa", sum := "3ef929accb7c0444e62b44d63021d5837be3ab231c784c9d44b8a122b140c5b2", func := "amanuensis/amanuensislaw04.MetaWhole", spec := "metaWhole", unfollowed := true, recurses := true, loops := true, plainKeys := false, apart := false }
def MetaWholeSaid : Prop := metaWholeRow.holds Try.pinned (OpenSpec.ofChange metaWholeSpec)

/-- ITS FALSE NEIGHBOUR: 'it returns false'. Refute it at one input. -/
def metaWholeWrong : ChangeSpec := { name := "metaWhole", fn := fun _ => fun
  | [d1, d2, d3] => { results := [.lit (.bool false)], args := [d1, d2, d3] }
  | _ => none }
def MetaWholeWrongFalsely : Prop := metaWholeRow.holds Try.pinned (OpenSpec.ofChange metaWholeWrong)

/-- 'amanuensislaw04.MetaTwice': WHATEVER THE INPUT: true; the input reads as it did. -/
def metaTwiceSpec : ChangeSpec := { name := "metaTwice", fn := fun _ => fun
  | [d1, d2, d3] => { results := [.lit (.bool true)], args := [d1, d2, d3] }
  | _ => none }
def metaTwiceRow : OpenClaim := { program := "ytinjeocfnhhlmaa", sum := "3ef929accb7c0444e62b44d63021d5837be3ab231c784c9d44b8a122b140c5b2", func := "amanuensis/amanuensislaw04.MetaTwice", spec := "metaTwice", unfollowed := true, recurses := true, loops := true, plainKeys := false, apart := false }
def MetaTwiceSaid : Prop := metaTwiceRow.holds Try.pinned (OpenSpec.ofChange metaTwiceSpec)

/-- ITS FALSE NEIGHBOUR: 'it returns false'. Refute it at one input. -/
def metaTwiceWrong : ChangeSpec := { name := "metaTwice", fn := fun _ => fun
  | [d1, d2, d3] => { results := [.lit (.bool false)], args := [d1, d2, d3] }
  | _ => none }
def MetaTwiceWrongFalsely : Prop := metaTwiceRow.holds Try.pinned (OpenSpec.ofChange metaTwiceWrong)

/-- 'amanuensislaw04.MetaScopes': WHATEVER THE INPUT: true; the input reads as it did. -/
def metaScopesSpec : ChangeSpec := { name := "metaScopes", fn := fun _ => fun
  | [d1, d2, d3, d4] => { results := [.lit (.bool true)], args := [d1, d2, d3, d4] }
  | _ => none }
def metaScopesRow : OpenClaim := { program := "ytinjeocfnhhlmaa", sum := "3ef929accb7c0444e62b44d63021d5837be3ab231c784c9d44b8a122b140c5b2", func := "amanuensis/amanuensislaw04.MetaScopes", spec := "metaScopes", unfollowed := true, recurses := true, loops := true, plainKeys := false, apart := false }
def MetaScopesSaid : Prop := metaScopesRow.holds Try.pinned (OpenSpec.ofChange metaScopesSpec)

/-- ITS FALSE NEIGHBOUR: 'it returns false'. Refute it at one input. -/
def metaScopesWrong : ChangeSpec := { name := "metaScopes", fn := fun _ => fun
  | [d1, d2, d3, d4] => { results := [.lit (.bool false)], args := [d1, d2, d3, d4] }
  | _ => none }
def MetaScopesWrongFalsely : Prop := metaScopesRow.holds Try.pinned (OpenSpec.ofChange metaScopesWrong)

/-- 'amanuensislaw04.MetaLists': WHATEVER THE INPUT: true; the input reads as it did. -/
def metaListsSpec : ChangeSpec := { name := "metaLists", fn := fun _ => fun
  | [d1, d2, d3, d4] => { results := [.lit (.bool true)], args := [d1, d2, d3, d4] }
  | _ => none }
def metaListsRow : OpenClaim := { program := "ytinjeocfnhhlmaa", sum := "3ef929accb7c0444e62b44d63021d5837be3ab231c784c9d44b8a122b140c5b2", func := "amanuensis/amanuensislaw04.MetaLists", spec := "metaLists", unfollowed := true, recurses := true, loops := true, plainKeys := false, apart := false }
def MetaListsSaid : Prop := metaListsRow.holds Try.pinned (OpenSpec.ofChange metaListsSpec)

/-- ITS FALSE NEIGHBOUR: 'it returns false'. Refute it at one input. -/
def metaListsWrong : ChangeSpec := { name := "metaLists", fn := fun _ => fun
  | [d1, d2, d3, d4] => { results := [.lit (.bool false)], args := [d1, d2, d3, d4] }
  | _ => none }
def MetaListsWrongFalsely : Prop := metaListsRow.holds Try.pinned (OpenSpec.ofChange metaListsWrong)

/-- 'amanuensislaw03.SubstApplies': WHATEVER THE INPUT: true; the input reads as it did. -/
def substAppliesSpec : ChangeSpec := { name := "substApplies", fn := fun _ => fun
  | [d1, d2] => { results := [.lit (.bool true)], args := [d1, d2] }
  | _ => none }
def substAppliesRow : OpenClaim := { program := "ytinjeocfnhhlmaa", sum := "3ef929accb7c0444e62b44d63021d5837be3ab231c784c9d44b8a122b140c5b2", func := "amanuensis/amanuensislaw03.SubstApplies", spec := "substApplies", unfollowed := true, recurses := true, loops := true, plainKeys := false, apart := false }
def SubstAppliesSaid : Prop := substAppliesRow.holds Try.pinned (OpenSpec.ofChange substAppliesSpec)

/-- ITS FALSE NEIGHBOUR: 'it returns false'. Refute it at one input. -/
def substAppliesWrong : ChangeSpec := { name := "substApplies", fn := fun _ => fun
  | [d1, d2] => { results := [.lit (.bool false)], args := [d1, d2] }
  | _ => none }
def SubstAppliesWrongFalsely : Prop := substAppliesRow.holds Try.pinned (OpenSpec.ofChange substAppliesWrong)

/-- 'amanuensislaw03.SubstSpines': WHATEVER THE INPUT: true; the input reads as it did. -/
def substSpinesSpec : ChangeSpec := { name := "substSpines", fn := fun _ => fun
  | [d1, d2, d3] => { results := [.lit (.bool true)], args := [d1, d2, d3] }
  | _ => none }
def substSpinesRow : OpenClaim := { program := "ytinjeocfnhhlmaa", sum := "3ef929accb7c0444e62b44d63021d5837be3ab231c784c9d44b8a122b140c5b2", func := "amanuensis/amanuensislaw03.SubstSpines", spec := "substSpines", unfollowed := true, recurses := true, loops := true, plainKeys := false, apart := false }
def SubstSpinesSaid : Prop := substSpinesRow.holds Try.pinned (OpenSpec.ofChange substSpinesSpec)

/-- ITS FALSE NEIGHBOUR: 'it returns false'. Refute it at one input. -/
def substSpinesWrong : ChangeSpec := { name := "substSpines", fn := fun _ => fun
  | [d1, d2, d3] => { results := [.lit (.bool false)], args := [d1, d2, d3] }
  | _ => none }
def SubstSpinesWrongFalsely : Prop := substSpinesRow.holds Try.pinned (OpenSpec.ofChange substSpinesWrong)

/-- 'amanuensislaw03.SubstWeakens': WHATEVER THE INPUT: true; the input reads as it did. -/
def substWeakensSpec : ChangeSpec := { name := "substWeakens", fn := fun _ => fun
  | [d1, d2, d3] => { results := [.lit (.bool true)], args := [d1, d2, d3] }
  | _ => none }
def substWeakensRow : OpenClaim := { program := "ytinjeocfnhhlmaa", sum := "3ef929accb7c0444e62b44d63021d5837be3ab231c784c9d44b8a122b140c5b2", func := "amanuensis/amanuensislaw03.SubstWeakens", spec := "substWeakens", unfollowed := true, recurses := true, loops := true, plainKeys := false, apart := false }
def SubstWeakensSaid : Prop := substWeakensRow.holds Try.pinned (OpenSpec.ofChange substWeakensSpec)

/-- ITS FALSE NEIGHBOUR: 'it returns false'. Refute it at one input. -/
def substWeakensWrong : ChangeSpec := { name := "substWeakens", fn := fun _ => fun
  | [d1, d2, d3] => { results := [.lit (.bool false)], args := [d1, d2, d3] }
  | _ => none }
def SubstWeakensWrongFalsely : Prop := substWeakensRow.holds Try.pinned (OpenSpec.ofChange substWeakensWrong)

/-- 'amanuensislaw03.SubstTwice': WHATEVER THE INPUT: true; the input reads as it did. -/
def substTwiceSpec : ChangeSpec := { name := "substTwice", fn := fun _ => fun
  | [d1, d2, d3] => { results := [.lit (.bool true)], args := [d1, d2, d3] }
  | _ => none }
def substTwiceRow : OpenClaim := { program := "ytinjeocfnhhlmaa", sum := "3ef929accb7c0444e62b44d63021d5837be3ab231c784c9d44b8a122b140c5b2", func := "amanuensis/amanuensislaw03.SubstTwice", spec := "substTwice", unfollowed := true, recurses := true, loops := true, plainKeys := false, apart := false }
def SubstTwiceSaid : Prop := substTwiceRow.holds Try.pinned (OpenSpec.ofChange substTwiceSpec)

/-- ITS FALSE NEIGHBOUR: 'it returns false'. Refute it at one input. -/
def substTwiceWrong : ChangeSpec := { name := "substTwice", fn := fun _ => fun
  | [d1, d2, d3] => { results := [.lit (.bool false)], args := [d1, d2, d3] }
  | _ => none }
def SubstTwiceWrongFalsely : Prop := substTwiceRow.holds Try.pinned (OpenSpec.ofChange substTwiceWrong)

/-- 'amanuensislaw03.SubstScopes': WHATEVER THE INPUT: true; the input reads as it did. -/
def substScopesSpec : ChangeSpec := { name := "substScopes", fn := fun _ => fun
  | [d1, d2, d3, d4] => { results := [.lit (.bool true)], args := [d1, d2, d3, d4] }
  | _ => none }
def substScopesRow : OpenClaim := { program := "ytinjeocfnhhlmaa", sum := "3ef929accb7c0444e62b44d63021d5837be3ab231c784c9d44b8a122b140c5b2", func := "amanuensis/amanuensislaw03.SubstScopes", spec := "substScopes", unfollowed := true, recurses := true, loops := true, plainKeys := false, apart := false }
def SubstScopesSaid : Prop := substScopesRow.holds Try.pinned (OpenSpec.ofChange substScopesSpec)

/-- ITS FALSE NEIGHBOUR: 'it returns false'. Refute it at one input. -/
def substScopesWrong : ChangeSpec := { name := "substScopes", fn := fun _ => fun
  | [d1, d2, d3, d4] => { results := [.lit (.bool false)], args := [d1, d2, d3, d4] }
  | _ => none }
def SubstScopesWrongFalsely : Prop := substScopesRow.holds Try.pinned (OpenSpec.ofChange substScopesWrong)

/-- 'amanuensislaw03.SubstUnder': WHATEVER THE INPUT: true; the input reads as it did. -/
def substUnderSpec : ChangeSpec := { name := "substUnder", fn := fun _ => fun
  | [d1, d2, d3] => { results := [.lit (.bool true)], args := [d1, d2, d3] }
  | _ => none }
def substUnderRow : OpenClaim := { program := "ytinjeocfnhhlmaa", sum := "3ef929accb7c0444e62b44d63021d5837be3ab231c784c9d44b8a122b140c5b2", func := "amanuensis/amanuensislaw03.SubstUnder", spec := "substUnder", unfollowed := true, recurses := true, loops := true, plainKeys := false, apart := false }
def SubstUnderSaid : Prop := substUnderRow.holds Try.pinned (OpenSpec.ofChange substUnderSpec)

/-- ITS FALSE NEIGHBOUR: 'it returns false'. Refute it at one input. -/
def substUnderWrong : ChangeSpec := { name := "substUnder", fn := fun _ => fun
  | [d1, d2, d3] => { results := [.lit (.bool false)], args := [d1, d2, d3] }
  | _ => none }
def SubstUnderWrongFalsely : Prop := substUnderRow.holds Try.pinned (OpenSpec.ofChange substUnderWrong)

/-- 'amanuensislaw03.SubstUp': WHATEVER THE INPUT: true; the input reads as it did. -/
def substUpSpec : ChangeSpec := { name := "substUp", fn := fun _ => fun
  | [d1, d2] => { results := [.lit (.bool true)], args := [d1, d2] }
  | _ => none }
def substUpRow : OpenClaim := { program := "ytinjeocfnhhlmaa", sum := "3ef929accb7c0444e62b44d63021d5837be3ab231c784c9d44b8a122b140c5b2", func := "amanuensis/amanuensislaw03.SubstUp", spec := "substUp", unfollowed := true, recurses := true, loops := true, plainKeys := false, apart := false }
def SubstUpSaid : Prop := substUpRow.holds Try.pinned (OpenSpec.ofChange substUpSpec)

/-- ITS FALSE NEIGHBOUR: 'it returns false'. Refute it at one input. -/
def substUpWrong : ChangeSpec := { name := "substUp", fn := fun _ => fun
  | [d1, d2] => { results := [.lit (.bool false)], args := [d1, d2] }
  | _ => none }
def SubstUpWrongFalsely : Prop := substUpRow.holds Try.pinned (OpenSpec.ofChange substUpWrong)

/-- 'amanuensislaw03.SubstBeta': WHATEVER THE INPUT: true; the input reads as it did. -/
def substBetaSpec : ChangeSpec := { name := "substBeta", fn := fun _ => fun
  | [d1, d2, d3] => { results := [.lit (.bool true)], args := [d1, d2, d3] }
  | _ => none }
def substBetaRow : OpenClaim := { program := "ytinjeocfnhhlmaa", sum := "3ef929accb7c0444e62b44d63021d5837be3ab231c784c9d44b8a122b140c5b2", func := "amanuensis/amanuensislaw03.SubstBeta", spec := "substBeta", unfollowed := true, recurses := true, loops := true, plainKeys := false, apart := false }
def SubstBetaSaid : Prop := substBetaRow.holds Try.pinned (OpenSpec.ofChange substBetaSpec)

/-- ITS FALSE NEIGHBOUR: 'it returns false'. Refute it at one input. -/
def substBetaWrong : ChangeSpec := { name := "substBeta", fn := fun _ => fun
  | [d1, d2, d3] => { results := [.lit (.bool false)], args := [d1, d2, d3] }
  | _ => none }
def SubstBetaWrongFalsely : Prop := substBetaRow.holds Try.pinned (OpenSpec.ofChange substBetaWrong)

/- THE SECOND FORM. 'bulk': how many values and letters a reading holds, each counted each time it is reached (what is shared counts as often as it is met; a slice's spare places count too). A statement '..UptoSaid' is the law's where the arguments, and the package variables that the reading takes, are together of bulk at most 1048576: NARROWER than '..Said'. Prove '..Said' where nothing that the law and all that it calls make is longer than what came in: it says more and counts as full. Else prove '..UptoSaid'. A law counts once. -/
mutual
def uptoBulk {H : Type} : DataW H → Nat
  | .lit (.string bytes) => bytes.length + 1
  | .lit _ => 1
  | .nil => 1
  | .ptr d => uptoBulk d + 1
  | .slice elems spare => uptoBulkAll elems + uptoBulkAll spare + 1
  | .agg parts => uptoBulkAll parts + 1
  | .iface _ d => uptoBulk d + 1
  | .map entries => uptoBulkEntries entries + 1
  | .held _ => 1
def uptoBulkAll {H : Type} : List (DataW H) → Nat
  | [] => 0
  | d :: r => uptoBulk d + uptoBulkAll r
def uptoBulkEntries {H : Type} : List (Lit × DataW H) → Nat
  | [] => 0
  | x :: r => uptoBulkEntry x + uptoBulkEntries r
def uptoBulkEntry {H : Type} : Lit × DataW H → Nat
  | (.string bytes, d) => bytes.length + uptoBulk d + 1
  | (_, d) => uptoBulk d + 1
 end
def uptoSmall : (H : Type) → List (DataW H) → Bool := fun _ ds => decide (uptoBulkAll ds ≤ 1048576)
def OpenSpec.upto (s : _root_.Go.ChangeSpec) : _root_.Go.OpenSpec := { _root_.Go.OpenSpec.ofChange s with cond := some uptoSmall }

/-- 'amanuensislaw06.InvertTells', WHERE WHAT IT READS IS OF BULK AT MOST 1048576: true; the input reads as it did. -/
def invertTellsUptoRow : OpenClaim := { program := "ytinjeocfnhhlmaa", sum := "3ef929accb7c0444e62b44d63021d5837be3ab231c784c9d44b8a122b140c5b2", func := "amanuensis/amanuensislaw06.InvertTells", spec := "invertTells", unfollowed := true, recurses := true, loops := true, plainKeys := false, apart := false, narrowed := true }
def InvertTellsUptoSaid : Prop := invertTellsUptoRow.holds Try.pinned (OpenSpec.upto invertTellsSpec)

/-- 'amanuensislaw06.InvertBack', WHERE WHAT IT READS IS OF BULK AT MOST 1048576: true; the input reads as it did. -/
def invertBackUptoRow : OpenClaim := { program := "ytinjeocfnhhlmaa", sum := "3ef929accb7c0444e62b44d63021d5837be3ab231c784c9d44b8a122b140c5b2", func := "amanuensis/amanuensislaw06.InvertBack", spec := "invertBack", unfollowed := true, recurses := true, loops := true, plainKeys := false, apart := false, narrowed := true }
def InvertBackUptoSaid : Prop := invertBackUptoRow.holds Try.pinned (OpenSpec.upto invertBackSpec)

/-- 'amanuensislaw06.InvertOnly', WHERE WHAT IT READS IS OF BULK AT MOST 1048576: true; the input reads as it did. -/
def invertOnlyUptoRow : OpenClaim := { program := "ytinjeocfnhhlmaa", sum := "3ef929accb7c0444e62b44d63021d5837be3ab231c784c9d44b8a122b140c5b2", func := "amanuensis/amanuensislaw06.InvertOnly", spec := "invertOnly", unfollowed := true, recurses := true, loops := true, plainKeys := false, apart := false, narrowed := true }
def InvertOnlyUptoSaid : Prop := invertOnlyUptoRow.holds Try.pinned (OpenSpec.upto invertOnlySpec)

/-- 'amanuensislaw06.InvertSame', WHERE WHAT IT READS IS OF BULK AT MOST 1048576: true; the input reads as it did. -/
def invertSameUptoRow : OpenClaim := { program := "ytinjeocfnhhlmaa", sum := "3ef929accb7c0444e62b44d63021d5837be3ab231c784c9d44b8a122b140c5b2", func := "amanuensis/amanuensislaw06.InvertSame", spec := "invertSame", unfollowed := true, recurses := true, loops := true, plainKeys := false, apart := false, narrowed := true }
def InvertSameUptoSaid : Prop := invertSameUptoRow.holds Try.pinned (OpenSpec.upto invertSameSpec)

/-- 'amanuensislaw06.InvertNone', WHERE WHAT IT READS IS OF BULK AT MOST 1048576: true; the input reads as it did. -/
def invertNoneUptoRow : OpenClaim := { program := "ytinjeocfnhhlmaa", sum := "3ef929accb7c0444e62b44d63021d5837be3ab231c784c9d44b8a122b140c5b2", func := "amanuensis/amanuensislaw06.InvertNone", spec := "invertNone", unfollowed := true, recurses := true, loops := true, plainKeys := false, apart := false, narrowed := true }
def InvertNoneUptoSaid : Prop := invertNoneUptoRow.holds Try.pinned (OpenSpec.upto invertNoneSpec)

/-- 'amanuensislaw06.InvertApply', WHERE WHAT IT READS IS OF BULK AT MOST 1048576: true; the input reads as it did. -/
def invertApplyUptoRow : OpenClaim := { program := "ytinjeocfnhhlmaa", sum := "3ef929accb7c0444e62b44d63021d5837be3ab231c784c9d44b8a122b140c5b2", func := "amanuensis/amanuensislaw06.InvertApply", spec := "invertApply", unfollowed := true, recurses := true, loops := true, plainKeys := false, apart := false, narrowed := true }
def InvertApplyUptoSaid : Prop := invertApplyUptoRow.holds Try.pinned (OpenSpec.upto invertApplySpec)

/-- 'amanuensislaw04.MetaFills', WHERE WHAT IT READS IS OF BULK AT MOST 1048576: true; the input reads as it did. -/
def metaFillsUptoRow : OpenClaim := { program := "ytinjeocfnhhlmaa", sum := "3ef929accb7c0444e62b44d63021d5837be3ab231c784c9d44b8a122b140c5b2", func := "amanuensis/amanuensislaw04.MetaFills", spec := "metaFills", unfollowed := true, recurses := true, loops := true, plainKeys := false, apart := false, narrowed := true }
def MetaFillsUptoSaid : Prop := metaFillsUptoRow.holds Try.pinned (OpenSpec.upto metaFillsSpec)

/-- 'amanuensislaw04.MetaNone', WHERE WHAT IT READS IS OF BULK AT MOST 1048576: true; the input reads as it did. -/
def metaNoneUptoRow : OpenClaim := { program := "ytinjeocfnhhlmaa", sum := "3ef929accb7c0444e62b44d63021d5837be3ab231c784c9d44b8a122b140c5b2", func := "amanuensis/amanuensislaw04.MetaNone", spec := "metaNone", unfollowed := true, recurses := true, loops := true, plainKeys := false, apart := false, narrowed := true }
def MetaNoneUptoSaid : Prop := metaNoneUptoRow.holds Try.pinned (OpenSpec.upto metaNoneSpec)

/-- 'amanuensislaw04.MetaWhole', WHERE WHAT IT READS IS OF BULK AT MOST 1048576: true; the input reads as it did. -/
def metaWholeUptoRow : OpenClaim := { program := "ytinjeocfnhhlmaa", sum := "3ef929accb7c0444e62b44d63021d5837be3ab231c784c9d44b8a122b140c5b2", func := "amanuensis/amanuensislaw04.MetaWhole", spec := "metaWhole", unfollowed := true, recurses := true, loops := true, plainKeys := false, apart := false, narrowed := true }
def MetaWholeUptoSaid : Prop := metaWholeUptoRow.holds Try.pinned (OpenSpec.upto metaWholeSpec)

/-- 'amanuensislaw04.MetaTwice', WHERE WHAT IT READS IS OF BULK AT MOST 1048576: true; the input reads as it did. -/
def metaTwiceUptoRow : OpenClaim := { program := "ytinjeocfnhhlmaa", sum := "3ef929accb7c0444e62b44d63021d5837be3ab231c784c9d44b8a122b140c5b2", func := "amanuensis/amanuensislaw04.MetaTwice", spec := "metaTwice", unfollowed := true, recurses := true, loops := true, plainKeys := false, apart := false, narrowed := true }
def MetaTwiceUptoSaid : Prop := metaTwiceUptoRow.holds Try.pinned (OpenSpec.upto metaTwiceSpec)

/-- 'amanuensislaw04.MetaScopes', WHERE WHAT IT READS IS OF BULK AT MOST 1048576: true; the input reads as it did. -/
def metaScopesUptoRow : OpenClaim := { program := "ytinjeocfnhhlmaa", sum := "3ef929accb7c0444e62b44d63021d5837be3ab231c784c9d44b8a122b140c5b2", func := "amanuensis/amanuensislaw04.MetaScopes", spec := "metaScopes", unfollowed := true, recurses := true, loops := true, plainKeys := false, apart := false, narrowed := true }
def MetaScopesUptoSaid : Prop := metaScopesUptoRow.holds Try.pinned (OpenSpec.upto metaScopesSpec)

/-- 'amanuensislaw04.MetaLists', WHERE WHAT IT READS IS OF BULK AT MOST 1048576: true; the input reads as it did. -/
def metaListsUptoRow : OpenClaim := { program := "ytinjeocfnhhlmaa", sum := "3ef929accb7c0444e62b44d63021d5837be3ab231c784c9d44b8a122b140c5b2", func := "amanuensis/amanuensislaw04.MetaLists", spec := "metaLists", unfollowed := true, recurses := true, loops := true, plainKeys := false, apart := false, narrowed := true }
def MetaListsUptoSaid : Prop := metaListsUptoRow.holds Try.pinned (OpenSpec.upto metaListsSpec)

/-- 'amanuensislaw03.SubstApplies', WHERE WHAT IT READS IS OF BULK AT MOST 1048576: true; the input reads as it did. -/
def substAppliesUptoRow : OpenClaim := { program := "ytinjeocfnhhlmaa", sum := "3ef929accb7c0444e62b44d63021d5837be3ab231c784c9d44b8a122b140c5b2", func := "amanuensis/amanuensislaw03.SubstApplies", spec := "substApplies", unfollowed := true, recurses := true, loops := true, plainKeys := false, apart := false, narrowed := true }
def SubstAppliesUptoSaid : Prop := substAppliesUptoRow.holds Try.pinned (OpenSpec.upto substAppliesSpec)

/-- 'amanuensislaw03.SubstSpines', WHERE WHAT IT READS IS OF BULK AT MOST 1048576: true; the input reads as it did. -/
def substSpinesUptoRow : OpenClaim := { program := "ytinjeocfnhhlmaa", sum := "3ef929accb7c0444e62b44d63021d5837be3ab231c784c9d44b8a122b140c5b2", func := "amanuensis/amanuensislaw03.SubstSpines", spec := "substSpines", unfollowed := true, recurses := true, loops := true, plainKeys := false, apart := false, narrowed := true }
def SubstSpinesUptoSaid : Prop := substSpinesUptoRow.holds Try.pinned (OpenSpec.upto substSpinesSpec)

/-- 'amanuensislaw03.SubstWeakens', WHERE WHAT IT READS IS OF BULK AT MOST 1048576: true; the input reads as it did. -/
def substWeakensUptoRow : OpenClaim := { program := "ytinjeocfnhhlmaa", sum := "3ef929accb7c0444e62b44d63021d5837be3ab231c784c9d44b8a122b140c5b2", func := "amanuensis/amanuensislaw03.SubstWeakens", spec := "substWeakens", unfollowed := true, recurses := true, loops := true, plainKeys := false, apart := false, narrowed := true }
def SubstWeakensUptoSaid : Prop := substWeakensUptoRow.holds Try.pinned (OpenSpec.upto substWeakensSpec)

/-- 'amanuensislaw03.SubstTwice', WHERE WHAT IT READS IS OF BULK AT MOST 1048576: true; the input reads as it did. -/
def substTwiceUptoRow : OpenClaim := { program := "ytinjeocfnhhlmaa", sum := "3ef929accb7c0444e62b44d63021d5837be3ab231c784c9d44b8a122b140c5b2", func := "amanuensis/amanuensislaw03.SubstTwice", spec := "substTwice", unfollowed := true, recurses := true, loops := true, plainKeys := false, apart := false, narrowed := true }
def SubstTwiceUptoSaid : Prop := substTwiceUptoRow.holds Try.pinned (OpenSpec.upto substTwiceSpec)

/-- 'amanuensislaw03.SubstScopes', WHERE WHAT IT READS IS OF BULK AT MOST 1048576: true; the input reads as it did. -/
def substScopesUptoRow : OpenClaim := { program := "ytinjeocfnhhlmaa", sum := "3ef929accb7c0444e62b44d63021d5837be3ab231c784c9d44b8a122b140c5b2", func := "amanuensis/amanuensislaw03.SubstScopes", spec := "substScopes", unfollowed := true, recurses := true, loops := true, plainKeys := false, apart := false, narrowed := true }
def SubstScopesUptoSaid : Prop := substScopesUptoRow.holds Try.pinned (OpenSpec.upto substScopesSpec)

/-- 'amanuensislaw03.SubstUnder', WHERE WHAT IT READS IS OF BULK AT MOST 1048576: true; the input reads as it did. -/
def substUnderUptoRow : OpenClaim := { program := "ytinjeocfnhhlmaa", sum := "3ef929accb7c0444e62b44d63021d5837be3ab231c784c9d44b8a122b140c5b2", func := "amanuensis/amanuensislaw03.SubstUnder", spec := "substUnder", unfollowed := true, recurses := true, loops := true, plainKeys := false, apart := false, narrowed := true }
def SubstUnderUptoSaid : Prop := substUnderUptoRow.holds Try.pinned (OpenSpec.upto substUnderSpec)

/-- 'amanuensislaw03.SubstUp', WHERE WHAT IT READS IS OF BULK AT MOST 1048576: true; the input reads as it did. -/
def substUpUptoRow : OpenClaim := { program := "ytinjeocfnhhlmaa", sum := "3ef929accb7c0444e62b44d63021d5837be3ab231c784c9d44b8a122b140c5b2", func := "amanuensis/amanuensislaw03.SubstUp", spec := "substUp", unfollowed := true, recurses := true, loops := true, plainKeys := false, apart := false, narrowed := true }
def SubstUpUptoSaid : Prop := substUpUptoRow.holds Try.pinned (OpenSpec.upto substUpSpec)

/-- 'amanuensislaw03.SubstBeta', WHERE WHAT IT READS IS OF BULK AT MOST 1048576: true; the input reads as it did. -/
def substBetaUptoRow : OpenClaim := { program := "ytinjeocfnhhlmaa", sum := "3ef929accb7c0444e62b44d63021d5837be3ab231c784c9d44b8a122b140c5b2", func := "amanuensis/amanuensislaw03.SubstBeta", spec := "substBeta", unfollowed := true, recurses := true, loops := true, plainKeys := false, apart := false, narrowed := true }
def SubstBetaUptoSaid : Prop := substBetaUptoRow.holds Try.pinned (OpenSpec.upto substBetaSpec)

end Rows
end Go.Proofs.Ytinjeocfnhhlmaa
