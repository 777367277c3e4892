/-
  SignTells: what any type or kind asks for, what it comes to, and which of any declarations come to a family, is what the document says. For arguments of at most 1048576 nodes in all (the form that the seat calls the second).
-/
import Derived.Test.YtclhllkgamnpoaaLgt
import Derived.Test.YtclhllkgamnpoaaQh
import Derived.JoinedCond
namespace Go.Proofs.Ytclhllkgamnpoaa.signTells
open Go.ChangeShapes Go.WideShapes Go.ChangeAt Go.RowKit
set_option linter.unusedVariables false

/-- a word -/
def isWord (w : List Char) : Bool := w.all fun c => !(c == Char.ofNat 32)
theorem words_word : ∀ (w r : List Char), isWord w = true → wordsSigns (w ++ Char.ofNat 32 :: r) = w :: wordsSigns r
  | [], r, _ => rfl
  | c :: w, r, h => by
    rw [isWord, List.all_cons, Bool.and_eq_true] at h
    have ih := words_word w r h.2
    have hc : c ≠ Char.ofNat 32 := by simpa using h.1
    rw [List.cons_append]
    conv => lhs; unfold wordsSigns
    split
    · rename_i e; cases e
    · rename_i e
      injection e with e1 e2
      exact absurd e1 hc
    · rename_i c' r' _ e
      injection e with e1 e2
      subst e1; subst e2
      rw [ih]
theorem toList_of {s : String} {l : List Char} (h : s = String.ofList l) : s.toList = l := by rw [h]; exact String.toList_ofList
def sign0 : List Char := ([104,97,114,110,101,115,115] : List Nat).map Char.ofNat
def sign1 : List Char := ([48,50,51,50,102,55,56,101,54,55,50,100,100,97,56,50,50,101,98,53,52,97,97,55,53,56,101,55,54,98,101,99,102,102,57,55,99,97,51,99,52,49,56,102,50,56,53,101,48,50,99,54,101,54,49,56,54,54,52,100,48,98,98,53] : List Nat).map Char.ofNat
def sign2 : List Char := ([99,117,116] : List Nat).map Char.ofNat
def signs : List Char := ([97,116,32,97,109,97,110,117,101,110,115,105,115,47,97,109,97,110,117,101,110,115,105,115,108,97,119,48,57,46,83,105,103,110,84,101,108,108,115,32,97,109,97,110,117,101,110,115,105,115,47,97,109,97,110,117,101,110,115,105,115,108,97,119,48,57,46,83,105,103,110,74,111,105,110,115,32,97,109,97,110,117,101,110,115,105,115,47,97,109,97,110,117,101,110,115,105,115,108,97,119,48,57,46,83,105,103,110,79,110,99,101,32,97,109,97,110,117,101,110,115,105,115,47,97,109,97,110,117,101,110,115,105,115,108,97,119,48,57,46,83,105,103,110,80,105,115,32,97,109,97,110,117,101,110,115,105,115,47,97,109,97,110,117,101,110,115,105,115,108,97,119,48,57,46,83,105,103,110,77,111,114,101] : List Nat).map Char.ofNat
set_option maxRecDepth 100000 in
theorem headLine : Try.prog.initOrder.toList = sign0 ++ Char.ofNat 32 :: (sign1 ++ Char.ofNat 32 :: (sign2 ++ Char.ofNat 32 :: signs)) := toList_of (by kernel_rfl)
theorem headWords : ∃ R, behindMainWord (wordsSigns Try.prog.initOrder.toList) = "cut".toList :: R := by
  refine ⟨wordsSigns signs, ?_⟩
  rw [headLine, words_word _ _ (by kernel_rfl), words_word _ _ (by kernel_rfl), words_word _ _ (by kernel_rfl)]
  generalize wordsSigns signs = R
  kernel_rfl
theorem strip_cut (R : List (List Char)) : stripLifts liftWords ("cut".toList :: R) = ([], "cut".toList :: R) := by kernel_rfl
theorem lifts_gen {P : Program} {R : List (List Char)} (h : behindMainWord (wordsSigns P.initOrder.toList) = "cut".toList :: R) : P.headLifts = [] := by
  unfold Program.headLifts
  rw [h, strip_cut]
  kernel_rfl
theorem make_gen {P : Program} {R : List (List Char)} (h : behindMainWord (wordsSigns P.initOrder.toList) = "cut".toList :: R) : P.make = some Make.cut := by
  unfold Program.make
  rw [h]
  kernel_rfl
theorem final_gen {P : Program} {R : List (List Char)} (h : behindMainWord (wordsSigns P.initOrder.toList) = "cut".toList :: R) : P.liftsFinal = false := by
  unfold Program.liftsFinal
  rw [lifts_gen h, h]
  kernel_rfl
theorem enter_gen {P : Program} {R : List (List Char)} (h : behindMainWord (wordsSigns P.initOrder.toList) = "cut".toList :: R) (h2 : P.laysLater = false) (h3 : P.bearsReflect = false) (h4 : P.doorFits [] = true) : P.mayEnter = true := by
  unfold Program.mayEnter
  rw [h]
  dsimp only
  rw [strip_cut, h2, h3]
  dsimp only
  rw [h4]
  kernel_rfl
theorem isLays : Try.prog.laysLater = false := by kernel_rfl
theorem isBears : Try.prog.bearsReflect = false := by kernel_rfl
theorem isDoor : Try.prog.doorFits [] = true := by kernel_rfl
theorem isMake : Try.prog.make = some Make.cut := by
  obtain ⟨R, h⟩ := headWords
  exact make_gen h
theorem isFinal : Try.prog.liftsFinal = false := by
  obtain ⟨R, h⟩ := headWords
  exact final_gen h
theorem isEnter : Try.prog.mayEnter = true := by
  obtain ⟨R, h⟩ := headWords
  exact enter_gen h isLays isBears isDoor

theorem own : ownKnob Try.prog.godebug = none := by kernel_rfl
theorem laidOut : laidOutB Try.prog = true := by kernel_rfl

set_option maxRecDepth 100000 in
theorem contract (H : Type) (enc : TypeId × Value → H) (W : World) (base : Nat) (args : Array Value) (ds gs : List (DataW H)) (before : List MemPlace)
    (hval : ∀ (j : Nat) t v, Try.f3.params[j]? = some t → args[j]? = some v → Value.okWide Try.prog W .any base t v)
    (hW : DataW.Whole enc Try.prog Try.f3.params.toList Rows.signTellsSpec.vars false W args.toList ds gs before) (hk : Rows.uptoSmall H (ds ++ gs) = true) :
    Calls Try.prog 3 args W fun e W' => ∃ v, e = .returned v ∧ Rows.signTellsSpec.post enc Try.prog Try.f3 false true false false W args v W' := by
  have hW' := hW
  obtain ⟨p, q, hA0, hV, rfl, hfz, hnd⟩ := hW
  have hA : DataW.TrodAll enc Try.prog W 0 (fun _ => true) true Try.f3.params.toList args.toList ds p := hA0
  rw [Try.params3] at hA hval
  obtain ⟨v0, v1, v2, d0, d1, d2, p0, p1, p2, rfl, rfl, rfl, h0, h1, h2⟩ := trodAll_three hA
  obtain ⟨rfl, rfl⟩ := trodVars_none hV
  obtain ⟨a2, rfl, rfl, rfl, wf2⟩ := open_int Try.underlying3 (hval 2 3 v2 rfl rfl) h2
  obtain ⟨t0, r0, le0, wt0⟩ := open_term (hval 0 24 v0 rfl rfl) h0
  obtain ⟨t1, A1, n1, c1, rfl, r1, b1⟩ := open_decls (hval 1 25 v1 rfl rfl) h1
  have hk' : Rows.uptoBulkAll ([d0, d1, .lit (.int .i64 a2)] ++ []) ≤ 1048576 := of_decide_eq_true hk
  simp only [List.append_nil, Rows.uptoBulkAll] at hk'
  have s0 : nd t0 ≤ 1048576 := by omega
  have s1 : ∀ x ∈ t1, nd x ≤ 1048576 := fun x hx => by have := b1 x hx; omega
  clear hA0 hk
  simp only [List.append_nil] at hW'
  have lt0 : ∀ x ∈ p0, x.block < W.heap.size := fun x hx => by simpa using hW'.lt x (by simp [hx])
  have lt1 : ∀ x ∈ p1, x.block < W.heap.size := fun x hx => by simpa using hW'.lt x (by simp [hx])
  refine (signTellsC t0 _ t1 _ _ _ a2 _ r0 s0 r1 s1).mono fun e W' ⟨he, hb⟩ => ?_
  subst he
  exact ⟨_, rfl, _, _, _, [], _, [], hW', trodAll_cons_mk (shut_bool Try.underlying4 _) trodAll_mk0,
    trodAll_mk3 (Below.trod laidOut (by kernel_rfl) (of_decide_eq_true (by kernel_rfl)) h0 hb lt0) (Below.trod laidOut (by kernel_rfl) (of_decide_eq_true (by kernel_rfl)) h1 hb lt1) (shut_int Try.underlying3 wf2), rfl, hb.frame _, fun h => by cases h⟩

set_option maxRecDepth 100000 in
theorem lifted (os : Os) (started : os.Started) (H : Type) (enc : TypeId × Value → H) (F : Stop.Interp) :
    ReturnsInHanded {} Try.checked os 3 .any ((Rows.OpenSpec.upto Rows.signTellsSpec).pre6 enc Try.prog Try.f3 Rows.signTellsUptoRow.domain false) (((Rows.OpenSpec.upto Rows.signTellsSpec).at F).post enc Try.prog Try.f3 false true false false) := by
  refine returnsInHanded_of_cond (C := Try.checked) (s := Rows.OpenSpec.upto Rows.signTellsSpec) (k := Rows.uptoSmall) rfl own started (by kernel_rfl) Try.func3
    (OpenSpec.witness (enc := enc) (C := Try.checked) (s := Rows.OpenSpec.upto Rows.signTellsSpec) (k := Rows.uptoSmall) rfl false ⟨#[], #[.agg #[.int .i64 0, .int .i64 0, .slice none 0 0], .slice none 0 0, .int .i64 0], []⟩ 8 (by kernel_rfl) (by kernel_rfl) (by kernel_rfl)
      (x := ([.agg [.lit (.int .i64 0), .lit (.int .i64 0), .nil], .nil, .lit (.int .i64 0)], [], [])) (by kernel_rfl) rfl (by kernel_rfl)) ?_
  intro W base args ds gs before hval hW _ hk _
  exact contract H enc W base args ds gs before hval hW hk

theorem closed : joinedFacts Try.prog 3 Try.f3 (Rows.OpenSpec.upto Rows.signTellsSpec).bare Rows.signTellsUptoRow = true := by
  unfold joinedFacts
  rw [isEnter, isFinal, isMake]
  kernel_rfl

theorem over : Rows.signTellsUptoRow.holds Try.pinned (Rows.OpenSpec.upto Rows.signTellsSpec) :=
  OpenClaim.holds_of_cond 3 Try.f3 rfl rfl rfl rfl rfl rfl rfl ⟨rfl, rfl, rfl, rfl, rfl⟩ rfl rfl rfl rfl rfl (by kernel_rfl) Try.func3 closed
    (of_decide_eq_true (by kernel_rfl)) (by unfold Func.isWrapper; first | (rw [if_pos (by decide +kernel)]; kernel_rfl) | (rw [if_neg (by decide +kernel)]; exact ⟨rfl, rfl⟩))
    (fun os started H enc _ F => lifted os started H enc F)

theorem proved : Rows.SignTellsUptoSaid :=
  over
#print axioms proved
end Go.Proofs.Ytclhllkgamnpoaa.signTells
