/-
  UnifyMatches: of a pattern and a term without metas Unify tells what Match has, one way and the other; no bound on the size.
-/
import Derived.Test.YtelicajhamgibaaGreatPkUz
import Derived.Test.YtelicajhamgibaaGreatNu
import Derived.SizedLaws
namespace Go.Proofs.YtelicajhamgibaaGreat.unifyMatches
open Go.ChangeShapes Go.WideShapes Go.ChangeAt Go.RowKit
set_option linter.unusedVariables false

/-- a word -/
def isWord (w : List Char) : Bool := w.all fun c => !(c == Char.ofNat 32)
theorem words_word : ∀ (w r : List Char), isWord w = true → wordsSigns (w ++ Char.ofNat 32 :: r) = w :: wordsSigns r
  | [], r, _ => rfl
  | c :: w, r, h => by
    rw [isWord, List.all_cons, Bool.and_eq_true] at h
    have ih := words_word w r h.2
    have hc : c ≠ Char.ofNat 32 := by simpa using h.1
    rw [List.cons_append]
    conv => lhs; unfold wordsSigns
    split
    · rename_i e; cases e
    · rename_i e
      injection e with e1 e2
      exact absurd e1 hc
    · rename_i c' r' _ e
      injection e with e1 e2
      subst e1; subst e2
      rw [ih]
theorem toList_of {s : String} {l : List Char} (h : s = String.ofList l) : s.toList = l := by rw [h]; exact String.toList_ofList
def sign0 : List Char := ([104,97,114,110,101,115,115] : List Nat).map Char.ofNat
def sign1 : List Char := ([102,57,53,50,102,56,99,100,101,55,48,102,49,48,56,99,53,57,50,97,55,50,52,52,101,49,100,53,49,101,50,55,51,56,56,99,54,50,97,49,102,56,49,102,55,56,54,57,98,102,54,56,101,55,102,51,99,48,55,52,97,49,99,51] : List Nat).map Char.ofNat
def sign2 : List Char := ([99,117,116] : List Nat).map Char.ofNat
def signs : List Char := ([97,116,32,97,109,97,110,117,101,110,115,105,115,47,97,109,97,110,117,101,110,115,105,115,108,97,119,48,56,46,85,110,105,102,121,84,101,108,108,115,32,97,109,97,110,117,101,110,115,105,115,47,97,109,97,110,117,101,110,115,105,115,108,97,119,48,56,46,85,110,105,102,121,83,97,109,101,32,97,109,97,110,117,101,110,115,105,115,47,97,109,97,110,117,101,110,115,105,115,108,97,119,48,56,46,85,110,105,102,121,77,97,116,99,104,101,115] : List Nat).map Char.ofNat
set_option maxRecDepth 100000 in
theorem headLine : Tryz.prog.initOrder.toList = sign0 ++ Char.ofNat 32 :: (sign1 ++ Char.ofNat 32 :: (sign2 ++ Char.ofNat 32 :: signs)) := toList_of (by kernel_rfl)
theorem headWords : ∃ R, behindMainWord (wordsSigns Tryz.prog.initOrder.toList) = "cut".toList :: R := by
  refine ⟨wordsSigns signs, ?_⟩
  rw [headLine, words_word _ _ (by kernel_rfl), words_word _ _ (by kernel_rfl), words_word _ _ (by kernel_rfl)]
  generalize wordsSigns signs = R
  kernel_rfl
theorem strip_cut (R : List (List Char)) : stripLifts liftWords ("cut".toList :: R) = ([], "cut".toList :: R) := by kernel_rfl
theorem lifts_gen {P : Program} {R : List (List Char)} (h : behindMainWord (wordsSigns P.initOrder.toList) = "cut".toList :: R) : P.headLifts = [] := by
  unfold Program.headLifts
  rw [h, strip_cut]
  kernel_rfl
theorem make_gen {P : Program} {R : List (List Char)} (h : behindMainWord (wordsSigns P.initOrder.toList) = "cut".toList :: R) : P.make = some Make.cut := by
  unfold Program.make
  rw [h]
  kernel_rfl
theorem final_gen {P : Program} {R : List (List Char)} (h : behindMainWord (wordsSigns P.initOrder.toList) = "cut".toList :: R) : P.liftsFinal = false := by
  unfold Program.liftsFinal
  rw [lifts_gen h, h]
  kernel_rfl
theorem enter_gen {P : Program} {R : List (List Char)} (h : behindMainWord (wordsSigns P.initOrder.toList) = "cut".toList :: R) (h2 : P.laysLater = false) (h3 : P.bearsReflect = false) (h4 : P.doorFits [] = true) : P.mayEnter = true := by
  unfold Program.mayEnter
  rw [h]
  dsimp only
  rw [strip_cut, h2, h3]
  dsimp only
  rw [h4]
  kernel_rfl
theorem isLays : Tryz.prog.laysLater = false := by kernel_rfl
theorem isBears : Tryz.prog.bearsReflect = false := by kernel_rfl
theorem isDoor : Tryz.prog.doorFits [] = true := by kernel_rfl
theorem isMake : Tryz.prog.make = some Make.cut := by
  obtain ⟨R, h⟩ := headWords
  exact make_gen h
theorem isFinal : Tryz.prog.liftsFinal = false := by
  obtain ⟨R, h⟩ := headWords
  exact final_gen h
theorem isEnter : Tryz.prog.mayEnter = true := by
  obtain ⟨R, h⟩ := headWords
  exact enter_gen h isLays isBears isDoor

theorem own : ownKnob Tryz.prog.godebug = none := by kernel_rfl
theorem laidOut : laidOutB Tryz.prog = true := by kernel_rfl

set_option maxRecDepth 100000 in
theorem contract (H : Type) (enc : TypeId × Value → H) (W : World) (base : Nat) (args : Array Value) (ds gs : List (DataW H)) (before : List MemPlace)
    (hval : ∀ (j : Nat) t v, Tryz.f5.params[j]? = some t → args[j]? = some v → Value.okWide Tryz.prog W .any base t v)
    (hW : DataW.Whole enc Tryz.prog Tryz.f5.params.toList Rows.unifyMatchesSpec.vars false W args.toList ds gs before) (hsz : (DataW.weightsEach Tryz.prog (Tryz.f5.params.toList ++ Rows.unifyMatchesSpec.plain.varTypes Tryz.prog) (ds ++ gs)).all (· ≤ reachBytes) = true) :
    Calls Tryz.prog 5 args W fun e W' => ∃ v, e = .returned v ∧ Rows.unifyMatchesSpec.post enc Tryz.prog Tryz.f5 false true false false W args v W' := by
  have hW' := hW
  obtain ⟨p, q, hA0, hV, rfl, hfz, hnd⟩ := hW
  have hA : DataW.TrodAll enc Tryz.prog W 0 (fun _ => true) true Tryz.f5.params.toList args.toList ds p := hA0
  rw [Tryz.params5] at hA hval hsz
  obtain ⟨v0, v1, v2, v3, d0, d1, d2, d3, p0, p1, p2, p3, rfl, rfl, rfl, h0, h1, h2, h3⟩ := trodAll_four hA
  obtain ⟨rfl, rfl⟩ := trodVars_none hV
  obtain ⟨a2, rfl, rfl, rfl, wf2⟩ := open_int Tryz.underlying3 (hval 2 3 v2 rfl rfl) h2
  obtain ⟨t0, r0, le0, wt0⟩ := open_term (hval 0 24 v0 rfl rfl) h0
  obtain ⟨t1, r1, le1, wt1⟩ := open_term (hval 1 24 v1 rfl rfl) h1
  obtain ⟨t3, A3, n3, c3, rfl, hn3, hc3, hm3, r3, le3, wn3⟩ := open_ns (hval 3 25 v3 rfl rfl) h3
  have hsz' : ∀ n ∈ DataW.weightsEach Tryz.prog ([24, 24, 3, 25] ++ Rows.unifyMatchesSpec.plain.varTypes Tryz.prog) ([d0, d1, .lit (.int .i64 a2), d3] ++ []), n ≤ reachBytes := fun n hn => of_decide_eq_true (List.all_eq_true.1 hsz n hn)
  simp only [List.cons_append, List.nil_append, DataW.weightsEach, List.mem_append] at hsz'
  have s0 : wd t0 ≤ 3518437208780 := wt0 fun n hn => hsz' n (by simp [hn])
  have s1 : wd t1 ≤ 3518437208780 := wt1 fun n hn => hsz' n (by simp [hn])
  clear hA0 hsz
  simp only [List.append_nil] at hW'
  have lt0 : ∀ x ∈ p0, x.block < W.heap.size := fun x hx => by simpa using hW'.lt x (by simp [hx])
  have lt1 : ∀ x ∈ p1, x.block < W.heap.size := fun x hx => by simpa using hW'.lt x (by simp [hx])
  have lt3 : ∀ x ∈ p3, x.block < W.heap.size := fun x hx => by simpa using hW'.lt x (by simp [hx])
  refine (unifyMatchesC t0 t1 a2 t3 A3 n3 c3 _ _ W r0 r1 hn3 hc3 hm3 r3).mono fun e W' ⟨he, hb⟩ => ?_
  subst he
  exact ⟨_, rfl, _, _, _, [], _, [], hW', trodAll_cons_mk (shut_bool Tryz.underlying4 _) trodAll_mk0,
    trodAll_mk4 (Below.trod laidOut (by kernel_rfl) (of_decide_eq_true (by kernel_rfl)) h0 hb lt0) (Below.trod laidOut (by kernel_rfl) (of_decide_eq_true (by kernel_rfl)) h1 hb lt1) (shut_int Tryz.underlying3 wf2) (Below.trod laidOut (by kernel_rfl) (of_decide_eq_true (by kernel_rfl)) h3 hb lt3), rfl, hb.frame _, fun h => by cases h⟩

set_option maxRecDepth 100000 in
theorem lifted (os : Os) (started : os.Started) (H : Type) (enc : TypeId × Value → H) :
    ReturnsInHanded {} Tryz.checked os 5 .any (Rows.unifyMatchesSpec.pre6 enc Tryz.prog Tryz.f5 Rows.unifyMatchesRow.domain false) (Rows.unifyMatchesSpec.post enc Tryz.prog Tryz.f5 false true false false) := by
  refine returnsInHanded_of_change_sized (C := Tryz.checked) own started (by kernel_rfl) Tryz.func5
    (ChangeSpec.witness6 (enc := enc) (C := Tryz.checked) false ⟨#[], #[.agg #[.int .i64 0, .int .i64 0, .slice none 0 0], .agg #[.int .i64 0, .int .i64 0, .slice none 0 0], .int .i64 0, .slice none 0 0], []⟩ 8 (by kernel_rfl) (by kernel_rfl) (by kernel_rfl) (by kernel_rfl)) ?_
  intro W base args ds gs before hval hW _ hsz _
  exact contract H enc W base args ds gs before hval hW hsz

theorem closed : joinedFacts Tryz.prog 5 Tryz.f5 Rows.unifyMatchesSpec Rows.unifyMatchesRow = true := by
  unfold joinedFacts
  rw [isEnter, isFinal, isMake]
  kernel_rfl

theorem over : Rows.unifyMatchesRow.holds Tryz.pinned (OpenSpec.ofChange Rows.unifyMatchesSpec) :=
  OpenClaim.holds_of_wide 5 Tryz.f5 rfl rfl rfl rfl rfl rfl rfl ⟨rfl, rfl, rfl, rfl, rfl⟩ rfl rfl rfl rfl rfl (by kernel_rfl) Tryz.func5 closed
    (of_decide_eq_true (by kernel_rfl)) (by unfold Func.isWrapper; first | (rw [if_pos (by decide +kernel)]; kernel_rfl) | (rw [if_neg (by decide +kernel)]; exact ⟨rfl, rfl⟩))
    (fun os started H enc _ => lifted os started H enc)

theorem proved : Rows.UnifyMatchesSaid :=
  over
#print axioms proved
end Go.Proofs.YtelicajhamgibaaGreat.unifyMatches
