/-
  The document's own add: a number in its place of rising ones. No statement is proved here.
-/
import Derived.Test.YtooihffijpndoaaOh
namespace Go.Proofs.Ytooihffijpndoaa
open Go.ChangeShapes Go.WideShapes Go.ChangeAt Go.RowKit Go.Maps
set_option linter.unusedVariables false

/-- a round of add -/
def adS (x : Int) (s : Bool × List Int) (y : Int) : Bool × List Int :=
  if s.1 = false ∧ x ≤ y then (true, if y = x then s.2 ++ [x] else s.2 ++ [x] ++ [y]) else (s.1, if y = x then s.2 else s.2 ++ [y])
def adL (x : Int) (zs : List Int) : Bool × List Int := zs.foldl (adS x) (false, [])
def adF (x : Int) (zs : List Int) : List Int := if (adL x zs).1 then (adL x zs).2 else (adL x zs).2 ++ [x]

theorem adL_snoc (x : Int) (zs : List Int) (y : Int) : adL x (zs ++ [y]) = adS x (adL x zs) y := by simp [adL]
theorem adS_len (x : Int) (s : Bool × List Int) (y : Int) : (adS x s y).2.length ≤ s.2.length + 2 := by unfold adS; split <;> dsimp only <;> split <;> simp
theorem adL_len (x : Int) : ∀ (zs : List Int) (s : Bool × List Int), (zs.foldl (adS x) s).2.length ≤ s.2.length + 2 * zs.length
  | [], s => by simp
  | y :: zs, s => by rw [List.foldl_cons, List.length_cons]; have := adL_len x zs (adS x s y); have := adS_len x s y; omega
/-- behind the place nothing comes in between -/
theorem ad_done (x : Int) : ∀ (zs acc : List Int), (∀ y ∈ zs, x < y) → zs.foldl (adS x) (true, acc) = (true, acc ++ zs)
  | [], acc, _ => by simp
  | y :: zs, acc, h => by
    have hy := h y (List.mem_cons_self ..)
    have e : adS x (true, acc) y = (true, acc ++ [y]) := by simp [adS, show ¬ y = x by omega]
    rw [List.foldl_cons, e, ad_done x zs _ fun z hz => h z (List.mem_cons_of_mem _ hz)]; simp
theorem ad_ins (x : Int) : ∀ (zs acc : List Int), Asc zs → (let s := zs.foldl (adS x) (false, acc); if s.1 then s.2 else s.2 ++ [x]) = acc ++ ins x zs
  | [], acc, _ => by simp [ins]
  | y :: zs, acc, h => by
    obtain ⟨h1, h2⟩ := List.pairwise_cons.1 h
    rw [List.foldl_cons]
    unfold ins
    by_cases hlt : x < y
    · have e : adS x (false, acc) y = (true, acc ++ [x] ++ [y]) := by simp [adS, show x ≤ y by omega, show ¬ y = x by omega]
      rw [e, if_pos hlt, ad_done x zs _ fun z hz => by have := h1 z hz; omega]
      simp
    · by_cases he : x = y
      · subst he
        have e : adS x (false, acc) x = (true, acc ++ [x]) := by simp [adS]
        rw [e, if_neg hlt, if_pos rfl, ad_done x zs _ h1]
        simp
      · have e : adS x (false, acc) y = (false, acc ++ [y]) := by simp [adS, show ¬ x ≤ y by omega, show ¬ y = x by omega]
        rw [e, if_neg hlt, if_neg he]
        have := ad_ins x zs (acc ++ [y]) h2
        dsimp only at this ⊢
        rw [this]; simp
theorem adF_eq {x : Int} {zs : List Int} (h : Asc zs) : adF x zs = ins x zs := by
  have := ad_ins x zs [] h
  rw [List.nil_append] at this
  exact this
theorem ins_len (x : Int) : ∀ zs : List Int, (ins x zs).length ≤ zs.length + 1
  | [] => by simp [ins]
  | y :: zs => by
    unfold ins
    have := ins_len x zs
    split
    · simp
    · split <;> simp; omega

theorem ad_below {w wr w4 : World} {o : Obj} {e : TypeId} {size : Nat} {v : Value} {n : Nat} {xs : List Value} (hb : Below w.heap.size w wr) (hg : (wr.alloc o).grownBy w4 v.ownBlock) (hr : wr.ownsRow w.heap.size e size v n xs) : Below w.heap.size w w4 :=
  (hb.alloc hb.size o).grown hg (by have := hb.size; simp; omega) (fun i hi => (hr.lt i hi).1)

/-- the row that add makes, after so many rounds -/
def AdR (w : World) (lo : Nat) (v : Value) (os : List Int) : Prop := w.ownsRow lo 3 1 v os.length (os.map (Value.int .i64))

end Go.Proofs.Ytooihffijpndoaa
