/-
  Tokens as plain data: what the bytes of a text come to, one behind the other; what holds of that. No statement is proved here.
-/
import Derived.Test.YtmkahbbcagfbhaaGreatDoorRows
import Derived.Laws.RangeAny
import Derived.WalkKit
import Derived.ProofKit
import Derived.OpenShut
import Derived.Deep.Slices
namespace Go.Proofs.YtmkahbbcagfbhaaGreatDoor
open Go.ChangeShapes Go.WideShapes Go.ChangeAt Go.RowKit
set_option linter.unusedVariables false

/-- a token: its kind (0 a name, 1 a mark) and its text -/
abbrev Tk := Int × ByteArray
/-- may it stand in a name -/
def nmI (c : Int) : Bool := (decide (97 ≤ c) && decide (c ≤ 122)) || (decide (65 ≤ c) && decide (c ≤ 90)) || (decide (48 ≤ c) && decide (c ≤ 57)) || decide (c = 95) || decide (c = 39)
/-- is it a mark -/
def mkI (c : Int) : Bool := decide (c = 40) || decide (c = 41) || decide (c = 91) || decide (c = 93) || decide (c = 123) || decide (c = 125) || decide (c = 58) || decide (c = 46)
/-- does it stand between -/
def blI (c : Int) : Bool := decide (c = 32) || decide (c = 9) || decide (c = 10)
/-- a byte as a number -/
def bI (c : UInt8) : Int := (c.toNat : Int)
theorem bI_lt (c : UInt8) : 0 ≤ bI c ∧ bI c < 256 := by
  have := c.toNat_lt
  unfold bI; omega

/-- how far a text has been read: the tokens, the name that may go on, whether a note does -/
structure LSt where
  out : List Tk
  cur : List UInt8
  note : Bool
/-- the name ends -/
def flu (o : List Tk) (cur : List UInt8) : List Tk := if cur = [] then o else o ++ [(0, ⟨cur.toArray⟩)]
/-- one byte -/
def stp (s : LSt) (c : UInt8) : Option LSt :=
  if s.note = true then some ⟨s.out, s.cur, decide (bI c ≠ 10)⟩
  else if nmI (bI c) = true then some ⟨s.out, s.cur ++ [c], false⟩
  else if bI c = 37 then some ⟨flu s.out s.cur, [], true⟩
  else if mkI (bI c) = true then some ⟨flu s.out s.cur ++ [(1, ⟨#[c]⟩)], [], false⟩
  else if blI (bI c) = true then some ⟨flu s.out s.cur, [], false⟩
  else none
/-- bytes -/
def runL : LSt → List UInt8 → Option LSt
  | s, [] => some s
  | s, c :: l => (stp s c).bind fun t => runL t l
/-- the end -/
def fin (s : LSt) : List Tk := flu s.out s.cur
/-- the tokens of bytes -/
def toksL (l : List UInt8) : Option (List Tk) := (runL ⟨[], [], false⟩ l).map fin
/-- what is told of a text: its tokens, the error's number -/
def lexT (l : List UInt8) : List Tk := if 20000 < l.length then [] else (toksL l).getD []
def lexE (l : List UInt8) : Int := if 20000 < l.length then 4 else if (toksL l).isSome = true then 0 else 8
/-- the text of tokens -/
def txtL : Bool → List Tk → List UInt8
  | _, [] => []
  | p, t :: l => (if p = true ∧ t.1 = 0 then [32] else []) ++ t.2.data.toList ++ txtL (decide (t.1 = 0)) l

theorem nmI_high {c : Int} (h : 128 ≤ c) : nmI c = false := by
  unfold nmI
  simp only [Bool.or_eq_false_iff, Bool.and_eq_false_iff, decide_eq_false_iff_not]
  omega
theorem mkI_high {c : Int} (h : 128 ≤ c) : mkI c = false := by
  unfold mkI
  simp only [Bool.or_eq_false_iff, decide_eq_false_iff_not]
  omega
theorem blI_high {c : Int} (h : 128 ≤ c) : blI c = false := by
  unfold blI
  simp only [Bool.or_eq_false_iff, decide_eq_false_iff_not]
  omega
theorem mk_notnm {c : Int} (h : mkI c = true) : nmI c = false ∧ c ≠ 37 ∧ c ≠ 10 ∧ blI c = false := by
  unfold mkI at h
  simp only [Bool.or_eq_true, decide_eq_true_eq] at h
  rcases h with ((((((rfl | rfl) | rfl) | rfl) | rfl) | rfl) | rfl) | rfl <;> decide
theorem bl_notnm {c : Int} (h : blI c = true) : nmI c = false ∧ c ≠ 37 ∧ mkI c = false := by
  unfold blI at h
  simp only [Bool.or_eq_true, decide_eq_true_eq] at h
  rcases h with (rfl | rfl) | rfl <;> decide
theorem nm_not {c : Int} (h : nmI c = true) : c ≠ 37 ∧ c ≠ 10 ∧ blI c = false ∧ mkI c = false := by
  refine ⟨?_, ?_, ?_, ?_⟩
  · rintro rfl; revert h; decide
  · rintro rfl; revert h; decide
  · cases hb : blI c
    · rfl
    · rw [(bl_notnm hb).1] at h; cases h
  · cases hb : mkI c
    · rfl
    · rw [(mk_notnm hb).1] at h; cases h

theorem runL_append (s : LSt) (a b : List UInt8) : runL s (a ++ b) = (runL s a).bind fun t => runL t b := by
  induction a generalizing s with
  | nil => rfl
  | cons c a ih =>
    rw [List.cons_append, runL, runL]
    cases stp s c with
    | none => rfl
    | some t => exact ih t
theorem flu_nil (o : List Tk) : flu o [] = o := rfl
theorem flu_cons (o : List Tk) {cur : List UInt8} (h : cur ≠ []) : flu o cur = o ++ [(0, ⟨cur.toArray⟩)] := if_neg h
theorem flu_app (o p : List Tk) (cur : List UInt8) : flu (o ++ p) cur = o ++ flu p cur := by
  unfold flu
  split
  · rfl
  · rw [List.append_assoc]
/-- what was told ahead stays ahead -/
theorem stp_out (o p : List Tk) (cur : List UInt8) (n : Bool) (c : UInt8) : stp ⟨o ++ p, cur, n⟩ c = (stp ⟨p, cur, n⟩ c).map fun t => ⟨o ++ t.out, t.cur, t.note⟩ := by
  unfold stp
  simp only [flu_app]
  repeat' split
  all_goals simp
theorem runL_out (o : List Tk) (l : List UInt8) : ∀ (p : List Tk) (cur : List UInt8) (n : Bool), runL ⟨o ++ p, cur, n⟩ l = (runL ⟨p, cur, n⟩ l).map fun t => ⟨o ++ t.out, t.cur, t.note⟩ := by
  induction l with
  | nil => intro p cur n; rfl
  | cons c l ih =>
    intro p cur n
    rw [runL, runL, stp_out]
    cases stp ⟨p, cur, n⟩ c with
    | none => rfl
    | some t => exact ih t.out t.cur t.note
theorem runL_from (o : List Tk) (l : List UInt8) : runL ⟨o, [], false⟩ l = (runL ⟨[], [], false⟩ l).map fun t => ⟨o ++ t.out, t.cur, t.note⟩ := by
  have := runL_out o l [] [] false
  rwa [List.append_nil] at this
theorem toks_from (o : List Tk) (l : List UInt8) : (runL ⟨o, [], false⟩ l).map fin = (toksL l).map (o ++ ·) := by
  rw [runL_from, toksL]
  cases runL ⟨[], [], false⟩ l with
  | none => rfl
  | some t => simp [fin, flu_app]

/-- what holds of a reading: in a note there is no name -/
def LOk (s : LSt) : Prop := s.note = true → s.cur = []
theorem stp_ok {s t : LSt} {c : UInt8} (h : LOk s) (hs : stp s c = some t) : LOk t := by
  unfold stp at hs
  split at hs
  · rename_i hn
    cases hs
    exact fun _ => h hn
  · split at hs
    · cases hs; exact fun e => by cases e
    · split at hs
      · cases hs; exact fun _ => rfl
      · split at hs
        · cases hs; exact fun _ => rfl
        · split at hs
          · cases hs; exact fun _ => rfl
          · cases hs
theorem runL_ok (l : List UInt8) : ∀ {s t : LSt}, LOk s → runL s l = some t → LOk t := by
  induction l with
  | nil => intro s t h hs; cases hs; exact h
  | cons c l ih =>
    intro s t h hs
    rw [runL] at hs
    cases hc : stp s c with
    | none => rw [hc] at hs; cases hs
    | some u => rw [hc] at hs; exact ih (stp_ok h hc) hs
theorem lok0 (o : List Tk) : LOk ⟨o, [], false⟩ := fun e => by cases e
theorem lok0' (o : List Tk) (cur : List UInt8) : LOk ⟨o, cur, false⟩ := fun e => by cases e
/-- a line feed -/
theorem stp_feed {s : LSt} (h : LOk s) : stp s 10 = some ⟨fin s, [], false⟩ := by
  obtain ⟨o, cur, n⟩ := s
  cases n with
  | false => rfl
  | true =>
    have : cur = [] := h rfl
    subst this
    rfl
/-- in a note all but a line feed is passed -/
theorem runL_note (o : List Tk) (cur : List UInt8) (l : List UInt8) (h : ∀ c ∈ l, bI c ≠ 10) : runL ⟨o, cur, true⟩ l = some ⟨o, cur, true⟩ := by
  induction l with
  | nil => rfl
  | cons c l ih =>
    have hc := h c (List.mem_cons_self ..)
    rw [runL, show stp ⟨o, cur, true⟩ c = some ⟨o, cur, true⟩ by unfold stp; simp [hc]]
    exact ih fun d hd => h d (List.mem_cons_of_mem _ hd)
/-- a name's bytes -/
theorem runL_name (o : List Tk) (l : List UInt8) (h : ∀ c ∈ l, nmI (bI c) = true) : ∀ cur, runL ⟨o, cur, false⟩ l = some ⟨o, cur ++ l, false⟩ := by
  induction l with
  | nil => intro cur; rw [List.append_nil]; rfl
  | cons c l ih =>
    intro cur
    have hc := h c (List.mem_cons_self ..)
    rw [runL, show stp ⟨o, cur, false⟩ c = some ⟨o, cur ++ [c], false⟩ by unfold stp; simp [hc]]
    show runL ⟨o, cur ++ [c], false⟩ l = _
    rw [ih (fun d hd => h d (List.mem_cons_of_mem _ hd)), List.append_assoc]; rfl
theorem runL_feed {s : LSt} (h : LOk s) (l : List UInt8) : runL s (10 :: l) = runL ⟨fin s, [], false⟩ l := by rw [runL, stp_feed h]; rfl
theorem stp_bad {o : List Tk} {cur : List UInt8} {c : UInt8} (h1 : nmI (bI c) = false) (h2 : bI c ≠ 37) (h3 : mkI (bI c) = false) (h4 : blI (bI c) = false) : stp ⟨o, cur, false⟩ c = none := by
  unfold stp
  simp [h1, h2, h3, h4]

/-! ### Tokens that may be told -/
def GoodT (t : Tk) : Prop := (t.1 = 1 ∧ ∃ c : UInt8, t.2 = ⟨#[c]⟩ ∧ mkI (bI c) = true) ∨ (t.1 = 0 ∧ t.2.data.toList ≠ [] ∧ ∀ c ∈ t.2.data.toList, nmI (bI c) = true)
def GoodS (s : LSt) : Prop := (∀ t ∈ s.out, GoodT t) ∧ ∀ c ∈ s.cur, nmI (bI c) = true
theorem flu_good {o : List Tk} {cur : List UInt8} {n : Bool} (h : GoodS ⟨o, cur, n⟩) : ∀ t ∈ flu o cur, GoodT t := by
  unfold flu
  split
  · exact h.1
  · rename_i hne
    intro t ht
    rcases List.mem_append.1 ht with ht | ht
    · exact h.1 t ht
    · rw [List.mem_singleton] at ht
      subst ht
      exact .inr ⟨rfl, hne, h.2⟩
theorem stp_good {s t : LSt} {c : UInt8} (h : GoodS s) (hs : stp s c = some t) : GoodS t := by
  unfold stp at hs
  have hf := flu_good (o := s.out) (cur := s.cur) h
  split at hs
  · cases hs; exact h
  · split at hs
    · rename_i hn
      cases hs
      refine ⟨h.1, fun d hd => ?_⟩
      rcases List.mem_append.1 hd with hd | hd
      · exact h.2 d hd
      · rw [List.mem_singleton] at hd; subst hd; exact hn
    · split at hs
      · cases hs; exact ⟨hf, fun d hd => by cases hd⟩
      · split at hs
        · rename_i hm
          cases hs
          refine ⟨fun d hd => ?_, fun d hd => by cases hd⟩
          rcases List.mem_append.1 hd with hd | hd
          · exact hf d hd
          · rw [List.mem_singleton] at hd; subst hd; exact .inl ⟨rfl, c, rfl, hm⟩
        · split at hs
          · cases hs; exact ⟨hf, fun d hd => by cases hd⟩
          · cases hs
theorem runL_good (l : List UInt8) : ∀ {s t : LSt}, GoodS s → runL s l = some t → GoodS t := by
  induction l with
  | nil => intro s t h hs; cases hs; exact h
  | cons c l ih =>
    intro s t h hs
    rw [runL] at hs
    cases hc : stp s c with
    | none => rw [hc] at hs; cases hs
    | some u => rw [hc] at hs; exact ih (stp_good h hc) hs
theorem toks_good {l : List UInt8} {x : List Tk} (h : toksL l = some x) : ∀ t ∈ x, GoodT t := by
  unfold toksL at h
  cases hr : runL ⟨[], [], false⟩ l with
  | none => rw [hr] at h; cases h
  | some s =>
    rw [hr] at h
    cases h
    exact flu_good (o := s.out) (cur := s.cur) (runL_good l (s := ⟨[], [], false⟩) ⟨(fun t ht => by cases ht), (fun t ht => by cases ht)⟩ hr)
/-- what is read of the text of tokens that may be told -/
theorem run_txt (l : List Tk) (hl : ∀ t ∈ l, GoodT t) : ∀ (o : List Tk) (cur : List UInt8) (p : Bool), (p = false → cur = []) → ∃ s, runL ⟨o, cur, false⟩ (txtL p l) = some s ∧ fin s = flu o cur ++ l := by
  induction l with
  | nil => intro o cur p _; exact ⟨_, rfl, by simp [fin]⟩
  | cons t l ih =>
    intro o cur p hp
    have ih := ih fun u hu => hl u (List.mem_cons_of_mem _ hu)
    obtain ⟨k, s⟩ := t
    rcases hl _ (List.mem_cons_self ..) with ⟨hk, c, hs, hm⟩ | ⟨hk, hne, hn⟩
    · simp only at hk hs
      subst hk; subst hs
      obtain ⟨h1, h2, _, _⟩ := mk_notnm hm
      have e : txtL p ((1, ⟨#[c]⟩) :: l) = c :: txtL false l := by simp [txtL]
      rw [e, runL, show stp ⟨o, cur, false⟩ c = some ⟨flu o cur ++ [(1, ⟨#[c]⟩)], [], false⟩ by unfold stp; simp [h1, h2, hm]]
      obtain ⟨u, hu, hf⟩ := ih (flu o cur ++ [(1, ⟨#[c]⟩)]) [] false fun _ => rfl
      exact ⟨u, hu, by rw [hf, flu_nil, List.append_assoc]; rfl⟩
    · simp only at hk hne hn
      subst hk
      have key : ∀ o', ∃ u, runL ⟨o', [], false⟩ (s.data.toList ++ txtL true l) = some u ∧ fin u = o' ++ [(0, s)] ++ l := by
        intro o'
        obtain ⟨u, hu, hf⟩ := ih o' s.data.toList true fun e => by cases e
        refine ⟨u, ?_, ?_⟩
        · rw [runL_append, runL_name _ _ hn]; exact hu
        · rw [hf, flu_cons _ hne]
      cases p with
      | false =>
        have := hp rfl
        subst this
        rw [show txtL false ((0, s) :: l) = s.data.toList ++ txtL true l by simp [txtL], flu_nil]
        obtain ⟨u, hu, hf⟩ := key o
        exact ⟨u, hu, by rw [hf, List.append_assoc]; rfl⟩
      | true =>
        rw [show txtL true ((0, s) :: l) = 32 :: (s.data.toList ++ txtL true l) by simp [txtL], runL, show stp ⟨o, cur, false⟩ 32 = some ⟨flu o cur, [], false⟩ from rfl]
        obtain ⟨u, hu, hf⟩ := key (flu o cur)
        exact ⟨u, hu, by rw [hf, List.append_assoc]; rfl⟩
theorem toks_txt {l : List Tk} (hl : ∀ t ∈ l, GoodT t) : toksL (txtL false l) = some l := by
  obtain ⟨s, hs, hf⟩ := run_txt l hl [] [] false fun _ => rfl
  rw [toksL, hs, Option.map_some, hf, flu_nil]; rfl

/-! ### Texts put together -/
/-- two texts with a line feed between -/
theorem toks_join (a b : List UInt8) : toksL (a ++ 10 :: b) = (toksL a).bind fun x => (toksL b).map (x ++ ·) := by
  rw [toksL, runL_append]
  unfold toksL
  cases ha : runL ⟨[], [], false⟩ a with
  | none => rfl
  | some s =>
    rw [Option.bind_some, runL_feed (runL_ok a (lok0 []) ha), toks_from, toksL]
    rfl
/-- blanks and a note behind each line feed -/
def insL : List UInt8 := [32, 9, 37, 32, 97, 32, 40, 110, 111, 116, 101, 10]
def moreL : List UInt8 → List UInt8
  | [] => []
  | c :: l => c :: ((if bI c = 10 then insL else []) ++ moreL l)
theorem run_ins (o : List Tk) : runL ⟨o, [], false⟩ insL = some ⟨o, [], false⟩ := rfl
theorem run_more (l : List UInt8) : ∀ {s : LSt}, LOk s → runL s (moreL l) = runL s l := by
  induction l with
  | nil => intro s _; rfl
  | cons c l ih =>
    intro s hs
    rw [moreL, runL, runL]
    cases hc : stp s c with
    | none => rfl
    | some t =>
      show runL t (_ ++ moreL l) = runL t l
      split
      · rename_i h10
        have e : c = 10 := UInt8.toNat_inj.1 (by unfold bI at h10; simp; omega)
        subst e
        rw [stp_feed hs] at hc
        cases hc
        rw [runL_append, run_ins]
        exact ih (lok0 _)
      · exact ih (stp_ok hs hc)
theorem toks_more (l : List UInt8) : toksL (moreL l) = toksL l := by rw [toksL, run_more l (lok0 [])]; rfl
theorem more_len (l : List UInt8) : (moreL l).length ≤ 13 * l.length := by
  induction l with
  | nil => exact Nat.le_refl _
  | cons c l ih =>
    rw [moreL, List.length_cons, List.length_append, List.length_cons]
    split
    · rw [show insL.length = 12 from rfl]; omega
    · rw [List.length_nil]; omega
/-- no note in a text without its sign -/
theorem run_nonote (l : List UInt8) (h : ∀ c ∈ l, bI c ≠ 37) : ∀ {s t : LSt}, s.note = false → runL s l = some t → t.note = false := by
  induction l with
  | nil => intro s t hn hs; cases hs; exact hn
  | cons c l ih =>
    intro s t hn hs
    rw [runL] at hs
    have hc := h c (List.mem_cons_self ..)
    cases hu : stp s c with
    | none => rw [hu] at hs; cases hs
    | some u =>
      rw [hu] at hs
      refine ih (fun d hd => h d (List.mem_cons_of_mem _ hd)) ?_ hs
      unfold stp at hu
      rw [if_neg (by rw [hn]; exact Bool.false_ne_true)] at hu
      split at hu
      · cases hu; rfl
      · split at hu
        · cases hu; rfl
        · split at hu
          · cases hu; rfl
          · cases hu
/-- what stands behind a percent sign does not matter -/
theorem toks_note (a n b : List UInt8) (ha : ∀ c ∈ a, bI c ≠ 37) (hn : ∀ c ∈ n, bI c ≠ 10) : toksL (a ++ 32 :: 37 :: (n ++ 10 :: b)) = toksL (a ++ 10 :: b) := by
  unfold toksL
  rw [runL_append, runL_append]
  cases hr : runL ⟨[], [], false⟩ a with
  | none => rfl
  | some s =>
    obtain ⟨o, cur, nt⟩ := s
    have h1 : nt = false := run_nonote a ha (s := ⟨[], [], false⟩) (t := ⟨o, cur, nt⟩) rfl hr
    subst h1
    rw [Option.bind_some, Option.bind_some, runL_feed (s := ⟨o, cur, false⟩) (lok0' o cur), runL, show stp ⟨o, cur, false⟩ 32 = some ⟨flu o cur, [], false⟩ from rfl, Option.bind_some, runL,
      show stp ⟨flu o cur, [], false⟩ 37 = some ⟨flu o cur, [], true⟩ from rfl, Option.bind_some, runL_append, runL_note _ _ n hn, Option.bind_some, runL_feed (s := ⟨flu o cur, [], true⟩) (fun _ => rfl)]
    rfl
/-- the bytes of tokens -/
def bytesL (x : List Tk) : List UInt8 := x.flatMap fun t => t.2.data.toList
theorem bytes_flu (o : List Tk) (cur : List UInt8) : bytesL (flu o cur) = bytesL o ++ cur := by
  unfold flu
  split
  · rename_i h; subst h; rw [List.append_nil]
  · simp [bytesL]
def keptL (l : List UInt8) : List UInt8 := l.filter fun c => !(blI (bI c))
theorem run_bytes (l : List UInt8) (h : ∀ c ∈ l, bI c ≠ 37) : ∀ {s t : LSt}, s.note = false → runL s l = some t → bytesL (fin t) = bytesL (fin s) ++ keptL l := by
  induction l with
  | nil => intro s t hn hs; cases hs; simp [keptL]
  | cons c l ih =>
    intro s t hn hs
    rw [runL] at hs
    have hc := h c (List.mem_cons_self ..)
    obtain ⟨o, cur, nt⟩ := s
    simp only at hn
    subst hn
    cases hu : stp ⟨o, cur, false⟩ c with
    | none => rw [hu] at hs; cases hs
    | some u =>
      rw [hu] at hs
      have ih := ih (fun d hd => h d (List.mem_cons_of_mem _ hd)) (s := u) (t := t)
      unfold stp at hu
      rw [if_neg Bool.false_ne_true] at hu
      split at hu
      · rename_i hm
        cases hu
        rw [ih rfl hs, fin, fin, bytes_flu, bytes_flu]
        simp [keptL, (nm_not hm).2.2.1]
      · split at hu
        · rename_i hm
          cases hu
          rw [ih rfl hs, fin, fin, flu_nil]
          simp [keptL, (mk_notnm hm).2.2.2, bytesL]
        · split at hu
          · rename_i hb
            cases hu
            rw [ih rfl hs, fin, fin, flu_nil]
            simp [keptL, hb]
          · cases hu
theorem toks_bytes {l : List UInt8} (h : ∀ c ∈ l, bI c ≠ 37) {x : List Tk} (hx : toksL l = some x) : bytesL x = keptL l := by
  unfold toksL at hx
  cases hr : runL ⟨[], [], false⟩ l with
  | none => rw [hr] at hx; cases hx
  | some s =>
    rw [hr] at hx
    cases hx
    exact (run_bytes l h (s := ⟨[], [], false⟩) rfl hr).trans rfl
/-- one byte over and over -/
theorem toks_rep (c : UInt8) (n : Nat) (hn : 0 < n) : (toksL (List.replicate n c)).isSome = (toksL [c]).isSome := by
  have hb : ∀ s : LSt, s.note = false → (stp s c).isSome = (stp ⟨[], [], false⟩ c).isSome := by
    intro s hs
    unfold stp
    rw [if_neg (by rw [hs]; exact Bool.false_ne_true), if_neg Bool.false_ne_true]
    repeat' split
    all_goals rfl
  have ht : ∀ s : LSt, s.note = true → (stp s c).isSome = true := by
    intro s hs
    unfold stp
    rw [if_pos hs]
    rfl
  have all : ∀ (k : Nat) (s : LSt), (stp ⟨[], [], false⟩ c).isSome = true → (runL s (List.replicate k c)).isSome = true := by
    intro k
    induction k with
    | zero => intro s _; rfl
    | succ k ih =>
      intro s hc
      rw [List.replicate_succ, runL]
      have : (stp s c).isSome = true := by
        cases hs : s.note with
        | true => exact ht s hs
        | false => rw [hb s hs]; exact hc
      obtain ⟨u, hu⟩ := Option.isSome_iff_exists.1 this
      rw [hu]
      exact ih u hc
  obtain ⟨k, rfl⟩ : ∃ k, n = k + 1 := ⟨n - 1, by omega⟩
  unfold toksL
  rw [Option.isSome_map, Option.isSome_map]
  cases hc : (stp ⟨[], [], false⟩ c).isSome with
  | true =>
    rw [all (k + 1) _ hc, show ([c] : List UInt8) = List.replicate 1 c from rfl, all 1 _ hc]
  | false =>
    have hnone : stp ⟨[], [], false⟩ c = none := by simpa using hc
    rw [List.replicate_succ, runL, runL, hnone]
    rfl
end Go.Proofs.YtmkahbbcagfbhaaGreatDoor
