/-
  A region that draws its order and whose last operation waits, in one step or in more, for all others: the others are a region by themselves, and behind it comes the last one.
-/
import Derived.Test.YtmkahbbcagfbhaaGreatDoorRows
import Derived.Orders
import Derived.WalkKit
namespace Go.Proofs.YtmkahbbcagfbhaaGreatDoor
set_option linter.unusedVariables false

section
variable {P : Program} {md : Region.Mode}

/-- what is asked behind the others: the last one, then what was asked -/
def thenLastX (P : Program) (ops : Array Oper) (o : Oper) (Q : Exit → Act → World → Prop) : Exit → Act → World → Prop
  | .normal, a, w => wpList P ops Q [o] a w
  | e, a, w => Q e a w

theorem Oper.wp_postsX {o : Oper} {a : Act} {w : World} {K K' : Act → World → Prop} {Q Q' : Exit → Act → World → Prop} (h : ∀ a w, K a w → K' a w) (hp : ∀ c a w, Q (.panic c) a w → Q' (.panic c) a w) (hl : LetsOut Q → LetsOut Q')
    (hh : o.wp P a w K Q) : o.wp P a w K' Q' := by
  unfold Oper.wp at *
  generalize (execOp a.eval o).run P w = r at *
  cases r with
  | ok n w' =>
    cases n <;> simp only [Oper.upon] at hh ⊢ <;>
      first
        | exact h _ _ hh
        | exact Calls.mono hh (fun e w'' he => by cases e <;> first | exact h _ _ he | exact hp _ _ _ he | exact hl he)
        | exact Rows.mono hh (fun _ _ he => h _ _ he)
  | halt x w' => cases x <;> simp only [Oper.upon] at hh ⊢ <;> first | exact hp _ _ _ hh | exact hh

/-- no operation is guarded; each waits for earlier ones alone; the last one waits for all others -/
def lastBX (md : Region.Mode) (pre : Array Oper) (o : Oper) : Bool :=
  (pre.push o).all (fun p => p.guard.isNone) &&
  (List.range pre.size).all (fun i => ((pre[i]?).map fun p => p.after.all fun e => !Region.binds md e || decide (e.on < i)).getD false) &&
  (List.range pre.size).all (fun i => (o.after.any fun e => Region.binds md e && decide (e.on = i)) || (List.range pre.size).any fun j => decide (i < j) && ((pre[j]?).map fun p => p.after.any fun e => Region.binds md e && decide (e.on = i)).getD false) &&
  o.after.all (fun e => !Region.binds md e || decide (e.on < pre.size))

structure LastOkX (md : Region.Mode) (pre : Array Oper) (o : Oper) : Prop where
  guard : ∀ p, p = o ∨ p ∈ pre → p.guard = none
  early : ∀ i p, pre[i]? = some p → ∀ e ∈ p.after, Region.binds md e = true → e.on < i
  waits : ∀ i, i < pre.size → (∃ e ∈ o.after, Region.binds md e = true ∧ e.on = i) ∨ ∃ j p, i < j ∧ pre[j]? = some p ∧ ∃ e ∈ p.after, Region.binds md e = true ∧ e.on = i
  last : ∀ e ∈ o.after, Region.binds md e = true → e.on < pre.size

theorem lastB_okX {pre : Array Oper} {o : Oper} (h : lastBX md pre o = true) : LastOkX md pre o := by
  simp only [lastBX, Bool.and_eq_true, List.all_eq_true, List.mem_range] at h
  obtain ⟨⟨⟨h1, h2⟩, h3⟩, h4⟩ := h
  rw [Array.all_eq_true_iff_forall_mem] at h1 h4
  refine ⟨fun p hp => ?_, fun i p hp e he hb => ?_, fun i hi => ?_, fun e he hb => ?_⟩
  · have := h1 p (by rw [Array.mem_push]; exact hp.symm)
    simpa using this
  · have hi := (Array.getElem?_eq_some_iff.1 hp).1
    have := h2 i hi
    rw [hp, Option.map_some, Option.getD_some, Array.all_eq_true_iff_forall_mem] at this
    have := this e he
    simpa [hb] using this
  · have := h3 i hi
    rw [Bool.or_eq_true] at this
    rcases this with this | this
    · rw [Array.any_eq_true'] at this
      obtain ⟨e, he, hh⟩ := this
      simp only [Bool.and_eq_true, decide_eq_true_eq] at hh
      exact .inl ⟨e, he, hh⟩
    · rw [List.any_eq_true] at this
      obtain ⟨j, hj, hh⟩ := this
      rw [Bool.and_eq_true, decide_eq_true_eq] at hh
      cases hp : pre[j]? with
      | none => rw [hp] at hh; cases hh.2
      | some p =>
        have h5 := hh.2
        rw [hp, Option.map_some, Option.getD_some, Array.any_eq_true'] at h5
        obtain ⟨e, he, h6⟩ := h5
        simp only [Bool.and_eq_true, decide_eq_true_eq] at h6
        exact .inr ⟨j, p, hh.1, hp, e, he, h6⟩
  · have := h4 e he
    simpa [hb] using this

theorem gDX (l : Array Bool) (i : Nat) (d : Bool) : l.getD i d = (l[i]?).getD d := by
  simp [Array.getD_eq_getD_getElem?]

/-- the two regions are at the same point, the last one still to come -/
structure AgreeX (n : Nat) (lo lp : Array Bool) : Prop where
  so : lo.size = n + 1
  sp : lp.size = n
  same : ∀ i, i < n → lo[i]? = lp[i]?
  top : lo[n]? = some false

theorem AgreeX.getD {n : Nat} {lo lp : Array Bool} (h : AgreeX n lo lp) {i : Nat} (hi : i < n) (d : Bool) : lo.getD i d = lp.getD i d := by
  rw [gDX, gDX, h.same i hi]
theorem AgreeX.getTop {n : Nat} {lo lp : Array Bool} (h : AgreeX n lo lp) (d : Bool) : lo.getD n d = false := by
  rw [gDX, h.top]; rfl
theorem AgreeX.set {n : Nat} {lo lp : Array Bool} (h : AgreeX n lo lp) {i : Nat} (hi : i < n) : AgreeX n (lo.setIfInBounds i true) (lp.setIfInBounds i true) := by
  refine ⟨by simpa using h.so, by simpa using h.sp, fun j hj => ?_, ?_⟩
  · rw [Array.getElem?_setIfInBounds, Array.getElem?_setIfInBounds, h.same j hj, h.so, h.sp]
    by_cases hij : i = j
    · subst hij; rw [if_pos rfl, if_pos rfl, if_pos (by omega), if_pos hi]
    · rw [if_neg hij, if_neg hij]
  · rw [Array.getElem?_setIfInBounds, if_neg (by omega), h.top]

section
variable {pre : Array Oper} {o : Oper} {lo lp : Array Bool}

theorem push_getX {i : Nat} (hi : i < pre.size) : (pre.push o)[i]? = pre[i]? := by
  rw [Array.getElem?_push, if_neg (by omega)]
theorem push_topX : (pre.push o)[pre.size]? = some o := by
  rw [Array.getElem?_push, if_pos rfl]

theorem ready_preX (hk : LastOkX md pre o) (hg : AgreeX pre.size lo lp) {i : Nat} (hi : i < pre.size) (h : i ∈ Region.ready md (pre.push o) lo) : i ∈ Region.ready md pre lp := by
  rw [mem_ready] at h ⊢
  obtain ⟨h1, p, hp, h2⟩ := h
  rw [push_getX hi] at hp
  refine ⟨by rw [← hg.getD hi]; exact h1, p, hp, fun e he hb => ?_⟩
  have := hk.early i p hp e he hb
  rw [← hg.getD (by omega)]
  exact h2 e he hb
/-- what has come up, had all that it waits for -/
def ClosedB (md : Region.Mode) (pre : Array Oper) (lp : Array Bool) : Prop := ∀ (i : Nat) (p : Oper), lp[i]? = some true → pre[i]? = some p → ∀ e ∈ p.after, Region.binds md e = true → lp[e.on]? = some true
theorem closed_set (hk : LastOkX md pre o) (hg : AgreeX pre.size lo lp) (hc : ClosedB md pre lp) {i : Nat} (h : i ∈ Region.ready md pre lp) : ClosedB md pre (lp.setIfInBounds i true) := by
  intro k p hk1 hp e he hb
  have hkp := (Array.getElem?_eq_some_iff.1 hp).1
  have hlt := hk.early k p hp e he hb
  have hsz := hg.sp
  have stay : ∀ q, q < pre.size → lp[q]? = some true → (lp.setIfInBounds i true)[q]? = some true := by
    intro q hq hl
    rw [Array.getElem?_setIfInBounds]
    split
    · rename_i e; rw [if_pos (by omega)]
    · exact hl
  refine stay _ (by omega) ?_
  rw [Array.getElem?_setIfInBounds] at hk1
  by_cases hik : i = k
  · subst hik
    rw [mem_ready] at h
    obtain ⟨_, q, hq, h2⟩ := h
    rw [hp] at hq
    cases hq
    have h4 := h2 e he hb
    rw [gDX] at h4
    cases hl : lp[e.on]? with
    | none => rw [Array.getElem?_eq_none_iff] at hl; omega
    | some b => rw [hl] at h4; simp at h4; rw [h4]
  · rw [if_neg hik] at hk1
    exact hc k p hk1 hp e he hb
/-- the last one comes up only when all others have -/
theorem ready_topX (hk : LastOkX md pre o) (hg : AgreeX pre.size lo lp) (hc : ClosedB md pre lp) (h : pre.size ∈ Region.ready md (pre.push o) lo) : Region.ready md pre lp = [] := by
  rw [mem_ready] at h
  obtain ⟨_, p, hp, h2⟩ := h
  rw [push_topX] at hp
  cases hp
  have all : ∀ d i, pre.size - i = d → i < pre.size → lp[i]? = some true := by
    intro d
    induction d using Nat.strongRecOn with
    | _ d ih =>
      intro i hd hi
      rcases hk.waits i hi with ⟨e, he, hb, rfl⟩ | ⟨j, q, hij, hq, e, he, hb, rfl⟩
      · have h4 := h2 e he hb
        rw [hg.getD hi, gDX] at h4
        have hsz := hg.sp
        cases hl : lp[e.on]? with
        | none => rw [Array.getElem?_eq_none_iff] at hl; omega
        | some b => rw [hl] at h4; simp at h4; rw [h4]
      · have hj := (Array.getElem?_eq_some_iff.1 hq).1
        exact hc j q (ih (pre.size - j) (by omega) j rfl hj) hq e he hb
  rw [List.eq_nil_iff_forall_not_mem]
  intro i hi
  rw [mem_ready] at hi
  obtain ⟨h3, q, hq, _⟩ := hi
  have hlt := (Array.getElem?_eq_some_iff.1 hq).1
  rw [gDX, all _ i rfl hlt] at h3
  simp at h3
/-- where none of the others is ready, all have come up -/
theorem all_listedX (hk : LastOkX md pre o) (hg : AgreeX pre.size lo lp) (h : Region.ready md pre lp = []) : ∀ i, i < pre.size → lp[i]? = some true := by
  intro i
  induction i using Nat.strongRecOn with
  | _ i ih =>
    intro hi
    have hs := hg.sp
    cases hl : lp[i]? with
    | none => rw [Array.getElem?_eq_none_iff] at hl; omega
    | some b =>
      cases b with
      | true => rfl
      | false =>
        exfalso
        obtain ⟨p, hp⟩ : ∃ p, pre[i]? = some p := ⟨_, Array.getElem?_eq_getElem hi⟩
        have : i ∈ Region.ready md pre lp := by
          rw [mem_ready]
          refine ⟨by rw [gDX, hl]; rfl, p, hp, fun e he hb => ?_⟩
          have hlt := hk.early i p hp e he hb
          rw [gDX, ih e.on hlt (by omega)]
          rfl
        rw [h] at this
        cases this
theorem top_readyX (hk : LastOkX md pre o) (hg : AgreeX pre.size lo lp) (h : Region.ready md pre lp = []) : pre.size ∈ Region.ready md (pre.push o) lo := by
  have hall := all_listedX hk hg h
  rw [mem_ready]
  refine ⟨hg.getTop _, o, push_topX, fun e he hb => ?_⟩
  have hlt := hk.last e he hb
  rw [hg.getD hlt, gDX, hall e.on hlt]
  rfl
theorem ready_doneX (hk : LastOkX md pre o) (hg : AgreeX pre.size lo lp) (h : Region.ready md pre lp = []) : Region.ready md (pre.push o) (lo.setIfInBounds pre.size true) = [] := by
  have hall := all_listedX hk hg h
  rw [List.eq_nil_iff_forall_not_mem]
  intro i hi
  rw [mem_ready] at hi
  obtain ⟨h3, q, hq, _⟩ := hi
  have hlt := (Array.getElem?_eq_some_iff.1 hq).1
  rw [Array.size_push] at hlt
  rw [gDX, Array.getElem?_setIfInBounds, hg.so] at h3
  by_cases hi : pre.size = i
  · rw [if_pos hi, if_pos (by omega)] at h3; simp at h3
  · rw [if_neg hi, hg.same i (by omega), hall i (by omega)] at h3; simp at h3

variable {Q : Exit → Act → World → Prop}

theorem wpOp_pushX (hk : LastOkX md pre o) {i : Nat} (hi : i < pre.size) {K K' : Act → World → Prop} {a : Act} {w : World} (hK : ∀ a w, K a w → K' a w)
    (h : wpOp P pre (thenLastX P (pre.push o) o Q) i K a w) : wpOp P (pre.push o) Q i K' a w := by
  obtain ⟨p, hp⟩ : ∃ p, pre[i]? = some p := ⟨_, Array.getElem?_eq_getElem hi⟩
  have hg := hk.guard p (.inr (Array.mem_of_getElem? hp))
  have hl : LetsOut (thenLastX P (pre.push o) o Q) → LetsOut Q := fun ⟨a, w, h⟩ => ⟨a, w, h⟩
  unfold wpOp at *
  rw [push_getX hi]
  simp only [hp] at h ⊢
  have hw : ∀ l, Region.wanted p l = true := fun l => by simp [Region.wanted, hg]
  rw [if_pos (hw _)] at h ⊢
  exact h.imp (Oper.wp_postsX hK (fun c a w h => h) hl) (fun h => ⟨h.1, hl h.2⟩)

theorem wpAny_lastX (hk : LastOkX md pre o) : ∀ (fuel : Nat) (lo lp : Array Bool) (a : Act) (w : World), AgreeX pre.size lo lp → ClosedB md pre lp →
    wpAny P md pre (thenLastX P (pre.push o) o Q) fuel lp a w → wpAny P md (pre.push o) Q (fuel + 1) lo a w
  | fuel, lo, lp, a, w, hg, hc, h => by
    have hnil : Region.ready md pre lp = [] → thenLastX P (pre.push o) o Q .normal a w := by
      cases fuel with
      | zero => exact fun _ => h.2
      | succ f => exact h.1
    refine ⟨fun he => ?_, fun i hi => ?_⟩
    · exfalso
      have : Region.ready md pre lp = [] := by
        rw [List.eq_nil_iff_forall_not_mem]
        intro i hi
        have hi' := hi
        rw [mem_ready] at hi
        obtain ⟨h1, p, hp, h2⟩ := hi
        have hlt := (Array.getElem?_eq_some_iff.1 hp).1
        have : i ∈ Region.ready md (pre.push o) lo := by
          rw [mem_ready]
          refine ⟨by rw [hg.getD hlt]; exact h1, p, by rw [push_getX hlt]; exact hp, fun e he hb => ?_⟩
          have := hk.early i p hp e he hb
          rw [hg.getD (by omega)]
          exact h2 e he hb
        rw [he] at this
        cases this
      have := top_readyX hk hg this
      rw [he] at this
      cases this
    · have hlt : i < pre.size + 1 := by
        rw [mem_ready] at hi
        obtain ⟨_, p, hp, _⟩ := hi
        have := (Array.getElem?_eq_some_iff.1 hp).1
        simpa using this
      rcases Nat.lt_or_ge i pre.size with hi' | hi'
      · have hr := ready_preX hk hg hi' hi
        cases fuel with
        | zero => rw [h.1] at hr; cases hr
        | succ f => exact wpOp_pushX hk hi' (fun a' w' h' => wpAny_lastX hk f _ _ a' w' (hg.set hi') (closed_set hk hg hc hr) h') (h.2 i hr)
      · obtain rfl : i = pre.size := by omega
        have hn := ready_topX hk hg hc hi
        have hq : wpList P (pre.push o) Q [o] a w := hnil hn
        have hd := ready_doneX hk hg hn
        have hgd := hk.guard o (.inl rfl)
        have hw : ∀ l, Region.wanted o l = true := fun l => by simp [Region.wanted, hgd]
        simp only [wpList] at hq
        unfold wpOp
        rw [push_topX]
        simp only
        rw [if_pos (hw _)] at hq ⊢
        refine hq.imp (Oper.wp_postsX (fun a' w' h' => ?_) (fun _ _ _ h => h) id) id
        cases fuel with
        | zero => exact ⟨hd, h'⟩
        | succ f => exact ⟨fun _ => h', fun i hi => by rw [hd] at hi; cases hi⟩
end

/-- THE LAW: the region without its last operation, and behind it that one. -/
theorem wp_region_lastX {id : Nat} {pre : Array Oper} {o : Oper} {Q : Exit → Act → World → Prop} {a : Act} {w : World} (hm : P.follows .mixedOrders = true) (hB : lastBX .any pre o = true)
    (h : wpAny P .any pre (thenLastX P (pre.push o) o Q) pre.size (Array.replicate pre.size false) a { w with drawn := w.drawn + 1 }) : (Code.region id (pre.push o) true).wp P Q a w := by
  refine wp_region_any hm ?_
  rw [Array.size_push]
  refine wpAny_lastX (lastB_okX hB) pre.size _ _ a _ ⟨by simp, by simp, fun i hi => ?_, ?_⟩ (fun i p hi => ?_) h
  · rw [Array.getElem?_replicate, Array.getElem?_replicate, if_pos (by omega), if_pos hi]
  · rw [Array.getElem?_replicate, if_pos (by omega)]
  · rw [Array.getElem?_replicate] at hi
    split at hi <;> cases hi
/-- the same, of a region that is written out -/
theorem wp_region_cutX {id : Nat} {ops : Array Oper} {o : Oper} {Q : Exit → Act → World → Prop} {a : Act} {w : World} (ho : ops.back? = some o) (hm : P.follows .mixedOrders = true) (hB : lastBX .any ops.pop o = true)
    (h : wpAny P .any ops.pop (thenLastX P ops o Q) (ops.size - 1) (Array.replicate (ops.size - 1) false) a w.drew) : (Code.region id ops true).wp P Q a w := by
  have e : ops = ops.pop.push o := by
    rw [Array.back?_eq_getElem?] at ho
    obtain ⟨hlt, rfl⟩ := Array.getElem?_eq_some_iff.1 ho
    apply Array.ext_getElem?
    intro i
    rw [Array.getElem?_push, Array.size_pop]
    by_cases hi : i = ops.size - 1
    · subst hi; rw [if_pos rfl, Array.getElem?_eq_getElem hlt]
    · rw [if_neg hi]
      rcases Nat.lt_or_ge i (ops.size - 1) with h | h
      · rw [Array.getElem?_pop, if_pos h]
      · rw [Array.getElem?_pop, if_neg (by omega), Array.getElem?_eq_none (by omega)]
  rw [e]
  refine wp_region_lastX hm hB ?_
  rw [← e, Array.size_pop]
  exact h
end
end Go.Proofs.YtmkahbbcagfbhaaGreatDoor
