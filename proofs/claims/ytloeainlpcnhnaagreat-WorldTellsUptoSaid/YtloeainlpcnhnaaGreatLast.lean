/-
  A region that draws its order and whose last operation waits for all others: the others are a region by themselves, and behind it comes the last one.
-/
import Derived.Test.YtloeainlpcnhnaaGreatRows
import Derived.Orders
import Derived.WalkKit
namespace Go.Proofs.YtloeainlpcnhnaaGreat
set_option linter.unusedVariables false

section
variable {P : Program} {md : Region.Mode}

/-- what is asked behind the others: the last one, then what was asked -/
def thenLast (P : Program) (ops : Array Oper) (o : Oper) (Q : Exit → Act → World → Prop) : Exit → Act → World → Prop
  | .normal, a, w => wpList P ops Q [o] a w
  | e, a, w => Q e a w

theorem Oper.wp_posts {o : Oper} {a : Act} {w : World} {K K' : Act → World → Prop} {Q Q' : Exit → Act → World → Prop} (h : ∀ a w, K a w → K' a w) (hp : ∀ c a w, Q (.panic c) a w → Q' (.panic c) a w) (hl : LetsOut Q → LetsOut Q')
    (hh : o.wp P a w K Q) : o.wp P a w K' Q' := by
  unfold Oper.wp at *
  generalize (execOp a.eval o).run P w = r at *
  cases r with
  | ok n w' =>
    cases n <;> simp only [Oper.upon] at hh ⊢ <;>
      first
        | exact h _ _ hh
        | exact Calls.mono hh (fun e w'' he => by cases e <;> first | exact h _ _ he | exact hp _ _ _ he | exact hl he)
        | exact Rows.mono hh (fun _ _ he => h _ _ he)
  | halt x w' => cases x <;> simp only [Oper.upon] at hh ⊢ <;> first | exact hp _ _ _ hh | exact hh

/-- no operation is guarded; each waits for earlier ones alone; the last one waits for all others -/
def lastB (md : Region.Mode) (pre : Array Oper) (o : Oper) : Bool :=
  (pre.push o).all (fun p => p.guard.isNone) &&
  (List.range pre.size).all (fun i => ((pre[i]?).map fun p => p.after.all fun e => !Region.binds md e || decide (e.on < i)).getD false) &&
  (List.range pre.size).all (fun i => o.after.any fun e => Region.binds md e && decide (e.on = i)) &&
  o.after.all (fun e => !Region.binds md e || decide (e.on < pre.size))

structure LastOk (md : Region.Mode) (pre : Array Oper) (o : Oper) : Prop where
  guard : ∀ p, p = o ∨ p ∈ pre → p.guard = none
  early : ∀ i p, pre[i]? = some p → ∀ e ∈ p.after, Region.binds md e = true → e.on < i
  waits : ∀ i, i < pre.size → ∃ e ∈ o.after, Region.binds md e = true ∧ e.on = i
  last : ∀ e ∈ o.after, Region.binds md e = true → e.on < pre.size

theorem lastB_ok {pre : Array Oper} {o : Oper} (h : lastB md pre o = true) : LastOk md pre o := by
  simp only [lastB, Bool.and_eq_true, List.all_eq_true, List.mem_range] at h
  obtain ⟨⟨⟨h1, h2⟩, h3⟩, h4⟩ := h
  rw [Array.all_eq_true_iff_forall_mem] at h1 h4
  refine ⟨fun p hp => ?_, fun i p hp e he hb => ?_, fun i hi => ?_, fun e he hb => ?_⟩
  · have := h1 p (by rw [Array.mem_push]; exact hp.symm)
    simpa using this
  · have hi := (Array.getElem?_eq_some_iff.1 hp).1
    have := h2 i hi
    rw [hp, Option.map_some, Option.getD_some, Array.all_eq_true_iff_forall_mem] at this
    have := this e he
    simpa [hb] using this
  · have := h3 i hi
    rw [Array.any_eq_true'] at this
    obtain ⟨e, he, hh⟩ := this
    simp only [Bool.and_eq_true, decide_eq_true_eq] at hh
    exact ⟨e, he, hh⟩
  · have := h4 e he
    simpa [hb] using this

theorem gD (l : Array Bool) (i : Nat) (d : Bool) : l.getD i d = (l[i]?).getD d := by
  simp [Array.getD_eq_getD_getElem?]

/-- the two regions are at the same point, the last one still to come -/
structure Agree (n : Nat) (lo lp : Array Bool) : Prop where
  so : lo.size = n + 1
  sp : lp.size = n
  same : ∀ i, i < n → lo[i]? = lp[i]?
  top : lo[n]? = some false

theorem Agree.getD {n : Nat} {lo lp : Array Bool} (h : Agree n lo lp) {i : Nat} (hi : i < n) (d : Bool) : lo.getD i d = lp.getD i d := by
  rw [gD, gD, h.same i hi]
theorem Agree.getTop {n : Nat} {lo lp : Array Bool} (h : Agree n lo lp) (d : Bool) : lo.getD n d = false := by
  rw [gD, h.top]; rfl
theorem Agree.set {n : Nat} {lo lp : Array Bool} (h : Agree n lo lp) {i : Nat} (hi : i < n) : Agree n (lo.setIfInBounds i true) (lp.setIfInBounds i true) := by
  refine ⟨by simpa using h.so, by simpa using h.sp, fun j hj => ?_, ?_⟩
  · rw [Array.getElem?_setIfInBounds, Array.getElem?_setIfInBounds, h.same j hj, h.so, h.sp]
    by_cases hij : i = j
    · subst hij; rw [if_pos rfl, if_pos rfl, if_pos (by omega), if_pos hi]
    · rw [if_neg hij, if_neg hij]
  · rw [Array.getElem?_setIfInBounds, if_neg (by omega), h.top]

section
variable {pre : Array Oper} {o : Oper} {lo lp : Array Bool}

theorem push_get {i : Nat} (hi : i < pre.size) : (pre.push o)[i]? = pre[i]? := by
  rw [Array.getElem?_push, if_neg (by omega)]
theorem push_top : (pre.push o)[pre.size]? = some o := by
  rw [Array.getElem?_push, if_pos rfl]

theorem ready_pre (hk : LastOk md pre o) (hg : Agree pre.size lo lp) {i : Nat} (hi : i < pre.size) (h : i ∈ Region.ready md (pre.push o) lo) : i ∈ Region.ready md pre lp := by
  rw [mem_ready] at h ⊢
  obtain ⟨h1, p, hp, h2⟩ := h
  rw [push_get hi] at hp
  refine ⟨by rw [← hg.getD hi]; exact h1, p, hp, fun e he hb => ?_⟩
  have := hk.early i p hp e he hb
  rw [← hg.getD (by omega)]
  exact h2 e he hb
/-- the last one comes up only when all others have -/
theorem ready_top (hk : LastOk md pre o) (hg : Agree pre.size lo lp) (h : pre.size ∈ Region.ready md (pre.push o) lo) : Region.ready md pre lp = [] := by
  rw [mem_ready] at h
  obtain ⟨_, p, hp, h2⟩ := h
  rw [push_top] at hp
  cases hp
  rw [List.eq_nil_iff_forall_not_mem]
  intro i hi
  rw [mem_ready] at hi
  obtain ⟨h3, q, hq, _⟩ := hi
  have hlt := (Array.getElem?_eq_some_iff.1 hq).1
  obtain ⟨e, he, hb, rfl⟩ := hk.waits i hlt
  have h4 := h2 e he hb
  rw [hg.getD hlt] at h4
  rw [gD] at h3 h4
  cases hl : lp[e.on]? with
  | none => rw [hl] at h3; simp at h3
  | some b => rw [hl] at h3 h4; simp at h3 h4; rw [h3] at h4; cases h4
/-- where none of the others is ready, all have come up -/
theorem all_listed (hk : LastOk md pre o) (hg : Agree pre.size lo lp) (h : Region.ready md pre lp = []) : ∀ i, i < pre.size → lp[i]? = some true := by
  intro i
  induction i using Nat.strongRecOn with
  | _ i ih =>
    intro hi
    have hs := hg.sp
    cases hl : lp[i]? with
    | none => rw [Array.getElem?_eq_none_iff] at hl; omega
    | some b =>
      cases b with
      | true => rfl
      | false =>
        exfalso
        obtain ⟨p, hp⟩ : ∃ p, pre[i]? = some p := ⟨_, Array.getElem?_eq_getElem hi⟩
        have : i ∈ Region.ready md pre lp := by
          rw [mem_ready]
          refine ⟨by rw [gD, hl]; rfl, p, hp, fun e he hb => ?_⟩
          have hlt := hk.early i p hp e he hb
          rw [gD, ih e.on hlt (by omega)]
          rfl
        rw [h] at this
        cases this
theorem top_ready (hk : LastOk md pre o) (hg : Agree pre.size lo lp) (h : Region.ready md pre lp = []) : pre.size ∈ Region.ready md (pre.push o) lo := by
  have hall := all_listed hk hg h
  rw [mem_ready]
  refine ⟨hg.getTop _, o, push_top, fun e he hb => ?_⟩
  have hlt := hk.last e he hb
  rw [hg.getD hlt, gD, hall e.on hlt]
  rfl
theorem ready_done (hk : LastOk md pre o) (hg : Agree pre.size lo lp) (h : Region.ready md pre lp = []) : Region.ready md (pre.push o) (lo.setIfInBounds pre.size true) = [] := by
  have hall := all_listed hk hg h
  rw [List.eq_nil_iff_forall_not_mem]
  intro i hi
  rw [mem_ready] at hi
  obtain ⟨h3, q, hq, _⟩ := hi
  have hlt := (Array.getElem?_eq_some_iff.1 hq).1
  rw [Array.size_push] at hlt
  rw [gD, Array.getElem?_setIfInBounds, hg.so] at h3
  by_cases hi : pre.size = i
  · rw [if_pos hi, if_pos (by omega)] at h3; simp at h3
  · rw [if_neg hi, hg.same i (by omega), hall i (by omega)] at h3; simp at h3

variable {Q : Exit → Act → World → Prop}

theorem wpOp_push (hk : LastOk md pre o) {i : Nat} (hi : i < pre.size) {K K' : Act → World → Prop} {a : Act} {w : World} (hK : ∀ a w, K a w → K' a w)
    (h : wpOp P pre (thenLast P (pre.push o) o Q) i K a w) : wpOp P (pre.push o) Q i K' a w := by
  obtain ⟨p, hp⟩ : ∃ p, pre[i]? = some p := ⟨_, Array.getElem?_eq_getElem hi⟩
  have hg := hk.guard p (.inr (Array.mem_of_getElem? hp))
  have hl : LetsOut (thenLast P (pre.push o) o Q) → LetsOut Q := fun ⟨a, w, h⟩ => ⟨a, w, h⟩
  unfold wpOp at *
  rw [push_get hi]
  simp only [hp] at h ⊢
  have hw : ∀ l, Region.wanted p l = true := fun l => by simp [Region.wanted, hg]
  rw [if_pos (hw _)] at h ⊢
  exact h.imp (Oper.wp_posts hK (fun c a w h => h) hl) (fun h => ⟨h.1, hl h.2⟩)

theorem wpAny_last (hk : LastOk md pre o) : ∀ (fuel : Nat) (lo lp : Array Bool) (a : Act) (w : World), Agree pre.size lo lp →
    wpAny P md pre (thenLast P (pre.push o) o Q) fuel lp a w → wpAny P md (pre.push o) Q (fuel + 1) lo a w
  | fuel, lo, lp, a, w, hg, h => by
    have hnil : Region.ready md pre lp = [] → thenLast P (pre.push o) o Q .normal a w := by
      cases fuel with
      | zero => exact fun _ => h.2
      | succ f => exact h.1
    refine ⟨fun he => ?_, fun i hi => ?_⟩
    · exfalso
      have : Region.ready md pre lp = [] := by
        rw [List.eq_nil_iff_forall_not_mem]
        intro i hi
        have hi' := hi
        rw [mem_ready] at hi
        obtain ⟨h1, p, hp, h2⟩ := hi
        have hlt := (Array.getElem?_eq_some_iff.1 hp).1
        have : i ∈ Region.ready md (pre.push o) lo := by
          rw [mem_ready]
          refine ⟨by rw [hg.getD hlt]; exact h1, p, by rw [push_get hlt]; exact hp, fun e he hb => ?_⟩
          have := hk.early i p hp e he hb
          rw [hg.getD (by omega)]
          exact h2 e he hb
        rw [he] at this
        cases this
      have := top_ready hk hg this
      rw [he] at this
      cases this
    · have hlt : i < pre.size + 1 := by
        rw [mem_ready] at hi
        obtain ⟨_, p, hp, _⟩ := hi
        have := (Array.getElem?_eq_some_iff.1 hp).1
        simpa using this
      rcases Nat.lt_or_ge i pre.size with hi' | hi'
      · have hr := ready_pre hk hg hi' hi
        cases fuel with
        | zero => rw [h.1] at hr; cases hr
        | succ f => exact wpOp_push hk hi' (fun a' w' h' => wpAny_last hk f _ _ a' w' (hg.set hi') h') (h.2 i hr)
      · obtain rfl : i = pre.size := by omega
        have hn := ready_top hk hg hi
        have hq : wpList P (pre.push o) Q [o] a w := hnil hn
        have hd := ready_done hk hg hn
        have hgd := hk.guard o (.inl rfl)
        have hw : ∀ l, Region.wanted o l = true := fun l => by simp [Region.wanted, hgd]
        simp only [wpList] at hq
        unfold wpOp
        rw [push_top]
        simp only
        rw [if_pos (hw _)] at hq ⊢
        refine hq.imp (Oper.wp_posts (fun a' w' h' => ?_) (fun _ _ _ h => h) id) id
        cases fuel with
        | zero => exact ⟨hd, h'⟩
        | succ f => exact ⟨fun _ => h', fun i hi => by rw [hd] at hi; cases hi⟩
end

/-- THE LAW: the region without its last operation, and behind it that one. -/
theorem wp_region_last {id : Nat} {pre : Array Oper} {o : Oper} {Q : Exit → Act → World → Prop} {a : Act} {w : World} (hm : P.follows .mixedOrders = true) (hB : lastB .any pre o = true)
    (h : wpAny P .any pre (thenLast P (pre.push o) o Q) pre.size (Array.replicate pre.size false) a { w with drawn := w.drawn + 1 }) : (Code.region id (pre.push o) true).wp P Q a w := by
  refine wp_region_any hm ?_
  rw [Array.size_push]
  refine wpAny_last (lastB_ok hB) pre.size _ _ a _ ⟨by simp, by simp, fun i hi => ?_, ?_⟩ h
  · rw [Array.getElem?_replicate, Array.getElem?_replicate, if_pos (by omega), if_pos hi]
  · rw [Array.getElem?_replicate, if_pos (by omega)]
/-- the same, of a region that is written out -/
theorem wp_region_cut {id : Nat} {ops : Array Oper} {o : Oper} {Q : Exit → Act → World → Prop} {a : Act} {w : World} (ho : ops.back? = some o) (hm : P.follows .mixedOrders = true) (hB : lastB .any ops.pop o = true)
    (h : wpAny P .any ops.pop (thenLast P ops o Q) (ops.size - 1) (Array.replicate (ops.size - 1) false) a w.drew) : (Code.region id ops true).wp P Q a w := by
  have e : ops = ops.pop.push o := by
    rw [Array.back?_eq_getElem?] at ho
    obtain ⟨hlt, rfl⟩ := Array.getElem?_eq_some_iff.1 ho
    apply Array.ext_getElem?
    intro i
    rw [Array.getElem?_push, Array.size_pop]
    by_cases hi : i = ops.size - 1
    · subst hi; rw [if_pos rfl, Array.getElem?_eq_getElem hlt]
    · rw [if_neg hi]
      rcases Nat.lt_or_ge i (ops.size - 1) with h | h
      · rw [Array.getElem?_pop, if_pos h]
      · rw [Array.getElem?_pop, if_neg (by omega), Array.getElem?_eq_none (by omega)]
  rw [e]
  refine wp_region_last hm hB ?_
  rw [← e, Array.size_pop]
  exact h
end
end Go.Proofs.YtloeainlpcnhnaaGreat
