/- Texts of one proof, put together. No statement is proved here. -/
import Derived.Test.YtbbjjdnnlnabaaaGreatRows
import Derived.Orders
import Derived.WalkKit
import Derived.Test.YtbbjjdnnlnabaaaGreatPkS
import Derived.Deep.AppendLies
import Derived.Deep.RegionHeld3
import Derived.Test.YtbbjjdnnlnabaaaGreatZt
namespace Go.Proofs.YtbbjjdnnlnabaaaGreat
set_option linter.unusedVariables false
set_option linter.unusedSimpArgs false
section
variable {P : Program} {md : Region.Mode}
def thenLast (P : Program) (ops : Array Oper) (o : Oper) (Q : Exit → Act → World → Prop) : Exit → Act → World → Prop
  | .normal, a, w => wpList P ops Q [o] a w
  | e, a, w => Q e a w
theorem Oper.wp_posts {o : Oper} {a : Act} {w : World} {K K' : Act → World → Prop} {Q Q' : Exit → Act → World → Prop} (h : ∀ a w, K a w → K' a w) (hp : ∀ c a w, Q (.panic c) a w → Q' (.panic c) a w) (hl : LetsOut Q → LetsOut Q')
    (hh : o.wp P a w K Q) : o.wp P a w K' Q' := by
  unfold Oper.wp at *
  generalize (execOp a.eval o).run P w = r at *
  cases r with
  | ok n w' =>
    cases n <;> simp only [Oper.upon] at hh ⊢ <;>
      first
        | exact h _ _ hh
        | exact Calls.mono hh (fun e w'' he => by cases e <;> first | exact h _ _ he | exact hp _ _ _ he | exact hl he)
        | exact Rows.mono hh (fun _ _ he => h _ _ he)
  | halt x w' => cases x <;> simp only [Oper.upon] at hh ⊢ <;> first | exact hp _ _ _ hh | exact hh
def lastB (md : Region.Mode) (pre : Array Oper) (o : Oper) : Bool :=
  (pre.push o).all (fun p => p.guard.isNone) &&
  (List.range pre.size).all (fun i => ((pre[i]?).map fun p => p.after.all fun e => !Region.binds md e || decide (e.on < i)).getD false) &&
  (List.range pre.size).all (fun i => o.after.any fun e => Region.binds md e && decide (e.on = i)) &&
  o.after.all (fun e => !Region.binds md e || decide (e.on < pre.size))
structure LastOk (md : Region.Mode) (pre : Array Oper) (o : Oper) : Prop where
  guard : ∀ p, p = o ∨ p ∈ pre → p.guard = none
  early : ∀ i p, pre[i]? = some p → ∀ e ∈ p.after, Region.binds md e = true → e.on < i
  waits : ∀ i, i < pre.size → ∃ e ∈ o.after, Region.binds md e = true ∧ e.on = i
  last : ∀ e ∈ o.after, Region.binds md e = true → e.on < pre.size
theorem lastB_ok {pre : Array Oper} {o : Oper} (h : lastB md pre o = true) : LastOk md pre o := by
  simp only [lastB, Bool.and_eq_true, List.all_eq_true, List.mem_range] at h
  obtain ⟨⟨⟨h1, h2⟩, h3⟩, h4⟩ := h
  rw [Array.all_eq_true_iff_forall_mem] at h1 h4
  refine ⟨fun p hp => ?_, fun i p hp e he hb => ?_, fun i hi => ?_, fun e he hb => ?_⟩
  · have := h1 p (by rw [Array.mem_push]; exact hp.symm)
    simpa using this
  · have hi := (Array.getElem?_eq_some_iff.1 hp).1
    have := h2 i hi
    rw [hp, Option.map_some, Option.getD_some, Array.all_eq_true_iff_forall_mem] at this
    have := this e he
    simpa [hb] using this
  · have := h3 i hi
    rw [Array.any_eq_true'] at this
    obtain ⟨e, he, hh⟩ := this
    simp only [Bool.and_eq_true, decide_eq_true_eq] at hh
    exact ⟨e, he, hh⟩
  · have := h4 e he
    simpa [hb] using this
theorem gD (l : Array Bool) (i : Nat) (d : Bool) : l.getD i d = (l[i]?).getD d := by
  simp [Array.getD_eq_getD_getElem?]
structure Agree (n : Nat) (lo lp : Array Bool) : Prop where
  so : lo.size = n + 1
  sp : lp.size = n
  same : ∀ i, i < n → lo[i]? = lp[i]?
  top : lo[n]? = some false
theorem Agree.getD {n : Nat} {lo lp : Array Bool} (h : Agree n lo lp) {i : Nat} (hi : i < n) (d : Bool) : lo.getD i d = lp.getD i d := by
  rw [gD, gD, h.same i hi]
theorem Agree.getTop {n : Nat} {lo lp : Array Bool} (h : Agree n lo lp) (d : Bool) : lo.getD n d = false := by
  rw [gD, h.top]; rfl
theorem Agree.set {n : Nat} {lo lp : Array Bool} (h : Agree n lo lp) {i : Nat} (hi : i < n) : Agree n (lo.setIfInBounds i true) (lp.setIfInBounds i true) := by
  refine ⟨by simpa using h.so, by simpa using h.sp, fun j hj => ?_, ?_⟩
  · rw [Array.getElem?_setIfInBounds, Array.getElem?_setIfInBounds, h.same j hj, h.so, h.sp]
    by_cases hij : i = j
    · subst hij; rw [if_pos rfl, if_pos rfl, if_pos (by omega), if_pos hi]
    · rw [if_neg hij, if_neg hij]
  · rw [Array.getElem?_setIfInBounds, if_neg (by omega), h.top]
section
variable {pre : Array Oper} {o : Oper} {lo lp : Array Bool}
theorem push_get {i : Nat} (hi : i < pre.size) : (pre.push o)[i]? = pre[i]? := by
  rw [Array.getElem?_push, if_neg (by omega)]
theorem push_top : (pre.push o)[pre.size]? = some o := by
  rw [Array.getElem?_push, if_pos rfl]
theorem ready_pre (hk : LastOk md pre o) (hg : Agree pre.size lo lp) {i : Nat} (hi : i < pre.size) (h : i ∈ Region.ready md (pre.push o) lo) : i ∈ Region.ready md pre lp := by
  rw [mem_ready] at h ⊢
  obtain ⟨h1, p, hp, h2⟩ := h
  rw [push_get hi] at hp
  refine ⟨by rw [← hg.getD hi]; exact h1, p, hp, fun e he hb => ?_⟩
  have := hk.early i p hp e he hb
  rw [← hg.getD (by omega)]
  exact h2 e he hb
theorem ready_top (hk : LastOk md pre o) (hg : Agree pre.size lo lp) (h : pre.size ∈ Region.ready md (pre.push o) lo) : Region.ready md pre lp = [] := by
  rw [mem_ready] at h
  obtain ⟨_, p, hp, h2⟩ := h
  rw [push_top] at hp
  cases hp
  rw [List.eq_nil_iff_forall_not_mem]
  intro i hi
  rw [mem_ready] at hi
  obtain ⟨h3, q, hq, _⟩ := hi
  have hlt := (Array.getElem?_eq_some_iff.1 hq).1
  obtain ⟨e, he, hb, rfl⟩ := hk.waits i hlt
  have h4 := h2 e he hb
  rw [hg.getD hlt] at h4
  rw [gD] at h3 h4
  cases hl : lp[e.on]? with
  | none => rw [hl] at h3; simp at h3
  | some b => rw [hl] at h3 h4; simp at h3 h4; rw [h3] at h4; cases h4
theorem all_listed (hk : LastOk md pre o) (hg : Agree pre.size lo lp) (h : Region.ready md pre lp = []) : ∀ i, i < pre.size → lp[i]? = some true := by
  intro i
  induction i using Nat.strongRecOn with
  | _ i ih =>
    intro hi
    have hs := hg.sp
    cases hl : lp[i]? with
    | none => rw [Array.getElem?_eq_none_iff] at hl; omega
    | some b =>
      cases b with
      | true => rfl
      | false =>
        exfalso
        obtain ⟨p, hp⟩ : ∃ p, pre[i]? = some p := ⟨_, Array.getElem?_eq_getElem hi⟩
        have : i ∈ Region.ready md pre lp := by
          rw [mem_ready]
          refine ⟨by rw [gD, hl]; rfl, p, hp, fun e he hb => ?_⟩
          have hlt := hk.early i p hp e he hb
          rw [gD, ih e.on hlt (by omega)]
          rfl
        rw [h] at this
        cases this
theorem top_ready (hk : LastOk md pre o) (hg : Agree pre.size lo lp) (h : Region.ready md pre lp = []) : pre.size ∈ Region.ready md (pre.push o) lo := by
  have hall := all_listed hk hg h
  rw [mem_ready]
  refine ⟨hg.getTop _, o, push_top, fun e he hb => ?_⟩
  have hlt := hk.last e he hb
  rw [hg.getD hlt, gD, hall e.on hlt]
  rfl
theorem ready_done (hk : LastOk md pre o) (hg : Agree pre.size lo lp) (h : Region.ready md pre lp = []) : Region.ready md (pre.push o) (lo.setIfInBounds pre.size true) = [] := by
  have hall := all_listed hk hg h
  rw [List.eq_nil_iff_forall_not_mem]
  intro i hi
  rw [mem_ready] at hi
  obtain ⟨h3, q, hq, _⟩ := hi
  have hlt := (Array.getElem?_eq_some_iff.1 hq).1
  rw [Array.size_push] at hlt
  rw [gD, Array.getElem?_setIfInBounds, hg.so] at h3
  by_cases hi : pre.size = i
  · rw [if_pos hi, if_pos (by omega)] at h3; simp at h3
  · rw [if_neg hi, hg.same i (by omega), hall i (by omega)] at h3; simp at h3
variable {Q : Exit → Act → World → Prop}
theorem wpOp_push (hk : LastOk md pre o) {i : Nat} (hi : i < pre.size) {K K' : Act → World → Prop} {a : Act} {w : World} (hK : ∀ a w, K a w → K' a w)
    (h : wpOp P pre (thenLast P (pre.push o) o Q) i K a w) : wpOp P (pre.push o) Q i K' a w := by
  obtain ⟨p, hp⟩ : ∃ p, pre[i]? = some p := ⟨_, Array.getElem?_eq_getElem hi⟩
  have hg := hk.guard p (.inr (Array.mem_of_getElem? hp))
  have hl : LetsOut (thenLast P (pre.push o) o Q) → LetsOut Q := fun ⟨a, w, h⟩ => ⟨a, w, h⟩
  unfold wpOp at *
  rw [push_get hi]
  simp only [hp] at h ⊢
  have hw : ∀ l, Region.wanted p l = true := fun l => by simp [Region.wanted, hg]
  rw [if_pos (hw _)] at h ⊢
  exact h.imp (Oper.wp_posts hK (fun c a w h => h) hl) (fun h => ⟨h.1, hl h.2⟩)
theorem wpAny_last (hk : LastOk md pre o) : ∀ (fuel : Nat) (lo lp : Array Bool) (a : Act) (w : World), Agree pre.size lo lp →
    wpAny P md pre (thenLast P (pre.push o) o Q) fuel lp a w → wpAny P md (pre.push o) Q (fuel + 1) lo a w
  | fuel, lo, lp, a, w, hg, h => by
    have hnil : Region.ready md pre lp = [] → thenLast P (pre.push o) o Q .normal a w := by
      cases fuel with
      | zero => exact fun _ => h.2
      | succ f => exact h.1
    refine ⟨fun he => ?_, fun i hi => ?_⟩
    · exfalso
      have : Region.ready md pre lp = [] := by
        rw [List.eq_nil_iff_forall_not_mem]
        intro i hi
        have hi' := hi
        rw [mem_ready] at hi
        obtain ⟨h1, p, hp, h2⟩ := hi
        have hlt := (Array.getElem?_eq_some_iff.1 hp).1
        have : i ∈ Region.ready md (pre.push o) lo := by
          rw [mem_ready]
          refine ⟨by rw [hg.getD hlt]; exact h1, p, by rw [push_get hlt]; exact hp, fun e he hb => ?_⟩
          have := hk.early i p hp e he hb
          rw [hg.getD (by omega)]
          exact h2 e he hb
        rw [he] at this
        cases this
      have := top_ready hk hg this
      rw [he] at this
      cases this
    · have hlt : i < pre.size + 1 := by
        rw [mem_ready] at hi
        obtain ⟨_, p, hp, _⟩ := hi
        have := (Array.getElem?_eq_some_iff.1 hp).1
        simpa using this
      rcases Nat.lt_or_ge i pre.size with hi' | hi'
      · have hr := ready_pre hk hg hi' hi
        cases fuel with
        | zero => rw [h.1] at hr; cases hr
        | succ f => exact wpOp_push hk hi' (fun a' w' h' => wpAny_last hk f _ _ a' w' (hg.set hi') h') (h.2 i hr)
      · obtain rfl : i = pre.size := by omega
        have hn := ready_top hk hg hi
        have hq : wpList P (pre.push o) Q [o] a w := hnil hn
        have hd := ready_done hk hg hn
        have hgd := hk.guard o (.inl rfl)
        have hw : ∀ l, Region.wanted o l = true := fun l => by simp [Region.wanted, hgd]
        simp only [wpList] at hq
        unfold wpOp
        rw [push_top]
        simp only
        rw [if_pos (hw _)] at hq ⊢
        refine hq.imp (Oper.wp_posts (fun a' w' h' => ?_) (fun _ _ _ h => h) id) id
        cases fuel with
        | zero => exact ⟨hd, h'⟩
        | succ f => exact ⟨fun _ => h', fun i hi => by rw [hd] at hi; cases hi⟩
end
theorem wp_region_last {id : Nat} {pre : Array Oper} {o : Oper} {Q : Exit → Act → World → Prop} {a : Act} {w : World} (hm : P.follows .mixedOrders = true) (hB : lastB .any pre o = true)
    (h : wpAny P .any pre (thenLast P (pre.push o) o Q) pre.size (Array.replicate pre.size false) a { w with drawn := w.drawn + 1 }) : (Code.region id (pre.push o) true).wp P Q a w := by
  refine wp_region_any hm ?_
  rw [Array.size_push]
  refine wpAny_last (lastB_ok hB) pre.size _ _ a _ ⟨by simp, by simp, fun i hi => ?_, ?_⟩ h
  · rw [Array.getElem?_replicate, Array.getElem?_replicate, if_pos (by omega), if_pos hi]
  · rw [Array.getElem?_replicate, if_pos (by omega)]
theorem wp_region_cut {id : Nat} {ops : Array Oper} {o : Oper} {Q : Exit → Act → World → Prop} {a : Act} {w : World} (ho : ops.back? = some o) (hm : P.follows .mixedOrders = true) (hB : lastB .any ops.pop o = true)
    (h : wpAny P .any ops.pop (thenLast P ops o Q) (ops.size - 1) (Array.replicate (ops.size - 1) false) a w.drew) : (Code.region id ops true).wp P Q a w := by
  have e : ops = ops.pop.push o := by
    rw [Array.back?_eq_getElem?] at ho
    obtain ⟨hlt, rfl⟩ := Array.getElem?_eq_some_iff.1 ho
    apply Array.ext_getElem?
    intro i
    rw [Array.getElem?_push, Array.size_pop]
    by_cases hi : i = ops.size - 1
    · subst hi; rw [if_pos rfl, Array.getElem?_eq_getElem hlt]
    · rw [if_neg hi]
      rcases Nat.lt_or_ge i (ops.size - 1) with h | h
      · rw [Array.getElem?_pop, if_pos h]
      · rw [Array.getElem?_pop, if_neg (by omega), Array.getElem?_eq_none (by omega)]
  rw [e]
  refine wp_region_last hm hB ?_
  rw [← e, Array.size_pop]
  exact h
end
end Go.Proofs.YtbbjjdnnlnabaaaGreat
namespace Go.Proofs.YtbbjjdnnlnabaaaGreat
open Go.ChangeShapes Go.WideShapes Go.ChangeAt Go.RowKit
set_option linter.unusedVariables false
set_option linter.unusedSimpArgs false
set_option maxHeartbeats 8000000
set_option maxRecDepth 100000
theorem refMay2 (t : T) (b f : Int) (v : Value) (w : World) (hv : Rd w t v) :
    Calls Tryz.prog 111 #[v, .int .i64 b, .int .i64 f] w fun e w' => e = .returned (.bool (mvB b f && mayB t)) ∧ Below w.heap.size w w' := by
  obtain ⟨k, h, A, n, c, rfl⟩ := hv.full
  have hb : Below w.heap.size w (w.alloc (.cells #[.int .i64 k, .int .i64 h, .slice A n c] 39)) := (Below.refl _ _).alloc (Nat.le_refl _) _
  have HM := Lib.hid (refMay t _ _ (Rd.keep hb _ _ hv))
  rw [mvB]
  clear hv
  generalize mayB t = M at *
  have HD : Hid (∀ x y z u : Bool, (x = false ∨ y = false ∨ z = false ∨ u = false ∨ M = false → (x && y && z && u && M) = false) ∧ (x = true → y = true → z = true → M = true → (x && y && z && u && M) = u)) := Lib.hid (by
    intro x y z u; cases x <;> cases y <;> cases z <;> cases u <;> cases M <;> simp)
  cases M
  · rw [((HD.out _ _ _ _).1 (by simp))]
    go_enter Tryz.func111, Tryz.ntmps111
    go_wp2_with fail
    refine HM.out.mono ?_
    rintro e w1 ⟨rfl, hb1⟩
    replace hb := hb.trans (hb1.mono hb.size)
    go_wp2_with fail
    go_ret
    exact ⟨rfl, hb⟩
  cases h1 : decide (0 ≤ b)
  · rw [((HD.out _ _ _ _).1 (by simp))]
    go_enter Tryz.func111, Tryz.ntmps111
    go_wp2_with fail
    refine HM.out.mono ?_
    rintro e w1 ⟨rfl, hb1⟩
    replace hb := hb.trans (hb1.mono hb.size)
    go_wp2_with fail
    go_ret
    exact ⟨rfl, hb⟩
  cases h2 : decide (b ≤ 1048576)
  · rw [((HD.out _ _ _ _).1 (by simp))]
    go_enter Tryz.func111, Tryz.ntmps111
    go_wp2_with fail
    refine HM.out.mono ?_
    rintro e w1 ⟨rfl, hb1⟩
    replace hb := hb.trans (hb1.mono hb.size)
    go_wp2_with fail
    go_ret
    exact ⟨rfl, hb⟩
  cases h3 : decide (0 ≤ f)
  · rw [((HD.out _ _ _ _).1 (by simp))]
    go_enter Tryz.func111, Tryz.ntmps111
    go_wp2_with fail
    refine HM.out.mono ?_
    rintro e w1 ⟨rfl, hb1⟩
    replace hb := hb.trans (hb1.mono hb.size)
    go_wp2_with fail
    go_ret
    exact ⟨rfl, hb⟩
  rw [((HD.out _ _ _ _).2 rfl rfl rfl rfl)]
  go_enter Tryz.func111, Tryz.ntmps111
  go_wp2_with fail
  refine HM.out.mono ?_
  rintro e w1 ⟨rfl, hb1⟩
  replace hb := hb.trans (hb1.mono hb.size)
  go_wp2_with fail
  go_ret
  exact ⟨rfl, hb⟩
/-! ### What the document's up tells -/
mutual
def upW (b : Int) : T → Int → T
  | .node k h xs, f => .node k (if k = 4 ∧ f ≤ h then wrap64 (h + b) else h) (upWL b k xs.length xs 0 f)
def upWL (b k : Int) (n : Nat) : List T → Nat → Int → List T
  | [], _, _ => []
  | t :: ts, i, f => upW b t (wrap64 (f + bd k n i)) :: upWL b k n ts (i + 1) f
end
def KidL (w : World) (ok : Nat → Prop) (cs : List Value) (ys : List T) : Prop :=
  ∀ i t, ys[i]? = some t → ∃ k h A n c, cs[i * 3]? = some (.int .i64 k) ∧ cs[i * 3 + 1]? = some (.int .i64 h) ∧ cs[i * 3 + 2]? = some (.slice A n c) ∧ RdF ok w t (.agg #[.int .i64 k, .int .i64 h, .slice A n c])
theorem KidL.move {w w' : World} {ok ok' : Nat → Prop} {cs : List Value} {ys : List T} (hk : KidL w ok cs ys) (hok : ∀ b, ok b → ok' b) (hm : ∀ b, ok b → b < w.heap.size → w'.heap[b]? = w.heap[b]?) : KidL w' ok' cs ys := fun i t ht => by
  obtain ⟨k', h', A', n', c', e0, e1, e2, hr⟩ := hk i t ht
  exact ⟨k', h', A', n', c', e0, e1, e2, RdF.move hok hm _ _ hr⟩
theorem KidL.snoc {w : World} {ok : Nat → Prop} {cs : List Value} {ys : List T} {t : T} {k h : Int} {A : Option Addr} {n c : Nat} (hk : KidL w ok cs ys) (hl : cs.length = ys.length * 3)
    (hr : RdF ok w t (.agg #[.int .i64 k, .int .i64 h, .slice A n c])) : KidL w ok (cs ++ [.int .i64 k, .int .i64 h, .slice A n c]) (ys ++ [t]) := fun i u hu => by
  rcases Nat.lt_or_ge i ys.length with hi | hi
  · rw [List.getElem?_append_left hi] at hu
    obtain ⟨k', h', A', n', c', e0, e1, e2, hr'⟩ := hk i u hu
    refine ⟨k', h', A', n', c', ?_, ?_, ?_, hr'⟩
    · rw [List.getElem?_append_left (by omega)]; exact e0
    · rw [List.getElem?_append_left (by omega)]; exact e1
    · rw [List.getElem?_append_left (by omega)]; exact e2
  · rw [List.getElem?_append_right hi] at hu
    have hi' : i = ys.length := by
      rcases Nat.eq_or_lt_of_le hi with h | h
      · exact h.symm
      · rw [List.getElem?_eq_none (by simp; omega)] at hu; cases hu
    subst hi'
    rw [Nat.sub_self] at hu
    simp only [List.getElem?_cons_zero, Option.some.injEq] at hu
    subst hu
    refine ⟨k, h, A, n, c, ?_, ?_, ?_, hr⟩
    · rw [List.getElem?_append_right (by omega), hl, Nat.sub_self]; rfl
    · rw [List.getElem?_append_right (by omega), hl, show ys.length * 3 + 1 - ys.length * 3 = 1 by omega]; rfl
    · rw [List.getElem?_append_right (by omega), hl, show ys.length * 3 + 2 - ys.length * 3 = 2 by omega]; rfl
def FEnd (t : T) (w : World) (e : Ending) (w' : World) : Prop := ∃ v, e = .returned v ∧ RdF (fun g => w.heap.size ≤ g ∧ g < w'.heap.size) w' t v ∧ Below w.heap.size w w'
theorem own_none (v : Value) : v.ownBlock = none ∨ v.ownBlock ≠ none := by
  cases v.ownBlock <;> simp
theorem grown_set (w : World) (a : Addr) (v : Value) : w.grownBy (w.setCell a v) (some a.block) :=
  ⟨rfl, rfl, rfl, by simp, fun g _ hne => Below.heap_setCell _ _ _ _ (fun e => hne (by rw [e]))⟩
theorem grown_set3 (w : World) (a : Nat) (u0 u1 u2 : Value) : w.grownBy (((w.setCell ⟨a, 0, none⟩ u0).setCell ⟨a, 1, none⟩ u1).setCell ⟨a, 2, none⟩ u2) (some a) :=
  ⟨rfl, rfl, rfl, by simp, fun g _ hne => heap_other3 w a u0 u1 u2 g (fun e => hne (by rw [e]))⟩
theorem below_grown {B : Nat} {w a b : World} {row : Option Nat} (h : Below B w a) (hg : a.grownBy b row) (hr : ∀ r, row = some r → B ≤ r) (hB : B ≤ a.heap.size) : Below B w b :=
  h.trans ⟨hg.os, hg.tape, hg.output, hg.size, fun k hk => hg.block k (by omega) (fun e => by have := hr k e.symm; omega)⟩
theorem rdF_row {w : World} {ok ok' : Nat → Prop} {base n : Nat} {A : Option Addr} {c : Nat} {cs : List Value} {ys : List T} {k h : Int} (how : w.ownsRow base 39 3 (.slice A n c) n cs) (hk : KidL w ok cs ys) (hy : ys.length = n)
    (hok : ∀ g, ok g → ok' g) (hrow : ∀ g, Value.ownBlock (.slice A n c) = some g → ok' g) (wk : (Lit.int .i64 k).wf = true) (wh : (Lit.int .i64 h).wf = true) : RdF ok' w (.node k h ys) (.agg #[.int .i64 k, .int .i64 h, .slice A n c]) := by
  have hcell := fun g (hg : Value.ownBlock (.slice A n c) = some g) => how.cells hg
  refine RdF_node.2 ⟨A, n, c, rfl, wk, wh, hy, ?_, ?_, fun i t ht => ?_⟩
  · rcases how.2 with ⟨e, _⟩ | ⟨g, cap, cur, e, _, _, h1, _⟩
    · injection e with e1 e2 e3; omega
    · injection e with e1 e2 e3; omega
  · rcases how.2 with ⟨e, _⟩ | ⟨g, cap, cur, e, _, _, h1, h2, _⟩
    · injection e with e1 e2 e3; rw [e3]; exact Nat.zero_le _
    · injection e with e1 e2 e3; rw [e3]; exact h2
  · obtain ⟨k', h', A', n', c', e0, e1, e2, hr⟩ := hk i t ht
    have hi := (List.getElem?_eq_some_iff.1 ht).1
    rcases how.2 with ⟨e, h0⟩ | ⟨g, cap, cur, e, _, _, h1, h2, _⟩
    · omega
    · injection e with ea _ _
      subst ea
      have hc := hcell g rfl
      have c0 := hc _ _ e0
      have c1 := hc _ _ e1
      have c2 := hc _ _ e2
      rw [addr_add] at c0 c1 c2
      exact ⟨g, 0, _, _, _, rfl, hrow g rfl, c0, c1, c2, RdF.move hok (fun _ _ _ => rfl) _ _ hr⟩
def SUp (z : Nat) (k h : Int) (bA oA n c : Nat) (vs : Value) (j : Nat) (k2 h2 : Int) (A2 : Option Addr) (n2 c2 : Nat) (w' : World) : Prop :=
  w'.cell? ⟨z, 0, none⟩ = some (.int .i64 k) ∧ w'.cell? ⟨z, 1, none⟩ = some (.int .i64 h) ∧ w'.cell? ⟨z, 2, none⟩ = some (.slice (some ⟨bA, oA, none⟩) n c) ∧ w'.cell? ⟨z + 1 + 1, 2, none⟩ = some vs ∧ w'.cell? ⟨bA, oA + j * 3, none⟩ = some (.int .i64 k2) ∧
    w'.cell? ⟨bA, oA + j * 3 + 1, none⟩ = some (.int .i64 h2) ∧ w'.cell? ⟨bA, oA + j * 3 + 2, none⟩ = some (.slice A2 n2 c2)
theorem RdF.full {ok : Nat → Prop} {w : World} {t : T} {v : Value} (h : RdF ok w t v) : ∃ k h A n c, v = .agg #[.int .i64 k, .int .i64 h, .slice A n c] := (RdF.rd _ _ h).full
theorem refUp (t : T) : ∀ (b f : Int) (v : Value) (w : World), Rd w t v → nd t ≤ 1048576 → Calls Tryz.prog 112 #[v, .int .i64 b, .int .i64 f] w (FEnd (upW b t f) w) := by
  induction t using T.ind with
  | step k h xs ih =>
    intro b f v w hv hnd
    obtain ⟨A, n, c, rfl, hk, hh, hn, hc, hm, hx⟩ := Rd_node.1 hv
    clear hv
    have HMM := Lib.hid hm
    unfold maxLen at hm
    have hnd' : n ≤ 1048576 ∧ ∀ t ∈ xs, nd t ≤ 1048576 := by
      rw [nd] at hnd
      have := (wdL_nd xs).2
      exact ⟨by omega, fun t ht => by have := nd_mem ht; omega⟩
    obtain ⟨hn20, hnds⟩ := hnd'
    clear hnd
    have HND := Lib.hid hnds; clear hnds
    have HN := Lib.hid hn; clear hn
    have HX := Lib.hid hx; clear hx
    have IH := Lib.hid ih; clear ih
    obtain ⟨h', hh', hwf⟩ : ∃ h', upW b (.node k h xs) f = .node k h' (upWL b k xs.length xs 0 f) ∧ h' = (if k = 4 ∧ f ≤ h then wrap64 (h + b) else h) := ⟨_, by rw [upW], rfl⟩
    have HU := Lib.hid hh'; clear hh'
    have HWF := Lib.hid (show h' = (if k = 4 ∧ f ≤ h then wrap64 (h + b) else h) from hwf)
    have hwf2 : (Lit.int .i64 h').wf = true := by
      rw [hwf]; split
      · exact wf_wrap64 _
      · exact hh
    clear hwf
    have hcase : k ≠ 4 ∨ (k = 4 ∧ h < f) ∨ (k = 4 ∧ f ≤ h) := by omega
    rcases hcase with hk4 | ⟨hk4, hf⟩ | ⟨hk4, hf⟩
    have e1 : (k == 4) = false := by simpa using hk4
    have hh0 : h' = h := by rw [HWF.out, if_neg (by omega)]
    clear hk4 HWF
    have HH0 := Lib.hid hh0; clear hh0
    go_enter Tryz.func112, Tryz.ntmps112
    go_wp2_with fail
    obtain ⟨W, hW⟩ : ∃ W, ((w.alloc (.cells #[.int .i64 k, .int .i64 h, .slice A n c] 39)).alloc (.cells #[.int .i64 0, .int .i64 0, .slice none 0 0] 39)).alloc (.cells #[.int .i64 k, .int .i64 h, .slice none 0 0] 39) = W := ⟨_, rfl⟩
    rw [hW]
    have hb : Below w.heap.size w W := by rw [← hW]; exact (((Below.refl _ _).alloc (Nat.le_refl _) _).alloc (by simp) _).alloc (by simp; omega) _
    have x1 : Box W w.heap.size 39 #[.int .i64 k, .int .i64 h, .slice A n c] := by rw [← hW]; exact ((Box.new _ _ _).alloc _).alloc _
    have x2 : Box W (w.heap.size + 1) 39 #[.int .i64 0, .int .i64 0, .slice none 0 0] := by rw [← hW]; exact ((Box.new (w.alloc _) _ _).at (by simp)).alloc _
    have x3 : Box W (w.heap.size + 1 + 1) 39 #[.int .i64 k, .int .i64 h', .slice none 0 0] := by rw [HH0.out]; rw [← hW]; exact (Box.new ((w.alloc _).alloc _) _ _).at (by simp)
    clear hW e1 HH0
    rotate_left 1
    have e1 : (k == 4) = true := by simpa using hk4
    have d1 : decide (f ≤ h) = false := by simpa using hf
    have hh0 : h' = h := by rw [HWF.out, if_neg (by omega)]
    clear hf
    clear hk4 HWF
    have HH0 := Lib.hid hh0; clear hh0
    go_enter Tryz.func112, Tryz.ntmps112
    go_wp2_with fail
    obtain ⟨W, hW⟩ : ∃ W, ((w.alloc (.cells #[.int .i64 k, .int .i64 h, .slice A n c] 39)).alloc (.cells #[.int .i64 0, .int .i64 0, .slice none 0 0] 39)).alloc (.cells #[.int .i64 k, .int .i64 h, .slice none 0 0] 39) = W := ⟨_, rfl⟩
    rw [hW]
    have hb : Below w.heap.size w W := by rw [← hW]; exact (((Below.refl _ _).alloc (Nat.le_refl _) _).alloc (by simp) _).alloc (by simp; omega) _
    have x1 : Box W w.heap.size 39 #[.int .i64 k, .int .i64 h, .slice A n c] := by rw [← hW]; exact ((Box.new _ _ _).alloc _).alloc _
    have x2 : Box W (w.heap.size + 1) 39 #[.int .i64 0, .int .i64 0, .slice none 0 0] := by rw [← hW]; exact ((Box.new (w.alloc _) _ _).at (by simp)).alloc _
    have x3 : Box W (w.heap.size + 1 + 1) 39 #[.int .i64 k, .int .i64 h', .slice none 0 0] := by rw [HH0.out]; rw [← hW]; exact (Box.new ((w.alloc _).alloc _) _ _).at (by simp)
    clear hW e1 d1 HH0
    rotate_left 1
    have e1 : (k == 4) = true := by simpa using hk4
    have d1 : decide (f ≤ h) = true := by simpa using hf
    have hh0 : h' = wrap64 (h + b) := by rw [HWF.out, if_pos ⟨hk4, hf⟩]
    have hsum : IntKind.i64.wrap (h + b) = h' := by rw [hh0]; exact wrapEq _
    clear hf hh0
    clear hk4 HWF
    go_enter Tryz.func112, Tryz.ntmps112
    go_wp2_with fail
    obtain ⟨W, hW⟩ : ∃ W, ((w.alloc (.cells #[.int .i64 k, .int .i64 h, .slice A n c] 39)).alloc (.cells #[.int .i64 0, .int .i64 0, .slice none 0 0] 39)).alloc (.cells #[.int .i64 k, .int .i64 h', .slice none 0 0] 39) = W := ⟨_, rfl⟩
    rw [hW]
    have hb : Below w.heap.size w W := by rw [← hW]; exact (((Below.refl _ _).alloc (Nat.le_refl _) _).alloc (by simp) _).alloc (by simp; omega) _
    have x1 : Box W w.heap.size 39 #[.int .i64 k, .int .i64 h, .slice A n c] := by rw [← hW]; exact ((Box.new _ _ _).alloc _).alloc _
    have x2 : Box W (w.heap.size + 1) 39 #[.int .i64 0, .int .i64 0, .slice none 0 0] := by rw [← hW]; exact ((Box.new (w.alloc _) _ _).at (by simp)).alloc _
    have x3 : Box W (w.heap.size + 1 + 1) 39 #[.int .i64 k, .int .i64 h', .slice none 0 0] := by rw [← hW]; exact (Box.new ((w.alloc _).alloc _) _ _).at (by simp)
    clear hW e1 d1 hsum
    rotate_left 1
    all_goals
      go_loopw [8] (fun i wr => ∃ (j : Nat) (Av : Option Addr) (cv : Nat) (cs : List Value) (ys : List T), j ≤ n ∧ i = .int .i64 j ∧ Box wr w.heap.size 39 #[.int .i64 k, .int .i64 h, .slice A n c] ∧
        Box wr (w.heap.size + 1) 39 #[.int .i64 0, .int .i64 0, .slice none 0 0] ∧ Box wr (w.heap.size + 1 + 1) 39 #[.int .i64 k, .int .i64 h', .slice Av j cv] ∧
        Hid (wr.ownsRow (w.heap.size + 1 + 1 + 1) 39 3 (.slice Av j cv) j cs) ∧ Hid (ys.length = j ∧ upWL b k xs.length xs 0 f = ys ++ upWL b k xs.length (xs.drop j) j f) ∧
        Hid (KidL wr (fun g => w.heap.size + 1 + 1 + 1 ≤ g ∧ g < wr.heap.size ∧ some g ≠ Value.ownBlock (.slice Av j cv)) cs ys) ∧ Below w.heap.size w wr) (fun i _ => n - (intOf i).toNat)
      case atStart => exact ⟨0, none, 0, [], [], Nat.zero_le _, rfl, x1, x2, x3, Lib.hid (World.ownsRow_nil _ _ _ _), Lib.hid ⟨rfl, by simp⟩, Lib.hid (fun i t ht => by simp at ht), hb⟩
      case round =>
        obtain ⟨j, Av, cv, cs, ys, hj, rfl, y1, y2, y3, HOW, HP, HK, hbr⟩ := hrel
        clear x1 x2 x3 hb
        obtain ⟨a0, a1, a2⟩ := y1.three
        by_cases hlt : j < n
        · obtain ⟨t, ht⟩ := at_of HN.out hlt
          obtain ⟨bA, oA, k2, h2, A2, n2, c2', rfl, c0, c1, c2, hr⟩ := (RdAt.keep hbr (HX.out j t ht)).full
          have HT := Lib.hid ht; clear ht
          have HR := Lib.hid hr; clear hr
          have hi0 : (0 : Int) ≤ j := by omega
          have hi1 : (j : Int) < n := by omega
          go_wp2_with fail
          obtain ⟨r0, r1, r2⟩ := y3.three
          have HKS : Hid (∀ w' : World, (∀ g, g < wr.heap.size → some g ≠ Value.ownBlock (.slice Av j cv) → w'.heap[g]? = wr.heap[g]?) → SUp w.heap.size k h bA oA n c (.slice Av j cv) j k2 h2 A2 n2 c2' w') := Lib.hid fun w' hw' => by
            have nb : ∀ g, g < w.heap.size + 1 + 1 + 1 → some g ≠ Value.ownBlock (.slice Av j cv) := fun g hg e => by
              have := HOW.out.lt g e.symm
              omega
            have lA := cell_lt c0
            have lA' : bA < w.heap.size + 1 + 1 + 1 := by
              obtain ⟨bA', oA', _, _, _, _, _, e, q0, _⟩ := (HX.out j t HT.out).full
              have := cell_lt q0
              injection e with e; injection e with e1 e2
              dsimp only at this
              omega
            have l1 := y1.lt
            have l3 := y3.lt
            have m1 : ∀ q, w'.cell? ⟨w.heap.size, q, none⟩ = wr.cell? ⟨w.heap.size, q, none⟩ := fun q => World.cell?_of_block (hw' w.heap.size l1 (nb w.heap.size (by omega)))
            have m3 : ∀ q, w'.cell? ⟨w.heap.size + 1 + 1, q, none⟩ = wr.cell? ⟨w.heap.size + 1 + 1, q, none⟩ := fun q => World.cell?_of_block (hw' (w.heap.size + 1 + 1) l3 (nb (w.heap.size + 1 + 1) (by omega)))
            have mA : ∀ q, w'.cell? ⟨bA, q, none⟩ = wr.cell? ⟨bA, q, none⟩ := fun q => World.cell?_of_block (hw' bA lA (nb bA lA'))
            exact ⟨(m1 _).trans a0, (m1 _).trans a1, (m1 _).trans a2, (m3 _).trans r2, (mA _).trans c0, (mA _).trans c1, (mA _).trans c2⟩
          have hS := HKS.out wr.drew fun g _ _ => rfl
          have hsum : IntKind.i64.wrap (f + bd k n j) = wrap64 (f + bd k n j) := wrapEq _
          refine wp_region_cut rfl (by kernel_rfl) (by kernel_rfl) ?_
          refine wpAny_of_held (S := SUp w.heap.size k h bA oA n c (.slice Av j cv) j k2 h2 A2 n2 c2') _ _ _ _ ?_
          simp only [List.pop_toArray, List.dropLast, List.size_toArray, List.length_cons, List.length_nil, Nat.reduceAdd, Nat.reduceSub]
          refine zzT (i := 0) (v := .pointer (some ⟨w.heap.size + 1 + 1, 2, none⟩)) rfl hS ?_
          simp only [Act.put, List.setIfInBounds_toArray]
          refine zzT (i := 1) (v := .slice Av j cv) rfl hS ?_
          simp only [Act.put]
          refine zzT (i := 2) (v := .pointer (some ⟨w.heap.size, 2, none⟩)) rfl hS ?_
          simp only [Act.put]
          refine zzT (i := 3) (v := .slice (some ⟨bA, oA, none⟩) n c) rfl hS ?_
          simp only [Act.put]
          refine zzT (i := 4) (v := .int .i64 j) rfl hS ?_
          simp only [Act.put]
          refine zzT (i := 5) (v := .pointer (some ⟨bA, oA + j * 3, none⟩)) rfl hS ?_
          simp only [Act.put]
          refine zzT (i := 6) (v := .agg #[.int .i64 k2, .int .i64 h2, .slice A2 n2 c2']) rfl hS ?_
          simp only [Act.put]
          refine zzT (i := 7) (v := .int .i64 b) rfl hS ?_
          simp only [Act.put]
          refine zzT (i := 8) (v := .int .i64 f) rfl hS ?_
          simp only [Act.put]
          refine zzT (i := 9) (v := .agg #[.int .i64 k, .int .i64 h, .slice (some ⟨bA, oA, none⟩) n c]) rfl hS ?_
          simp only [Act.put]
          refine zzT (i := 10) (v := .int .i64 j) rfl hS ?_
          simp only [Act.put]
          refine wpAnyH_ready (rs := [11]) (by kernel_rfl) (by simp) ?_
          refine AllReadyH.cons rfl (fun K hK => ?_) AllReadyH.nil
          go_simp
          refine (refBinds k h _ n c hc HMM.out j (by unfold maxLen; omega) wr.drew).mono ?_
          rintro e w1 ⟨rfl, hb1⟩
          have hbB : Below wr.heap.size wr w1 := (Below.refl _ wr).drew.trans hb1
          clear hb1
          refine hK.out _ _ (HKS.out w1 fun g hg _ => hbB.block g hg) (fun hS => ?_)
          clear hK K
          try simp only [Act.put, zzP]
          refine zzT (i := 12) (v := .int .i64 (wrap64 (f + bd k n j))) rfl hS ?_
          simp only [Act.put, List.setIfInBounds_toArray]
          refine wpAnyH_ready (rs := [13]) (by kernel_rfl) (by simp) ?_
          refine AllReadyH.cons rfl (fun K hK => ?_) AllReadyH.nil
          go_simp
          refine (IH.out t (List.mem_of_getElem? HT.out) b (wrap64 (f + bd k n j)) _ w1 (Rd.keep hbB _ _ HR.out) (HND.out t (List.mem_of_getElem? HT.out))).mono ?_
          rintro e w2 ⟨v2, rfl, hrf, hb1⟩
          obtain ⟨k3, h3, A3, n3, c3, rfl⟩ := hrf.full
          have hbC : Below wr.heap.size wr w2 := hbB.trans (hb1.mono hbB.size)
          have HRF := Lib.hid hrf; clear hrf hb1
          refine hK.out _ _ (HKS.out w2 fun g hg _ => hbC.block g hg) (fun hS => ?_)
          clear hK K
          try simp only [Act.put, zzP]
          refine wpAnyH_ready (rs := [14]) (by kernel_rfl) (by simp) ?_
          refine AllReadyH.cons rfl (fun K hK => ?_) AllReadyH.nil
          go_simp
          have hbD : Below wr.heap.size wr (w2.alloc (.cells #[.int .i64 k3, .int .i64 h3, .slice A3 n3 c3] 39)) := hbC.alloc hbC.size _
          refine hK.out _ _ (HKS.out _ fun g hg _ => hbD.block g hg) (fun hS => ?_)
          clear hK K
          try simp only [Act.put, zzP]
          refine wpAnyH_ready (rs := [15]) (by kernel_rfl) (by simp) ?_
          refine AllReadyH.cons rfl (fun K hK => ?_) AllReadyH.nil
          obtain ⟨i0, hi, hz0, hz1, hz2⟩ := info_parts infoTerm
          refine step_append_lies (w2.alloc (.cells #[.int .i64 k3, .int .i64 h3, .slice A3 n3 c3] 39)) rfl (.tmp 36) (.tmp 49) 24 rfl (w.heap.size + 1 + 1 + 1) 39 i0 _ 3 40 Tryz.underlying24 hi hz0 hz1 hz2 rfl (by omega) (.slice Av j cv) j cs rfl (HOW.out.kept (grown_of_below hbD) (own_none _)) ⟨w2.heap.size, 0, none⟩ 1 1 [.int .i64 k3, .int .i64 h3, .slice A3 n3 c3] rfl rfl (World.news_of_block (heap_alloc_new w2 _)) (by intro u hu; simp at hu; rcases hu with rfl | rfl | rfl <;> rfl) (by omega) (by unfold maxLen; omega) (by omega) (by have := hbD.size; have := y3.lt; omega) _ rfl ?_
          intro g cap w4 how4 hgr hg4 hlt4
          clear hi hz0 hz1 hz2 i0
          refine hK.out _ _ (HKS.out w4 fun g' hg' hne => (hgr.block g' (Nat.lt_of_lt_of_le hg' hbD.size) hne).trans (hbD.block g' hg')) (fun hS => ?_)
          clear hK K
          try simp only [Act.put, List.setIfInBounds_toArray]
          refine zzT (i := 16) (v := .pointer (some ⟨w.heap.size + 1 + 1, 2, none⟩)) rfl hS ?_
          simp only [Act.put]
          refine wpAnyH_done (by kernel_rfl) ?_ _
          show wpList _ _ _ _ _ _
          have hw4 : ∀ g', g' < wr.heap.size → some g' ≠ Value.ownBlock (.slice Av j cv) → w4.heap[g']? = wr.heap[g']? := fun g' hg' hne => (hgr.block g' (Nat.lt_of_lt_of_le hg' hbD.size) hne).trans (hbD.block g' hg')
          have nb : ∀ g, g < w.heap.size + 1 + 1 + 1 → some g ≠ Value.ownBlock (.slice Av j cv) := fun g hg e => by
            have := HOW.out.lt g e.symm
            omega
          have z1 : Box w4 w.heap.size _ _ := (hw4 _ y1.lt (nb _ (by omega))).trans y1
          have z2 : Box w4 (w.heap.size + 1) _ _ := (hw4 _ y2.lt (nb _ (by omega))).trans y2
          have z3 : Box w4 (w.heap.size + 1 + 1) _ _ := (hw4 _ y3.lt (nb _ (by omega))).trans y3
          have l3 := y3.lt
          have s2 : wr.heap.size ≤ w2.heap.size := hbC.size
          have sB : wr.heap.size ≤ w1.heap.size := hbB.size
          have s4 : w2.heap.size + 1 ≤ w4.heap.size := by have := hgr.size; simpa using this
          have hgo : ∀ g', g' < w2.heap.size → some g' ≠ Value.ownBlock (.slice Av j cv) → w4.heap[g']? = w2.heap[g']? := fun g' hg' hne => (hgr.block g' (by simp; omega) hne).trans (Below.heap_alloc _ _ _ hg')
          have hg5 : ∀ g', g' < w2.heap.size → some g' ≠ Value.ownBlock (.slice Av j cv) → g' ≠ g := fun g' hg' hne e => by
            rcases hg4 with h4 | h4
            · rw [h4] at hne; exact hne (by rw [e])
            · have h5 : g = w2.heap.size + 1 := by simpa using h4
              omega
          have hob : ∀ g', w1.heap.size ≤ g' → some g' ≠ Value.ownBlock (.slice Av j cv) := fun g' hg' e => by
            have := HOW.out.lt g' e.symm
            omega
          have hg6 : w.heap.size + 1 + 1 + 1 ≤ g := by
            rcases hg4 with h4 | h4
            · exact (HOW.out.lt g h4).1
            · have h5 : g = w2.heap.size + 1 := by simpa using h4
              omega
          have hb4 : Below w.heap.size w w4 := below_grown (hbr.trans (hbD.mono hbr.size)) hgr (fun r hr => by have := HOW.out.lt r hr; omega) (by have := hbD.size; omega)
          have HH4 := Lib.hid how4; clear how4
          have HGO := Lib.hid hgo; clear hgo hw4 hgr hbD hS hg4
          obtain ⟨q0, q1, q2⟩ := z3.three
          have f2 := z3.frozen 2
          go_wp2_with fail
          go_roundw
          case rel =>
            have hset : ∀ g', g' ≠ w.heap.size + 1 + 1 → (w4.setCell ⟨w.heap.size + 1 + 1, 2, none⟩ (.slice (some ⟨g, 0, none⟩) (j + 1) cap)).heap[g']? = w4.heap[g']? := fun g' hne => Below.heap_setCell _ _ _ _ hne
            refine ⟨j + 1, some ⟨g, 0, none⟩, cap, _, ys ++ [upW b t (wrap64 (f + bd k n j))], by omega, by go_num, z1.other (by dsimp only; omega) _, z2.other (by dsimp only; omega) _, by simpa using z3.setAt 2 (.slice (some ⟨g, 0, none⟩) (j + 1) cap), Lib.hid (HH4.out.kept (grown_set w4 ⟨w.heap.size + 1 + 1, 2, none⟩ _) (.inr (by simp [Value.ownBlock]; omega))), Lib.hid ⟨by simp [HP.out.1], ?_⟩, Lib.hid ?_, ?_⟩
            · rw [HP.out.2, drop_at HT.out, upWL, HN.out]; simp
            · refine KidL.snoc (KidL.move HK.out (fun g' hg' => ?_) (fun g' hg' hg'' => ?_)) (by rw [HOW.out.1, HP.out.1]) (RdF.move (fun g' hg' => ?_) (fun g' hg' hg'' => ?_) _ _ HRF.out)
              · exact ⟨hg'.1, by simp; omega, fun e => hg5 g' (by omega) hg'.2.2 (by simpa [Value.ownBlock] using e)⟩
              · rw [hset g' (by omega), HGO.out g' (by omega) hg'.2.2]; exact hbC.block g' hg''
              · exact ⟨by omega, by simp; omega, fun e => hg5 g' hg'.2 (hob g' hg'.1) (by simpa [Value.ownBlock] using e)⟩
              · rw [hset g' (by omega), HGO.out g' hg'.2 (hob g' hg'.1)]
            · exact hb4.setCell (by dsimp only; omega) _
          case measure => simp [intOf]; omega
        · obtain rfl : j = n := by omega
          have hys : upWL b k xs.length xs 0 f = ys := by rw [HP.out.2, drop_all HN.out (Nat.le_refl _), upWL, List.append_nil]
          have HYS := Lib.hid hys; clear hys
          obtain ⟨d0, d1, d2⟩ := y2.three
          have f0 := y2.frozen 0
          have f1 := y2.frozen 1
          have f2 := y2.frozen 2
          obtain ⟨q0, q1, q2⟩ := y3.three
          have l3 := y3.lt
          go_wp2_with fail
          refine bodyPost_ret (v := .agg #[.int .i64 k, .int .i64 h', .slice Av j cv]) (by simp [results, Tryz.results112, go_sem, d0, d1, d2]) rfl ?_
          refine ⟨_, rfl, ?_, below_set3 hbr (by omega) _ _ _⟩
          rw [HU.out, HYS.out]
          have hset := heap_other3 wr (w.heap.size + 1) (.int .i64 k) (.int .i64 h') (.slice Av j cv)
          refine rdF_row (HOW.out.kept (grown_set3 wr (w.heap.size + 1) (.int .i64 k) (.int .i64 h') (.slice Av j cv)) (.inr fun e => by have := HOW.out.lt _ e; omega)) (KidL.move HK.out (fun _ h => h) fun g hg _ => hset g (by omega)) HP.out.1 (fun g hg => ⟨by omega, by simpa using hg.2.1⟩) (fun g hg => ?_) hk hwf2
          have := HOW.out.lt g hg
          exact ⟨by omega, by simpa using this.2⟩
end Go.Proofs.YtbbjjdnnlnabaaaGreat
