/- Texts of one proof, put together. No statement is proved here. -/
import Derived.Test.YtbbjjdnnlnabaaaGreatRows
import Derived.WalkKit
import Derived.ProofKit
import Derived.OpenShut
import Derived.Lib.Hide
import Derived.Deep.Slices
import Derived.Deep.Fields
import Derived.Deep.Strs
import Derived.ChangeSame
import Derived.Deep.QuietTactic
import Derived.BigQuiet
import Derived.StillTail
import Derived.Deep.Quiet
namespace Go.Proofs.YtbbjjdnnlnabaaaGreat
open Go.ChangeShapes Go.WideShapes Go.ChangeAt Go.RowKit
set_option linter.unusedVariables false
set_option linter.unusedSimpArgs false
inductive T where
  | node (k h : Int) (xs : List T)
theorem T.ind {M : T → Prop} (step : ∀ k h xs, (∀ t ∈ xs, M t) → M (.node k h xs)) (t : T) : M t :=
  T.rec (motive_1 := M) (motive_2 := fun l => ∀ t ∈ l, M t) (fun k h xs ih => step k h xs ih) (fun _ h => by cases h)
    (fun x l hx hl t ht => by
      rcases List.mem_cons.1 ht with rfl | h
      · exact hx
      · exact hl t h) t
mutual
def Rd (w : World) : T → Value → Prop
  | .node k h xs, v => ∃ (A : Option Addr) (n c : Nat), v = .agg #[.int .i64 k, .int .i64 h, .slice A n c] ∧ (Lit.int .i64 k).wf = true ∧ (Lit.int .i64 h).wf = true ∧
      xs.length = n ∧ n ≤ c ∧ c ≤ maxLen ∧ RdL w xs A 0
def RdL (w : World) : List T → Option Addr → Nat → Prop
  | [], _, _ => True
  | t :: ts, A, j => (∃ b o v0 v1 v2, A = some ⟨b, o, none⟩ ∧ w.cell? ⟨b, o + j * 3, none⟩ = some v0 ∧ w.cell? ⟨b, o + j * 3 + 1, none⟩ = some v1 ∧
      w.cell? ⟨b, o + j * 3 + 2, none⟩ = some v2 ∧ Rd w t (.agg #[v0, v1, v2])) ∧ RdL w ts A (j + 1)
end
def RdAt (w : World) (A : Option Addr) (j : Nat) (t : T) : Prop :=
  ∃ b o v0 v1 v2, A = some ⟨b, o, none⟩ ∧ w.cell? ⟨b, o + j * 3, none⟩ = some v0 ∧ w.cell? ⟨b, o + j * 3 + 1, none⟩ = some v1 ∧
      w.cell? ⟨b, o + j * 3 + 2, none⟩ = some v2 ∧ Rd w t (.agg #[v0, v1, v2])
theorem RdL_iff (w : World) (A : Option Addr) : ∀ (ts : List T) (j : Nat), RdL w ts A j ↔ ∀ i t, ts[i]? = some t → RdAt w A (j + i) t
  | [], j => by simp [RdL]
  | t :: ts, j => by
    rw [RdL, RdL_iff w A ts (j + 1)]
    constructor
    · rintro ⟨h0, h1⟩ i u hu
      cases i with
      | zero => simp only [List.getElem?_cons_zero, Option.some.injEq] at hu; subst hu; exact h0
      | succ i => have := h1 i u (by simpa using hu); rw [show j + (i + 1) = j + 1 + i by omega]; exact this
    · intro h
      refine ⟨h 0 t rfl, fun i u hu => ?_⟩
      have := h (i + 1) u (by simpa using hu)
      rw [show j + 1 + i = j + (i + 1) by omega]; exact this
theorem Rd_node {w : World} {k h : Int} {xs : List T} {v : Value} : Rd w (.node k h xs) v ↔
    ∃ (A : Option Addr) (n c : Nat), v = .agg #[.int .i64 k, .int .i64 h, .slice A n c] ∧ (Lit.int .i64 k).wf = true ∧ (Lit.int .i64 h).wf = true ∧
      xs.length = n ∧ n ≤ c ∧ c ≤ maxLen ∧ ∀ i t, xs[i]? = some t → RdAt w A i t := by
  rw [Rd]
  simp only [RdL_iff, Nat.zero_add]
theorem cell_lt {w : World} {a : Addr} {v : Value} (h : w.cell? a = some v) : a.block < w.heap.size := by
  unfold World.cell? at h
  split at h
  · rename_i hh; exact (Array.getElem?_eq_some_iff.1 hh).1
  · cases h
theorem Rd.keep {w w' : World} (hk : Below w.heap.size w w') : ∀ (t : T) (v : Value), Rd w t v → Rd w' t v := by
  refine T.ind fun k h xs ih v hv => ?_
  obtain ⟨A, n, c, rfl, h1, h2, h3, h4, h5, h6⟩ := Rd_node.1 hv
  refine Rd_node.2 ⟨A, n, c, rfl, h1, h2, h3, h4, h5, fun i t ht => ?_⟩
  obtain ⟨b, o, v0, v1, v2, rfl, c0, c1, c2, hr⟩ := h6 i t ht
  refine ⟨b, o, v0, v1, v2, rfl, (hk.cell (cell_lt c0)).trans c0, (hk.cell (cell_lt c1)).trans c1, (hk.cell (cell_lt c2)).trans c2, ih t (List.mem_of_getElem? ht) _ hr⟩
theorem RdAt.keep {w w' : World} (hk : Below w.heap.size w w') {A : Option Addr} {j : Nat} {t : T} (h : RdAt w A j t) : RdAt w' A j t := by
  obtain ⟨b, o, v0, v1, v2, rfl, c0, c1, c2, hr⟩ := h
  exact ⟨b, o, v0, v1, v2, rfl, (hk.cell (cell_lt c0)).trans c0, (hk.cell (cell_lt c1)).trans c1, (hk.cell (cell_lt c2)).trans c2, Rd.keep hk t _ hr⟩
theorem RdAt.full {w : World} {A : Option Addr} {j : Nat} {t : T} (h : RdAt w A j t) :
    ∃ b o k h A' n c, A = some ⟨b, o, none⟩ ∧ w.cell? ⟨b, o + j * 3, none⟩ = some (.int .i64 k) ∧ w.cell? ⟨b, o + j * 3 + 1, none⟩ = some (.int .i64 h) ∧
      w.cell? ⟨b, o + j * 3 + 2, none⟩ = some (.slice A' n c) ∧ Rd w t (.agg #[.int .i64 k, .int .i64 h, .slice A' n c]) := by
  obtain ⟨b, o, v0, v1, v2, rfl, c0, c1, c2, hr⟩ := h
  obtain ⟨k, h, xs⟩ := t
  have hr' := hr
  obtain ⟨A', n, c, e, _⟩ := Rd_node.1 hr
  have e' : v0 = .int .i64 k ∧ v1 = .int .i64 h ∧ v2 = .slice A' n c := by simpa using e
  obtain ⟨rfl, rfl, rfl⟩ := e'
  exact ⟨b, o, k, h, A', n, c, rfl, c0, c1, c2, hr'⟩
theorem Rd.full {w : World} {t : T} {v : Value} (h : Rd w t v) : ∃ k h A n c, v = .agg #[.int .i64 k, .int .i64 h, .slice A n c] := by
  obtain ⟨k, g, xs⟩ := t
  obtain ⟨A, n, c, e, _⟩ := Rd_node.1 h
  exact ⟨k, g, A, n, c, e⟩
/-! ### Regions that draw their order, whose operations read and whose callees make memory: the class of the worlds that come of one -/
structure Past (w : World) where
  wd : World
  h : Below w.heap.size w wd
instance (w : World) : Nonempty (Past w) := ⟨⟨w, Below.refl _ _⟩⟩
theorem wp_region_past {P : Program} {id : Nat} {Q : Exit → Act → World → Prop} {a : Act} {w : World} {l : List Oper} (hm : P.follows .mixedOrders = true) (hB : Region.lexB .any l.toArray = true)
    (h : wpQuiet P l.toArray (fun w' => ∃ z : Past w, w' = z.wd) (fun a' => ∀ w', (∃ z : Past w, w' = z.wd) → Q .normal a' w') l a) : (Code.region id l.toArray true).wp P Q a w :=
  wp_region_quiet (C := fun w' => ∃ z : Past w, w' = z.wd) hm hB ⟨⟨w.drew, (Below.refl _ _).drew⟩, rfl⟩ (by simpa using h)
theorem calls_past {P : Program} {f : FuncId} {args : Array Value} {w : World} {z : Past w} {v : Value} (h : Calls P f args z.wd fun e w' => e = .returned v ∧ Below z.wd.heap.size z.wd w') :
    Calls P f args z.wd fun e w'' => e = .returned v ∧ ∃ z' : Past w, w'' = z'.wd :=
  h.mono fun _ w' ⟨he, hw⟩ => ⟨he, ⟨w', z.h.trans (hw.mono z.h.size)⟩, rfl⟩
theorem Past.cell {w : World} {a : Addr} {v : Value} (h : w.cell? a = some v) (z : Past w) : z.wd.cell? a = some v := (z.h.cell (cell_lt h)).trans h
/-! ### From the reading of an argument -/
section
variable {H : Type} {enc : TypeId × Value → H} {w : World} {base : Nat} {spare : Nat → Bool} {held : Bool}
theorem Tryz.cellsTerm : Tryz.prog.cellsOf 39 = 3 := by kernel_rfl
theorem Tryz.cellsInt : Tryz.prog.cellsOf 3 = 1 := by kernel_rfl
theorem Tryz.cellsArgs : Tryz.prog.cellsOf 24 = 1 := by kernel_rfl
end
end Go.Proofs.YtbbjjdnnlnabaaaGreat
namespace Go.Proofs.YtbbjjdnnlnabaaaGreat
open Go.ChangeShapes Go.WideShapes Go.ChangeAt Go.RowKit
set_option linter.unusedVariables false
set_option linter.unusedSimpArgs false
set_option maxHeartbeats 1000000
/-! ### What they tell, as plain functions -/
mutual
def szW : T → Int
  | .node _ _ xs => szWL xs 1
def szWL : List T → Int → Int
  | [], n => n
  | t :: ts, n => szWL ts (wrap64 (n + szW t))
end
mutual
def dpW : T → Int
  | .node _ _ xs => wrap64 (dpWL xs 0 + 1)
def dpWL : List T → Int → Int
  | [], n => n
  | t :: ts, n => dpWL ts (if n < dpW t then dpW t else n)
end
mutual
def lowB : T → Bool
  | .node _ h xs => decide (h ≤ 1099511627776) && lowL xs
def lowL : List T → Bool
  | [] => true
  | t :: ts => lowB t && lowL ts
end
def okN (k h : Int) (n : Nat) : Bool :=
  (k == 0 && h == 0 && n == 0) || (k == 1 && h == 0 && n == 2) || (k == 3 && h == 0 && n == 1) || ((k == 2 || k == 4 || k == 5 || k == 6) && decide (0 ≤ h))
mutual
def nodB : T → Bool
  | .node k h xs => okN k h xs.length && nodL xs
def nodL : List T → Bool
  | [] => true
  | t :: ts => nodB t && nodL ts
end
mutual
def samB : T → T → Bool
  | .node k h xs, .node k' h' ys => k == k' && h == h' && xs.length == ys.length && samL xs ys
def samL : List T → List T → Bool
  | x :: xs, y :: ys => samB x y && samL xs ys
  | _, _ => true
end
def bd (k : Int) (n i : Nat) : Int := if (k = 1 ∨ k = 3) ∧ i + 1 = n then 1 else 0
theorem drop_at {α : Type} {l : List α} {k : Nat} {t : α} (h : l[k]? = some t) : l.drop k = t :: l.drop (k + 1) := by
  obtain ⟨hk, rfl⟩ := List.getElem?_eq_some_iff.1 h
  rw [List.drop_eq_getElem_cons hk]
theorem drop_all {α : Type} {l : List α} {k n : Nat} (h : l.length = n) (hk : n ≤ k) : l.drop k = [] := List.drop_eq_nil_of_le (by omega)
theorem at_of {α : Type} {l : List α} {k n : Nat} (h : l.length = n) (hk : k < n) : ∃ t, l[k]? = some t := ⟨_, List.getElem?_eq_getElem (by omega)⟩
theorem ret_int {k : IntKind} {a b : Int} (h : a = b) : Ending.returned (.int k a) = .returned (.int k b) := by rw [h]
theorem ret_bool {a b : Bool} (h : a = b) : Ending.returned (.bool a) = .returned (.bool b) := by rw [h]
def Box (w : World) (b : Nat) (ty : TypeId) (cs : Array Value) : Prop := w.heap[b]? = some (.cells cs ty (0, 0))
section
variable {w w' : World} {B b : Nat} {ty : TypeId} {cs : Array Value}
theorem Box.cell (h : Box w b ty cs) (i : Nat) : w.cell? ⟨b, i, none⟩ = cs[i]? := by
  unfold Box at h
  simp [World.cell?, h]
theorem Box.frozen (h : Box w b ty cs) (i : Nat) : w.frozen? ⟨b, i, none⟩ = false := by
  unfold Box at h
  simp [World.frozen?, h]
theorem Box.lt (h : Box w b ty cs) : b < w.heap.size := (Array.getElem?_eq_some_iff.1 h).1
theorem Box.new (w : World) (ty : TypeId) (cs : Array Value) : Box (w.alloc (.cells cs ty)) w.heap.size ty cs := heap_alloc_new w _
theorem Box.keep (h : Box w b ty cs) (hk : Below B w w') (hb : b < B) : Box w' b ty cs := (hk.block b hb).trans h
theorem Box.alloc (h : Box w b ty cs) (o : Obj) : Box (w.alloc o) b ty cs := (Below.heap_alloc w o b h.lt).trans h
end
theorem Box.three {w : World} {b : Nat} {ty : TypeId} {x y z : Value} (h : Box w b ty #[x, y, z]) : w.cell? ⟨b, 0, none⟩ = some x ∧ w.cell? ⟨b, 1, none⟩ = some y ∧ w.cell? ⟨b, 2, none⟩ = some z :=
  ⟨h.cell 0, h.cell 1, h.cell 2⟩
/-! ### Sizes and depths -/
theorem refSize (t : T) : ∀ (v : Value) (w : World), Rd w t v →
    Calls Tryz.prog 27 #[v] w fun e w' => e = .returned (.int .i64 (szW t)) ∧ Below w.heap.size w w' := by
  induction t using T.ind with
  | step k h xs ih =>
    intro v w hv
    obtain ⟨A, n, c, rfl, hk, hh, hn, hc, hm, hx⟩ := Rd_node.1 hv
    unfold maxLen at hm
    have HN := Lib.hid hn; clear hn
    have HX := Lib.hid hx; clear hx
    have IH := Lib.hid ih; clear ih
    go_enter Tryz.func27, Tryz.ntmps27
    go_wp2_with fail
    go_loopw [3, 4] (fun s i wr => ∃ (j : Nat) (m : Int), j ≤ n ∧ i = .int .i64 j ∧ s = .int .i64 m ∧ Hid (szWL (xs.drop j) m = szW (.node k h xs)) ∧ Box wr w.heap.size 39 #[.int .i64 k, .int .i64 h, .slice A n c] ∧ Below w.heap.size w wr) (fun _ i _ => n - (intOf i).toNat)
    case atStart => exact ⟨0, 1, Nat.zero_le _, rfl, rfl, by simp [Hid, szW], Box.new _ _ _, (Below.refl _ _).alloc (Nat.le_refl _) _⟩
    case round =>
      obtain ⟨j, m, hj, rfl, rfl, HS, hbox, hb⟩ := hrel
      obtain ⟨b0, b1, b2⟩ := hbox.three
      by_cases hlt : j < n
      · obtain ⟨t, ht⟩ := at_of HN.out hlt
        obtain ⟨b, o, v0, v1, v2, rfl, c0, c1, c2, hr⟩ := RdAt.keep hb (HX.out j t ht)
        have HT := Lib.hid ht; clear ht
        go_wp2_with fail
        refine (IH.out t (List.mem_of_getElem? HT.out) _ _ hr).mono ?_
        rintro e w1 ⟨rfl, hb1⟩
        go_wp2_with fail
        go_roundw
        case rel => exact ⟨j + 1, wrap64 (m + szW t), by omega, by go_num, rfl, by have := HS.out; rw [drop_at HT.out, szWL] at this; exact this, hbox.keep hb1 hbox.lt, hb.trans (hb1.mono hb.size)⟩
        case measure => simp [intOf]; omega
      · go_wp2_with fail
        go_ret
        exact ⟨ret_int (by have := HS.out; rw [drop_all HN.out (by omega), szWL] at this; exact this), hb⟩
theorem refDepth (t : T) : ∀ (v : Value) (w : World), Rd w t v →
    Calls Tryz.prog 28 #[v] w fun e w' => e = .returned (.int .i64 (dpW t)) ∧ Below w.heap.size w w' := by
  induction t using T.ind with
  | step k h xs ih =>
    intro v w hv
    obtain ⟨A, n, c, rfl, hk, hh, hn, hc, hm, hx⟩ := Rd_node.1 hv
    unfold maxLen at hm
    have HN := Lib.hid hn; clear hn
    have HX := Lib.hid hx; clear hx
    have IH := Lib.hid ih; clear ih
    go_enter Tryz.func28, Tryz.ntmps28
    go_wp2_with fail
    go_loopw [3, 4] (fun s i wr => ∃ (j : Nat) (m : Int), j ≤ n ∧ i = .int .i64 j ∧ s = .int .i64 m ∧ Hid (wrap64 (dpWL (xs.drop j) m + 1) = dpW (.node k h xs)) ∧ Box wr w.heap.size 39 #[.int .i64 k, .int .i64 h, .slice A n c] ∧ Below w.heap.size w wr) (fun _ i _ => n - (intOf i).toNat)
    case atStart => exact ⟨0, 0, Nat.zero_le _, rfl, rfl, by simp [Hid, dpW], Box.new _ _ _, (Below.refl _ _).alloc (Nat.le_refl _) _⟩
    case round =>
      obtain ⟨j, m, hj, rfl, rfl, HS, hbox, hb⟩ := hrel
      obtain ⟨b0, b1, b2⟩ := hbox.three
      by_cases hlt : j < n
      · obtain ⟨t, ht⟩ := at_of HN.out hlt
        obtain ⟨b, o, v0, v1, v2, rfl, c0, c1, c2, hr⟩ := RdAt.keep hb (HX.out j t ht)
        have HT := Lib.hid ht; clear ht
        by_cases hd : m < dpW t
        all_goals
          go_wp2_with fail
          refine (IH.out t (List.mem_of_getElem? HT.out) _ _ hr).mono ?_
          rintro e w1 ⟨rfl, hb1⟩
          go_wp2_with fail
          go_roundw
          case rel => exact ⟨j + 1, if m < dpW t then dpW t else m, by omega, by go_num, by first | rw [if_pos hd] | rw [if_neg (by omega)], by have := HS.out; rw [drop_at HT.out, dpWL] at this; exact this, hbox.keep hb1 hbox.lt, hb.trans (hb1.mono hb.size)⟩
          case measure => simp [intOf]; omega
      · go_wp2_with fail
        go_ret
        exact ⟨ret_int (by have := HS.out; rw [drop_all HN.out (by omega), dpWL] at this; exact this), hb⟩
theorem refLow (t : T) : ∀ (v : Value) (w : World), Rd w t v →
    Calls Tryz.prog 26 #[v] w fun e w' => e = .returned (.bool (lowB t)) ∧ Below w.heap.size w w' := by
  induction t using T.ind with
  | step k h xs ih =>
    intro v w hv
    obtain ⟨A, n, c, rfl, hk, hh, hn, hc, hm, hx⟩ := Rd_node.1 hv
    unfold maxLen at hm
    have HN := Lib.hid hn; clear hn
    have HX := Lib.hid hx; clear hx
    have IH := Lib.hid ih; clear ih
    by_cases hlow : h ≤ 1099511627776
    · go_enter Tryz.func26, Tryz.ntmps26
      go_wp2_with fail
      go_loopw [3] (fun i wr => ∃ (j : Nat), j ≤ n ∧ i = .int .i64 j ∧ Hid (lowL (xs.drop j) = lowB (.node k h xs)) ∧ Box wr w.heap.size 39 #[.int .i64 k, .int .i64 h, .slice A n c] ∧ Below w.heap.size w wr) (fun i _ => n - (intOf i).toNat)
      case atStart => exact ⟨0, Nat.zero_le _, rfl, by simp [Hid, lowB, hlow], Box.new _ _ _, (Below.refl _ _).alloc (Nat.le_refl _) _⟩
      case round =>
        obtain ⟨j, hj, rfl, HS, hbox, hb⟩ := hrel
        obtain ⟨b0, b1, b2⟩ := hbox.three
        by_cases hlt : j < n
        · obtain ⟨t, ht⟩ := at_of HN.out hlt
          obtain ⟨b, o, v0, v1, v2, rfl, c0, c1, c2, hr⟩ := RdAt.keep hb (HX.out j t ht)
          have HT := Lib.hid ht; clear ht
          go_wp2_with fail
          refine (IH.out t (List.mem_of_getElem? HT.out) _ _ hr).mono ?_
          have HS' := HS.out
          rw [drop_at HT.out, lowL] at HS'
          have HS := Lib.hid HS'; clear HS'
          generalize lowB t = r at *
          rintro e w1 ⟨rfl, hb1⟩
          cases r
          · go_wp2_with fail
            go_ret
            exact ⟨ret_bool (by simpa using HS.out), hb.trans (hb1.mono hb.size)⟩
          · go_wp2_with fail
            go_roundw
            case rel => exact ⟨j + 1, by omega, by go_num, Lib.hid (by simpa using HS.out), hbox.keep hb1 hbox.lt, hb.trans (hb1.mono hb.size)⟩
            case measure => simp [intOf]; omega
        · go_wp2_with fail
          go_ret
          exact ⟨ret_bool (by have := HS.out; rw [drop_all HN.out (by omega), lowL] at this; exact this), hb⟩
    · have hlow' : 1099511627776 < h := by omega
      go_enter Tryz.func26, Tryz.ntmps26
      go_wp2_with fail
      go_ret
      exact ⟨ret_bool (by simp [lowB]; omega), (Below.refl _ _).alloc (Nat.le_refl _) _⟩
/-! ### Sameness -/
theorem refSame (t : T) : ∀ (u : T) (v v' : Value) (w : World), Rd w t v → Rd w u v' →
    Calls Tryz.prog 78 #[v, v'] w fun e w' => e = .returned (.bool (samB t u)) ∧ Below w.heap.size w w' := by
  induction t using T.ind with
  | step k h xs ih =>
    intro u v v' w hv hv'
    obtain ⟨k', h', ys⟩ := u
    obtain ⟨A, n, c, rfl, hk, hh, hn, hc, hm, hx⟩ := Rd_node.1 hv
    obtain ⟨A', n', c', rfl, hk', hh', hn', hc', hm', hy⟩ := Rd_node.1 hv'
    clear hv hv'
    unfold maxLen at hm hm'
    have HN := Lib.hid hn; clear hn
    have HX := Lib.hid hx; clear hx
    have HN' := Lib.hid hn'; clear hn'
    have HY := Lib.hid hy; clear hy
    have IH := Lib.hid ih; clear ih
    by_cases ek : k = k'
    · subst ek
      by_cases eh : h = h'
      · subst eh
        by_cases en : n = n'
        · subst en
          go_enter Tryz.func78, Tryz.ntmps78
          go_wp2_with fail
          go_loopw [5] (fun i wr => ∃ (j : Nat), j ≤ n ∧ i = .int .i64 j ∧ Hid (samL (xs.drop j) (ys.drop j) = samB (.node k h xs) (.node k h ys)) ∧ Box wr w.heap.size 39 #[.int .i64 k, .int .i64 h, .slice A n c]
             ∧ Box wr (w.heap.size + 1) 39 #[.int .i64 k, .int .i64 h, .slice A' n c'] ∧ Below w.heap.size w wr) (fun i _ => n - (intOf i).toNat)
          case atStart => exact ⟨0, Nat.zero_le _, rfl, Lib.hid (by simp [samB, HN.out, HN'.out]), (Box.new _ _ _).alloc _, by have := Box.new (w.alloc (.cells #[.int .i64 k, .int .i64 h, .slice A n c] 39)) 39 #[.int .i64 k, .int .i64 h, .slice A' n c']; simpa using this, ((Below.refl _ _).alloc (Nat.le_refl _) _).alloc (by simp) _⟩
          case round =>
            obtain ⟨j, hj, rfl, HS, hbox, hbox', hb⟩ := hrel
            obtain ⟨b0, b1, b2⟩ := hbox.three
            obtain ⟨d0, d1, d2⟩ := hbox'.three
            by_cases hlt : j < n
            · obtain ⟨t, ht⟩ := at_of HN.out hlt
              obtain ⟨u, hu⟩ := at_of HN'.out hlt
              obtain ⟨b, o, v0, v1, v2, rfl, c0, c1, c2, hr⟩ := RdAt.keep hb (HX.out j t ht)
              obtain ⟨b', o', v0', v1', v2', rfl, c0', c1', c2', hr'⟩ := RdAt.keep hb (HY.out j u hu)
              have HT := Lib.hid ht; clear ht
              have HU := Lib.hid hu; clear hu
              go_wp2_with fail
              have HS' := HS.out
              rw [drop_at HT.out, drop_at HU.out, samL] at HS'
              have HS := Lib.hid HS'; clear HS'
              have pb2 := Past.cell b2
              have pd2 := Past.cell d2
              have p0 := Past.cell c0
              have p1 := Past.cell c1
              have p2 := Past.cell c2
              have p0' := Past.cell c0'
              have p1' := Past.cell c1'
              have p2' := Past.cell c2'
              have hi0 : (0 : Int) ≤ j := by omega
              have hi1 : (j : Int) < n := by omega
              refine wp_region_past (by kernel_rfl) (by kernel_rfl) ?_
              repeat (go_big_quiet_step ((exact calls_past (IH.out t (List.mem_of_getElem? HT.out) u _ _ _ (Rd.keep (Past.h _) _ _ hr) (Rd.keep (Past.h _) _ _ hr')))))
              refine wpQuiet_nil ?_
              rintro _ ⟨z, rfl⟩
              clear pb2 pd2 p0 p1 p2 p0' p1' p2'
              obtain ⟨w1, hb1⟩ := z
              generalize samB t u = r at *
              cases r
              · go_wp2_with fail
                go_ret
                exact ⟨ret_bool (by simpa using HS.out), hb.trans (hb1.mono hb.size)⟩
              · go_wp2_with fail
                go_roundw
                case rel => exact ⟨j + 1, by omega, by go_num, Lib.hid (by simpa using HS.out), hbox.keep hb1 hbox.lt, hbox'.keep hb1 hbox'.lt, hb.trans (hb1.mono hb.size)⟩
                case measure => simp [intOf]; omega
            · go_wp2_with fail
              go_ret
              exact ⟨ret_bool (by have := HS.out; rw [drop_all HN.out (by omega), samL] at this; exact this; simp), hb⟩
        · have en' : ((n : Int) != n') = true := by rw [bne_iff_ne]; omega
          go_enter Tryz.func78, Tryz.ntmps78
          go_wp2_with fail
          all_goals first | (go_ret; exact ⟨ret_bool (by simp [samB, HN.out, HN'.out, en]), ((Below.refl _ _).alloc (Nat.le_refl _) _).alloc (by simp) _⟩) | (exfalso; omega)
      · have eh' : (h != h') = true := by simpa using eh
        go_enter Tryz.func78, Tryz.ntmps78
        go_wp2_with fail
        go_ret
        exact ⟨ret_bool (by simp [samB, eh]), ((Below.refl _ _).alloc (Nat.le_refl _) _).alloc (by simp) _⟩
    · have ek' : (k != k') = true := by simpa using ek
      go_enter Tryz.func78, Tryz.ntmps78
      go_wp2_with fail
      go_ret
      exact ⟨ret_bool (by simp [samB, ek]), ((Below.refl _ _).alloc (Nat.le_refl _) _).alloc (by simp) _⟩
end Go.Proofs.YtbbjjdnnlnabaaaGreat
namespace Go.Proofs.YtbbjjdnnlnabaaaGreat
open Go.ChangeShapes Go.WideShapes Go.ChangeAt Go.RowKit
set_option linter.unusedVariables false
set_option linter.unusedSimpArgs false
set_option maxHeartbeats 400000
theorem refBinds (k h : Int) (A : Option Addr) (n c : Nat) (hc : n ≤ c) (hm : c ≤ maxLen) (i : Nat) (hi : i ≤ maxLen) (w : World) :
    Calls Tryz.prog 75 #[.agg #[.int .i64 k, .int .i64 h, .slice A n c], .int .i64 i] w fun e w' => e = .returned (.int .i64 (bd k n i)) ∧ Below w.heap.size w w' := by
  unfold maxLen at hm hi
  have hb : Below w.heap.size w (w.alloc (.cells #[.int .i64 k, .int .i64 h, .slice A n c] 39)) := (Below.refl _ _).alloc (Nat.le_refl _) _
  by_cases h1 : k = 1
  · subst h1
    by_cases h2 : i + 1 = n
    · have e : ((i : Int) == (n : Int) - 1) = true := by rw [beq_iff_eq]; omega
      have E : bd 1 n i = 1 := by simp [bd, h2]
      have H2 := Lib.hid h2; clear h2
      go_enter Tryz.func75, Tryz.ntmps75
      go_wp2_with fail
      all_goals first | (go_ret; exact ⟨ret_int (by first | rw [E] | simp), hb⟩) | (exfalso; omega)
    · have e : ((i : Int) == (n : Int) - 1) = false := by rw [beq_eq_false_iff_ne]; omega
      have E : bd 1 n i = 0 := by simp [bd, h2]
      go_enter Tryz.func75, Tryz.ntmps75
      go_wp2_with fail
      all_goals first | (go_ret; exact ⟨ret_int (by first | rw [E] | simp), hb⟩) | (exfalso; omega)
  · by_cases h3 : k = 3
    · subst h3
      by_cases h2 : i + 1 = n
      · have e : ((i : Int) == (n : Int) - 1) = true := by rw [beq_iff_eq]; omega
        have E : bd 3 n i = 1 := by simp [bd, h2]
        have H2 := Lib.hid h2; clear h2
        go_enter Tryz.func75, Tryz.ntmps75
        go_wp2_with fail
        all_goals first | (go_ret; exact ⟨ret_int (by first | rw [E] | simp), hb⟩) | (exfalso; omega)
      · have e : ((i : Int) == (n : Int) - 1) = false := by rw [beq_eq_false_iff_ne]; omega
        have E : bd 3 n i = 0 := by simp [bd, h2]
        go_enter Tryz.func75, Tryz.ntmps75
        go_wp2_with fail
        all_goals first | (go_ret; exact ⟨ret_int (by first | rw [E] | simp), hb⟩) | (exfalso; omega)
    · have e1 : (k == 1) = false := by simpa using h1
      have e3 : (k == 3) = false := by simpa using h3
      have E : bd k n i = 0 := by simp [bd, h1, h3]
      go_enter Tryz.func75, Tryz.ntmps75
      go_wp2_with fail
      go_ret
      exact ⟨ret_int (by rw [E]), hb⟩
theorem wrapEq (x : Int) : IntKind.i64.wrap x = wrap64 x := by rw [IntKind.wrap_i64, wrap64]
set_option maxHeartbeats 4000000
def ltB (t : T) (s d : Int) : Bool := lowB t && decide (szW t ≤ s) && decide (dpW t ≤ d)
theorem refLight (t : T) (s d : Int) (v : Value) (w : World) (hv : Rd w t v) :
    Calls Tryz.prog 17 #[v, .int .i64 s, .int .i64 d] w fun e w' => e = .returned (.bool (ltB t s d)) ∧ Below w.heap.size w w' := by
  obtain ⟨v0, v1, v2, rfl⟩ : ∃ v0 v1 v2, v = .agg #[v0, v1, v2] := by
    obtain ⟨k, h, xs⟩ := t
    obtain ⟨A, n, c, rfl, _⟩ := Rd_node.1 hv
    exact ⟨_, _, _, rfl⟩
  have E : ltB t s d = (lowB t && decide (szW t ≤ s) && decide (dpW t ≤ d)) := rfl
  generalize ltB t s d = R at *
  have E := Lib.hid E
  have hb0 : Below w.heap.size w (w.alloc (.cells #[v0, v1, v2] 39)) := (Below.refl _ _).alloc (Nat.le_refl _) _
  go_enter Tryz.func17, Tryz.ntmps17
  go_wp2_with fail
  refine (refLow t _ _ (Rd.keep hb0 _ _ hv)).mono ?_
  rintro e w1 ⟨rfl, hb1⟩
  have hbox := (Box.new w 39 #[v0, v1, v2]).keep hb1 (Box.new _ _ _).lt
  have hb1 := hb0.trans (hb1.mono hb0.size)
  obtain ⟨b0, b1, b2⟩ := hbox.three
  generalize lowB t = r1 at *
  cases r1
  · go_wp2_with fail
    go_ret
    exact ⟨ret_bool (by rw [E.out]; rfl), hb1⟩
  · go_wp2_with fail
    refine (refSize t _ _ (Rd.keep hb1 _ _ hv)).mono ?_
    rintro e w2 ⟨rfl, hb2⟩
    have hbox := hbox.keep hb2 hbox.lt
    have hb2 := hb1.trans (hb2.mono hb1.size)
    clear b0 b1 b2
    obtain ⟨b0, b1, b2⟩ := hbox.three
    by_cases hs : szW t ≤ s
    · have hs' : decide (szW t ≤ s) = true := by simpa using hs
      have E' := E.out
      rw [hs'] at E'
      have E := Lib.hid E'; clear E'
      go_wp2_with fail
      refine (refDepth t _ _ (Rd.keep hb2 _ _ hv)).mono ?_
      rintro e w3 ⟨rfl, hb3⟩
      have hb3 := hb2.trans (hb3.mono hb2.size)
      go_wp2_with fail
      go_ret
      exact ⟨ret_bool (by rw [E.out]; rfl), hb3⟩
    · have hs' : decide (szW t ≤ s) = false := by simpa using hs
      have E' := E.out
      rw [hs'] at E'
      have E := Lib.hid E'; clear E'
      go_wp2_with fail
      go_ret
      exact ⟨ret_bool (by rw [E.out]; rfl), hb2⟩
theorem okN_cases {k h : Int} {n : Nat} (e : okN k h n = true) : (k = 0 ∧ h = 0 ∧ n = 0) ∨ (k = 1 ∧ h = 0 ∧ n = 2) ∨ (k = 3 ∧ h = 0 ∧ n = 1) ∨ (k = 2 ∧ 0 ≤ h) ∨ (k = 4 ∧ 0 ≤ h) ∨ (k = 5 ∧ 0 ≤ h) ∨ (k = 6 ∧ 0 ≤ h) := by
  simp only [okN, Bool.or_eq_true, Bool.and_eq_true, beq_iff_eq, decide_eq_true_eq] at e
  omega
theorem refNodes (t : T) : ∀ (v : Value) (w : World), Rd w t v →
    Calls Tryz.prog 74 #[v] w fun e w' => e = .returned (.bool (nodB t)) ∧ Below w.heap.size w w' := by
  induction t using T.ind with
  | step k h xs ih =>
    intro v w hv
    obtain ⟨A, n, c, rfl, hk, hh, hn, hc, hm, hx⟩ := Rd_node.1 hv
    clear hv
    unfold maxLen at hm
    have HX := Lib.hid hx; clear hx
    have IH := Lib.hid ih; clear ih
    by_cases hok : okN k h n = true
    · have E0 : nodB (.node k h xs) = nodL xs := by rw [nodB, hn, hok]; rfl
      have HE := Lib.hid E0; clear E0
      have HN := Lib.hid hn; clear hn
      rcases okN_cases hok with ⟨rfl, rfl, en⟩ | ⟨rfl, rfl, en⟩ | ⟨rfl, rfl, en⟩ | ⟨rfl, h0⟩ | ⟨rfl, h0⟩ | ⟨rfl, h0⟩ | ⟨rfl, h0⟩
      case' inl => (have en' : ((n : Int) != 0) = false := by rw [en]; rfl); clear en
      case' inr.inl => (have en' : ((n : Int) != 2) = false := by rw [en]; rfl); clear en
      case' inr.inr.inl => (have en' : ((n : Int) != 1) = false := by rw [en]; rfl); clear en
      all_goals
        clear hok
        go_enter Tryz.func74, Tryz.ntmps74
        go_wp2_with fail
        go_loopw [3] (fun i wr => ∃ (j : Nat), j ≤ n ∧ i = .int .i64 j ∧ Hid (nodL (xs.drop j) = nodB (.node _ _ xs)) ∧ Box wr w.heap.size 39 #[.int .i64 _, .int .i64 _, .slice A n c] ∧ Below w.heap.size w wr) (fun i _ => n - (intOf i).toNat)
        case atStart => exact ⟨0, Nat.zero_le _, rfl, Lib.hid (by rw [HE.out]; rfl), Box.new _ _ _, (Below.refl _ _).alloc (Nat.le_refl _) _⟩
        case round =>
          obtain ⟨j, hj, rfl, HS, hbox, hb⟩ := hrel
          obtain ⟨b0, b1, b2⟩ := hbox.three
          by_cases hlt : j < n
          · obtain ⟨t, ht⟩ := at_of HN.out hlt
            obtain ⟨b, o, v0, v1, v2, rfl, c0, c1, c2, hr⟩ := RdAt.keep hb (HX.out j t ht)
            have HT := Lib.hid ht; clear ht
            go_wp2_with fail
            refine (IH.out t (List.mem_of_getElem? HT.out) _ _ hr).mono ?_
            have HS' := HS.out
            rw [drop_at HT.out, nodL] at HS'
            have HS := Lib.hid HS'; clear HS'
            generalize nodB t = r at *
            rintro e w1 ⟨rfl, hb1⟩
            cases r
            · go_wp2_with fail
              go_ret
              exact ⟨ret_bool (by simpa using HS.out), hb.trans (hb1.mono hb.size)⟩
            · go_wp2_with fail
              go_roundw
              case rel => exact ⟨j + 1, by omega, by go_num, Lib.hid (by simpa using HS.out), hbox.keep hb1 hbox.lt, hb.trans (hb1.mono hb.size)⟩
              case measure => simp [intOf]; omega
          · go_wp2_with fail
            go_ret
            exact ⟨ret_bool (by have := HS.out; rw [drop_all HN.out (by omega), nodL] at this; exact this), hb⟩
    · have hok : okN k h n = false := by simpa using hok
      have E0 : nodB (.node k h xs) = false := by rw [nodB, hn, hok]; rfl
      have HE := Lib.hid E0; clear E0
      have hb : Below w.heap.size w (w.alloc (.cells #[.int .i64 k, .int .i64 h, .slice A n c] 39)) := (Below.refl _ _).alloc (Nat.le_refl _) _
      have HK := Lib.hid hok; clear hok
      have hcases : k = 0 ∨ k = 1 ∨ k = 3 ∨ (k = 2 ∨ k = 4 ∨ k = 5 ∨ k = 6) ∨ (k ≠ 0 ∧ k ≠ 1 ∧ k ≠ 2 ∧ k ≠ 3 ∧ k ≠ 4 ∧ k ≠ 5 ∧ k ≠ 6) := by omega
      rcases hcases with rfl | rfl | rfl | hk4 | ⟨k0, k1, k2, k3, k4, k5, k6⟩
      · have := HK.out
        simp [okN] at this
        by_cases h0 : h = 0
        · subst h0
          have en' : ((n : Int) != 0) = true := by rw [bne_iff_ne]; omega
          go_enter Tryz.func74, Tryz.ntmps74
          go_wp2_with fail
          go_ret
          exact ⟨ret_bool HE.out.symm, hb⟩
        · have en' : (h != 0) = true := by simpa using h0
          go_enter Tryz.func74, Tryz.ntmps74
          go_wp2_with fail
          go_ret
          exact ⟨ret_bool HE.out.symm, hb⟩
      · have := HK.out
        simp [okN] at this
        by_cases h0 : h = 0
        · subst h0
          have en' : ((n : Int) != 2) = true := by rw [bne_iff_ne]; omega
          go_enter Tryz.func74, Tryz.ntmps74
          go_wp2_with fail
          go_ret
          exact ⟨ret_bool HE.out.symm, hb⟩
        · have en' : (h != 0) = true := by simpa using h0
          go_enter Tryz.func74, Tryz.ntmps74
          go_wp2_with fail
          go_ret
          exact ⟨ret_bool HE.out.symm, hb⟩
      · have := HK.out
        simp [okN] at this
        by_cases h0 : h = 0
        · subst h0
          have en' : ((n : Int) != 1) = true := by rw [bne_iff_ne]; omega
          go_enter Tryz.func74, Tryz.ntmps74
          go_wp2_with fail
          go_ret
          exact ⟨ret_bool HE.out.symm, hb⟩
        · have en' : (h != 0) = true := by simpa using h0
          go_enter Tryz.func74, Tryz.ntmps74
          go_wp2_with fail
          go_ret
          exact ⟨ret_bool HE.out.symm, hb⟩
      · have h0 : h < 0 := by
          have := HK.out
          simp only [okN] at this
          rcases hk4 with rfl | rfl | rfl | rfl <;> simp at this <;> exact this
        rcases hk4 with rfl | rfl | rfl | rfl
        all_goals
          clear HK
          go_enter Tryz.func74, Tryz.ntmps74
          go_wp2_with fail
          go_ret
          exact ⟨ret_bool HE.out.symm, hb⟩
      · have e0 : (k == 0) = false := by simpa using k0
        have e1 : (k == 1) = false := by simpa using k1
        have e2 : (k == 2) = false := by simpa using k2
        have e3 : (k == 3) = false := by simpa using k3
        have e4 : (k == 4) = false := by simpa using k4
        have e5 : (k == 5) = false := by simpa using k5
        have e6 : (k == 6) = false := by simpa using k6
        clear k0 k1 k2 k3 k4 k5 k6
        go_enter Tryz.func74, Tryz.ntmps74
        go_wp2_with fail
        go_ret
        exact ⟨ret_bool HE.out.symm, hb⟩
/-! ### What may be -/
def mayB (t : T) : Bool := nodB t && decide (szW t ≤ 4000) && decide (dpW t ≤ 60)
theorem refMay (t : T) (v : Value) (w : World) (hv : Rd w t v) :
    Calls Tryz.prog 55 #[v] w fun e w' => e = .returned (.bool (mayB t)) ∧ Below w.heap.size w w' := by
  obtain ⟨v0, v1, v2, rfl⟩ : ∃ v0 v1 v2, v = .agg #[v0, v1, v2] := by
    obtain ⟨k, h, xs⟩ := t
    obtain ⟨A, n, c, rfl, _⟩ := Rd_node.1 hv
    exact ⟨_, _, _, rfl⟩
  have E : mayB t = (nodB t && decide (szW t ≤ 4000) && decide (dpW t ≤ 60)) := rfl
  generalize mayB t = R at *
  have E := Lib.hid E
  have hb0 : Below w.heap.size w (w.alloc (.cells #[v0, v1, v2] 39)) := (Below.refl _ _).alloc (Nat.le_refl _) _
  go_enter Tryz.func55, Tryz.ntmps55
  go_wp2_with fail
  refine (refNodes t _ _ (Rd.keep hb0 _ _ hv)).mono ?_
  rintro e w1 ⟨rfl, hb1⟩
  have hbox := (Box.new w 39 #[v0, v1, v2]).keep hb1 (Box.new _ _ _).lt
  have hb1 := hb0.trans (hb1.mono hb0.size)
  obtain ⟨b0, b1, b2⟩ := hbox.three
  generalize nodB t = r1 at *
  cases r1
  · go_wp2_with fail
    go_ret
    exact ⟨ret_bool (by rw [E.out]; rfl), hb1⟩
  · go_wp2_with fail
    refine (refSize t _ _ (Rd.keep hb1 _ _ hv)).mono ?_
    rintro e w2 ⟨rfl, hb2⟩
    have hbox := hbox.keep hb2 hbox.lt
    have hb2 := hb1.trans (hb2.mono hb1.size)
    clear b0 b1 b2
    obtain ⟨b0, b1, b2⟩ := hbox.three
    by_cases hs : szW t ≤ 4000
    · have hs' : decide (szW t ≤ 4000) = true := by simpa using hs
      have E' := E.out
      rw [hs'] at E'
      have E := Lib.hid E'; clear E'
      go_wp2_with fail
      refine (refDepth t _ _ (Rd.keep hb2 _ _ hv)).mono ?_
      rintro e w3 ⟨rfl, hb3⟩
      have hb3 := hb2.trans (hb3.mono hb2.size)
      go_wp2_with fail
      go_ret
      exact ⟨ret_bool (by rw [E.out]; rfl), hb3⟩
    · have hs' : decide (szW t ≤ 4000) = false := by simpa using hs
      have E' := E.out
      rw [hs'] at E'
      have E := Lib.hid E'; clear E'
      go_wp2_with fail
      go_ret
      exact ⟨ret_bool (by rw [E.out]; rfl), hb2⟩
end Go.Proofs.YtbbjjdnnlnabaaaGreat
namespace Go.Proofs.YtbbjjdnnlnabaaaGreat
set_option linter.unusedVariables false
set_option linter.unusedSimpArgs false
section
variable {P : Program} {ops : Array Oper} {md : Region.Mode} {C : World → Prop}
def headQ (P : Program) (md : Region.Mode) (ops : Array Oper) (C : World → Prop) (n : Nat) (L : Array Bool → Act → Prop) : Nat → Array Bool → Act → Prop
  | 0, listed, a => L listed a
  | f + 1, listed, a => Region.ready md ops listed ≠ [] ∧ ∀ i ∈ Region.ready md ops listed, i < n ∧ qOp P ops C i (headQ P md ops C n L f (listed.setIfInBounds i true)) a
theorem headQ_any {n g : Nat} {L : Array Bool → Act → Prop} {Q : Exit → Act → World → Prop} (hL : ∀ listed a, L listed a → ∀ w, C w → wpAny P md ops Q g listed a w) :
    ∀ (f : Nat) (listed : Array Bool) (a : Act), headQ P md ops C n L f listed a → ∀ w, C w → wpAny P md ops Q (f + g) listed a w
  | 0, listed, a, h, w, hw => (Nat.zero_add g).symm ▸ hL listed a h w hw
  | f + 1, listed, a, h, w, hw => by
    rw [Nat.add_right_comm]
    exact ⟨fun e => (h.1 e).elim, fun i hi => wpOp_of_qOp hw (fun a' w' hw' hh => headQ_any hL f _ a' hh w' hw') (h.2 i hi).2⟩
theorem headQ_lt {n i j : Nat} {listed : Array Bool} (hs : Region.sinkB md ops n = true) (hc : Region.chainB md ops n = true) (hn : n < ops.size) (inv : HeadInv md ops n listed)
    (hi : i ∈ Region.ready md ops listed) (hin : i < n) (hj : j ∈ Region.ready md ops listed) : j < n :=
  (Nat.lt_or_ge j n).elim id fun h => absurd hj (tail_waits hs hc hn inv _ i rfl hin (mem_ready.1 hi).1 j h)
theorem headQ_take {n i : Nat} {oi : Oper} {v : Value} {L : Array Bool → Act → Prop} (hi : ops[i]? = some oi) (hsel : ∀ (j : Nat) (o : Oper) cs b, ops[j]? = some o → o.op ≠ .select cs b)
    (hs : Region.sinkB md ops n = true) (hc : Region.chainB md ops n = true) (hn : n < ops.size) (hin : i < n) (hL : ∀ listed a, L listed a → ∀ j ∈ Region.ready md ops listed, n ≤ j) (f : Nat) :
    ∀ (listed : Array Bool) (a : Act), HeadInv md ops n listed →
      (∀ j oj, ops[j]? = some oj → j ≠ i → listed.getD j true = false → (∀ e ∈ oj.after, Region.binds md e = true → e.on ≠ i) → oi.apart ops oj = true) →
      i ∈ Region.ready md ops listed → YieldsIn P ops C oi v a → headQ P md ops C n L f (listed.setIfInBounds i true) (a.put oi.dst v) → headQ P md ops C n L (f + 1) listed a := by
  induction f with
  | zero =>
    intro listed a inv _ hr hy H
    refine ⟨List.ne_nil_of_mem hr, fun j hj => ⟨headQ_lt hs hc hn inv hr hin hj, ?_⟩⟩
    rcases Decidable.em (j = i) with rfl | hji
    · exact hy.qOp hi H
    · exact absurd (hL _ _ H j (ready_mono hj hji)) (Nat.not_le.2 (headQ_lt hs hc hn inv hr hin hj))
  | succ f ih =>
    intro listed a inv hfree hr hy H
    refine ⟨List.ne_nil_of_mem hr, fun j hj => ?_⟩
    have hjn := headQ_lt hs hc hn inv hr hin hj
    refine ⟨hjn, ?_⟩
    rcases Decidable.em (j = i) with rfl | hji
    · exact hy.qOp hi H
    · obtain ⟨hjun, oj, hoj, hall⟩ := mem_ready.1 hj
      have hun := getD_both (mem_ready.1 hr).1
      have hap := hfree j oj hoj hji hjun fun e he hb heq => by
        have h1 := hall e he hb
        rw [heq, hun] at h1
        cases h1
      refine qOp_mono (fun a' h3 => ih (listed.setIfInBounds j true) a' (inv.set hj hjn) (fun k ok hk hki hku hno => hfree k ok hk hki ?_ hno) (ready_mono hr (Ne.symm hji)) h3.1 ?_)
        (qOp_put hoj hap (fun cs b => hsel i oi cs b hi) (fun cs b => hsel j oj cs b hoj) hy (H.2 j (ready_mono hj hji)).2)
      · rcases Decidable.em (j = k) with rfl | hjk
        · exact hjun
        · rwa [getD_set_ne true hjk] at hku
      · rw [Array.setIfInBounds_comm _ _ hji]
        exact h3.2
theorem headQ_lex {n g : Nat} {Z : Act → Prop} (hsel : Region.noSelect ops = true) (hs : Region.sinkB md ops n = true) (hc : Region.chainB md ops n = true) (hn : n < ops.size) :
    ∀ (l : List Oper) (k : Nat) (listed : Array Bool) (a : Act), (∀ j, j < l.length → l[j]? = ops[k + j]?) → k + l.length = n → HeadInv md ops n listed →
      Region.lexHead md ops g l.length k listed = true → wpQuiet P ops C Z l a → headQ P md ops C n (fun listed' a' => Region.seqB md ops g n listed' = true ∧ Z a') l.length listed a
  | [], k, listed, a, _, hk, _, hB, h => by
    obtain rfl : k = n := hk
    exact ⟨hB, h⟩
  | o :: l, k, listed, a, hl, hk, inv, hB, h => by
    have h0 : ops[k]? = some o := (hl 0 (Nat.succ_pos _)).symm
    rw [List.length_cons, Region.lexHead, Bool.and_eq_true, Bool.and_eq_true] at hB
    rw [List.length_cons] at hk
    have hr : k ∈ Region.ready md ops listed := List.contains_iff_mem.1 hB.1.1
    obtain ⟨v, hy, hK⟩ := yieldsIn_of_qOp (K := wpQuiet P ops C Z l) h0 (by unfold qOp; simp only [h0]; exact h)
    refine headQ_take h0 (Region.noSelect_spec hsel) hs hc hn (by omega) (fun _ _ hL => seqB_ready hL.1) l.length listed a inv (Region.free_spec h0 hB.1.2) hr hy ?_
    exact headQ_lex hsel hs hc hn l (k + 1) _ _ (fun j hj => by rw [Nat.add_right_comm, Nat.add_assoc]; exact hl (j + 1) (Nat.succ_lt_succ hj)) (by omega) (inv.set hr (by omega)) hB.2 hK
theorem wp_region_class_tail {id : Nat} {Q : Exit → Act → World → Prop} {a : Act} {w : World} {l : List Oper} (n : Nat) (hm : P.follows .mixedOrders = true) (hB : Region.lexTailB .any l.toArray n = true) (hC : C w.drew)
    (h : wpQuiet P l.toArray C (fun a' => ∀ w', C w' → wpList P l.toArray Q (l.drop n) a' w') (l.take n) a) : (Code.region id l.toArray true).wp P Q a w := by
  rw [Region.lexTailB, Bool.and_eq_true, Bool.and_eq_true, Bool.and_eq_true, Bool.and_eq_true, decide_eq_true_eq] at hB
  obtain ⟨⟨⟨⟨hsel, hn⟩, hs⟩, hc⟩, hlex⟩ := hB
  have hsz : l.toArray.size = l.length := List.size_toArray
  have hn' : n < l.length := hsz ▸ hn
  have htl : (l.take n).length = n := List.length_take_of_le (Nat.le_of_lt hn')
  have hdl : (l.drop n).length = l.toArray.size - n := by rw [List.length_drop, hsz]
  have inv0 : HeadInv .any l.toArray n (Array.replicate l.toArray.size false) :=
    ⟨Array.size_replicate, fun j oj _ hl => (by rw [getD_replicate_false] at hl; cases hl), fun t _ ht => getD_in (by rw [Array.size_replicate]; exact ht) (getD_replicate_false _ _)⟩
  have H := headQ_lex (md := .any) (g := l.toArray.size - n) hsel hs hc hn (l.take n) 0 _ a
    (fun j hj => by rw [htl] at hj; rw [Nat.zero_add, List.getElem?_toArray, List.getElem?_take_of_lt hj]) (by rw [Nat.zero_add, htl]) inv0 (by rw [htl]; exact hlex) h
  refine wp_region_any hm ?_
  have K := headQ_any (Q := Q) (g := l.toArray.size - n) (fun listed a' hL w' hw' => by
    have := wpAny_of_seq (md := .any) (Q' := Q) (l.drop n) n listed a' w' (fun j => by rw [List.getElem?_drop, List.getElem?_toArray]) (by rw [hdl]; exact hL.1) (hL.2 w' hw')
    rwa [hdl] at this) _ _ _ H _ hC
  rw [htl, Nat.add_sub_cancel' (Nat.le_of_lt hn)] at K
  exact K
end
end Go.Proofs.YtbbjjdnnlnabaaaGreat
