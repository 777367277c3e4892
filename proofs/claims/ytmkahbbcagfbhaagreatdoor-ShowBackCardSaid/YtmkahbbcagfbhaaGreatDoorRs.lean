/-
  Contracts of the document's own functions on terms (sizes, depths, whether a term may be, is the same, is in scope).
-/
import Derived.Test.YtmkahbbcagfbhaaGreatDoorTm
namespace Go.Proofs.YtmkahbbcagfbhaaGreatDoor
open Go.ChangeShapes Go.WideShapes Go.ChangeAt Go.RowKit
set_option linter.unusedVariables false

/-! ### What they tell, as plain functions -/
mutual
def szW : T → Int
  | .node _ _ xs => szWL xs 1
def szWL : List T → Int → Int
  | [], n => n
  | t :: ts, n => szWL ts (wrap64 (n + szW t))
end
mutual
def dpW : T → Int
  | .node _ _ xs => wrap64 (dpWL xs 0 + 1)
def dpWL : List T → Int → Int
  | [], n => n
  | t :: ts, n => dpWL ts (if n < dpW t then dpW t else n)
end
mutual
def lowB : T → Bool
  | .node _ h xs => decide (h ≤ 1099511627776) && lowL xs
def lowL : List T → Bool
  | [] => true
  | t :: ts => lowB t && lowL ts
end
/-- may one node be? -/
def okN (k h : Int) (n : Nat) : Bool :=
  (k == 0 && h == 0 && n == 0) || (k == 1 && h == 0 && n == 2) || (k == 3 && h == 0 && n == 1) || ((k == 2 || k == 4 || k == 5 || k == 6) && decide (0 ≤ h))
mutual
def nodB : T → Bool
  | .node k h xs => okN k h xs.length && nodL xs
def nodL : List T → Bool
  | [] => true
  | t :: ts => nodB t && nodL ts
end
mutual
def samB : T → T → Bool
  | .node k h xs, .node k' h' ys => k == k' && h == h' && xs.length == ys.length && samL xs ys
def samL : List T → List T → Bool
  | x :: xs, y :: ys => samB x y && samL xs ys
  | _, _ => true
end
/-- how many a node binds in one of its Args -/
def bd (k : Int) (n i : Nat) : Int := if (k = 1 ∨ k = 3) ∧ i + 1 = n then 1 else 0
mutual
def scB : T → Int → Int → Bool
  | .node k h xs, vars, metas => !((k == 4 && decide (vars ≤ h)) || (k == 6 && decide (metas ≤ h))) && scL k xs.length xs 0 vars metas
def scL (k : Int) (n : Nat) : List T → Nat → Int → Int → Bool
  | [], _, _, _ => true
  | t :: ts, i, vars, metas => scB t (wrap64 (vars + bd k n i)) metas && scL k n ts (i + 1) vars metas
end

theorem drop_at {α : Type} {l : List α} {k : Nat} {t : α} (h : l[k]? = some t) : l.drop k = t :: l.drop (k + 1) := by
  obtain ⟨hk, rfl⟩ := List.getElem?_eq_some_iff.1 h
  rw [List.drop_eq_getElem_cons hk]
theorem drop_all {α : Type} {l : List α} {k n : Nat} (h : l.length = n) (hk : n ≤ k) : l.drop k = [] := List.drop_eq_nil_of_le (by omega)
theorem at_of {α : Type} {l : List α} {k n : Nat} (h : l.length = n) (hk : k < n) : ∃ t, l[k]? = some t := ⟨_, List.getElem?_eq_getElem (by omega)⟩

theorem ret_int {k : IntKind} {a b : Int} (h : a = b) : Ending.returned (.int k a) = .returned (.int k b) := by rw [h]
theorem ret_bool {a b : Bool} (h : a = b) : Ending.returned (.bool a) = .returned (.bool b) := by rw [h]

/-- a variable: a block of its own that holds it -/
def Box (w : World) (b : Nat) (ty : TypeId) (cs : Array Value) : Prop := w.heap[b]? = some (.cells cs ty (0, 0))

section
variable {w w' : World} {B b : Nat} {ty : TypeId} {cs : Array Value}
theorem Box.cell (h : Box w b ty cs) (i : Nat) : w.cell? ⟨b, i, none⟩ = cs[i]? := by
  unfold Box at h
  simp [World.cell?, h]
theorem Box.frozen (h : Box w b ty cs) (i : Nat) : w.frozen? ⟨b, i, none⟩ = false := by
  unfold Box at h
  simp [World.frozen?, h]
theorem Box.lt (h : Box w b ty cs) : b < w.heap.size := (Array.getElem?_eq_some_iff.1 h).1
theorem Box.new (w : World) (ty : TypeId) (cs : Array Value) : Box (w.alloc (.cells cs ty)) w.heap.size ty cs := heap_alloc_new w _
theorem Box.keep (h : Box w b ty cs) (hk : Below B w w') (hb : b < B) : Box w' b ty cs := (hk.block b hb).trans h
theorem Box.alloc (h : Box w b ty cs) (o : Obj) : Box (w.alloc o) b ty cs := (Below.heap_alloc w o b h.lt).trans h
end
/-- a box of three: its cells -/
theorem Box.three {w : World} {b : Nat} {ty : TypeId} {x y z : Value} (h : Box w b ty #[x, y, z]) : w.cell? ⟨b, 0, none⟩ = some x ∧ w.cell? ⟨b, 1, none⟩ = some y ∧ w.cell? ⟨b, 2, none⟩ = some z :=
  ⟨h.cell 0, h.cell 1, h.cell 2⟩

/-! ### Sizes and depths -/
set_option maxHeartbeats 400000 in
theorem refSize (t : T) : ∀ (v : Value) (w : World), Rd w t v →
    Calls Tryz.prog 29 #[v] w fun e w' => e = .returned (.int .i64 (szW t)) ∧ Below w.heap.size w w' := by
  induction t using T.ind with
  | step k h xs ih =>
    intro v w hv
    obtain ⟨A, n, c, rfl, hk, hh, hn, hc, hm, hx⟩ := Rd_node.1 hv
    unfold maxLen at hm
    have HN := Lib.hid hn; clear hn
    have HX := Lib.hid hx; clear hx
    have IH := Lib.hid ih; clear ih
    go_enter Tryz.func29, Tryz.ntmps29
    go_wp2_with fail
    go_loopw [3, 4] (fun s i wr => ∃ (j : Nat) (m : Int), j ≤ n ∧ i = .int .i64 j ∧ s = .int .i64 m ∧ Hid (szWL (xs.drop j) m = szW (.node k h xs)) ∧ Box wr w.heap.size 36 #[.int .i64 k, .int .i64 h, .slice A n c] ∧ Below w.heap.size w wr) (fun _ i _ => n - (intOf i).toNat)
    case atStart => exact ⟨0, 1, Nat.zero_le _, rfl, rfl, by simp [Hid, szW], Box.new _ _ _, (Below.refl _ _).alloc (Nat.le_refl _) _⟩
    case round =>
      obtain ⟨j, m, hj, rfl, rfl, HS, hbox, hb⟩ := hrel
      obtain ⟨b0, b1, b2⟩ := hbox.three
      by_cases hlt : j < n
      · obtain ⟨t, ht⟩ := at_of HN.out hlt
        obtain ⟨b, o, v0, v1, v2, rfl, c0, c1, c2, hr⟩ := RdAt.keep hb (HX.out j t ht)
        have HT := Lib.hid ht; clear ht
        go_wp2_with fail
        refine (IH.out t (List.mem_of_getElem? HT.out) _ _ hr).mono ?_
        rintro e w1 ⟨rfl, hb1⟩
        go_wp2_with fail
        go_roundw
        case rel => exact ⟨j + 1, wrap64 (m + szW t), by omega, by go_num, rfl, by have := HS.out; rw [drop_at HT.out, szWL] at this; exact this, hbox.keep hb1 hbox.lt, hb.trans (hb1.mono hb.size)⟩
        case measure => simp [intOf]; omega
      · go_wp2_with fail
        go_ret
        exact ⟨ret_int (by have := HS.out; rw [drop_all HN.out (by omega), szWL] at this; exact this), hb⟩

set_option maxHeartbeats 400000 in
theorem refDepth (t : T) : ∀ (v : Value) (w : World), Rd w t v →
    Calls Tryz.prog 30 #[v] w fun e w' => e = .returned (.int .i64 (dpW t)) ∧ Below w.heap.size w w' := by
  induction t using T.ind with
  | step k h xs ih =>
    intro v w hv
    obtain ⟨A, n, c, rfl, hk, hh, hn, hc, hm, hx⟩ := Rd_node.1 hv
    unfold maxLen at hm
    have HN := Lib.hid hn; clear hn
    have HX := Lib.hid hx; clear hx
    have IH := Lib.hid ih; clear ih
    go_enter Tryz.func30, Tryz.ntmps30
    go_wp2_with fail
    go_loopw [3, 4] (fun s i wr => ∃ (j : Nat) (m : Int), j ≤ n ∧ i = .int .i64 j ∧ s = .int .i64 m ∧ Hid (wrap64 (dpWL (xs.drop j) m + 1) = dpW (.node k h xs)) ∧ Box wr w.heap.size 36 #[.int .i64 k, .int .i64 h, .slice A n c] ∧ Below w.heap.size w wr) (fun _ i _ => n - (intOf i).toNat)
    case atStart => exact ⟨0, 0, Nat.zero_le _, rfl, rfl, by simp [Hid, dpW], Box.new _ _ _, (Below.refl _ _).alloc (Nat.le_refl _) _⟩
    case round =>
      obtain ⟨j, m, hj, rfl, rfl, HS, hbox, hb⟩ := hrel
      obtain ⟨b0, b1, b2⟩ := hbox.three
      by_cases hlt : j < n
      · obtain ⟨t, ht⟩ := at_of HN.out hlt
        obtain ⟨b, o, v0, v1, v2, rfl, c0, c1, c2, hr⟩ := RdAt.keep hb (HX.out j t ht)
        have HT := Lib.hid ht; clear ht
        by_cases hd : m < dpW t
        all_goals
          go_wp2_with fail
          refine (IH.out t (List.mem_of_getElem? HT.out) _ _ hr).mono ?_
          rintro e w1 ⟨rfl, hb1⟩
          go_wp2_with fail
          go_roundw
          case rel => exact ⟨j + 1, if m < dpW t then dpW t else m, by omega, by go_num, by first | rw [if_pos hd] | rw [if_neg (by omega)], by have := HS.out; rw [drop_at HT.out, dpWL] at this; exact this, hbox.keep hb1 hbox.lt, hb.trans (hb1.mono hb.size)⟩
          case measure => simp [intOf]; omega
      · go_wp2_with fail
        go_ret
        exact ⟨ret_int (by have := HS.out; rw [drop_all HN.out (by omega), dpWL] at this; exact this), hb⟩

set_option maxHeartbeats 400000 in
theorem refLow (t : T) : ∀ (v : Value) (w : World), Rd w t v →
    Calls Tryz.prog 28 #[v] w fun e w' => e = .returned (.bool (lowB t)) ∧ Below w.heap.size w w' := by
  induction t using T.ind with
  | step k h xs ih =>
    intro v w hv
    obtain ⟨A, n, c, rfl, hk, hh, hn, hc, hm, hx⟩ := Rd_node.1 hv
    unfold maxLen at hm
    have HN := Lib.hid hn; clear hn
    have HX := Lib.hid hx; clear hx
    have IH := Lib.hid ih; clear ih
    by_cases hlow : h ≤ 1099511627776
    · go_enter Tryz.func28, Tryz.ntmps28
      go_wp2_with fail
      go_loopw [3] (fun i wr => ∃ (j : Nat), j ≤ n ∧ i = .int .i64 j ∧ Hid (lowL (xs.drop j) = lowB (.node k h xs)) ∧ Box wr w.heap.size 36 #[.int .i64 k, .int .i64 h, .slice A n c] ∧ Below w.heap.size w wr) (fun i _ => n - (intOf i).toNat)
      case atStart => exact ⟨0, Nat.zero_le _, rfl, by simp [Hid, lowB, hlow], Box.new _ _ _, (Below.refl _ _).alloc (Nat.le_refl _) _⟩
      case round =>
        obtain ⟨j, hj, rfl, HS, hbox, hb⟩ := hrel
        obtain ⟨b0, b1, b2⟩ := hbox.three
        by_cases hlt : j < n
        · obtain ⟨t, ht⟩ := at_of HN.out hlt
          obtain ⟨b, o, v0, v1, v2, rfl, c0, c1, c2, hr⟩ := RdAt.keep hb (HX.out j t ht)
          have HT := Lib.hid ht; clear ht
          go_wp2_with fail
          refine (IH.out t (List.mem_of_getElem? HT.out) _ _ hr).mono ?_
          have HS' := HS.out
          rw [drop_at HT.out, lowL] at HS'
          have HS := Lib.hid HS'; clear HS'
          generalize lowB t = r at *
          rintro e w1 ⟨rfl, hb1⟩
          cases r
          · go_wp2_with fail
            go_ret
            exact ⟨ret_bool (by simpa using HS.out), hb.trans (hb1.mono hb.size)⟩
          · go_wp2_with fail
            go_roundw
            case rel => exact ⟨j + 1, by omega, by go_num, Lib.hid (by simpa using HS.out), hbox.keep hb1 hbox.lt, hb.trans (hb1.mono hb.size)⟩
            case measure => simp [intOf]; omega
        · go_wp2_with fail
          go_ret
          exact ⟨ret_bool (by have := HS.out; rw [drop_all HN.out (by omega), lowL] at this; exact this), hb⟩
    · have hlow' : 1099511627776 < h := by omega
      go_enter Tryz.func28, Tryz.ntmps28
      go_wp2_with fail
      go_ret
      exact ⟨ret_bool (by simp [lowB]; omega), (Below.refl _ _).alloc (Nat.le_refl _) _⟩

/-! ### Sameness -/
set_option maxHeartbeats 1000000 in
theorem refSame (t : T) : ∀ (u : T) (v v' : Value) (w : World), Rd w t v → Rd w u v' →
    Calls Tryz.prog 27 #[v, v'] w fun e w' => e = .returned (.bool (samB t u)) ∧ Below w.heap.size w w' := by
  induction t using T.ind with
  | step k h xs ih =>
    intro u v v' w hv hv'
    obtain ⟨k', h', ys⟩ := u
    obtain ⟨A, n, c, rfl, hk, hh, hn, hc, hm, hx⟩ := Rd_node.1 hv
    obtain ⟨A', n', c', rfl, hk', hh', hn', hc', hm', hy⟩ := Rd_node.1 hv'
    clear hv hv'
    unfold maxLen at hm hm'
    have HN := Lib.hid hn; clear hn
    have HX := Lib.hid hx; clear hx
    have HN' := Lib.hid hn'; clear hn'
    have HY := Lib.hid hy; clear hy
    have IH := Lib.hid ih; clear ih
    by_cases ek : k = k'
    · subst ek
      by_cases eh : h = h'
      · subst eh
        by_cases en : n = n'
        · subst en
          go_enter Tryz.func27, Tryz.ntmps27
          go_wp2_with fail
          go_loopw [5] (fun i wr => ∃ (j : Nat), j ≤ n ∧ i = .int .i64 j ∧ Hid (samL (xs.drop j) (ys.drop j) = samB (.node k h xs) (.node k h ys)) ∧ Box wr w.heap.size 36 #[.int .i64 k, .int .i64 h, .slice A n c]
             ∧ Box wr (w.heap.size + 1) 36 #[.int .i64 k, .int .i64 h, .slice A' n c'] ∧ Below w.heap.size w wr) (fun i _ => n - (intOf i).toNat)
          case atStart => exact ⟨0, Nat.zero_le _, rfl, Lib.hid (by simp [samB, HN.out, HN'.out]), (Box.new _ _ _).alloc _, by have := Box.new (w.alloc (.cells #[.int .i64 k, .int .i64 h, .slice A n c] 36)) 36 #[.int .i64 k, .int .i64 h, .slice A' n c']; simpa using this, ((Below.refl _ _).alloc (Nat.le_refl _) _).alloc (by simp) _⟩
          case round =>
            obtain ⟨j, hj, rfl, HS, hbox, hbox', hb⟩ := hrel
            obtain ⟨b0, b1, b2⟩ := hbox.three
            obtain ⟨d0, d1, d2⟩ := hbox'.three
            by_cases hlt : j < n
            · obtain ⟨t, ht⟩ := at_of HN.out hlt
              obtain ⟨u, hu⟩ := at_of HN'.out hlt
              obtain ⟨b, o, v0, v1, v2, rfl, c0, c1, c2, hr⟩ := RdAt.keep hb (HX.out j t ht)
              obtain ⟨b', o', v0', v1', v2', rfl, c0', c1', c2', hr'⟩ := RdAt.keep hb (HY.out j u hu)
              have HT := Lib.hid ht; clear ht
              have HU := Lib.hid hu; clear hu
              go_wp2_with fail
              have HS' := HS.out
              rw [drop_at HT.out, drop_at HU.out, samL] at HS'
              have HS := Lib.hid HS'; clear HS'
              have pb2 := Past.cell b2
              have pd2 := Past.cell d2
              have p0 := Past.cell c0
              have p1 := Past.cell c1
              have p2 := Past.cell c2
              have p0' := Past.cell c0'
              have p1' := Past.cell c1'
              have p2' := Past.cell c2'
              have hi0 : (0 : Int) ≤ j := by omega
              have hi1 : (j : Int) < n := by omega
              refine wp_region_past (by kernel_rfl) (by kernel_rfl) ?_
              repeat (go_big_quiet_step ((exact calls_past (IH.out t (List.mem_of_getElem? HT.out) u _ _ _ (Rd.keep (Past.h _) _ _ hr) (Rd.keep (Past.h _) _ _ hr')))))
              refine wpQuiet_nil ?_
              rintro _ ⟨z, rfl⟩
              clear pb2 pd2 p0 p1 p2 p0' p1' p2'
              obtain ⟨w1, hb1⟩ := z
              generalize samB t u = r at *
              cases r
              · go_wp2_with fail
                go_ret
                exact ⟨ret_bool (by simpa using HS.out), hb.trans (hb1.mono hb.size)⟩
              · go_wp2_with fail
                go_roundw
                case rel => exact ⟨j + 1, by omega, by go_num, Lib.hid (by simpa using HS.out), hbox.keep hb1 hbox.lt, hbox'.keep hb1 hbox'.lt, hb.trans (hb1.mono hb.size)⟩
                case measure => simp [intOf]; omega
            · go_wp2_with fail
              go_ret
              exact ⟨ret_bool (by have := HS.out; rw [drop_all HN.out (by omega), samL] at this; exact this; simp), hb⟩
        · have en' : ((n : Int) != n') = true := by rw [bne_iff_ne]; omega
          go_enter Tryz.func27, Tryz.ntmps27
          go_wp2_with fail
          all_goals first | (go_ret; exact ⟨ret_bool (by simp [samB, HN.out, HN'.out, en]), ((Below.refl _ _).alloc (Nat.le_refl _) _).alloc (by simp) _⟩) | (exfalso; omega)
      · have eh' : (h != h') = true := by simpa using eh
        go_enter Tryz.func27, Tryz.ntmps27
        go_wp2_with fail
        go_ret
        exact ⟨ret_bool (by simp [samB, eh]), ((Below.refl _ _).alloc (Nat.le_refl _) _).alloc (by simp) _⟩
    · have ek' : (k != k') = true := by simpa using ek
      go_enter Tryz.func27, Tryz.ntmps27
      go_wp2_with fail
      go_ret
      exact ⟨ret_bool (by simp [samB, ek]), ((Below.refl _ _).alloc (Nat.le_refl _) _).alloc (by simp) _⟩

end Go.Proofs.YtmkahbbcagfbhaaGreatDoor
