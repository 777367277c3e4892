/-
  Declarations in memory, and as an argument's reading; rows of numbers that grow by append; few declarations; the document's Constants. No statement is proved here.
-/
import Derived.Test.YtclhllkgamnpoaaQc
import Derived.Test.YtclhllkgamnpoaaOp
import Derived.OwnWalkIn
namespace Go.Proofs.Ytclhllkgamnpoaa
open Go.ChangeShapes Go.WideShapes Go.ChangeAt Go.RowKit
set_option linter.unusedVariables false

/-- one declaration of a list: its type, or kind -/
def DAt (w : World) (A : Option Addr) (i : Nat) (x : T) : Prop :=
  ∃ b o s k h A' n c, A = some ⟨b, o, none⟩ ∧ w.cell? ⟨b, o + i * 4, none⟩ = some (.string s) ∧ w.cell? ⟨b, o + i * 4 + 1, none⟩ = some (.int .i64 k) ∧ w.cell? ⟨b, o + i * 4 + 2, none⟩ = some (.int .i64 h) ∧
    w.cell? ⟨b, o + i * 4 + 3, none⟩ = some (.slice A' n c) ∧ Rd w x (.agg #[.int .i64 k, .int .i64 h, .slice A' n c])
/-- a list of declarations -/
structure DL (w : World) (ds : List T) (A : Option Addr) (n c : Nat) : Prop where
  len : ds.length = n
  le : n ≤ c
  cap : c ≤ maxLen
  at_ : ∀ i x, ds[i]? = some x → DAt w A i x
theorem DAt.keep {w w' : World} {A : Option Addr} {i : Nat} {x : T} (h : DAt w A i x) (hb : Below w.heap.size w w') : DAt w' A i x := by
  obtain ⟨b, o, s, k, g, A', n, c, rfl, c0, c1, c2, c3, hr⟩ := h
  exact ⟨b, o, s, k, g, A', n, c, rfl, (hb.cell (cell_lt c0)).trans c0, (hb.cell (cell_lt c1)).trans c1, (hb.cell (cell_lt c2)).trans c2, (hb.cell (cell_lt c3)).trans c3, Rd.keep hb _ _ hr⟩
theorem DL.keep {w w' : World} {ds : List T} {A : Option Addr} {n c : Nat} (h : DL w ds A n c) (hb : Below w.heap.size w w') : DL w' ds A n c :=
  ⟨h.len, h.le, h.cap, fun i x hx => (h.at_ i x hx).keep hb⟩
/-- the constants of a family, by their numbers -/
def cnL (f : Int) : List T → Nat → List Int
  | [], _ => []
  | t :: ts, i => (if 0 ≤ f ∧ faI t = f then [(i : Int)] else []) ++ cnL f ts (i + 1)
theorem cnL_len (f : Int) : ∀ (ds : List T) (i : Nat), (cnL f ds i).length ≤ ds.length
  | [], _ => Nat.le_refl _
  | t :: ts, i => by
    have := cnL_len f ts (i + 1)
    rw [cnL, List.length_append, List.length_cons]
    split
    · rw [List.length_singleton]; omega
    · rw [List.length_nil]; omega
theorem cnL_neg {f : Int} (h : f < 0) : ∀ (ds : List T) (i : Nat), cnL f ds i = []
  | [], _ => rfl
  | t :: ts, i => by rw [cnL, if_neg (fun e => by omega), cnL_neg h ts]; rfl
/-- are they few -/
def fwQ (ds : List T) (n : Nat) : Bool := decide (n ≤ 30) && ds.all fun x => ltB x 1000 80
/-- a list of numbers -/
def NuQ (w : World) (zs : List Int) (A : Option Addr) : Prop := ∀ i z, zs[i]? = some z → ∃ b o, A = some ⟨b, o, none⟩ ∧ w.cell? ⟨b, o + i, none⟩ = some (.int .i64 z)
theorem NuQ.keep {w w' : World} {zs : List Int} {A : Option Addr} (h : NuQ w zs A) (hb : Below w.heap.size w w') : NuQ w' zs A := fun i z hz => by
  obtain ⟨b, o, e, c0⟩ := h i z hz
  exact ⟨b, o, e, (hb.cell (cell_lt c0)).trans c0⟩

/-! ### Rows of numbers -/
theorem infoQ : (Try.prog.info? 3).map (fun i => (i.zero, i.size, i.bytes)) = some (some (.int .i64 0), 1, 8) := by kernel_rfl
/-- a row of numbers of a call's own -/
structure IRow (w : World) (base : Nat) (v : Value) (n : Nat) (zs : List Int) : Prop where
  own : w.ownsRow base 3 1 v n (zs.map (Value.int .i64))
  len : zs.length = n
theorem IRow.nil (w : World) (base : Nat) : IRow w base (.slice none 0 0) 0 [] := ⟨World.ownsRow_nil _ _ _ _, rfl⟩
theorem IRow.full {w : World} {base : Nat} {v : Value} {n : Nat} {zs : List Int} (h : IRow w base v n zs) : ∃ A c, v = .slice A n c ∧ n ≤ c ∧ c ≤ maxLen := by
  rcases h.own.2 with ⟨rfl, rfl⟩ | ⟨g, cap, cur, rfl, _, _, h1, h2, _⟩
  · exact ⟨none, 0, rfl, Nat.le_refl _, Nat.zero_le _⟩
  · exact ⟨_, _, rfl, h1, h2⟩
theorem IRow.lt {w : World} {base : Nat} {v : Value} {n : Nat} {zs : List Int} (h : IRow w base v n zs) {g : Nat} (hg : v.ownBlock = some g) : base ≤ g ∧ g < w.heap.size := h.own.lt g hg
theorem IRow.nu {w : World} {base n c : Nat} {A : Option Addr} {zs : List Int} (h : IRow w base (.slice A n c) n zs) : NuQ w zs A := fun i z hz => by
  have hi := (List.getElem?_eq_some_iff.1 hz).1
  rcases h.own.2 with ⟨e, h0⟩ | ⟨g, cap, cur, e, _, _, h1, h2, _⟩
  · have := h.len; omega
  · injection e with ea _ _
    subst ea
    have := h.own.cells (g := g) rfl i (.int .i64 z) (by rw [List.getElem?_map, hz]; rfl)
    rw [addr_add] at this
    exact ⟨g, 0, rfl, this⟩
theorem IRow.move {w w' : World} {base : Nat} {v : Value} {n : Nat} {zs : List Int} (h : IRow w base v n zs) (hm : ∀ g, v.ownBlock = some g → w'.heap[g]? = w.heap[g]?) : IRow w' base v n zs := by
  refine ⟨⟨h.own.1, ?_⟩, h.len⟩
  rcases h.own.2 with h1 | ⟨g, cap, cur, rfl, hb, hg, h1⟩
  · exact .inl h1
  · exact .inr ⟨g, cap, cur, rfl, hb, (hm g rfl).trans hg, h1⟩
theorem IRow.push {w1 : World} {base : Nat} {v : Value} {n : Nat} {zs : List Int} {z : Int} (h : IRow w1 base v n zs) (hbase : base ≤ w1.heap.size) (hn : n ≤ 1000) :
    ∃ g cap w4, (Builtin.append_ #[34, 34] 34 #[v, .slice (some ⟨w1.heap.size, 0, none⟩) 1 1]).run Try.prog (w1.alloc (.cells #[.int .i64 z] 3)) = .ok (.slice (some ⟨g, 0, none⟩) (n + 1) cap) w4 ∧
      IRow w4 base (.slice (some ⟨g, 0, none⟩) (n + 1) cap) (n + 1) (zs ++ [z]) ∧ (∀ q, q < w1.heap.size → some q ≠ v.ownBlock → w4.heap[q]? = w1.heap[q]?) ∧ Below base w1 w4 ∧ w1.heap.size ≤ w4.heap.size := by
  obtain ⟨i0, hi, hz0, hz1, hz2⟩ := info_parts infoQ
  have hbA : Below w1.heap.size w1 (w1.alloc (.cells #[.int .i64 z] 3)) := (Below.refl _ _).alloc (Nat.le_refl _) _
  obtain ⟨g, cap, w4, hrun, how4, hgr, hg4, _⟩ := run_append_lies (P := Try.prog) (w1.alloc (.cells #[.int .i64 z] 3)) 34 34 base 3 i0 _ 1 8 Try.underlying34 hi hz0 hz1 hz2 rfl (by omega) v n _
    (h.own.kept (grown_of_below hbA) (own_noneQ _)) ⟨w1.heap.size, 0, none⟩ 1 1 [.int .i64 z] rfl (World.news_of_block (heap_alloc_new w1 _)) (by intro u hu; simp at hu; subst hu; rfl) (by omega) (by unfold maxLen; omega) (by omega) (by simp; omega) _ rfl
  refine ⟨g, cap, w4, hrun, ⟨by simpa using how4, by rw [List.length_append, h.len]; rfl⟩, fun q hq hne => (hgr.block q (by simp; omega) hne).trans (Below.heap_alloc _ _ _ hq), below_grownQ (hbA.mono hbase) hgr (fun r hr => (h.lt hr).1) (by simp; omega), ?_⟩
  have := hgr.size
  simp at this
  omega

/-! ### Few -/
set_option maxRecDepth 100000 in
set_option maxHeartbeats 2000000 in
theorem fewC (ds : List T) (A : Option Addr) (n c : Nat) (w : World) (hx : DL w ds A n c) :
    Calls Try.prog 10 #[.slice A n c] w fun e w' => e = .returned (.bool (fwQ ds n)) ∧ Below w.heap.size w w' := by
  have hm := hx.cap
  have hc := hx.le
  unfold maxLen at hm
  have HX := Lib.hid hx; clear hx
  by_cases hgt : 30 < n
  · have d1 : decide ((30 : Int) < (n : Int)) = true := by simp; omega
    have hs : fwQ ds n = false := by rw [fwQ, decide_eq_false (by omega)]; rfl
    rw [hs]
    clear hs hgt
    go_enter Try.func10, Try.ntmps10
    go_wp2_with fail
    go_ret
    exact ⟨rfl, Below.refl _ _⟩
  · have d1 : decide ((30 : Int) < (n : Int)) = false := by simp; omega
    have hs : fwQ ds n = ds.all fun x => ltB x 1000 80 := by rw [fwQ, decide_eq_true (by omega)]; rfl
    rw [hs]
    clear hs
    go_enter Try.func10, Try.ntmps10
    go_wp2_with fail
    go_loopw [3] (fun i wr => ∃ (j : Nat), j ≤ n ∧ i = .int .i64 j ∧ Hid (((ds.drop j).all fun x => ltB x 1000 80) = ds.all fun x => ltB x 1000 80) ∧ Below w.heap.size w wr) (fun i _ => n - (Go.RowKit.intOf i).toNat)
    case atStart => exact ⟨0, Nat.zero_le _, rfl, Lib.hid (by simp), Below.refl _ _⟩
    case round =>
      obtain ⟨j, hj, rfl, HS, hb⟩ := hrel
      by_cases hlt : j < n
      · obtain ⟨x, hx⟩ := at_of HX.out.len hlt
        obtain ⟨b1, o1, s1, k1, h1, A1, n1, c1, rfl, c0, c1', c2, c3, hr1⟩ := (HX.out.at_ j x hx).keep hb
        have HS' := HS.out
        rw [drop_at hx, List.all_cons] at HS'
        have HS1 := Lib.hid HS'; clear HS' hx HS
        have hi0 : (0 : Int) ≤ j := by omega
        have hi1 : (j : Int) < n := by omega
        have HC := Lib.hid (refLight x 1000 80 _ wr hr1)
        clear hr1
        generalize ltB x 1000 80 = r at *
        go_wp2_with fail
        refine HC.out.mono ?_
        rintro e w1 ⟨rfl, hb1⟩
        replace hb := hb.trans (hb1.mono hb.size)
        clear hb1 c0 c1' c2 c3 HC
        cases r
        · go_wp2_with fail
          go_ret
          exact ⟨ret_bool (by rw [← HS1.out]; rfl), hb⟩
        · go_wp2_with fail
          go_roundw
          case rel => exact ⟨j + 1, by omega, by go_num, Lib.hid (by simpa using HS1.out), hb⟩
          case measure => simp [Go.RowKit.intOf]; omega
      · have e := HS.out
        rw [drop_all HX.out.len (by omega)] at e
        have HE := Lib.hid e; clear e HS
        go_wp2_with fail
        go_ret
        exact ⟨ret_bool (by rw [← HE.out]; rfl), hb⟩

/-! ### The document's Constants -/
/-- what holds at the head of its loop -/
structure RcI (ds : List T) (f : Int) (w : World) (j : Nat) (wr : World) (v : Value) (m : Nat) (zs : List Int) : Prop where
  row : IRow wr w.heap.size v m zs
  below : Below w.heap.size w wr
  eq : cnL f ds 0 = zs ++ cnL f (ds.drop j) j
set_option maxRecDepth 100000 in
set_option maxHeartbeats 4000000 in
theorem rconstsC (ds : List T) (f : Int) (A : Option Addr) (n c : Nat) (w : World) (hx : DL w ds A n c) (hn : n ≤ 100) (hs : ∀ x ∈ ds, nd x ≤ 1048576) :
    Calls Try.prog 17 #[.slice A n c, .int .i64 f] w fun e w' => ∃ Ac m cc, e = .returned (.slice Ac m cc) ∧ (cnL f ds 0).length = m ∧ m ≤ cc ∧ cc ≤ maxLen ∧ NuQ w' (cnL f ds 0) Ac ∧ Below w.heap.size w w' := by
  have hc := hx.le
  have HX := Lib.hid hx; clear hx
  have HS := Lib.hid hs; clear hs
  have HI : Hid (RcI ds f w 0 w (.slice none 0 0) 0 []) := Lib.hid ⟨IRow.nil _ _, Below.refl _ _, by rw [List.drop_zero, List.nil_append]⟩
  go_enter Try.func17, Try.ntmps17
  go_wp2_with fail
  go_loopw [5, 6] (fun v i wr => ∃ (j m : Nat) (zs : List Int), j ≤ n ∧ i = .int .i64 j ∧ Hid (RcI ds f w j wr v m zs)) (fun _ i _ => n - (Go.RowKit.intOf i).toNat)
  case atStart => exact ⟨0, 0, [], Nat.zero_le _, rfl, HI⟩
  case round =>
    clear HI
    obtain ⟨j, m, zs, hj, rfl, HI⟩ := hrel
    obtain ⟨Ar, cr, rfl, hcr, hcm⟩ := HI.out.row.full
    by_cases hlt : j < n
    · obtain ⟨x, hx⟩ := at_of HX.out.len hlt
      have hmj : m ≤ j := by
        have e := congrArg List.length HI.out.eq
        have h1 := HI.out.row.len
        have h2 := cnL_len f (ds.drop j) j
        have h3 := cnL_len f ds 0
        have h4 := HX.out.len
        have h5 : cnL f ds 0 = cnL f (ds.take j) 0 ++ cnL f (ds.drop j) j := by
          have key : ∀ (l : List T) (q i : Nat), cnL f l i = cnL f (l.take q) i ++ cnL f (l.drop q) (i + q) := by
            intro l
            induction l with
            | nil => intro q i; simp [cnL]
            | cons t ts ih =>
              intro q i
              cases q with
              | zero => simp [cnL]
              | succ q => rw [List.take_succ_cons, List.drop_succ_cons, cnL, cnL, ih q (i + 1), List.append_assoc, show i + 1 + q = i + (q + 1) by omega]
          have := key ds j 0
          rwa [Nat.zero_add] at this
        have h6 := cnL_len f (ds.take j) 0
        rw [h5, List.length_append, List.length_append] at e
        rw [List.length_take] at h6
        omega
      obtain ⟨b1, o1, s1, k1, h1, A1, n1, c1, rfl, c0, c1', c2, c3, hr1⟩ := (HX.out.at_ j x hx).keep HI.out.below
      have heq := HI.out.eq
      rw [drop_at hx, cnL] at heq
      have HEQ := Lib.hid heq; clear heq
      have hi0 : (0 : Int) ≤ j := by omega
      have hi1 : (j : Int) < n := by omega
      have HC := Lib.hid (rfamilyC x _ wr hr1 (HS.out x (List.mem_of_getElem? hx)))
      have sI := HI.out.below.size
      clear hr1 hx
      by_cases hf : 0 ≤ f
      case' neg => have d1 : decide (f ≥ 0) = false := by simpa using hf
      case' pos =>
        have d1 : decide (f ≥ 0) = true := by simpa using hf
        have HF := Lib.hid hf
        go_wp2_with fail
        refine HC.out.mono ?_
        clear HC
        rintro e w1 ⟨rfl, hb1⟩
        have hrow := HI.out.row.move (w' := w1) (fun g hg => hb1.block g (HI.out.row.lt hg).2)
        have HBW := Lib.hid (HI.out.below.trans (hb1.mono sI))
        have s1 := hb1.size
        clear hb1 c0 c1' c2 c3
        by_cases hq : faI x = f
      · have e0 : (faI x == f) = true := by simpa using hq
        obtain ⟨g, cap, w4, hrun, hrow4, hold, hb4, s4⟩ := hrow.push (z := (j : Int)) (by omega) (by omega)
        have HJ : Hid (RcI ds f w (j + 1) w4 (.slice (some ⟨g, 0, none⟩) (m + 1) cap) (m + 1) (zs ++ [(j : Int)])) := Lib.hid ⟨hrow4, HBW.out.trans hb4, by rw [HEQ.out, if_pos ⟨HF.out, hq⟩, List.append_assoc]⟩
        clear hrow hrow4 hold hb4 hq
        go_wp2_with (at_builtin; refine Lib.wpList_append_run _ rfl _ _ _ _ rfl _ _ rfl rfl _ _ hrun ?_)
        go_roundw
        case rel => exact ⟨j + 1, m + 1, _, by omega, by go_num, HJ⟩
        case measure => simp [Go.RowKit.intOf]; omega
      · have e0 : (faI x == f) = false := by simpa using hq
        have HJ : Hid (RcI ds f w (j + 1) w1 (.slice Ar m cr) m zs) := Lib.hid ⟨hrow, HBW.out, by rw [HEQ.out, if_neg (fun e => hq e.2), List.nil_append]⟩
        clear hrow hq
        go_wp2_with fail
        go_roundw
        case rel => exact ⟨j + 1, m, zs, by omega, by go_num, HJ⟩
        case measure => simp [Go.RowKit.intOf]; omega
      · have HJ : Hid (RcI ds f w (j + 1) wr (.slice Ar m cr) m zs) := Lib.hid ⟨HI.out.row, HI.out.below, by rw [HEQ.out, if_neg (fun e => hf e.1), List.nil_append]⟩
        go_wp2_with fail
        go_roundw
        case rel => exact ⟨j + 1, m, zs, by omega, by go_num, HJ⟩
        case measure => simp [Go.RowKit.intOf]; omega
    · have e := HI.out.eq
      rw [drop_all HX.out.len (by omega), cnL, List.append_nil] at e
      have HE := Lib.hid e; clear e
      go_wp2_with fail
      go_ret
      rw [HE.out]
      exact ⟨_, _, _, rfl, HI.out.row.len, hcr, hcm, HI.out.row.nu, HI.out.below⟩
end Go.Proofs.Ytclhllkgamnpoaa
