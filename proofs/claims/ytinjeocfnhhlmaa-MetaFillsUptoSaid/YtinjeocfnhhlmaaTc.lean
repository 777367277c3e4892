/-
  Contract of the document's own Same of layer 3, and how a row grows by one. No statement is proved here.
-/
import Derived.Test.YtinjeocfnhhlmaaTb
namespace Go.Proofs.Ytinjeocfnhhlmaa
open Go.ChangeShapes Go.WideShapes Go.ChangeAt Go.RowKit
set_option linter.unusedVariables false

/-- a row that has grown by one -/
theorem GRow.grow {X : Nat → Prop} {w1 w4 : World} {base : Nat} {v : Value} {n m cap g : Nat} {cs : List Value} {ys : List T} {t : T} {k h : Int} {A : Option Addr} {c : Nat} (hg : GRow X w1 base v n cs ys) (hr : RdF (fun b => ¬ X b ∧ some b ≠ v.ownBlock) w1 t (.agg #[.int .i64 k, .int .i64 h, .slice A m c]))
    (how : w4.ownsRow base 24 3 (.slice (some ⟨g, 0, none⟩) (n + 1) cap) (n + 1) (cs ++ [.int .i64 k, .int .i64 h, .slice A m c]))
    (hgr : (w1.alloc (.cells #[.int .i64 k, .int .i64 h, .slice A m c] 24)).grownBy w4 v.ownBlock) (h4 : v.ownBlock = some g ∨ g = w1.heap.size + 1) :
    GRow X w4 base (.slice (some ⟨g, 0, none⟩) (n + 1) cap) (n + 1) (cs ++ [.int .i64 k, .int .i64 h, .slice A m c]) (ys ++ [t]) := by
  have hgo : ∀ q, q < w1.heap.size → some q ≠ v.ownBlock → w4.heap[q]? = w1.heap[q]? := fun q hq hne => (hgr.block q (by simp; omega) hne).trans (Below.heap_alloc _ _ _ hq)
  have hne : ∀ q, q < w1.heap.size → some q ≠ v.ownBlock → q ≠ g := fun q hq hv e => by
    rcases h4 with h4 | h4
    · rw [h4, e] at hv; exact hv rfl
    · omega
  have hm : ∀ b, (¬ X b ∧ some b ≠ v.ownBlock) → b < w1.heap.size → (¬ X b ∧ some b ≠ Value.ownBlock (.slice (some ⟨g, 0, none⟩) (n + 1) cap)) ∧ w4.heap[b]? = w1.heap[b]? := fun b hb hl =>
    ⟨⟨hb.1, fun e => hne b hl hb.2 (by simpa [Value.ownBlock] using e)⟩, hgo b hl hb.2⟩
  exact ⟨how, by rw [List.length_append, hg.len]; rfl, KidL.snoc (hg.kids.moveX hm) (by rw [hg.own.1, hg.len]) (RdF.moveX hm _ _ hr)⟩
/-- one term is appended -/
theorem GRow.push {X : Nat → Prop} {w1 : World} {base : Nat} {v : Value} {n m : Nat} {cs : List Value} {ys : List T} {t : T} {k h : Int} {A : Option Addr} {c : Nat} (hg : GRow X w1 base v n cs ys) (hr : RdF (fun b => ¬ X b ∧ some b ≠ v.ownBlock) w1 t (.agg #[.int .i64 k, .int .i64 h, .slice A m c]))
    (hbase : base ≤ w1.heap.size) (hn : n + 1 ≤ 3518437208780) :
    ∃ g cap w4, (Builtin.append_ #[22, 22] 22 #[v, .slice (some ⟨w1.heap.size, 0, none⟩) 1 1]).run Try.prog (w1.alloc (.cells #[.int .i64 k, .int .i64 h, .slice A m c] 24)) = .ok (.slice (some ⟨g, 0, none⟩) (n + 1) cap) w4 ∧
      GRow X w4 base (.slice (some ⟨g, 0, none⟩) (n + 1) cap) (n + 1) (cs ++ [.int .i64 k, .int .i64 h, .slice A m c]) (ys ++ [t]) ∧ (∀ q, q < w1.heap.size → some q ≠ v.ownBlock → w4.heap[q]? = w1.heap[q]?) ∧ Below base w1 w4 := by
  obtain ⟨i0, hi, hz0, hz1, hz2⟩ := info_parts infoTerm
  have hbA : Below w1.heap.size w1 (w1.alloc (.cells #[.int .i64 k, .int .i64 h, .slice A m c] 24)) := (Below.refl _ _).alloc (Nat.le_refl _) _
  obtain ⟨g, cap, w4, hrun, how4, hgr, hg4, _⟩ := run_append_lies (P := Try.prog) (w1.alloc (.cells #[.int .i64 k, .int .i64 h, .slice A m c] 24)) 22 22 base 24 i0 _ 3 40 Try.underlying22 hi hz0 hz1 hz2 rfl (by omega) v n cs
    (hg.own.kept (grown_of_below hbA) (own_none _)) ⟨w1.heap.size, 0, none⟩ 1 1 [.int .i64 k, .int .i64 h, .slice A m c] rfl (World.news_of_block (heap_alloc_new w1 _)) (by intro u hu; simp at hu; rcases hu with rfl | rfl | rfl <;> rfl) (by omega) (by unfold maxLen; omega) (by omega) (by simp; omega) _ rfl
  exact ⟨g, cap, w4, hrun, hg.grow hr how4 hgr (by rcases hg4 with h | h; exact .inl h; exact .inr (by simpa using h)), fun q hq hne => (hgr.block q (by simp; omega) hne).trans (Below.heap_alloc _ _ _ hq),
    below_grown (hbA.mono hbase) hgr (fun r hr => (hg.lt hr).1) (by simp; omega)⟩

/-! ### Same -/
theorem vs_take (m j : Nat) (h : j < m) : (vsL m).take j ++ [T.node 4 ((m : Int) - 1 - (j : Int)) []] = (vsL m).take (j + 1) := by
  have hl : j < (vsL m).length := by rw [vsL_len]; exact h
  rw [List.take_succ_eq_append_getElem hl]
  obtain ⟨_, e⟩ := vsL_at _ _ _ (List.getElem?_eq_getElem hl)
  rw [e]
/-- what holds at the head of Same's loop -/
structure RsI (m : Nat) (w : World) (j : Nat) (wr : World) (Av : Option Addr) (cv : Nat) (cs : List Value) : Prop where
  res : Box wr w.heap.size 45 #[.slice none 0 0, .int .i64 0]
  out : Box wr (w.heap.size + 1) 45 #[.slice Av j cv, .int .i64 m]
  row : GRow (fun b => b < w.heap.size + 2) wr (w.heap.size + 2) (.slice Av j cv) j cs ((vsL m).take j)
  below : Below w.heap.size w wr
set_option maxRecDepth 100000 in
set_option maxHeartbeats 4000000 in
theorem rsameC (n : Int) (w : World) : Calls Try.prog 57 #[.int .i64 n] w (SEnd (vsL (clN n)) (clN n) w) := by
  obtain ⟨m, hm⟩ : ∃ m, clN n = m := ⟨_, rfl⟩
  have hcl : n < 0 ∧ m = 0 ∨ ¬ n < 0 ∧ ¬ 200 < n ∧ n = m ∨ ¬ n < 0 ∧ 200 < n ∧ m = 200 := by
    unfold clN at hm
    by_cases h1 : n < 0
    · rw [if_pos h1] at hm; omega
    · rw [if_neg h1] at hm
      by_cases h2 : 200 < n
      · rw [if_pos h2] at hm; omega
      · rw [if_neg h2] at hm; omega
  have hm200 : m ≤ 200 := by omega
  rw [hm]
  clear hm
  obtain ⟨N, hN⟩ : ∃ N : Int, (m : Int) = N := ⟨_, rfl⟩
  obtain ⟨W, hW⟩ : ∃ W, (w.alloc (.cells #[.slice none 0 0, .int .i64 0] 45)).alloc (.cells #[.slice none 0 0, .int .i64 N] 45) = W := ⟨_, rfl⟩
  have HI : Hid (RsI m w 0 W none 0 []) := Lib.hid ⟨by rw [← hW]; exact (Box.new _ _ _).alloc _, by rw [← hW, hN]; exact (Box.new (w.alloc _) _ _).at (by simp), GRow.nil _ _ _, by rw [← hW]; exact ((Below.refl _ _).alloc (Nat.le_refl _) _).alloc (by simp) _⟩
  have HW := Lib.hid hW; clear hW
  rw [hN]
  have HNM := Lib.hid hN
  have hsel : n < 0 ∧ N = 0 ∨ ¬ n < 0 ∧ ¬ 200 < n ∧ n = N ∨ ¬ n < 0 ∧ 200 < n ∧ N = 200 := by omega
  clear hcl
  rcases hsel with ⟨h1, rfl⟩ | ⟨h1, h2, rfl⟩ | ⟨h1, h2, rfl⟩
  case' inl => have d1 : decide (n < 0) = true := by simpa using h1
  case' inr.inl =>
    have d1 : decide (n < 0) = false := by simpa using h1
    have d2 : decide (200 < n) = false := by simpa using h2
  case' inr.inr =>
    have d1 : decide (n < 0) = false := by simpa using h1
    have d2 : decide (200 < n) = true := by simpa using h2
  all_goals
    clear hN
    go_enter Try.func57, Try.ntmps57
    go_wp2_with fail
    rw [HW.out]
    clear HW
    go_loopw [4] (fun i wr => ∃ (j : Nat) (I : Int) (Av : Option Addr) (cv : Nat) (cs : List Value), j ≤ m ∧ i = .int .i64 I ∧ Hid (I = (m : Int) - 1 - j) ∧ Hid (RsI m w j wr Av cv cs)) (fun i _ => (intOf i + 1).toNat)
    case atStart => exact ⟨0, _, none, 0, [], Nat.zero_le _, rfl, Lib.hid (by have := HNM.out; omega), HI⟩
    case round =>
      clear HI
      obtain ⟨j, I, Av, cv, cs, hj, rfl, HII, HI⟩ := hrel
      obtain ⟨o0, o1⟩ := HI.out.out.two
      by_cases hlt : j < m
      · have hi0 : 0 ≤ I := by have := HII.out; omega
        have hi2 : I ≤ 200 := by have := HII.out; omega
        have hge : decide (0 ≤ I) = true := by simpa using hi0
        have hw1 : IntKind.i64.wrap (I - 1) = I - 1 := by rw [wrapEq]; exact wrap_small (by omega) (by omega)
        have lout := HI.out.out.lt
        have lsz := HI.out.below.size
        obtain ⟨g, cap, w4, hrun, hrow, hold, hb4⟩ := HI.out.row.push (t := .node 4 I []) (k := 4) (h := I) (A := none) (m := 0) (c := 0) (rx_leaf' (by decide) (wf_of hi0 (by omega))) (by omega) (by omega)
        have nb : ∀ q, q < w.heap.size + 2 → some q ≠ Value.ownBlock (.slice Av j cv) := fun q hq e => by have := (HI.out.row.lt e.symm).1; omega
        have z1 : Box w4 w.heap.size _ _ := (hold _ HI.out.res.lt (nb _ (by omega))).trans HI.out.res
        have z2 : Box w4 (w.heap.size + 1) _ _ := (hold _ HI.out.out.lt (nb _ (by omega))).trans HI.out.out
        have hrow2 : GRow (fun b => b < w.heap.size + 2) (w4.setCell ⟨w.heap.size + 1, 0, none⟩ (.slice (some ⟨g, 0, none⟩) (j + 1) cap)) (w.heap.size + 2) (.slice (some ⟨g, 0, none⟩) (j + 1) cap) (j + 1) (cs ++ [.int .i64 4, .int .i64 I, .slice none 0 0]) ((vsL m).take (j + 1)) := by
          rw [← vs_take m j hlt, ← HII.out]
          exact hrow.move (fun b _ hb => Below.heap_setCell _ _ _ _ (by dsimp only; omega)) (fun g' hg' => by have := (hrow.lt hg').1; omega)
        have HJ : Hid (RsI m w (j + 1) (w4.setCell ⟨w.heap.size + 1, 0, none⟩ (.slice (some ⟨g, 0, none⟩) (j + 1) cap)) (some ⟨g, 0, none⟩) cap (cs ++ [.int .i64 4, .int .i64 I, .slice none 0 0])) := Lib.hid
          ⟨z1.other (by dsimp only; omega) _, by simpa using z2.setAt 0 (.slice (some ⟨g, 0, none⟩) (j + 1) cap), hrow2, (HI.out.below.trans (hb4.mono (by omega))).setCell (by dsimp only; omega) _⟩
        have lout4 := z2.lt
        obtain ⟨p0, p1⟩ := z2.two
        have f0 := z2.frozen 0
        clear hrow hrow2 hold hb4 nb z1 z2
        go_wp2_with (at_builtin; refine Lib.wpList_append_run _ rfl _ _ _ _ rfl _ _ rfl rfl _ _ hrun ?_)
        go_roundw
        case rel => exact ⟨j + 1, I - 1, some ⟨g, 0, none⟩, cap, _, by omega, by go_num, Lib.hid (by have := HII.out; omega), HJ⟩
        case measure => simp [intOf]; omega
      · have hge : decide (0 ≤ I) = false := by have := HII.out; simp; omega
        obtain rfl : j = m := by omega
        obtain ⟨r0, r1⟩ := HI.out.res.two
        have f0 := HI.out.res.frozen 0
        have f1 := HI.out.res.frozen 1
        have lr := HI.out.res.lt
        go_wp2_with fail
        refine bodyPost_ret (v := .agg #[.slice Av j cv, .int .i64 j]) (by simp [results, Try.results57, go_sem, r0, r1]) rfl ?_
        refine ⟨_, _, _, by rw [← HNM.out], ?_, (HI.out.below.setCell (by dsimp only; omega) _).setCell (by dsimp only; omega) _⟩
        have hrow := HI.out.row
        rw [List.take_of_length_le (by rw [vsL_len]; exact Nat.le_refl _)] at hrow
        have hm2 : ∀ b, w.heap.size + 2 ≤ b → ((wr.setCell ⟨w.heap.size, 0, none⟩ (.slice Av j cv)).setCell ⟨w.heap.size, 1, none⟩ (.int .i64 j)).heap[b]? = wr.heap[b]? := fun b hb => (Below.heap_setCell _ _ _ _ (by dsimp only; omega)).trans (Below.heap_setCell _ _ _ _ (by dsimp only; omega))
        exact ((hrow.move (fun b _ hb => hm2 b (by omega)) (fun g' hg' => by have := (hrow.lt hg').1; omega)).rxl (fun b hb => hb)).mono fun b _ hb => by omega
end Go.Proofs.Ytinjeocfnhhlmaa
