/-
  Names that are appended to a list that has no room; contract of package parse's inner. No statement is proved here.
-/
import Derived.Test.YtmkahbbcagfbhaaGreatDoorBeC
import Derived.ArgAppend
namespace Go.Proofs.YtmkahbbcagfbhaaGreatDoor
open Go.ChangeShapes Go.WideShapes Go.ChangeAt Go.RowKit
set_option linter.unusedVariables false
theorem infoStr : (Tryz.prog.info? 9).map (fun i => (i.zero, i.size, i.bytes)) = some (some (.string ⟨#[]⟩), 1, 16) := by kernel_rfl
theorem info_str : ∃ i, Tryz.prog.info? 9 = some i ∧ i.zero = some (.string ⟨#[]⟩) ∧ i.size = 1 ∧ i.bytes = 16 := by
  have hh := infoStr
  cases hi : Tryz.prog.info? 9 with
  | none => rw [hi] at hh; cases hh
  | some i =>
    rw [hi] at hh
    simp at hh
    exact ⟨i, rfl, hh.1, hh.2.1, hh.2.2⟩
/-- nothing is appended -/
theorem run_append_no (A : Option Addr) (n : Nat) (w : World) : (Builtin.append_ #[98, 98] 98 #[.slice A n n, .slice none 0 0]).run Tryz.prog w = .ok (.slice A n n) w := by
  obtain ⟨i, hi, hz0, hz1, hz2⟩ := info_str
  cases A with
  | none => simp [Builtin.append_, run_underlying Tryz.underlying98, sizeOf, typeInfo, hi, Builtin.lenOf, Builtin.firstCells, go_sem]
  | some a => simp [Builtin.append_, run_underlying Tryz.underlying98, sizeOf, typeInfo, hi, Builtin.lenOf, Builtin.firstCells, storeCells, go_sem]
/-- a row of its own, read as names -/
theorem NL.of_row {w : World} {base : Nat} {g n cap : Nat} {x : List ByteArray} (h : w.ownsRow base 9 1 (.slice (some ⟨g, 0, none⟩) n cap) n (x.map .string)) (hl : x.length = n) : NL w x (some ⟨g, 0, none⟩) n cap := by
  rcases h.2 with ⟨e, _⟩ | ⟨g', cap', cur, e, _, hb, h1, h2, _⟩
  · cases e
  · cases e
    refine ⟨hl, h1, h2, fun i s hs => ⟨g, 0, rfl, ?_⟩⟩
    have c0 := h.cells (g := g) rfl i (.string s) (by rw [List.getElem?_map, hs]; rfl)
    rw [addr_addX] at c0
    exact c0
/-- one more, appended to a list that has no room -/
theorem nameAppB {w : World} {x : List ByteArray} {A : Option Addr} {n c : Nat} (hx : NL w x A n c) (hn : n ≤ 2000000) {P : Nat} {s : ByteArray} (hP : w.heap[P]? = some (.cells #[.string s] 9 (0, 0))) :
    ∃ g cap w', (Builtin.append_ #[98, 98] 98 #[.slice A n n, .slice (some ⟨P, 0, none⟩) 1 1]).run Tryz.prog w = .ok (.slice (some ⟨g, 0, none⟩) (n + 1) cap) w' ∧ NL w' (x ++ [s]) (some ⟨g, 0, none⟩) (n + 1) cap ∧ Below w.heap.size w w' := by
  obtain ⟨i0, hi, hz0, hz1, hz2⟩ := info_str
  have hnews := World.news_of_block hP
  have h1 : ∀ u ∈ [Value.string s], u.oneCell' = true := by intro u hu; simp at hu; subst hu; rfl
  have hlen := hx.len
  have tail : ∀ (v' : Value) (w' : World), w'.ownsRow w.heap.size 9 1 v' (n + 1) (x.map .string ++ [.string s]) → w.grownBy w' none →
      ∃ g cap, v' = .slice (some ⟨g, 0, none⟩) (n + 1) cap ∧ NL w' (x ++ [s]) (some ⟨g, 0, none⟩) (n + 1) cap ∧ Below w.heap.size w w' := fun v' w' how hgr => by
    obtain ⟨g, cap, rfl, hg, _⟩ := how.form (by omega)
    refine ⟨g, cap, rfl, NL.of_row (by rw [List.map_append]; exact how) (by simp [hlen]), ⟨hgr.os, hgr.tape, hgr.output, hgr.size, fun k hk => hgr.block k hk (fun e => by cases e)⟩⟩
  cases A with
  | none =>
    have h0 : n = 0 := by
      rcases Nat.eq_zero_or_pos n with e | hp
      · exact e
      · obtain ⟨t, ht⟩ := at_ofX hx.len hp
        obtain ⟨b, o, e, _⟩ := hx.at_ 0 t ht
        cases e
    subst h0
    obtain rfl := List.length_eq_zero_iff.1 hlen
    obtain ⟨g, cap, w', hrun, how, hgr, _, _⟩ := run_append_lies (P := Tryz.prog) w 98 98 w.heap.size 9 i0 _ 1 16 Tryz.underlying98 hi hz0 hz1 hz2 rfl (by omega) (.slice none 0 0) 0 []
        (World.ownsRow_nil _ _ _ _) ⟨P, 0, none⟩ 1 1 [.string s] rfl hnews h1 (by omega) (by unfold maxLen; omega) (by omega) (Nat.le_refl _) _ rfl
    obtain ⟨g', cap', e, h2, h3⟩ := tail _ _ how hgr
    cases e
    exact ⟨g, cap, w', hrun, h2, h3⟩
  | some a =>
    by_cases hp : 0 < n
    · obtain ⟨t, ht⟩ := at_ofX hx.len hp
      obtain ⟨b, o, e, _⟩ := hx.at_ 0 t ht
      cases e
      obtain ⟨v', w', hrun, how, hgr⟩ := run_append_arg_grows (P := Tryz.prog) w 98 98 9 i0 _ 1 16 Tryz.underlying98 hi hz0 hz1 hz2 rfl (by omega) ⟨b, o, none⟩ n n (x.map .string) (by simp [hlen]) (fun j u hu => by
          rw [List.getElem?_map] at hu
          cases hj : x[j]? with
          | none => rw [hj] at hu; cases hu
          | some y =>
            rw [hj] at hu
            cases hu
            obtain ⟨b', o', e, c0⟩ := hx.at_ j y hj
            cases e
            rw [addr_addX]; exact c0) ⟨P, 0, none⟩ 1 1 [.string s] rfl hnews (by omega) (by unfold maxLen; omega) (by omega)
      obtain ⟨g, cap, rfl, h2, h3⟩ := tail v' w' how hgr
      exact ⟨g, cap, w', hrun, h2, h3⟩
    · obtain rfl : n = 0 := by omega
      obtain rfl := List.length_eq_zero_iff.1 hlen
      obtain ⟨v', w', hrun, how, hgr⟩ := run_append_arg_grows (P := Tryz.prog) w 98 98 9 i0 _ 1 16 Tryz.underlying98 hi hz0 hz1 hz2 rfl (by omega) a 0 0 [] rfl (fun j u hu => by simp at hu) ⟨P, 0, none⟩ 1 1 [.string s] rfl hnews (by omega) (by unfold maxLen; omega) (by omega)
      obtain ⟨g, cap, rfl, h2, h3⟩ := tail v' w' how hgr
      exact ⟨g, cap, w', hrun, h2, h3⟩
/-! ### inner -/
theorem NL.other {w : World} {B i : Nat} {ty : TypeId} {cs : Array Value} {v : Value} {x : List ByteArray} {A : Option Addr} {n c : Nat} (h : NL w x A n c) (hb : BoxX w B ty cs) (hcs : ∀ (i : Nat) (s : ByteArray), cs[i]? ≠ some (.string s)) : NL (w.setCell ⟨B, i, none⟩ v) x A n c :=
  ⟨h.len, h.le, h.cap, fun j t ht => by
    obtain ⟨b, o, e, c0⟩ := h.at_ j t ht
    refine ⟨b, o, e, (World.cell?_of_block (Below.heap_setCell _ _ _ _ ?_)).trans c0⟩
    rintro rfl
    rw [hb.cell] at c0
    exact hcs _ _ c0⟩
theorem no_str {u v : Value} (h1 : ∀ s, u ≠ .string s) (h2 : ∀ s, v ≠ .string s) (i : Nat) (s : ByteArray) : (#[u, v] : Array Value)[i]? ≠ some (.string s) := fun e => by
  have h3 : i = 0 ∨ i = 1 ∨ 2 ≤ i := by omega
  rcases h3 with rfl | rfl | h3
  · simp at e; exact h1 s e
  · simp at e; exact h2 s e
  · rw [Array.getElem?_eq_none (by simpa using h3)] at e; cases e
set_option maxRecDepth 100000 in
set_option maxHeartbeats 4000000 in
theorem pInner0C (A : Option Addr) (n c : Nat) (tm : Int) (w : World) (htm : 0 ≤ tm) (htm2 : tm ≤ 1000) {x : List ByteArray} (h : NL w x A n c) :
    Calls Tryz.prog 85 #[.agg #[.slice A n c, .int .i64 tm], .slice none 0 0] w fun e w' => e = .returned (.agg #[.slice A n n, .int .i64 (tm + 1)]) ∧ Below w.heap.size w w' := by
  have hle := h.le
  have hcap := h.cap
  unfold maxLen at hcap
  obtain ⟨W, hW⟩ : ∃ W, (w.alloc (.cells #[.slice A n c, .int .i64 tm] 100)).alloc (.cells #[.slice none 0 0, .int .i64 0] 100) = W := ⟨_, rfl⟩
  have hb : Below w.heap.size w W := by rw [← hW]; exact ((Below.refl _ _).alloc (Nat.le_refl _) _).alloc (by simp) _
  have x0 : BoxX W w.heap.size 100 #[.slice A n c, .int .i64 tm] := by rw [← hW]; exact (BoxX.new _ _ _).alloc _
  have x1 : BoxX W (w.heap.size + 1) 100 #[.slice none 0 0, .int .i64 0] := by
    have := BoxX.new (w.alloc (.cells #[.slice A n c, .int .i64 tm] 100)) 100 #[.slice none 0 0, .int .i64 0]
    rw [← hW]; simpa using this
  have c0 := x0.cell 0
  have c1 := x0.cell 1
  simp only [List.getElem?_toArray, List.getElem?_cons_zero, List.getElem?_cons_succ] at c0 c1
  have HB := Lib.hid hb
  have HY := Lib.hid x1
  have HW := Lib.hid hW
  have hwr : IntKind.i64.wrap (tm + 1) = tm + 1 := Go.IntWalk.i64_in _ ⟨by omega, by omega⟩
  clear hb x0 x1 hW
  go_enter Tryz.func85, Tryz.ntmps85
  go_wp2_with fail
  try rw [HW.out]
  clear HW
  go_wp2_with fail
  have HKS : Hid (∀ w' : World, Below W.heap.size W w' → (fun w' => w'.cell? ⟨w.heap.size, 0, none⟩ = some (.slice A n c) ∧ w'.cell? ⟨w.heap.size, 1, none⟩ = some (.int .i64 tm)) w') := Lib.hid fun w' h => ⟨(h.cell (cell_ltX c0)).trans c0, (h.cell (cell_ltX c1)).trans c1⟩
  have hbd : Below W.heap.size W W.drew := (Below.refl _ W).drew
  have hS := HKS.out _ hbd
  refine wp_region_cutX rfl (by kernel_rfl) (by kernel_rfl) ?_
  refine wpAny_of_held (S := fun w' => w'.cell? ⟨w.heap.size, 0, none⟩ = some (.slice A n c) ∧ w'.cell? ⟨w.heap.size, 1, none⟩ = some (.int .i64 tm)) _ _ _ _ ?_
  simp only [List.pop_toArray, List.dropLast, List.size_toArray, List.length_cons, List.length_nil, Nat.reduceAdd, Nat.reduceSub]
  refine wpAnyH_take (i := 0) (v := .pointer (some ⟨w.heap.size, 0, none⟩)) rfl (by kernel_rfl) (by kernel_rfl) (by kernel_rfl) (fun _ _ _ h => h) (Or.inl ⟨by kernel_rfl, ?_⟩) hS ?_
  · intro w' hSw
    obtain ⟨s0, s1⟩ := hSw
    go_simp
  try simp only [Act.put, List.getElem_toArray, List.getElem_cons_succ, List.getElem_cons_zero, List.setIfInBounds_toArray, List.set_cons_zero, List.set_cons_succ]
  refine wpAnyH_take (i := 1) (v := .slice A n c) rfl (by kernel_rfl) (by kernel_rfl) (by kernel_rfl) (fun _ _ _ h => h) (Or.inl ⟨by kernel_rfl, ?_⟩) hS ?_
  · intro w' hSw
    obtain ⟨s0, s1⟩ := hSw
    go_simp
  try simp only [Act.put, List.getElem_toArray, List.getElem_cons_succ, List.getElem_cons_zero, List.setIfInBounds_toArray, List.set_cons_zero, List.set_cons_succ]
  refine wpAnyH_take (i := 2) (v := .int .i64 n) rfl (by kernel_rfl) (by kernel_rfl) (by kernel_rfl) (fun _ _ _ h => h) (Or.inl ⟨by kernel_rfl, ?_⟩) hS ?_
  · intro w' hSw
    obtain ⟨s0, s1⟩ := hSw
    go_simp
  try simp only [Act.put, List.getElem_toArray, List.getElem_cons_succ, List.getElem_cons_zero, List.setIfInBounds_toArray, List.set_cons_zero, List.set_cons_succ]
  refine wpAnyH_take (i := 3) (v := .int .i64 n) rfl (by kernel_rfl) (by kernel_rfl) (by kernel_rfl) (fun _ _ _ h => h) (Or.inl ⟨by kernel_rfl, ?_⟩) hS ?_
  · intro w' hSw
    obtain ⟨s0, s1⟩ := hSw
    go_simp
  try simp only [Act.put, List.getElem_toArray, List.getElem_cons_succ, List.getElem_cons_zero, List.setIfInBounds_toArray, List.set_cons_zero, List.set_cons_succ]
  refine wpAnyH_take (i := 4) (v := .slice A n n) rfl (by kernel_rfl) (by kernel_rfl) (by kernel_rfl) (fun _ _ _ h => h) (Or.inl ⟨by kernel_rfl, ?_⟩) hS ?_
  · intro w' hSw
    obtain ⟨s0, s1⟩ := hSw
    go_simp
  try simp only [Act.put, List.getElem_toArray, List.getElem_cons_succ, List.getElem_cons_zero, List.setIfInBounds_toArray, List.set_cons_zero, List.set_cons_succ]
  refine wpAnyH_take (i := 5) (v := .slice none 0 0) rfl (by kernel_rfl) (by kernel_rfl) (by kernel_rfl) (fun _ _ _ h => h) (Or.inl ⟨by kernel_rfl, ?_⟩) hS ?_
  · intro w' hSw
    obtain ⟨s0, s1⟩ := hSw
    go_simp
  try simp only [Act.put, List.getElem_toArray, List.getElem_cons_succ, List.getElem_cons_zero, List.setIfInBounds_toArray, List.set_cons_zero, List.set_cons_succ]
  refine wpAnyH_take (i := 7) (v := .pointer (some ⟨w.heap.size, 1, none⟩)) rfl (by kernel_rfl) (by kernel_rfl) (by kernel_rfl) (fun _ _ _ h => h) (Or.inl ⟨by kernel_rfl, ?_⟩) hS ?_
  · intro w' hSw
    obtain ⟨s0, s1⟩ := hSw
    go_simp
  try simp only [Act.put, List.getElem_toArray, List.getElem_cons_succ, List.getElem_cons_zero, List.setIfInBounds_toArray, List.set_cons_zero, List.set_cons_succ]
  refine wpAnyH_take (i := 8) (v := .int .i64 tm) rfl (by kernel_rfl) (by kernel_rfl) (by kernel_rfl) (fun _ _ _ h => h) (Or.inl ⟨by kernel_rfl, ?_⟩) hS ?_
  · intro w' hSw
    obtain ⟨s0, s1⟩ := hSw
    go_simp
  try simp only [Act.put, List.getElem_toArray, List.getElem_cons_succ, List.getElem_cons_zero, List.setIfInBounds_toArray, List.set_cons_zero, List.set_cons_succ]
  refine wpAnyH_take (i := 9) (v := .int .i64 (tm + 1)) rfl (by kernel_rfl) (by kernel_rfl) (by kernel_rfl) (fun _ _ _ h => h) (Or.inl ⟨by kernel_rfl, ?_⟩) hS ?_
  · intro w' hSw
    obtain ⟨s0, s1⟩ := hSw
    go_simp
  try simp only [Act.put, List.getElem_toArray, List.getElem_cons_succ, List.getElem_cons_zero, List.setIfInBounds_toArray, List.set_cons_zero, List.set_cons_succ]
  refine wpAnyH_ready (rs := [6]) (by kernel_rfl) (by simp) ?_
  refine AllReadyH.cons rfl (fun KN hK => ?_) AllReadyH.nil
  refine Lib.wp_append_run _ (.tmp 13) (.tmp 14) 98 98 rfl _ _ rfl rfl _ _ (run_append_no A n _) ?_
  have hb7' := hbd
  refine hK.out _ _ (HKS.out _ hb7') (fun hS => ?_)
  clear hK KN
  try simp only [Act.put, zzP]
  refine wpAnyH_take (i := 10) (v := .agg #[.slice A n n, .int .i64 (tm + 1)]) rfl (by kernel_rfl) (by kernel_rfl) (by kernel_rfl) (fun _ _ _ h => h) (Or.inl ⟨by kernel_rfl, ?_⟩) hS ?_
  · intro w' hSw
    obtain ⟨s0, s1⟩ := hSw
    go_simp
  try simp only [Act.put, List.getElem_toArray, List.getElem_cons_succ, List.getElem_cons_zero, List.setIfInBounds_toArray, List.set_cons_zero, List.set_cons_succ]
  refine wpAnyH_done (by kernel_rfl) ?_ _
  show wpList _ _ _ _ _ _
  have z0 := HY.out.keep hb7' HY.out.lt
  have q0 := z0.cell 0
  have q1 := z0.cell 1
  have g0 := z0.frozen 0
  have g1 := z0.frozen 1
  have z9 := (z0.put 0 (.slice A n n)).put 1 (.int .i64 (tm + 1))
  have r0 := z9.cell 0
  have r1 := z9.cell 1
  simp only [List.setIfInBounds_toArray, List.set_cons_zero, List.set_cons_succ, List.getElem?_toArray, List.getElem?_cons_zero, List.getElem?_cons_succ] at q0 q1 r0 r1
  have HZ := Lib.hid z0
  obtain ⟨Wz, hWz⟩ : ∃ Wz, W.drew = Wz := ⟨_, rfl⟩
  rw [hWz] at q0 q1 g0 g1 r0 r1 HZ hb7'
  clear z0
  try rw [hWz]
  clear hWz
  have HB7 := Lib.hid (HB.out.trans (hb7'.mono HB.out.size))
  clear hb7' hbd hS HKS c0 c1 z9
  go_wp2_with fail
  refine bodyPost_ret (v := .agg #[.slice A n n, .int .i64 (tm + 1)]) (by simp [results, Tryz.results85, go_sem, r0, r1]) rfl ?_
  have hbf : Below w.heap.size w ((Wz.setCell ⟨w.heap.size + 1, 0, none⟩ (.slice A n n)).setCell ⟨w.heap.size + 1, 1, none⟩ (.int .i64 (tm + 1))) := (HB7.out.setCell (by dsimp only; omega) _).setCell (by dsimp only; omega) _
  exact ⟨rfl, hbf⟩
set_option maxRecDepth 100000 in
set_option maxHeartbeats 4000000 in
theorem pInner1C (A : Option Addr) (n c : Nat) (tm : Int) (w : World) (htm : 0 ≤ tm) (htm2 : tm ≤ 1000) {x : List ByteArray} (h : NL w x A n c) (hn : n ≤ 2000000) (P : Nat) (s : ByteArray) (hP : BoxX w P 9 #[.string s]) :
    Calls Tryz.prog 85 #[.agg #[.slice A n c, .int .i64 tm], .slice (some ⟨P, 0, none⟩) 1 1] w fun e w' => ∃ A' n' c', e = .returned (.agg #[.slice A' n' c', .int .i64 (tm + 1)]) ∧ NL w' (x ++ [s]) A' n' c' ∧ Below w.heap.size w w' := by
  have hle := h.le
  have hcap := h.cap
  unfold maxLen at hcap
  obtain ⟨W, hW⟩ : ∃ W, (w.alloc (.cells #[.slice A n c, .int .i64 tm] 100)).alloc (.cells #[.slice none 0 0, .int .i64 0] 100) = W := ⟨_, rfl⟩
  have hb : Below w.heap.size w W := by rw [← hW]; exact ((Below.refl _ _).alloc (Nat.le_refl _) _).alloc (by simp) _
  have x0 : BoxX W w.heap.size 100 #[.slice A n c, .int .i64 tm] := by rw [← hW]; exact (BoxX.new _ _ _).alloc _
  have x1 : BoxX W (w.heap.size + 1) 100 #[.slice none 0 0, .int .i64 0] := by
    have := BoxX.new (w.alloc (.cells #[.slice A n c, .int .i64 tm] 100)) 100 #[.slice none 0 0, .int .i64 0]
    rw [← hW]; simpa using this
  have c0 := x0.cell 0
  have c1 := x0.cell 1
  simp only [List.getElem?_toArray, List.getElem?_cons_zero, List.getElem?_cons_succ] at c0 c1
  have HB := Lib.hid hb
  have HY := Lib.hid x1
  have HN := Lib.hid (h.keep hb)
  have HP := Lib.hid (hP.keep hb hP.lt)
  have HW := Lib.hid hW
  have hwr : IntKind.i64.wrap (tm + 1) = tm + 1 := Go.IntWalk.i64_in _ ⟨by omega, by omega⟩
  clear hb x0 x1 hW
  go_enter Tryz.func85, Tryz.ntmps85
  go_wp2_with fail
  try rw [HW.out]
  clear HW
  go_wp2_with fail
  have HKS : Hid (∀ w' : World, Below W.heap.size W w' → (fun w' => w'.cell? ⟨w.heap.size, 0, none⟩ = some (.slice A n c) ∧ w'.cell? ⟨w.heap.size, 1, none⟩ = some (.int .i64 tm)) w') := Lib.hid fun w' h => ⟨(h.cell (cell_ltX c0)).trans c0, (h.cell (cell_ltX c1)).trans c1⟩
  have hbd : Below W.heap.size W W.drew := (Below.refl _ W).drew
  have hS := HKS.out _ hbd
  refine wp_region_cutX rfl (by kernel_rfl) (by kernel_rfl) ?_
  refine wpAny_of_held (S := fun w' => w'.cell? ⟨w.heap.size, 0, none⟩ = some (.slice A n c) ∧ w'.cell? ⟨w.heap.size, 1, none⟩ = some (.int .i64 tm)) _ _ _ _ ?_
  simp only [List.pop_toArray, List.dropLast, List.size_toArray, List.length_cons, List.length_nil, Nat.reduceAdd, Nat.reduceSub]
  refine wpAnyH_take (i := 0) (v := .pointer (some ⟨w.heap.size, 0, none⟩)) rfl (by kernel_rfl) (by kernel_rfl) (by kernel_rfl) (fun _ _ _ h => h) (Or.inl ⟨by kernel_rfl, ?_⟩) hS ?_
  · intro w' hSw
    obtain ⟨s0, s1⟩ := hSw
    go_simp
  try simp only [Act.put, List.getElem_toArray, List.getElem_cons_succ, List.getElem_cons_zero, List.setIfInBounds_toArray, List.set_cons_zero, List.set_cons_succ]
  refine wpAnyH_take (i := 1) (v := .slice A n c) rfl (by kernel_rfl) (by kernel_rfl) (by kernel_rfl) (fun _ _ _ h => h) (Or.inl ⟨by kernel_rfl, ?_⟩) hS ?_
  · intro w' hSw
    obtain ⟨s0, s1⟩ := hSw
    go_simp
  try simp only [Act.put, List.getElem_toArray, List.getElem_cons_succ, List.getElem_cons_zero, List.setIfInBounds_toArray, List.set_cons_zero, List.set_cons_succ]
  refine wpAnyH_take (i := 2) (v := .int .i64 n) rfl (by kernel_rfl) (by kernel_rfl) (by kernel_rfl) (fun _ _ _ h => h) (Or.inl ⟨by kernel_rfl, ?_⟩) hS ?_
  · intro w' hSw
    obtain ⟨s0, s1⟩ := hSw
    go_simp
  try simp only [Act.put, List.getElem_toArray, List.getElem_cons_succ, List.getElem_cons_zero, List.setIfInBounds_toArray, List.set_cons_zero, List.set_cons_succ]
  refine wpAnyH_take (i := 3) (v := .int .i64 n) rfl (by kernel_rfl) (by kernel_rfl) (by kernel_rfl) (fun _ _ _ h => h) (Or.inl ⟨by kernel_rfl, ?_⟩) hS ?_
  · intro w' hSw
    obtain ⟨s0, s1⟩ := hSw
    go_simp
  try simp only [Act.put, List.getElem_toArray, List.getElem_cons_succ, List.getElem_cons_zero, List.setIfInBounds_toArray, List.set_cons_zero, List.set_cons_succ]
  refine wpAnyH_take (i := 4) (v := .slice A n n) rfl (by kernel_rfl) (by kernel_rfl) (by kernel_rfl) (fun _ _ _ h => h) (Or.inl ⟨by kernel_rfl, ?_⟩) hS ?_
  · intro w' hSw
    obtain ⟨s0, s1⟩ := hSw
    go_simp
  try simp only [Act.put, List.getElem_toArray, List.getElem_cons_succ, List.getElem_cons_zero, List.setIfInBounds_toArray, List.set_cons_zero, List.set_cons_succ]
  refine wpAnyH_take (i := 5) (v := .slice (some ⟨P, 0, none⟩) 1 1) rfl (by kernel_rfl) (by kernel_rfl) (by kernel_rfl) (fun _ _ _ h => h) (Or.inl ⟨by kernel_rfl, ?_⟩) hS ?_
  · intro w' hSw
    obtain ⟨s0, s1⟩ := hSw
    go_simp
  try simp only [Act.put, List.getElem_toArray, List.getElem_cons_succ, List.getElem_cons_zero, List.setIfInBounds_toArray, List.set_cons_zero, List.set_cons_succ]
  refine wpAnyH_take (i := 7) (v := .pointer (some ⟨w.heap.size, 1, none⟩)) rfl (by kernel_rfl) (by kernel_rfl) (by kernel_rfl) (fun _ _ _ h => h) (Or.inl ⟨by kernel_rfl, ?_⟩) hS ?_
  · intro w' hSw
    obtain ⟨s0, s1⟩ := hSw
    go_simp
  try simp only [Act.put, List.getElem_toArray, List.getElem_cons_succ, List.getElem_cons_zero, List.setIfInBounds_toArray, List.set_cons_zero, List.set_cons_succ]
  refine wpAnyH_take (i := 8) (v := .int .i64 tm) rfl (by kernel_rfl) (by kernel_rfl) (by kernel_rfl) (fun _ _ _ h => h) (Or.inl ⟨by kernel_rfl, ?_⟩) hS ?_
  · intro w' hSw
    obtain ⟨s0, s1⟩ := hSw
    go_simp
  try simp only [Act.put, List.getElem_toArray, List.getElem_cons_succ, List.getElem_cons_zero, List.setIfInBounds_toArray, List.set_cons_zero, List.set_cons_succ]
  refine wpAnyH_take (i := 9) (v := .int .i64 (tm + 1)) rfl (by kernel_rfl) (by kernel_rfl) (by kernel_rfl) (fun _ _ _ h => h) (Or.inl ⟨by kernel_rfl, ?_⟩) hS ?_
  · intro w' hSw
    obtain ⟨s0, s1⟩ := hSw
    go_simp
  try simp only [Act.put, List.getElem_toArray, List.getElem_cons_succ, List.getElem_cons_zero, List.setIfInBounds_toArray, List.set_cons_zero, List.set_cons_succ]
  refine wpAnyH_ready (rs := [6]) (by kernel_rfl) (by simp) ?_
  refine AllReadyH.cons rfl (fun KN hK => ?_) AllReadyH.nil
  have hP2 : W.drew.heap[P]? = some (.cells #[.string s] 9 (0, 0)) := (HP.out).keep hbd HP.out.lt
  obtain ⟨g7, c7, w7, hrun, hnl, hb7⟩ := nameAppB (HN.out.keep hbd) hn hP2
  refine Lib.wp_append_run _ (.tmp 13) (.tmp 14) 98 98 rfl _ _ rfl rfl _ _ hrun ?_
  have hb7' := hbd.trans (hb7.mono hbd.size)
  clear hrun hb7 hP2
  refine hK.out _ _ (HKS.out _ hb7') (fun hS => ?_)
  clear hK KN
  try simp only [Act.put, zzP]
  refine wpAnyH_take (i := 10) (v := .agg #[.slice (some ⟨g7, 0, none⟩) (n + 1) c7, .int .i64 (tm + 1)]) rfl (by kernel_rfl) (by kernel_rfl) (by kernel_rfl) (fun _ _ _ h => h) (Or.inl ⟨by kernel_rfl, ?_⟩) hS ?_
  · intro w' hSw
    obtain ⟨s0, s1⟩ := hSw
    go_simp
  try simp only [Act.put, List.getElem_toArray, List.getElem_cons_succ, List.getElem_cons_zero, List.setIfInBounds_toArray, List.set_cons_zero, List.set_cons_succ]
  refine wpAnyH_done (by kernel_rfl) ?_ _
  show wpList _ _ _ _ _ _
  have z0 := HY.out.keep hb7' HY.out.lt
  have q0 := z0.cell 0
  have q1 := z0.cell 1
  have g0 := z0.frozen 0
  have g1 := z0.frozen 1
  have z9 := (z0.put 0 (.slice (some ⟨g7, 0, none⟩) (n + 1) c7)).put 1 (.int .i64 (tm + 1))
  have r0 := z9.cell 0
  have r1 := z9.cell 1
  simp only [List.setIfInBounds_toArray, List.set_cons_zero, List.set_cons_succ, List.getElem?_toArray, List.getElem?_cons_zero, List.getElem?_cons_succ] at q0 q1 r0 r1
  have HZ := Lib.hid z0
  obtain ⟨Wz, hWz⟩ : ∃ Wz, w7 = Wz := ⟨_, rfl⟩
  rw [hWz] at q0 q1 g0 g1 r0 r1 HZ hb7' hnl
  try rw [hWz]
  clear hWz
  have HB7 := Lib.hid (HB.out.trans (hb7'.mono HB.out.size))
  have HNL := Lib.hid hnl
  have hg9 := HB7.out.size
  clear hb7' hbd hS HKS c0 c1 z9 hnl z0
  go_wp2_with fail
  refine bodyPost_ret (v := .agg #[.slice (some ⟨g7, 0, none⟩) (n + 1) c7, .int .i64 (tm + 1)]) (by simp [results, Tryz.results85, go_sem, r0, r1]) rfl ?_
  have hbf : Below w.heap.size w ((Wz.setCell ⟨w.heap.size + 1, 0, none⟩ (.slice (some ⟨g7, 0, none⟩) (n + 1) c7)).setCell ⟨w.heap.size + 1, 1, none⟩ (.int .i64 (tm + 1))) := (HB7.out.setCell (by dsimp only; omega) _).setCell (by dsimp only; omega) _
  refine ⟨_, _, _, rfl, ?_, hbf⟩
  exact (HNL.out.other HZ.out (no_str (fun s e => by cases e) (fun s e => by cases e))).other (HZ.out.put 0 (.slice (some ⟨g7, 0, none⟩) (n + 1) c7)) (no_str (fun s e => by cases e) (fun s e => by cases e))
end Go.Proofs.YtmkahbbcagfbhaaGreatDoor
