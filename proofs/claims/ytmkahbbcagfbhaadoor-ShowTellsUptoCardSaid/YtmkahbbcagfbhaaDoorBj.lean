/-
  Contracts of package parse's first, alone and closed. No statement is proved here.
-/
import Derived.Test.YtmkahbbcagfbhaaDoorBi
namespace Go.Proofs.YtmkahbbcagfbhaaDoor
open Go.ChangeShapes Go.WideShapes Go.ChangeAt Go.RowKit
set_option linter.unusedVariables false


/-- what a call tells that hands a term on, all of which lies from a block on -/
def TmX (lo b0 R K : Nat) (SA : Option Addr) (sn sc : Nat) (sg : List (ByteArray × T)) (r : Rt) (w : World) (e : Ending) (w' : World) : Prop :=
  FrB R w w' ∧ ∃ k g A n c ec, e = .returned (.tuple #[.agg #[.int .i64 k, .int .i64 g, .slice A n c], .int .i64 ec]) ∧
    ((∃ t y, r = .ok (t, y) ∧ ec = 0 ∧ RdN lo w' t (.agg #[.int .i64 k, .int .i64 g, .slice A n c]) ∧ PS b0 R K SA sn sc sg y w') ∨ (r = .error ec ∧ ec ≠ 0 ∧ k = 0 ∧ g = 0 ∧ A = none ∧ n = 0 ∧ c = 0))
theorem PS.move {b0 R K : Nat} {SA : Option Addr} {sn sc : Nat} {sg : List (ByteArray × T)} {x : List Tk} {w w' : World} (h : PS b0 R K SA sn sc sg x w) (f : FrB R w w') (hR : w'.heap[R]? = w.heap[R]?) : PS b0 R K SA sn sc sg x w' := by
  obtain ⟨A, n, c, hb, hx, hA⟩ := h.box
  exact h.to f (hR.trans hb) hx (Nat.le_refl _) (fun t ht => ht) hA
/-- what is told is handed on by later calls -/
theorem TmX.less {lo lo' b0 R K : Nat} {SA : Option Addr} {sn sc : Nat} {sg : List (ByteArray × T)} {r : Rt} {w : World} {e : Ending} {w' : World} (h : TmX lo b0 R K SA sn sc sg r w e w') (hl : lo' ≤ lo) : TmX lo' b0 R K SA sn sc sg r w e w' := by
  obtain ⟨f, k, g, A, n, c, ec, e1, h1⟩ := h
  refine ⟨f, k, g, A, n, c, ec, e1, ?_⟩
  rcases h1 with ⟨t, y, a, b, d, p⟩ | h1
  · exact .inl ⟨t, y, a, b, d.less hl, p⟩
  · exact .inr h1
theorem TmX.after {lo b0 R K : Nat} {SA : Option Addr} {sn sc : Nat} {sg : List (ByteArray × T)} {r : Rt} {w0 w : World} {e : Ending} {w' : World} (h : TmX lo b0 R K SA sn sc sg r w e w') (f0 : FrB R w0 w) : TmX lo b0 R K SA sn sc sg r w0 e w' := by
  obtain ⟨f, h1⟩ := h
  exact ⟨f0.trans f, h1⟩
set_option maxRecDepth 100000 in
set_option maxHeartbeats 8000000 in
theorem pFirstC {b0 R K : Nat} {SA : Option Addr} {sn sc : Nat} {sg : List (ByteArray × T)} {x : List Tk} {w : World} (h : PS b0 R K SA sn sc sg x w) (ss : List ByteArray) (A : Option Addr) (n c : Nat) (tm : Int) (hN : NL w ss A n c) (t1 : Int) (t2 : ByteArray) (ht : t2.size ≤ maxLen) :
    Calls Tryd.prog 67 #[.pointer (some ⟨R, 0, none⟩), .agg #[.int .i64 t1, .string t2], .agg #[.slice A n c, .int .i64 tm]] w fun e w' =>
      Below w.heap.size w w' ∧ ∃ k g ec, e = .returned (.tuple #[.agg #[.int .i64 k, .int .i64 g, .slice none 0 0], .int .i64 ec]) ∧ ((firM sg ss.reverse (t1, t2) = .ok (.node k g []) ∧ ec = 0) ∨ (firM sg ss.reverse (t1, t2) = .error ec ∧ ec ≠ 0 ∧ k = 0 ∧ g = 0)) := by
  obtain ⟨W, hW⟩ : ∃ W, ((w.alloc (.cells #[.int .i64 t1, .string t2] 64)).alloc (.cells #[.slice A n c, .int .i64 tm] 81)).alloc (.cells #[.int .i64 0, .int .i64 0, .slice none 0 0] 24) = W := ⟨_, rfl⟩
  have hb : Below w.heap.size w W := by rw [← hW]; exact (((Below.refl _ _).alloc (Nat.le_refl _) _).alloc (by simp) _).alloc (by simp; omega) _
  have x0 : BoxX W w.heap.size 64 #[.int .i64 t1, .string t2] := by rw [← hW]; exact ((BoxX.new _ _ _).alloc _).alloc _
  have x1 : BoxX W (w.heap.size + 1) 81 #[.slice A n c, .int .i64 tm] := by
    have := (BoxX.new (w.alloc (.cells #[.int .i64 t1, .string t2] 64)) 81 #[.slice A n c, .int .i64 tm]).alloc (.cells #[.int .i64 0, .int .i64 0, .slice none 0 0] 24)
    rw [← hW]; simpa using this
  have x2 : BoxX W (w.heap.size + 1 + 1) 24 #[.int .i64 0, .int .i64 0, .slice none 0 0] := by
    have := BoxX.new ((w.alloc (.cells #[.int .i64 t1, .string t2] 64)).alloc (.cells #[.slice A n c, .int .i64 tm] 81)) 24 #[.int .i64 0, .int .i64 0, .slice none 0 0]
    rw [← hW]; simpa using this
  have c0 := x0.cell 0
  have c1 := x0.cell 1
  have d0 := x1.cell 0
  have d1 := x1.cell 1
  simp only [List.getElem?_toArray, List.getElem?_cons_zero, List.getElem?_cons_succ] at c0 c1 d0 d1
  have HB := Lib.hid hb
  have HX := Lib.hid x2
  by_cases h0 : t1 = 0
  · subst h0
    have HC := Lib.hid (pHeadC (h.keep hb) t2 ht ss A n c tm (hN.keep hb))
    have HF := Lib.hid (show firM sg ss.reverse (0, t2) = hdM sg ss.reverse t2 from if_pos rfl)
    clear hb x0 x1 x2 h hN
    subst hW
    go_enter Tryd.func67, Tryd.ntmps67
    go_wp2_with fail
    refine HC.out.mono ?_
    rintro e w1 ⟨hb1, k, g, ec, rfl, hres⟩
    have y2 := HX.out.keep hb1 HX.out.lt
    have HB1 := Lib.hid (HB.out.trans (hb1.mono HB.out.size))
    have HR := Lib.hid hres
    clear hb1 HX HC c0 c1 d0 d1 hres HB
    have z9 := ((y2.put 0 (.int .i64 k)).put 1 (.int .i64 g)).put 2 (.slice none 0 0)
    have e0 := z9.cell 0
    have e1 := z9.cell 1
    have e2 := z9.cell 2
    have r0 := y2.cell 0
    have r1 := y2.cell 1
    have r2 := y2.cell 2
    have fz0 := y2.frozen 0
    have fz1 := y2.frozen 1
    have fz2 := y2.frozen 2
    have lz := y2.lt
    simp only [List.setIfInBounds_toArray, List.set_cons_zero, List.set_cons_succ, List.getElem?_toArray, List.getElem?_cons_zero, List.getElem?_cons_succ] at e0 e1 e2 r0 r1 r2
    clear z9 y2
    go_wp2_with fail
    refine bodyPost_ret (v := .tuple #[.agg #[.int .i64 k, .int .i64 g, .slice none 0 0], .int .i64 ec]) (by simp [results, Tryd.results67, go_sem, e0, e1, e2]) rfl ?_
    refine ⟨((HB1.out.setCell (by dsimp only; omega) _).setCell (by dsimp only; omega) _).setCell (by dsimp only; omega) _, k, g, ec, rfl, ?_⟩
    rw [HF.out]
    rcases HR.out with h1 | ⟨h1, h2, h3, h4⟩
    · exact .inl h1
    · exact .inr ⟨h1, by omega, h3, h4⟩
  · have d9 : (t1 == 0) = false := by simpa using h0
    obtain ⟨q1, hq1⟩ : ∃ q, decide (((t1, t2) : Tk) = mP) = q := ⟨_, rfl⟩
    obtain ⟨q2, hq2⟩ : ∃ q, decide (((t1, t2) : Tk) = mL) = q := ⟨_, rfl⟩
    obtain ⟨q3, hq3⟩ : ∃ q, decide (((t1, t2) : Tk) = mO) = q := ⟨_, rfl⟩
    have hE1 : ∀ W, (Op.equalIn 10000 64 (.agg #[.int .i64 t1, .string t2]) (.agg #[.int .i64 1, .string ⟨#[123]⟩])).run Tryd.prog W = .ok q1 W := fun W => by rw [run_eqB, ← hq1]; rfl
    have hE2 : ∀ W, (Op.equalIn 10000 64 (.agg #[.int .i64 t1, .string t2]) (.agg #[.int .i64 1, .string ⟨#[91]⟩])).run Tryd.prog W = .ok q2 W := fun W => by rw [run_eqB, ← hq2]; rfl
    have hE3 : ∀ W, (Op.equalIn 10000 64 (.agg #[.int .i64 t1, .string t2]) (.agg #[.int .i64 1, .string ⟨#[40]⟩])).run Tryd.prog W = .ok q3 W := fun W => by rw [run_eqB, ← hq3]; rfl
    have HF : Hid (firM sg ss.reverse (t1, t2) = if q1 = true ∨ q2 = true ∨ q3 = true then .ok (.node 0 0 []) else .error 8) := Lib.hid (by
      rw [← hq1, ← hq2, ← hq3]
      simp only [decide_eq_true_eq]
      exact if_neg h0)
    clear hb x0 x1 x2 h hN hq1 hq2 hq3
    have HW := Lib.hid hW
    clear hW
    go_enter Tryd.func67, Tryd.ntmps67
    go_wp2_with fail
    try rw [HW.out]
    clear HW
    have HKS : Hid (∀ w' : World, Below W.heap.size W w' → (fun w' => w'.cell? ⟨w.heap.size, 0, none⟩ = some (.int .i64 t1) ∧ w'.cell? ⟨w.heap.size, 1, none⟩ = some (.string t2)) w') := Lib.hid fun w' h => ⟨(h.cell (cell_ltX c0)).trans c0, (h.cell (cell_ltX c1)).trans c1⟩
    have hbd : Below W.heap.size W W.drew := (Below.refl _ W).drew
    refine zzR HKS hbd (fun hS => ?_)
    simp only [List.size_toArray, List.length_cons, List.length_nil, Nat.reduceAdd]
    refine wpAnyH_take (i := 0) (v := .agg #[.int .i64 t1, .string t2]) rfl (by kernel_rfl) (by kernel_rfl) (by kernel_rfl) (fun _ _ _ h => h) (Or.inl ⟨by kernel_rfl, ?_⟩) hS ?_
    · intro w' hSw
      obtain ⟨s0, s1⟩ := hSw
      go_simp
    try simp only [Act.put, List.getElem_toArray, List.getElem_cons_zero, List.setIfInBounds_toArray, List.set_cons_zero, List.set_cons_succ]
    refine wpAnyH_ready (rs := [1]) (by kernel_rfl) (by simp) ?_
    refine AllReadyH.cons rfl (fun KN hK => ?_) AllReadyH.nil
    go_simp
    refine (pMarkC _ _).mono ?_
    rintro e w1 ⟨rfl, hb1⟩
    have hb1' := hbd.trans (hb1.mono hbd.size)
    refine hK.out _ _ (HKS.out _ hb1') (fun hS => ?_)
    clear hK KN
    try simp only [Act.put, zzP]
    refine wpAnyH_take (i := 2) (v := .bool q1) rfl (by kernel_rfl) (by kernel_rfl) (by kernel_rfl) (fun _ _ _ h => h) (Or.inl ⟨by kernel_rfl, ?_⟩) hS ?_
    · intro w' hSw
      obtain ⟨s0, s1⟩ := hSw
      go_simp
    try simp only [Act.put, List.getElem_toArray, List.getElem_cons_succ, List.getElem_cons_zero, List.setIfInBounds_toArray, List.set_cons_zero, List.set_cons_succ]
    refine wpAnyH_take (i := 3) (v := .bool q1) rfl (by kernel_rfl) (by kernel_rfl) (by kernel_rfl) (fun _ _ _ h => h) (Or.inl ⟨by kernel_rfl, ?_⟩) hS ?_
    · intro w' hSw
      obtain ⟨s0, s1⟩ := hSw
      go_simp
    try simp only [Act.put, List.getElem_toArray, List.getElem_cons_succ, List.getElem_cons_zero, List.setIfInBounds_toArray, List.set_cons_zero, List.set_cons_succ]
    refine wpAnyH_done (by kernel_rfl) ?_ _
    try simp only [zzP]
    obtain ⟨c0_2, c1_2⟩ := hS
    have HB1 := Lib.hid (HB.out.trans (hb1'.mono HB.out.size))
    have HX1 := Lib.hid (HX.out.keep hb1' HX.out.lt)
    clear HKS hbd hb1 hb1'
    cases q1 with
    | true =>
      have HF1 := Lib.hid (show firM sg ss.reverse (t1, t2) = .ok (.node 0 0 []) by rw [HF.out]; simp)
      clear HF
      have y2 := HX1.out
      have z9 := ((y2.put 0 (.int .i64 0)).put 1 (.int .i64 0)).put 2 (.slice none 0 0)
      have e0 := z9.cell 0
      have e1 := z9.cell 1
      have e2 := z9.cell 2
      have r0 := y2.cell 0
      have r1 := y2.cell 1
      have r2 := y2.cell 2
      have fz0 := y2.frozen 0
      have fz1 := y2.frozen 1
      have fz2 := y2.frozen 2
      have lz := y2.lt
      simp only [List.setIfInBounds_toArray, List.set_cons_zero, List.set_cons_succ, List.getElem?_toArray, List.getElem?_cons_zero, List.getElem?_cons_succ] at e0 e1 e2 r0 r1 r2
      clear z9 y2
      go_wp2_with fail
      refine bodyPost_ret (v := .tuple #[.agg #[.int .i64 0, .int .i64 0, .slice none 0 0], .int .i64 0]) (by simp [results, Tryd.results67, go_sem, e0, e1, e2]) rfl ?_
      refine ⟨((HB1.out.setCell (by dsimp only; omega) _).setCell (by dsimp only; omega) _).setCell (by dsimp only; omega) _, 0, 0, 0, rfl, .inl ⟨HF1.out, rfl⟩⟩
    | false =>
      go_wp2_with fail
      have HKS : Hid (∀ w' : World, Below w1.heap.size w1 w' → (fun w' => w'.cell? ⟨w.heap.size, 0, none⟩ = some (.int .i64 t1) ∧ w'.cell? ⟨w.heap.size, 1, none⟩ = some (.string t2)) w') := Lib.hid fun w' h => ⟨(h.cell (cell_ltX c0_2)).trans c0_2, (h.cell (cell_ltX c1_2)).trans c1_2⟩
      have hbd : Below w1.heap.size w1 w1.drew := (Below.refl _ w1).drew
      refine zzR HKS hbd (fun hS => ?_)
      simp only [List.size_toArray, List.length_cons, List.length_nil, Nat.reduceAdd]
      refine wpAnyH_take (i := 0) (v := .agg #[.int .i64 t1, .string t2]) rfl (by kernel_rfl) (by kernel_rfl) (by kernel_rfl) (fun _ _ _ h => h) (Or.inl ⟨by kernel_rfl, ?_⟩) hS ?_
      · intro w' hSw
        obtain ⟨s0, s1⟩ := hSw
        go_simp
      try simp only [Act.put, List.getElem_toArray, List.getElem_cons_zero, List.setIfInBounds_toArray, List.set_cons_zero, List.set_cons_succ]
      refine wpAnyH_ready (rs := [1]) (by kernel_rfl) (by simp) ?_
      refine AllReadyH.cons rfl (fun KN hK => ?_) AllReadyH.nil
      go_simp
      refine (pMarkC _ _).mono ?_
      rintro e w2 ⟨rfl, hb2⟩
      have hb2' := hbd.trans (hb2.mono hbd.size)
      refine hK.out _ _ (HKS.out _ hb2') (fun hS => ?_)
      clear hK KN
      try simp only [Act.put, zzP]
      refine wpAnyH_take (i := 2) (v := .bool q2) rfl (by kernel_rfl) (by kernel_rfl) (by kernel_rfl) (fun _ _ _ h => h) (Or.inl ⟨by kernel_rfl, ?_⟩) hS ?_
      · intro w' hSw
        obtain ⟨s0, s1⟩ := hSw
        go_simp
      try simp only [Act.put, List.getElem_toArray, List.getElem_cons_succ, List.getElem_cons_zero, List.setIfInBounds_toArray, List.set_cons_zero, List.set_cons_succ]
      refine wpAnyH_take (i := 3) (v := .bool q2) rfl (by kernel_rfl) (by kernel_rfl) (by kernel_rfl) (fun _ _ _ h => h) (Or.inl ⟨by kernel_rfl, ?_⟩) hS ?_
      · intro w' hSw
        obtain ⟨s0, s1⟩ := hSw
        go_simp
      try simp only [Act.put, List.getElem_toArray, List.getElem_cons_succ, List.getElem_cons_zero, List.setIfInBounds_toArray, List.set_cons_zero, List.set_cons_succ]
      refine wpAnyH_done (by kernel_rfl) ?_ _
      try simp only [zzP]
      obtain ⟨c0_3, c1_3⟩ := hS
      have HB2 := Lib.hid (HB1.out.trans (hb2'.mono HB1.out.size))
      have HX2 := Lib.hid (HX1.out.keep hb2' HX1.out.lt)
      clear HKS hbd hb2 hb2'
      cases q2 with
      | true =>
        have HF1 := Lib.hid (show firM sg ss.reverse (t1, t2) = .ok (.node 0 0 []) by rw [HF.out]; simp)
        clear HF
        have y2 := HX2.out
        have z9 := ((y2.put 0 (.int .i64 0)).put 1 (.int .i64 0)).put 2 (.slice none 0 0)
        have e0 := z9.cell 0
        have e1 := z9.cell 1
        have e2 := z9.cell 2
        have r0 := y2.cell 0
        have r1 := y2.cell 1
        have r2 := y2.cell 2
        have fz0 := y2.frozen 0
        have fz1 := y2.frozen 1
        have fz2 := y2.frozen 2
        have lz := y2.lt
        simp only [List.setIfInBounds_toArray, List.set_cons_zero, List.set_cons_succ, List.getElem?_toArray, List.getElem?_cons_zero, List.getElem?_cons_succ] at e0 e1 e2 r0 r1 r2
        clear z9 y2
        go_wp2_with fail
        refine bodyPost_ret (v := .tuple #[.agg #[.int .i64 0, .int .i64 0, .slice none 0 0], .int .i64 0]) (by simp [results, Tryd.results67, go_sem, e0, e1, e2]) rfl ?_
        refine ⟨((HB2.out.setCell (by dsimp only; omega) _).setCell (by dsimp only; omega) _).setCell (by dsimp only; omega) _, 0, 0, 0, rfl, .inl ⟨HF1.out, rfl⟩⟩
      | false =>
        go_wp2_with fail
        have HKS : Hid (∀ w' : World, Below w2.heap.size w2 w' → (fun w' => w'.cell? ⟨w.heap.size, 0, none⟩ = some (.int .i64 t1) ∧ w'.cell? ⟨w.heap.size, 1, none⟩ = some (.string t2)) w') := Lib.hid fun w' h => ⟨(h.cell (cell_ltX c0_3)).trans c0_3, (h.cell (cell_ltX c1_3)).trans c1_3⟩
        have hbd : Below w2.heap.size w2 w2.drew := (Below.refl _ w2).drew
        refine zzR HKS hbd (fun hS => ?_)
        simp only [List.size_toArray, List.length_cons, List.length_nil, Nat.reduceAdd]
        refine wpAnyH_take (i := 0) (v := .agg #[.int .i64 t1, .string t2]) rfl (by kernel_rfl) (by kernel_rfl) (by kernel_rfl) (fun _ _ _ h => h) (Or.inl ⟨by kernel_rfl, ?_⟩) hS ?_
        · intro w' hSw
          obtain ⟨s0, s1⟩ := hSw
          go_simp
        try simp only [Act.put, List.getElem_toArray, List.getElem_cons_zero, List.setIfInBounds_toArray, List.set_cons_zero, List.set_cons_succ]
        refine wpAnyH_ready (rs := [1]) (by kernel_rfl) (by simp) ?_
        refine AllReadyH.cons rfl (fun KN hK => ?_) AllReadyH.nil
        go_simp
        refine (pMarkC _ _).mono ?_
        rintro e w3 ⟨rfl, hb3⟩
        have hb3' := hbd.trans (hb3.mono hbd.size)
        refine hK.out _ _ (HKS.out _ hb3') (fun hS => ?_)
        clear hK KN
        try simp only [Act.put, zzP]
        refine wpAnyH_take (i := 2) (v := .bool q3) rfl (by kernel_rfl) (by kernel_rfl) (by kernel_rfl) (fun _ _ _ h => h) (Or.inl ⟨by kernel_rfl, ?_⟩) hS ?_
        · intro w' hSw
          obtain ⟨s0, s1⟩ := hSw
          go_simp
        try simp only [Act.put, List.getElem_toArray, List.getElem_cons_succ, List.getElem_cons_zero, List.setIfInBounds_toArray, List.set_cons_zero, List.set_cons_succ]
        refine wpAnyH_take (i := 3) (v := .bool q3) rfl (by kernel_rfl) (by kernel_rfl) (by kernel_rfl) (fun _ _ _ h => h) (Or.inl ⟨by kernel_rfl, ?_⟩) hS ?_
        · intro w' hSw
          obtain ⟨s0, s1⟩ := hSw
          go_simp
        try simp only [Act.put, List.getElem_toArray, List.getElem_cons_succ, List.getElem_cons_zero, List.setIfInBounds_toArray, List.set_cons_zero, List.set_cons_succ]
        refine wpAnyH_done (by kernel_rfl) ?_ _
        try simp only [zzP]
        obtain ⟨c0_4, c1_4⟩ := hS
        have HB3 := Lib.hid (HB2.out.trans (hb3'.mono HB2.out.size))
        have HX3 := Lib.hid (HX2.out.keep hb3' HX2.out.lt)
        clear HKS hbd hb3 hb3'
        cases q3 with
        | true =>
          have HF1 := Lib.hid (show firM sg ss.reverse (t1, t2) = .ok (.node 0 0 []) by rw [HF.out]; simp)
          clear HF
          have y2 := HX3.out
          have z9 := ((y2.put 0 (.int .i64 0)).put 1 (.int .i64 0)).put 2 (.slice none 0 0)
          have e0 := z9.cell 0
          have e1 := z9.cell 1
          have e2 := z9.cell 2
          have r0 := y2.cell 0
          have r1 := y2.cell 1
          have r2 := y2.cell 2
          have fz0 := y2.frozen 0
          have fz1 := y2.frozen 1
          have fz2 := y2.frozen 2
          have lz := y2.lt
          simp only [List.setIfInBounds_toArray, List.set_cons_zero, List.set_cons_succ, List.getElem?_toArray, List.getElem?_cons_zero, List.getElem?_cons_succ] at e0 e1 e2 r0 r1 r2
          clear z9 y2
          go_wp2_with fail
          refine bodyPost_ret (v := .tuple #[.agg #[.int .i64 0, .int .i64 0, .slice none 0 0], .int .i64 0]) (by simp [results, Tryd.results67, go_sem, e0, e1, e2]) rfl ?_
          refine ⟨((HB3.out.setCell (by dsimp only; omega) _).setCell (by dsimp only; omega) _).setCell (by dsimp only; omega) _, 0, 0, 0, rfl, .inl ⟨HF1.out, rfl⟩⟩
        | false =>
          have HF1 := Lib.hid (show firM sg ss.reverse (t1, t2) = .error 8 by rw [HF.out]; simp)
          clear HF
          have y2 := HX3.out
          have z9 := ((y2.put 0 (.int .i64 0)).put 1 (.int .i64 0)).put 2 (.slice none 0 0)
          have e0 := z9.cell 0
          have e1 := z9.cell 1
          have e2 := z9.cell 2
          have r0 := y2.cell 0
          have r1 := y2.cell 1
          have r2 := y2.cell 2
          have fz0 := y2.frozen 0
          have fz1 := y2.frozen 1
          have fz2 := y2.frozen 2
          have lz := y2.lt
          simp only [List.setIfInBounds_toArray, List.set_cons_zero, List.set_cons_succ, List.getElem?_toArray, List.getElem?_cons_zero, List.getElem?_cons_succ] at e0 e1 e2 r0 r1 r2
          clear z9 y2
          go_wp2_with fail
          refine bodyPost_ret (v := .tuple #[.agg #[.int .i64 0, .int .i64 0, .slice none 0 0], .int .i64 8]) (by simp [results, Tryd.results67, go_sem, e0, e1, e2]) rfl ?_
          refine ⟨((HB3.out.setCell (by dsimp only; omega) _).setCell (by dsimp only; omega) _).setCell (by dsimp only; omega) _, 0, 0, 8, rfl, .inr ⟨HF1.out, by decide, rfl, rfl⟩⟩
end Go.Proofs.YtmkahbbcagfbhaaDoor
