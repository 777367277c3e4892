/-
  Arguments' readings that are metas, and lists of them; six and seven arguments. No statement is proved here.
-/
import Derived.Test.YtpigmefjcklpkaaPkV
import Derived.Test.YtpigmefjcklpkaaQh
import Derived.Test.YtpigmefjcklpkaaOl
import Derived.ChangeSlices
import Derived.Carry
namespace Go.Proofs.Ytpigmefjcklpkaa
open Go.ChangeShapes Go.WideShapes Go.ChangeAt Go.RowKit Go.Deep
set_option linter.unusedVariables false
set_option maxRecDepth 100000
section
variable {H : Type} {enc : TypeId × Value → H} {P : Program} {w : World} {base : Nat} {spare : Nat → Bool} {held : Bool}

theorem trodAll_five {t0 t1 t2 t3 t4 : TypeId} {args : Array Value} {ds : List (DataW H)} {ps : List MemPlace} (h : DataW.TrodAll enc P w base spare held [t0, t1, t2, t3, t4] args.toList ds ps) :
    ∃ v0 v1 v2 v3 v4 d0 d1 d2 d3 d4 p0 p1 p2 p3 p4, args = #[v0, v1, v2, v3, v4] ∧ ds = [d0, d1, d2, d3, d4] ∧ ps = p0 ++ p1 ++ p2 ++ p3 ++ p4 ∧ DataW.Trod enc P w base spare held t0 v0 d0 p0 ∧ DataW.Trod enc P w base spare held t1 v1 d1 p1 ∧ DataW.Trod enc P w base spare held t2 v2 d2 p2 ∧ DataW.Trod enc P w base spare held t3 v3 d3 p3 ∧ DataW.Trod enc P w base spare held t4 v4 d4 p4 := by
  obtain ⟨v0, vs0, d0, ds0, p0, q0, hargs, rfl, rfl, h0, r0⟩ := trodAll_cons h
  obtain ⟨v1, vs1, d1, ds1, p1, q1, rfl, rfl, rfl, h1, r1⟩ := trodAll_cons r0
  obtain ⟨v2, vs2, d2, ds2, p2, q2, rfl, rfl, rfl, h2, r2⟩ := trodAll_cons r1
  obtain ⟨v3, vs3, d3, ds3, p3, q3, rfl, rfl, rfl, h3, r3⟩ := trodAll_cons r2
  obtain ⟨v4, vs4, d4, ds4, p4, q4, rfl, rfl, rfl, h4, r4⟩ := trodAll_cons r3
  obtain ⟨rfl, rfl, rfl⟩ := trodAll_nil r4
  exact ⟨v0, v1, v2, v3, v4, d0, d1, d2, d3, d4, p0, p1, p2, p3, p4, by cases args; simp_all, rfl, by simp, h0, h1, h2, h3, h4⟩
theorem trodAll_mk5 {t0 t1 t2 t3 t4 : TypeId} {v0 v1 v2 v3 v4 : Value} {d0 d1 d2 d3 d4 : DataW H} {p0 p1 p2 p3 p4 : List MemPlace} (h0 : DataW.Trod enc P w base spare held t0 v0 d0 p0) (h1 : DataW.Trod enc P w base spare held t1 v1 d1 p1) (h2 : DataW.Trod enc P w base spare held t2 v2 d2 p2) (h3 : DataW.Trod enc P w base spare held t3 v3 d3 p3) (h4 : DataW.Trod enc P w base spare held t4 v4 d4 p4) : DataW.TrodAll enc P w base spare held [t0, t1, t2, t3, t4] [v0, v1, v2, v3, v4] [d0, d1, d2, d3, d4] (p0 ++ (p1 ++ (p2 ++ (p3 ++ p4)))) := ⟨p0, (p1 ++ (p2 ++ (p3 ++ p4))), h0, trodAll_mk4 h1 h2 h3 h4, rfl⟩
theorem trodAll_six {t0 t1 t2 t3 t4 t5 : TypeId} {args : Array Value} {ds : List (DataW H)} {ps : List MemPlace} (h : DataW.TrodAll enc P w base spare held [t0, t1, t2, t3, t4, t5] args.toList ds ps) :
    ∃ v0 v1 v2 v3 v4 v5 d0 d1 d2 d3 d4 d5 p0 p1 p2 p3 p4 p5, args = #[v0, v1, v2, v3, v4, v5] ∧ ds = [d0, d1, d2, d3, d4, d5] ∧ ps = p0 ++ p1 ++ p2 ++ p3 ++ p4 ++ p5 ∧ DataW.Trod enc P w base spare held t0 v0 d0 p0 ∧ DataW.Trod enc P w base spare held t1 v1 d1 p1 ∧ DataW.Trod enc P w base spare held t2 v2 d2 p2 ∧ DataW.Trod enc P w base spare held t3 v3 d3 p3 ∧ DataW.Trod enc P w base spare held t4 v4 d4 p4 ∧ DataW.Trod enc P w base spare held t5 v5 d5 p5 := by
  obtain ⟨v0, vs0, d0, ds0, p0, q0, hargs, rfl, rfl, h0, r0⟩ := trodAll_cons h
  obtain ⟨v1, vs1, d1, ds1, p1, q1, rfl, rfl, rfl, h1, r1⟩ := trodAll_cons r0
  obtain ⟨v2, vs2, d2, ds2, p2, q2, rfl, rfl, rfl, h2, r2⟩ := trodAll_cons r1
  obtain ⟨v3, vs3, d3, ds3, p3, q3, rfl, rfl, rfl, h3, r3⟩ := trodAll_cons r2
  obtain ⟨v4, vs4, d4, ds4, p4, q4, rfl, rfl, rfl, h4, r4⟩ := trodAll_cons r3
  obtain ⟨v5, vs5, d5, ds5, p5, q5, rfl, rfl, rfl, h5, r5⟩ := trodAll_cons r4
  obtain ⟨rfl, rfl, rfl⟩ := trodAll_nil r5
  exact ⟨v0, v1, v2, v3, v4, v5, d0, d1, d2, d3, d4, d5, p0, p1, p2, p3, p4, p5, by cases args; simp_all, rfl, by simp, h0, h1, h2, h3, h4, h5⟩
theorem trodAll_mk6 {t0 t1 t2 t3 t4 t5 : TypeId} {v0 v1 v2 v3 v4 v5 : Value} {d0 d1 d2 d3 d4 d5 : DataW H} {p0 p1 p2 p3 p4 p5 : List MemPlace} (h0 : DataW.Trod enc P w base spare held t0 v0 d0 p0) (h1 : DataW.Trod enc P w base spare held t1 v1 d1 p1) (h2 : DataW.Trod enc P w base spare held t2 v2 d2 p2) (h3 : DataW.Trod enc P w base spare held t3 v3 d3 p3) (h4 : DataW.Trod enc P w base spare held t4 v4 d4 p4) (h5 : DataW.Trod enc P w base spare held t5 v5 d5 p5) : DataW.TrodAll enc P w base spare held [t0, t1, t2, t3, t4, t5] [v0, v1, v2, v3, v4, v5] [d0, d1, d2, d3, d4, d5] (p0 ++ (p1 ++ (p2 ++ (p3 ++ (p4 ++ p5))))) := ⟨p0, (p1 ++ (p2 ++ (p3 ++ (p4 ++ p5)))), h0, trodAll_mk5 h1 h2 h3 h4 h5, rfl⟩
theorem trodAll_seven {t0 t1 t2 t3 t4 t5 t6 : TypeId} {args : Array Value} {ds : List (DataW H)} {ps : List MemPlace} (h : DataW.TrodAll enc P w base spare held [t0, t1, t2, t3, t4, t5, t6] args.toList ds ps) :
    ∃ v0 v1 v2 v3 v4 v5 v6 d0 d1 d2 d3 d4 d5 d6 p0 p1 p2 p3 p4 p5 p6, args = #[v0, v1, v2, v3, v4, v5, v6] ∧ ds = [d0, d1, d2, d3, d4, d5, d6] ∧ ps = p0 ++ p1 ++ p2 ++ p3 ++ p4 ++ p5 ++ p6 ∧ DataW.Trod enc P w base spare held t0 v0 d0 p0 ∧ DataW.Trod enc P w base spare held t1 v1 d1 p1 ∧ DataW.Trod enc P w base spare held t2 v2 d2 p2 ∧ DataW.Trod enc P w base spare held t3 v3 d3 p3 ∧ DataW.Trod enc P w base spare held t4 v4 d4 p4 ∧ DataW.Trod enc P w base spare held t5 v5 d5 p5 ∧ DataW.Trod enc P w base spare held t6 v6 d6 p6 := by
  obtain ⟨v0, vs0, d0, ds0, p0, q0, hargs, rfl, rfl, h0, r0⟩ := trodAll_cons h
  obtain ⟨v1, vs1, d1, ds1, p1, q1, rfl, rfl, rfl, h1, r1⟩ := trodAll_cons r0
  obtain ⟨v2, vs2, d2, ds2, p2, q2, rfl, rfl, rfl, h2, r2⟩ := trodAll_cons r1
  obtain ⟨v3, vs3, d3, ds3, p3, q3, rfl, rfl, rfl, h3, r3⟩ := trodAll_cons r2
  obtain ⟨v4, vs4, d4, ds4, p4, q4, rfl, rfl, rfl, h4, r4⟩ := trodAll_cons r3
  obtain ⟨v5, vs5, d5, ds5, p5, q5, rfl, rfl, rfl, h5, r5⟩ := trodAll_cons r4
  obtain ⟨v6, vs6, d6, ds6, p6, q6, rfl, rfl, rfl, h6, r6⟩ := trodAll_cons r5
  obtain ⟨rfl, rfl, rfl⟩ := trodAll_nil r6
  exact ⟨v0, v1, v2, v3, v4, v5, v6, d0, d1, d2, d3, d4, d5, d6, p0, p1, p2, p3, p4, p5, p6, by cases args; simp_all, rfl, by simp, h0, h1, h2, h3, h4, h5, h6⟩
theorem trodAll_mk7 {t0 t1 t2 t3 t4 t5 t6 : TypeId} {v0 v1 v2 v3 v4 v5 v6 : Value} {d0 d1 d2 d3 d4 d5 d6 : DataW H} {p0 p1 p2 p3 p4 p5 p6 : List MemPlace} (h0 : DataW.Trod enc P w base spare held t0 v0 d0 p0) (h1 : DataW.Trod enc P w base spare held t1 v1 d1 p1) (h2 : DataW.Trod enc P w base spare held t2 v2 d2 p2) (h3 : DataW.Trod enc P w base spare held t3 v3 d3 p3) (h4 : DataW.Trod enc P w base spare held t4 v4 d4 p4) (h5 : DataW.Trod enc P w base spare held t5 v5 d5 p5) (h6 : DataW.Trod enc P w base spare held t6 v6 d6 p6) : DataW.TrodAll enc P w base spare held [t0, t1, t2, t3, t4, t5, t6] [v0, v1, v2, v3, v4, v5, v6] [d0, d1, d2, d3, d4, d5, d6] (p0 ++ (p1 ++ (p2 ++ (p3 ++ (p4 ++ (p5 ++ p6)))))) := ⟨p0, (p1 ++ (p2 ++ (p3 ++ (p4 ++ (p5 ++ p6))))), h0, trodAll_mk6 h1 h2 h3 h4 h5 h6, rfl⟩
end
section
variable {H : Type} {enc : TypeId × Value → H} {w : World} {base : Nat} {spare : Nat → Bool} {held : Bool}
theorem trod_terms {fuel : Nat} {v : Value} {y : DataW H × List MemPlace} (hf : DataW.trod enc Try.prog w base spare held fuel 23 [v] = some y) :
    ∃ (xs : List T) (A : Option Addr) (n c : Nat), v = .slice A n c ∧ CLV w xs A n c ∧ ndL xs ≤ Rows.uptoBulk y.1 := by
  rcases DataW.trod_slice Try.underlying23 hf with ⟨e2, hy2⟩ | ⟨a, len, cap, elems, rest, m, rfl, e2, hy2, hb, hlc, hm, hel, hat, _, _⟩
  · simp only [List.cons.injEq, and_true] at e2
    exact ⟨[], none, 0, 0, e2, ⟨rfl, Nat.le_refl _, Nat.zero_le _, fun i t ht => by simp at ht⟩, by simp [ndL]⟩
  · simp only [List.cons.injEq, and_true] at e2
    rw [e2]
    have each : ∀ i, i < len → ∃ t : T, ∃ d, (elems.map (·.1))[i]? = some d ∧ nd t ≤ Rows.uptoBulk d ∧ ((∀ n ∈ d.weights Try.prog 32, n ≤ reachBytes) → wd t ≤ 3518437208780) ∧ RdAt w (some a) i t := by
      intro i hi
      have hi' := hat i hi
      rw [List.getElem?_eq_getElem (by omega), Option.bind_eq_some_iff] at hi'
      obtain ⟨cs', hcs, htr⟩ := hi'
      obtain ⟨t, u0, u1, u2, rfl, hr, hle, hwt⟩ := trod_term m cs' _ htr
      rw [Try.cellsTerm] at hcs
      obtain ⟨_, _, hcell⟩ := World.cells?_some hcs
      have c0 := hcell 0 (by omega)
      have c1 := hcell 1 (by omega)
      have c2 := hcell 2 (by omega)
      simp only [List.getElem?_cons_zero, List.getElem?_cons_succ, add_add, Nat.add_zero] at c0 c1 c2
      have hs : a.spot = none := by
        have := cell_spot c0
        unfold Addr.add at this
        split at this
        · exact this
        · rename_i h3
          -- the first entry's address has the same spot
          have h0' := hat 0 (by omega)
          rw [List.getElem?_eq_getElem (by omega), Option.bind_eq_some_iff] at h0'
          obtain ⟨cs0, hcs0, _⟩ := h0'
          rw [Try.cellsTerm] at hcs0
          obtain ⟨_, hl0, hcell0⟩ := World.cells?_some hcs0
          have := hcell0 0 (by omega)
          rw [List.getElem?_eq_getElem (by omega)] at this
          have := cell_spot this
          simpa [Addr.add] using this
      obtain ⟨b, o, s⟩ := a
      dsimp only at hs
      subst hs
      rw [addr_add] at c0 c1 c2
      refine ⟨t, _, by rw [List.getElem?_map, List.getElem?_eq_getElem (by omega)]; rfl, hle, hwt, b, o, u0, u1, u2, rfl, c0, ?_, ?_, hr⟩
      · rw [Nat.add_assoc]; exact c1
      · rw [Nat.add_assoc]; exact c2

    obtain ⟨xs, hxl, hxs⟩ := list_of len each
    refine ⟨xs, some a, len, cap, rfl, ⟨hxl, hlc, hm, fun i t ht => by obtain ⟨_, _, _, _, hr⟩ := hxs i t ht; exact hr⟩, ?_⟩
    have hge := bulk_ge xs (elems.map (·.1)) fun i t ht => by
      obtain ⟨d, hd, hle, _, _⟩ := hxs i t ht
      exact ⟨d, hd, hle⟩
    rw [show y.1 = _ from congrArg Prod.fst hy2]
    simp only [Rows.uptoBulk]
    omega
theorem open_clv {r : Reach} {b0 : Nat} {v : Value} {d : DataW H} {p : List MemPlace} (hv : Value.okWide Try.prog w r b0 23 v) (h : DataW.Trod enc Try.prog w base spare held 23 v d p) :
    ∃ (xs : List T) (A : Option Addr) (n c : Nat), v = .slice A n c ∧ CLV w xs A n c ∧ ∀ x ∈ xs, nd x ≤ Rows.uptoBulk d := by
  obtain ⟨xs, A, n, c, rfl, h1, h2, h3, h4, h5⟩ := open_terms hv h
  exact ⟨xs, A, n, c, rfl, ⟨h1, h2, h3, h4⟩, fun x hx => Nat.le_trans (nd_mem hx) h5⟩
theorem Try.cellsMd : Try.prog.cellsOf 60 = 5 := by kernel_rfl
theorem Try.cellsBl : Try.prog.cellsOf 4 = 1 := by kernel_rfl
theorem trod_meta {fuel : Nat} {cs : List Value} {x : DataW H × List MemPlace} (hx : DataW.trod enc Try.prog w base spare held fuel 60 cs = some x) :
    ∃ (y : List T × T) (A : Option Addr) (n c : Nat) (v1 v2 v3 : Value) (pb : Bool), cs = [.slice A n c, v1, v2, v3, .bool pb] ∧ CLV w y.1 A n c ∧ Rd w y.2 (.agg #[v1, v2, v3]) ∧ (∀ z ∈ y.1, nd z ≤ Rows.uptoBulk x.1) ∧ nd y.2 ≤ Rows.uptoBulk x.1 := by
  obtain ⟨ys, n, rfl, hxe, hl, hyl, hf⟩ := DataW.trod_struct Try.underlying60 hx
  rw [Try.cellsMd] at hl
  match cs, hl with
  | [v0, v1, v2, v3, v4], _ =>
    match ys, hyl with
    | [y0, y1, y2], _ =>
      have h0 : DataW.trod enc Try.prog w base spare held n 23 (([v0, v1, v2, v3, v4].drop 0).take (Try.prog.cellsOf 23)) = some y0 := hf 0 _ rfl
      have h1 : DataW.trod enc Try.prog w base spare held n 32 (([v0, v1, v2, v3, v4].drop 1).take (Try.prog.cellsOf 32)) = some y1 := hf 1 _ rfl
      have h2 : DataW.trod enc Try.prog w base spare held n 4 (([v0, v1, v2, v3, v4].drop 4).take (Try.prog.cellsOf 4)) = some y2 := hf 2 _ rfl
      simp only [Try.cellsArgs, Try.cellsTerm, Try.cellsBl, List.drop_zero, List.drop_succ_cons, List.take_succ_cons, List.take_zero] at h0 h1 h2
      obtain ⟨xs, A, m, c, rfl, hcl, hle0⟩ := trod_terms h0
      obtain ⟨t, u0, u1, u2, e, hr, hle, _⟩ := trod_term n _ _ h1
      simp only [List.cons.injEq, and_true] at e
      obtain ⟨rfl, rfl, rfl⟩ := e
      obtain ⟨pb, e4, _⟩ := DataW.trod_bool Try.underlying4 h2
      simp only [List.cons.injEq, and_true] at e4
      subst e4
      have hd : x.1 = .agg [y0.1, y1.1, y2.1] := congrArg Prod.fst hxe
      refine ⟨(xs, t), A, m, c, _, _, _, pb, rfl, hcl, hr, fun z hz => ?_, ?_⟩
      · have : nd z ≤ ndL xs := nd_mem hz
        rw [hd]
        simp only [Rows.uptoBulk, Rows.uptoBulkAll]
        omega
      · rw [hd]
        simp only [Rows.uptoBulk, Rows.uptoBulkAll]
        omega
theorem list_ofV {α : Type} {M : Nat → α → Prop} : ∀ n : Nat, (∀ i, i < n → ∃ t, M i t) → ∃ xs : List α, xs.length = n ∧ ∀ i t, xs[i]? = some t → M i t
  | 0, _ => ⟨[], rfl, fun i t h => by simp at h⟩
  | n + 1, h => by
    obtain ⟨xs, h1, h2⟩ := list_ofV n fun i hi => h i (by omega)
    obtain ⟨t, ht⟩ := h n (by omega)
    refine ⟨xs ++ [t], by simp [h1], fun i u hu => ?_⟩
    by_cases hi : i < n
    · rw [List.getElem?_append_left (by omega)] at hu
      exact h2 i u hu
    · have hin : i = n := by have := (List.getElem?_eq_some_iff.1 hu).1; simp [h1] at this; omega
      subst hin
      rw [List.getElem?_append_right (by omega), h1, Nat.sub_self] at hu
      obtain rfl : t = u := by simpa using hu
      exact ht
theorem open_metas {r : Reach} {b0 : Nat} {v : Value} {d : DataW H} {p : List MemPlace} (hv : Value.okWide Try.prog w r b0 43 v) (h : DataW.Trod enc Try.prog w base spare held 43 v d p) :
    ∃ (xs : List (List T × T)) (A : Option Addr) (n c : Nat), v = .slice A n c ∧ ML w xs A n c ∧ ∀ x ∈ xs, (∀ z ∈ x.1, nd z ≤ Rows.uptoBulk d) ∧ nd x.2 ≤ Rows.uptoBulk d := by
  obtain ⟨fuel, hf⟩ := h
  obtain ⟨a0, l0, c0, rfl⟩ := okWide_slice Try.underlying43 hv
  rcases DataW.trod_slice Try.underlying43 hf with ⟨e2, hy2⟩ | ⟨a, len, cap, elems, rest, m, rfl, e2, hy2, hb, hlc, hm, hel, hat, _, _⟩
  · simp only [Value.cells, List.cons.injEq, and_true] at e2
    exact ⟨[], none, 0, 0, e2, ⟨rfl, Nat.le_refl _, Nat.zero_le _, fun i t ht => by simp at ht⟩, fun x hx => by cases hx⟩
  · simp only [Value.cells, List.cons.injEq, and_true] at e2
    rw [e2]
    have first : ∀ i, i < len → ∃ y : List T × T, ∃ A n c v1 v2 v3 pb dd, w.cell? (a.add (i * 5 + 0)) = some (.slice A n c) ∧ w.cell? (a.add (i * 5 + 1)) = some v1 ∧ w.cell? (a.add (i * 5 + 2)) = some v2 ∧ w.cell? (a.add (i * 5 + 3)) = some v3 ∧ w.cell? (a.add (i * 5 + 4)) = some (.bool pb) ∧ CLV w y.1 A n c ∧ Rd w y.2 (.agg #[v1, v2, v3]) ∧ (elems.map (·.1))[i]? = some dd ∧ (∀ z ∈ y.1, nd z ≤ Rows.uptoBulk dd) ∧ nd y.2 ≤ Rows.uptoBulk dd := by
      intro i hi
      have hi' := hat i hi
      rw [List.getElem?_eq_getElem (by omega), Option.bind_eq_some_iff] at hi'
      obtain ⟨cs', hcs, htr⟩ := hi'
      obtain ⟨y, A, n, c, u1, u2, u3, pb, rfl, hcl, hr, hle1, hle2⟩ := trod_meta htr
      rw [Try.cellsMd] at hcs
      obtain ⟨_, _, hcell⟩ := World.cells?_some hcs
      have c0 := hcell 0 (by omega)
      have c1 := hcell 1 (by omega)
      have c2 := hcell 2 (by omega)
      have c3 := hcell 3 (by omega)
      have c4 := hcell 4 (by omega)
      simp only [List.getElem?_cons_zero, List.getElem?_cons_succ, add_add] at c0 c1 c2 c3 c4
      exact ⟨y, A, n, c, u1, u2, u3, pb, _, c0, c1, c2, c3, c4, hcl, hr, by rw [List.getElem?_map, List.getElem?_eq_getElem (by omega)]; rfl, hle1, hle2⟩
    have each : ∀ i, i < len → ∃ y : List T × T, MAt w (some a) i y ∧ (∀ z ∈ y.1, nd z ≤ Rows.uptoBulk d) ∧ nd y.2 ≤ Rows.uptoBulk d := by
      intro i hi
      obtain ⟨y, A1, n1, c1', v1, v2, v3, pb, dd, c0, c1, c2, c3, c4, hcl, hr, hdd, hle1, hle2⟩ := first i hi
      obtain ⟨y', _, _, _, _, _, _, _, _, c00, _⟩ := first 0 (by omega)
      have hs := spot_ofQ c0 (by simpa using c00)
      obtain ⟨b, o, sp⟩ := a
      dsimp only at hs
      subst hs
      rw [addr_add] at c0 c1 c2 c3 c4
      obtain ⟨k, h, A, n, c, e⟩ := hr.full
      simp only [Value.agg.injEq, Array.mk.injEq, List.cons.injEq, and_true] at e
      obtain ⟨rfl, rfl, rfl⟩ := e
      have h1 := bulk_mem _ _ _ hdd
      have hd : d = DataW.slice (elems.map (·.1)) (rest.map (·.1)) := congrArg Prod.fst hy2
      refine ⟨y, ⟨b, o, A1, n1, c1', k, h, A, n, c, pb, rfl, c0, by rw [Nat.add_assoc]; exact c1, by rw [Nat.add_assoc]; exact c2, by rw [Nat.add_assoc]; exact c3, by rw [Nat.add_assoc]; exact c4, hcl, hr⟩, fun z hz => ?_, ?_⟩
      · have := hle1 z hz
        rw [hd]
        simp only [Rows.uptoBulk]
        omega
      · rw [hd]
        simp only [Rows.uptoBulk]
        omega
    obtain ⟨xs, hxl, hxs⟩ := list_ofV len each
    exact ⟨xs, some a, len, cap, rfl, ⟨hxl, hlc, hm, fun i y hy => (hxs i y hy).1⟩, fun x hx => by
      obtain ⟨i, hi⟩ := List.getElem?_of_mem hx
      exact (hxs i x hi).2⟩
end
end Go.Proofs.Ytpigmefjcklpkaa
