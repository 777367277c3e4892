/-
  Arguments' readings that are declarations, and lists of them. No statement is proved here.
-/
import Derived.Test.YtloeainlpcnhnaaGreatQd
namespace Go.Proofs.YtloeainlpcnhnaaGreat
open Go.ChangeShapes Go.WideShapes Go.ChangeAt Go.RowKit Go.Deep
set_option linter.unusedVariables false
set_option maxRecDepth 100000
section
variable {H : Type} {enc : TypeId × Value → H} {w : World} {base : Nat} {spare : Nat → Bool} {held : Bool}

theorem Tryz.cellsDecl : Tryz.prog.cellsOf 51 = 4 := by kernel_rfl
theorem Tryz.cellsStr : Tryz.prog.cellsOf 9 = 1 := by kernel_rfl
theorem trod_decl {fuel : Nat} {cs : List Value} {x : DataW H × List MemPlace} (hx : DataW.trod enc Tryz.prog w base spare held fuel 51 cs = some x) :
    ∃ (y : T) (s : ByteArray) (v1 v2 v3 : Value), cs = [.string s, v1, v2, v3] ∧ Rd w y (.agg #[v1, v2, v3]) ∧ nd y ≤ Rows.uptoBulk x.1 := by
  obtain ⟨ys, n, rfl, hxe, hl, hyl, hf⟩ := DataW.trod_struct Tryz.underlying51 hx
  rw [Tryz.cellsDecl] at hl
  match cs, hl with
  | [v0, v1, v2, v3], _ =>
    match ys, hyl with
    | [y0, y1], _ =>
      have h0 : DataW.trod enc Tryz.prog w base spare held n 9 (([v0, v1, v2, v3].drop 0).take (Tryz.prog.cellsOf 9)) = some y0 := hf 0 _ rfl
      have h1 : DataW.trod enc Tryz.prog w base spare held n 44 (([v0, v1, v2, v3].drop 1).take (Tryz.prog.cellsOf 44)) = some y1 := hf 1 _ rfl
      simp only [Tryz.cellsStr, Tryz.cellsTerm, List.drop_zero, List.drop_succ_cons, List.take_succ_cons, List.take_zero] at h0 h1
      obtain ⟨s, e0, _⟩ := DataW.trod_string Tryz.underlying9 h0
      simp only [List.cons.injEq, and_true] at e0
      subst e0
      obtain ⟨t, u0, u1, u2, e, hr, hle, _⟩ := trod_term n _ _ h1
      simp only [List.cons.injEq, and_true] at e
      obtain ⟨rfl, rfl, rfl⟩ := e
      refine ⟨t, s, _, _, _, rfl, hr, ?_⟩
      have hd : x.1 = .agg [y0.1, y1.1] := congrArg Prod.fst hxe
      rw [hd]
      simp only [Rows.uptoBulk, Rows.uptoBulkAll]
      omega
theorem spot_ofQ {a : Addr} {i : Nat} {v v0 : Value} (c0 : w.cell? (a.add i) = some v) (c00 : w.cell? (a.add 0) = some v0) : a.spot = none := by
  have := cell_spot c0
  unfold Addr.add at this
  split at this
  · exact this
  · have := cell_spot c00
    simpa [Addr.add] using this
theorem bulk_mem {H : Type} : ∀ (ds : List (DataW H)) (i : Nat) (d : DataW H), ds[i]? = some d → Rows.uptoBulk d ≤ Rows.uptoBulkAll ds
  | [], i, d, h => by simp at h
  | e :: ds, 0, d, h => by
    simp at h
    subst h
    simp only [Rows.uptoBulkAll]
    omega
  | e :: ds, i + 1, d, h => by
    have := bulk_mem ds i d (by simpa using h)
    simp only [Rows.uptoBulkAll]
    omega
theorem open_decls {r : Reach} {b0 : Nat} {v : Value} {d : DataW H} {p : List MemPlace} (hv : Value.okWide Tryz.prog w r b0 22 v) (h : DataW.Trod enc Tryz.prog w base spare held 22 v d p) :
    ∃ (xs : List T) (A : Option Addr) (n c : Nat), v = .slice A n c ∧ DL w xs A n c ∧ ∀ x ∈ xs, nd x ≤ Rows.uptoBulk d := by
  obtain ⟨fuel, hf⟩ := h
  obtain ⟨a0, l0, c0, rfl⟩ := okWide_slice Tryz.underlying22 hv
  rcases DataW.trod_slice Tryz.underlying22 hf with ⟨e2, hy2⟩ | ⟨a, len, cap, elems, rest, m, rfl, e2, hy2, hb, hlc, hm, hel, hat, _, _⟩
  · simp only [Value.cells, List.cons.injEq, and_true] at e2
    exact ⟨[], none, 0, 0, e2, ⟨rfl, Nat.le_refl _, Nat.zero_le _, fun i t ht => by simp at ht⟩, fun x hx => by cases hx⟩
  · simp only [Value.cells, List.cons.injEq, and_true] at e2
    rw [e2]
    have first : ∀ i, i < len → ∃ y : T, ∃ s v1 v2 v3 dd, w.cell? (a.add (i * 4 + 0)) = some (.string s) ∧ w.cell? (a.add (i * 4 + 1)) = some v1 ∧ w.cell? (a.add (i * 4 + 2)) = some v2 ∧ w.cell? (a.add (i * 4 + 3)) = some v3 ∧ Rd w y (.agg #[v1, v2, v3]) ∧ (elems.map (·.1))[i]? = some dd ∧ nd y ≤ Rows.uptoBulk dd := by
      intro i hi
      have hi' := hat i hi
      rw [List.getElem?_eq_getElem (by omega), Option.bind_eq_some_iff] at hi'
      obtain ⟨cs', hcs, htr⟩ := hi'
      obtain ⟨y, s, u1, u2, u3, rfl, hr, hle⟩ := trod_decl htr
      rw [Tryz.cellsDecl] at hcs
      obtain ⟨_, _, hcell⟩ := World.cells?_some hcs
      have c0 := hcell 0 (by omega)
      have c1 := hcell 1 (by omega)
      have c2 := hcell 2 (by omega)
      have c3 := hcell 3 (by omega)
      simp only [List.getElem?_cons_zero, List.getElem?_cons_succ, add_add] at c0 c1 c2 c3
      exact ⟨y, s, u1, u2, u3, _, c0, c1, c2, c3, hr, by rw [List.getElem?_map, List.getElem?_eq_getElem (by omega)]; rfl, hle⟩
    have each : ∀ i, i < len → ∃ y : T, DAt w (some a) i y ∧ nd y ≤ Rows.uptoBulk d := by
      intro i hi
      obtain ⟨y, s, v1, v2, v3, dd, c0, c1, c2, c3, hr, hdd, hle⟩ := first i hi
      obtain ⟨y', _, _, _, _, _, c00, _⟩ := first 0 (by omega)
      have hs := spot_ofQ c0 (by simpa using c00)
      obtain ⟨b, o, sp⟩ := a
      dsimp only at hs
      subst hs
      rw [addr_add] at c0 c1 c2 c3
      obtain ⟨k, h, A, n, c, e⟩ := hr.full
      simp only [Value.agg.injEq, Array.mk.injEq, List.cons.injEq, and_true] at e
      obtain ⟨rfl, rfl, rfl⟩ := e
      refine ⟨y, ⟨b, o, s, k, h, A, n, c, rfl, c0, by rw [Nat.add_assoc]; exact c1, by rw [Nat.add_assoc]; exact c2, by rw [Nat.add_assoc]; exact c3, hr⟩, ?_⟩
      have h1 := bulk_mem _ _ _ hdd
      have hd : d = DataW.slice (elems.map (·.1)) (rest.map (·.1)) := congrArg Prod.fst hy2
      rw [hd]
      simp only [Rows.uptoBulk]
      omega
    obtain ⟨xs, hxl, hxs⟩ := list_of len each
    exact ⟨xs, some a, len, cap, rfl, ⟨hxl, hlc, hm, fun i y hy => (hxs i y hy).1⟩, fun x hx => by
      obtain ⟨i, hi⟩ := List.getElem?_of_mem hx
      exact (hxs i x hi).2⟩
theorem open_decl {r : Reach} {b0 : Nat} {v : Value} {d : DataW H} {p : List MemPlace} (hv : Value.okWide Tryz.prog w r b0 51 v) (h : DataW.Trod enc Tryz.prog w base spare held 51 v d p) :
    ∃ (t : T) (s : ByteArray) (k g : Int) (A : Option Addr) (n c : Nat), v = .agg #[.string s, .int .i64 k, .int .i64 g, .slice A n c] ∧ Rd w t (.agg #[.int .i64 k, .int .i64 g, .slice A n c]) := by
  obtain ⟨cs0, rfl, _⟩ := okWide_struct Tryz.underlying51 hv
  obtain ⟨fuel, hf⟩ := h
  obtain ⟨y, s, v1, v2, v3, e, hr, _⟩ := trod_decl hf
  obtain ⟨k, g, A, n, c, e1⟩ := hr.full
  simp only [Value.agg.injEq, Array.mk.injEq, List.cons.injEq, and_true] at e1
  obtain ⟨rfl, rfl, rfl⟩ := e1
  refine ⟨y, s, k, g, A, n, c, ?_, hr⟩
  cases cs0
  simpa [Value.cells] using e
end
end Go.Proofs.YtloeainlpcnhnaaGreat
