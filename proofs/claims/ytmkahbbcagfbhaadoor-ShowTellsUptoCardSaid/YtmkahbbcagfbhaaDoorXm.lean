/-
  Arguments' readings that are texts of bytes, and lists of tokens. No statement is proved here.
-/
import Derived.Test.YtmkahbbcagfbhaaDoorXu
import Derived.ChangeSlices
import Derived.Carry
namespace Go.Proofs.YtmkahbbcagfbhaaDoor
open Go.ChangeShapes Go.WideShapes Go.ChangeAt Go.RowKit Go.Deep
set_option linter.unusedVariables false
set_option maxRecDepth 100000
section
variable {H : Type} {enc : TypeId × Value → H} {w : World} {base : Nat} {spare : Nat → Bool} {held : Bool}
theorem cell_spotX {w : World} {a : Addr} {v : Value} (h : w.cell? a = some v) : a.spot = none := by
  unfold World.cell? at h
  split at h
  · split at h
    · cases h
    · rename_i hs; simpa using hs
  · cases h
theorem wf_byte {z : Int} (h : (Lit.int .u8 z).wf = true) : 0 ≤ z ∧ z < 256 := by
  have h2 : (decide (IntKind.u8.min ≤ z) && decide (z ≤ IntKind.u8.max)) = true := h
  rw [Bool.and_eq_true, decide_eq_true_eq, decide_eq_true_eq] at h2
  have e1 : IntKind.u8.min = 0 := by decide
  have e2 : IntKind.u8.max = 255 := by decide
  omega
theorem byte_of {z : Int} (h : (Lit.int .u8 z).wf = true) : Value.int .u8 z = bV (UInt8.ofNat z.toNat) := by
  obtain ⟨h0, h1⟩ := wf_byte h
  unfold bV
  congr 1
  simp
  omega
theorem open_bytes {r : Reach} {b0 : Nat} {v : Value} {d : DataW H} {p : List MemPlace} (hv : Value.okWide Tryd.prog w r b0 29 v) (h : DataW.Trod enc Tryd.prog w base spare held 29 v d p) :
    ∃ (l : List UInt8) (A : Option Addr) (n c : Nat), v = .slice A n c ∧ YL w l A n c := by
  obtain ⟨fuel, hf⟩ := h
  obtain ⟨a0, l0, c0, rfl⟩ := okWide_slice Tryd.underlying29 hv
  rcases open_ints Tryd.underlying29 Tryd.underlying5 (by kernel_rfl) hf with ⟨e, _⟩ | ⟨a, len, cap, zs, e, _, hlc, hm, hzl, hx, hz, hwf⟩
  · simp only [Value.cells, List.cons.injEq, and_true] at e
    exact ⟨[], none, 0, 0, e, rfl, Nat.le_refl _, Nat.zero_le _, fun i t ht => by simp at ht⟩
  · simp only [Value.cells, List.cons.injEq, and_true] at e
    have hge : len ≤ zs.length := by rw [hzl]; split <;> omega
    refine ⟨(zs.take len).map fun z => UInt8.ofNat z.toNat, some a, len, cap, e, by rw [List.length_map, List.length_take]; omega, hlc, hm, fun i u hu => ?_⟩
    have hi : i < len := by have := (List.getElem?_eq_some_iff.1 hu).1; simp at this; omega
    rw [List.getElem?_map, List.getElem?_take_of_lt hi, List.getElem?_eq_getElem (by omega), Option.map_some, Option.some.injEq] at hu
    have hc := hz i (by omega)
    have hc0 := hz 0 (by omega)
    have hs : a.spot = none := by
      have := cell_spotX hc0
      simpa [Addr.add] using this
    obtain ⟨b, o, s⟩ := a
    dsimp only at hs
    subst hs
    rw [addr_addX] at hc
    refine ⟨b, o, rfl, ?_⟩
    rw [hc, List.getD_eq_getElem?_getD, List.getElem?_eq_getElem (by omega), Option.getD_some, ← hu, byte_of (hwf _ (List.getElem_mem _))]
theorem cellsTok : Tryd.prog.cellsOf 64 = 2 := by kernel_rfl
theorem cellsInt : Tryd.prog.cellsOf 3 = 1 := by kernel_rfl
theorem cellsStr : Tryd.prog.cellsOf 9 = 1 := by kernel_rfl
theorem trod_tok {fuel : Nat} {cs : List Value} {x : DataW H × List MemPlace} (hx : DataW.trod enc Tryd.prog w base spare held fuel 64 cs = some x) :
    ∃ y : Tk, cs = [.int .i64 y.1, .string y.2] ∧ y.2.size ≤ Rows.uptoBulk x.1 := by
  obtain ⟨ys, n, rfl, hxe, hl, hyl, hf⟩ := DataW.trod_struct Tryd.underlying64 hx
  rw [cellsTok] at hl
  match cs, hl with
  | [v0, v1], _ =>
    match ys, hyl with
    | [y0, y1], _ =>
      have h0 : DataW.trod enc Tryd.prog w base spare held n 3 (([v0, v1].drop 0).take (Tryd.prog.cellsOf 3)) = some y0 := hf 0 _ rfl
      have h1 : DataW.trod enc Tryd.prog w base spare held n 9 (([v0, v1].drop 1).take (Tryd.prog.cellsOf 9)) = some y1 := hf 1 _ rfl
      simp only [cellsInt, cellsStr, List.drop_zero, List.drop_succ_cons, List.take_succ_cons, List.take_zero] at h0 h1
      obtain ⟨k, e0, _⟩ := DataW.trod_int Tryd.underlying3 h0
      obtain ⟨s, e1, hs, _⟩ := DataW.trod_string Tryd.underlying9 h1
      simp only [List.cons.injEq, and_true] at e0 e1
      subst e0
      subst e1
      refine ⟨(k, s), rfl, ?_⟩
      have hd : x.1 = .agg [y0.1, y1.1] := congrArg Prod.fst hxe
      rw [hd, hs]
      simp only [Rows.uptoBulk, Rows.uptoBulkAll]
      have e3 : s.data.toList.length = s.size := by rw [Array.length_toList]; rfl
      show s.size ≤ _
      omega
theorem bulk_memX {H : Type} : ∀ (ds : List (DataW H)) (i : Nat) (d : DataW H), ds[i]? = some d → Rows.uptoBulk d ≤ Rows.uptoBulkAll ds
  | [], i, d, h => by simp at h
  | e :: ds, 0, d, h => by
    simp at h
    subst h
    simp only [Rows.uptoBulkAll]
    omega
  | e :: ds, i + 1, d, h => by
    have := bulk_memX ds i d (by simpa using h)
    simp only [Rows.uptoBulkAll]
    omega
theorem list_ofX {α : Type} {M : Nat → α → Prop} : ∀ n : Nat, (∀ i, i < n → ∃ t, M i t) → ∃ xs : List α, xs.length = n ∧ ∀ i t, xs[i]? = some t → M i t
  | 0, _ => ⟨[], rfl, fun i t h => by simp at h⟩
  | n + 1, h => by
    obtain ⟨xs, hl, hx⟩ := list_ofX (M := M) n fun i hi => h i (by omega)
    obtain ⟨t, ht⟩ := h n (by omega)
    refine ⟨xs ++ [t], by simp [hl], fun i u hu => ?_⟩
    rcases Nat.lt_or_ge i n with hi | hi
    · rw [List.getElem?_append_left (by omega)] at hu
      exact hx i u hu
    · rw [List.getElem?_append_right (by omega)] at hu
      rcases Nat.eq_or_lt_of_le hi with rfl | hi
      · rw [hl, Nat.sub_self] at hu
        simp only [List.getElem?_cons_zero, Option.some.injEq] at hu
        subst hu; exact ht
      · rw [List.getElem?_eq_none (by simp; omega)] at hu
        cases hu
theorem spot_ofX {a : Addr} {i : Nat} {v v0 : Value} (c0 : w.cell? (a.add i) = some v) (c00 : w.cell? (a.add 0) = some v0) : a.spot = none := by
  have := cell_spotX c0
  unfold Addr.add at this
  split at this
  · exact this
  · have := cell_spotX c00
    simpa [Addr.add] using this
theorem open_toks {r : Reach} {b0 : Nat} {v : Value} {d : DataW H} {p : List MemPlace} (hv : Value.okWide Tryd.prog w r b0 47 v) (h : DataW.Trod enc Tryd.prog w base spare held 47 v d p) :
    ∃ (xs : List Tk) (A : Option Addr) (n c : Nat), v = .slice A n c ∧ TL w xs A n c ∧ ∀ x ∈ xs, x.2.size ≤ Rows.uptoBulk d := by
  obtain ⟨fuel, hf⟩ := h
  obtain ⟨a0, l0, c0, rfl⟩ := okWide_slice Tryd.underlying47 hv
  rcases DataW.trod_slice Tryd.underlying47 hf with ⟨e2, hy2⟩ | ⟨a, len, cap, elems, rest, m, rfl, e2, hy2, hb, hlc, hm, hel, hat, _, _⟩
  · simp only [Value.cells, List.cons.injEq, and_true] at e2
    exact ⟨[], none, 0, 0, e2, ⟨rfl, Nat.le_refl _, Nat.zero_le _, fun i t ht => by simp at ht⟩, fun x hx => by cases hx⟩
  · simp only [Value.cells, List.cons.injEq, and_true] at e2
    rw [e2]
    have first : ∀ i, i < len → ∃ y : Tk, ∃ dd, w.cell? (a.add (i * 2 + 0)) = some (.int .i64 y.1) ∧ w.cell? (a.add (i * 2 + 1)) = some (.string y.2) ∧ (elems.map (·.1))[i]? = some dd ∧ y.2.size ≤ Rows.uptoBulk dd := by
      intro i hi
      have hi' := hat i hi
      rw [List.getElem?_eq_getElem (by omega), Option.bind_eq_some_iff] at hi'
      obtain ⟨cs', hcs, htr⟩ := hi'
      obtain ⟨y, rfl, hle⟩ := trod_tok htr
      rw [cellsTok] at hcs
      obtain ⟨_, _, hcell⟩ := World.cells?_some hcs
      have c0 := hcell 0 (by omega)
      have c1 := hcell 1 (by omega)
      simp only [List.getElem?_cons_zero, List.getElem?_cons_succ, add_add] at c0 c1
      exact ⟨y, _, c0, c1, by rw [List.getElem?_map, List.getElem?_eq_getElem (by omega)]; rfl, hle⟩
    have each : ∀ i, i < len → ∃ y : Tk, (∃ b o, (some a : Option Addr) = some ⟨b, o, none⟩ ∧ w.cell? ⟨b, o + i * 2, none⟩ = some (.int .i64 y.1) ∧ w.cell? ⟨b, o + i * 2 + 1, none⟩ = some (.string y.2)) ∧ y.2.size ≤ Rows.uptoBulk d := by
      intro i hi
      obtain ⟨y, dd, c0, c1, hdd, hle⟩ := first i hi
      obtain ⟨y', _, c00, _⟩ := first 0 (by omega)
      have hs := spot_ofX c0 (by simpa using c00)
      obtain ⟨b, o, sp⟩ := a
      dsimp only at hs
      subst hs
      rw [addr_addX] at c0 c1
      refine ⟨y, ⟨b, o, rfl, c0, by rw [Nat.add_assoc]; exact c1⟩, ?_⟩
      have h1 := bulk_memX _ _ _ hdd
      have hd : d = DataW.slice (elems.map (·.1)) (rest.map (·.1)) := congrArg Prod.fst hy2
      rw [hd]
      simp only [Rows.uptoBulk]
      omega
    obtain ⟨xs, hxl, hxs⟩ := list_ofX len each
    exact ⟨xs, some a, len, cap, rfl, ⟨hxl, hlc, hm, fun i y hy => (hxs i y hy).1⟩, fun x hx => by
      obtain ⟨i, hi⟩ := List.getElem?_of_mem hx
      exact (hxs i x hi).2⟩
end
/-- a text of few tokens is not long -/
theorem txt_few (m : Nat) (x : List Tk) (hx : ∀ t ∈ x, t.2.size ≤ m) : ∀ p, (txtL p x).length ≤ x.length * (m + 1) := by
  induction x with
  | nil => intro p; cases p <;> exact Nat.zero_le _
  | cons t x ih =>
    intro p
    have h1 := hx t (List.mem_cons_self ..)
    have h2 := ih (fun u hu => hx u (List.mem_cons_of_mem _ hu)) (decide (t.1 = 0))
    have e3 : t.2.data.toList.length = t.2.size := by rw [Array.length_toList]; rfl
    have h4 : (if p = true ∧ t.1 = 0 then [(32 : UInt8)] else []).length ≤ 1 := by split <;> simp
    rw [txtL, List.length_append, List.length_append, e3, List.length_cons, Nat.add_mul]
    omega
end Go.Proofs.YtmkahbbcagfbhaaDoor
