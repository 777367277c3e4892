/-
  Texts and lists of tokens appended to rows. No statement is proved here.
-/
import Derived.Test.YtmkahbbcagfbhaaDoorXm
namespace Go.Proofs.YtmkahbbcagfbhaaDoor
open Go.ChangeShapes Go.WideShapes Go.ChangeAt Go.RowKit
set_option linter.unusedVariables false
/-- bytes are appended -/
theorem YRow.appY {w : World} {base : Nat} {A1 : Option Addr} {n1 c1 : Nat} {l : List UInt8} (h : YRow w base (.slice A1 n1 c1) n1 l) {l2 : List UInt8} {A : Option Addr} {m c : Nat} (h2 : YL w l2 A m c) (hb : base ≤ w.heap.size) (hn : n1 + m ≤ 140737488355328) :
    ∃ A' c' w', (Builtin.append_ #[29, 29] 29 #[.slice A1 n1 c1, .slice A m c]).run Tryd.prog w = .ok (.slice A' (n1 + m) c') w' ∧ YRow w' base (.slice A' (n1 + m) c') (n1 + m) (l ++ l2) ∧ w.grownBy w' (Value.slice A1 n1 c1).ownBlock := by
  obtain ⟨i0, hi, hz0, hz1, hz2⟩ := info_u8
  rcases Nat.eq_zero_or_pos m with rfl | hp
  · have hds : l2 = [] := List.length_eq_zero_iff.1 h2.len
    subst hds
    obtain ⟨A1', c1', e, hle, _⟩ := h.full
    cases e
    refine ⟨A1, c1, w, ?_, by rw [List.append_nil]; exact h, ⟨rfl, rfl, rfl, Nat.le_refl _, fun _ _ _ => rfl⟩⟩
    cases A1 <;> cases A <;> simp [Builtin.append_, run_underlying Tryd.underlying29, sizeOf, typeInfo, hi, Builtin.lenOf, Builtin.firstCells, loadCells, loadCellsFrom, hle, storeCells]
  · obtain ⟨x, hx⟩ := at_ofX h2.len hp
    obtain ⟨b, o, e, _⟩ := h2.at_ 0 x hx
    subst e
    obtain ⟨g, cap, w4, hrun, how4, hgr, hg4, _⟩ := run_append_lies (P := Tryd.prog) w 29 29 base 5 i0 _ 1 1 Tryd.underlying29 hi hz0 hz1 hz2 rfl (by omega) (.slice A1 n1 c1) n1 _
      h.own ⟨b, o, none⟩ m c (l2.map bV) (by rw [List.length_map, h2.len]; omega) (fun j u hu => by
        rw [List.getElem?_map] at hu
        cases hj : l2[j]? with
        | none => rw [hj] at hu; cases hu
        | some v =>
          rw [hj] at hu
          cases hu
          obtain ⟨b', o', e, c0⟩ := h2.at_ j v hj
          cases e
          rw [addr_addX]
          exact c0) (by
        intro x hx
        rw [List.mem_map] at hx
        obtain ⟨v, _, rfl⟩ := hx
        rfl) hp (by unfold maxLen; omega) (by omega) hb _ rfl
    exact ⟨some ⟨g, 0, none⟩, cap, w4, hrun, ⟨by rw [List.map_append]; exact how4, by rw [List.length_append, h.len, h2.len]⟩, hgr⟩
/-- tokens are appended -/
theorem TRow.appT {w : World} {base : Nat} {A1 : Option Addr} {n1 c1 : Nat} {x : List Tk} (h : TRow w base (.slice A1 n1 c1) n1 x) {y : List Tk} {A : Option Addr} {m c : Nat} (h2 : TL w y A m c) (hb : base ≤ w.heap.size) (hn : n1 + m ≤ 1000000) :
    ∃ A' c' w', (Builtin.append_ #[47, 47] 47 #[.slice A1 n1 c1, .slice A m c]).run Tryd.prog w = .ok (.slice A' (n1 + m) c') w' ∧ TRow w' base (.slice A' (n1 + m) c') (n1 + m) (x ++ y) ∧ w.grownBy w' (Value.slice A1 n1 c1).ownBlock := by
  obtain ⟨i0, hi, hz0, hz1, hz2⟩ : ∃ i, Tryd.prog.info? 64 = some i ∧ i.zero = some (.agg #[.int .i64 0, .string ⟨#[]⟩]) ∧ i.size = 2 ∧ i.bytes = 24 := by
    have hh := infoX
    cases hi : Tryd.prog.info? 64 with
    | none => rw [hi] at hh; cases hh
    | some i =>
      rw [hi] at hh
      simp at hh
      exact ⟨i, rfl, hh.1, hh.2.1, hh.2.2⟩
  rcases Nat.eq_zero_or_pos m with rfl | hp
  · have hds : y = [] := List.length_eq_zero_iff.1 h2.len
    subst hds
    obtain ⟨A1', c1', e, hle, _⟩ := h.full
    cases e
    refine ⟨A1, c1, w, ?_, by rw [List.append_nil]; exact h, ⟨rfl, rfl, rfl, Nat.le_refl _, fun _ _ _ => rfl⟩⟩
    cases A1 <;> cases A <;> simp [Builtin.append_, run_underlying Tryd.underlying47, sizeOf, typeInfo, hi, Builtin.lenOf, Builtin.firstCells, loadCells, loadCellsFrom, hle, storeCells]
  · obtain ⟨t, ht⟩ := at_ofX h2.len hp
    obtain ⟨b, o, e, _⟩ := h2.at_ 0 t ht
    subst e
    have hcell : ∀ (j : Nat) (u : Value), (cellsT y)[j]? = some u → w.cell? ((⟨b, o, none⟩ : Addr).add j) = some u ∧ u.oneCell' = true := by
      intro j u hu
      have hj := (List.getElem?_eq_some_iff.1 hu).1
      rw [cellsT_len] at hj
      obtain ⟨t1, ht1⟩ := at_ofX (l := y) (k := j / 2) rfl (by omega)
      obtain ⟨b', o', e, c0, c1⟩ := h2.at_ (j / 2) t1 ht1
      cases e
      obtain ⟨e0, e1⟩ := cellsT_at y (j / 2) t1 ht1
      rw [addr_addX]
      rcases Nat.mod_two_eq_zero_or_one j with h0 | h1
      · have ej : j = j / 2 * 2 := by omega
        rw [ej, e0] at hu
        cases hu
        exact ⟨by rw [ej]; simpa using c0, rfl⟩
      · have ej : j = j / 2 * 2 + 1 := by omega
        rw [ej, e1] at hu
        cases hu
        refine ⟨?_, rfl⟩
        rw [ej, show (j / 2 * 2 + 1) / 2 = j / 2 by omega] at *
        rw [← Nat.add_assoc]
        exact c1
    obtain ⟨g, cap, w4, hrun, how4, hgr, hg4, _⟩ := run_append_lies (P := Tryd.prog) w 47 47 base 64 i0 _ 2 24 Tryd.underlying47 hi hz0 hz1 hz2 rfl (by omega) (.slice A1 n1 c1) n1 _
      h.own ⟨b, o, none⟩ m c (cellsT y) (by rw [cellsT_len, h2.len]) (fun j u hu => (hcell j u hu).1) (by
        intro u hu
        obtain ⟨j, hj⟩ := List.getElem?_of_mem hu
        exact (hcell j u hj).2) hp (by unfold maxLen; omega) (by omega) hb _ rfl
    exact ⟨some ⟨g, 0, none⟩, cap, w4, hrun, ⟨by rw [show cellsT (x ++ y) = cellsT x ++ cellsT y from List.flatMap_append]; exact how4, by rw [List.length_append, h.len, h2.len]⟩, hgr⟩
/-- a list of bytes in a block of its own -/
theorem YL.block {w : World} {B : Nat} {cs : Array Value} {ty : TypeId} {fr : Nat × Nat} {l : List UInt8} (hb : w.heap[B]? = some (.cells cs ty fr)) (hc : cs.toList = l.map bV) (hl : l.length ≤ 1000000) : YL w l (some ⟨B, 0, none⟩) l.length l.length := by
  refine ⟨rfl, Nat.le_refl _, by unfold maxLen; omega, fun i u hu => ⟨_, _, rfl, ?_⟩⟩
  rw [Nat.zero_add, cell_of_row w B i cs ty fr hb, ← Array.getElem?_toList, hc, List.getElem?_map, hu]
  rfl
theorem lexE_cases (l : List UInt8) (h : l.length ≤ 20000) : (lexE l = 0 ∧ toksL l = some (lexT l)) ∨ (lexE l = 8 ∧ toksL l = none ∧ lexT l = []) := by
  have hn : ¬ 20000 < l.length := by omega
  unfold lexE lexT
  simp only [if_neg hn]
  cases toksL l with
  | none => exact .inr ⟨rfl, rfl, rfl⟩
  | some x => exact .inl ⟨rfl, rfl⟩
theorem flu_len (o : List Tk) (cur : List UInt8) : (flu o cur).length ≤ o.length + cur.length := by
  unfold flu
  split
  · omega
  · rename_i h
    have : 0 < cur.length := List.length_pos_iff.2 h
    rw [List.length_append, List.length_singleton]
    omega
theorem run_len (l : List UInt8) : ∀ {s t : LSt}, runL s l = some t → t.out.length + t.cur.length ≤ s.out.length + s.cur.length + l.length := by
  induction l with
  | nil => intro s t h; cases h; exact Nat.le_refl _
  | cons c l ih =>
    intro s t h
    rw [runL] at h
    cases hc : stp s c with
    | none => rw [hc] at h; cases h
    | some u =>
      rw [hc] at h
      have h1 := ih h
      have h2 : u.out.length + u.cur.length ≤ s.out.length + s.cur.length + 1 := by
        have hf := flu_len s.out s.cur
        unfold stp at hc
        split at hc
        · cases hc; simp only; omega
        · split at hc
          · cases hc; simp only [List.length_append, List.length_singleton]; omega
          · split at hc
            · cases hc; simp only [List.length_nil]; omega
            · split at hc
              · cases hc; simp only [List.length_append, List.length_singleton, List.length_nil]; omega
              · split at hc
                · cases hc; simp only [List.length_nil]; omega
                · cases hc
      rw [List.length_cons]
      omega
theorem tok_len (l : List UInt8) : (lexT l).length ≤ l.length := by
  unfold lexT
  split
  · exact Nat.zero_le _
  · unfold toksL
    cases h : runL ⟨[], [], false⟩ l with
    | none => exact Nat.zero_le _
    | some s =>
      have h1 := run_len l h
      have h2 := flu_len s.out s.cur
      simp only [List.length_nil] at h1
      show (fin s).length ≤ _
      unfold fin
      omega
theorem bytes_len (l : List UInt8) : ∀ {s t : LSt}, runL s l = some t → (bytesL (fin t)).length ≤ (bytesL (fin s)).length + l.length := by
  induction l with
  | nil => intro s t h; cases h; exact Nat.le_refl _
  | cons c l ih =>
    intro s t h
    rw [runL] at h
    cases hc : stp s c with
    | none => rw [hc] at h; cases h
    | some u =>
      rw [hc] at h
      have h1 := ih h
      have h2 : (bytesL (fin u)).length ≤ (bytesL (fin s)).length + 1 := by
        unfold stp at hc
        split at hc
        · cases hc; exact Nat.le_succ _
        · split at hc
          · cases hc
            simp only [fin, bytes_flu, List.length_append, List.length_singleton]
            omega
          · split at hc
            · cases hc
              simp only [fin, bytes_flu, List.length_append, List.length_nil]
              omega
            · split at hc
              · cases hc
                show (bytesL (flu s.out s.cur ++ [(1, ⟨#[c]⟩)])).length ≤ (bytesL (flu s.out s.cur)).length + 1
                rw [show bytesL (flu s.out s.cur ++ [(1, ⟨#[c]⟩)]) = bytesL (flu s.out s.cur) ++ bytesL [(1, ⟨#[c]⟩)] from List.flatMap_append, List.length_append]
                exact Nat.le_refl _
              · split at hc
                · cases hc
                  simp only [fin, bytes_flu, List.length_append, List.length_nil]
                  omega
                · cases hc
      rw [List.length_cons]
      omega
theorem txt_bytes (x : List Tk) : ∀ p, (txtL p x).length ≤ (bytesL x).length + x.length := by
  induction x with
  | nil => intro p; cases p <;> exact Nat.zero_le _
  | cons t x ih =>
    intro p
    have h1 := ih (decide (t.1 = 0))
    have h4 : (if p = true ∧ t.1 = 0 then [(32 : UInt8)] else []).length ≤ 1 := by split <;> simp
    rw [txtL, List.length_append, List.length_append, List.length_cons, show bytesL (t :: x) = t.2.data.toList ++ bytesL x from rfl, List.length_append]
    omega
/-- the text of the tokens of a text is at most twice as long -/
theorem txt_tok (l : List UInt8) {x : List Tk} (h : toksL l = some x) : (txtL false x).length ≤ 2 * l.length := by
  have h1 := txt_bytes x false
  unfold toksL at h
  cases hr : runL ⟨[], [], false⟩ l with
  | none => rw [hr] at h; cases h
  | some s =>
    rw [hr] at h
    cases h
    have h2 := bytes_len l hr
    have h3 := run_len l hr
    have h4 := flu_len s.out s.cur
    have h5 : (bytesL (fin ⟨[], [], false⟩)).length = 0 := rfl
    simp only [List.length_nil] at h3
    have h6 : (fin s).length ≤ s.out.length + s.cur.length := h4
    omega
end Go.Proofs.YtmkahbbcagfbhaaDoor
