/-
  Texts and lists of tokens appended to rows. No statement is proved here.
-/
import Derived.Test.YtmkahbbcagfbhaaGreatDoorXmC
namespace Go.Proofs.YtmkahbbcagfbhaaGreatDoor
open Go.ChangeShapes Go.WideShapes Go.ChangeAt Go.RowKit
set_option linter.unusedVariables false
/-- a list of bytes in a block of its own -/
theorem YL.block {w : World} {B : Nat} {cs : Array Value} {ty : TypeId} {fr : Nat × Nat} {l : List UInt8} (hb : w.heap[B]? = some (.cells cs ty fr)) (hc : cs.toList = l.map bV) (hl : l.length ≤ 1000000) : YL w l (some ⟨B, 0, none⟩) l.length l.length := by
  refine ⟨rfl, Nat.le_refl _, by unfold maxLen; omega, fun i u hu => ⟨_, _, rfl, ?_⟩⟩
  rw [Nat.zero_add, cell_of_row w B i cs ty fr hb, ← Array.getElem?_toList, hc, List.getElem?_map, hu]
  rfl
theorem lexE_cases (l : List UInt8) (h : l.length ≤ 20000) : (lexE l = 0 ∧ toksL l = some (lexT l)) ∨ (lexE l = 8 ∧ toksL l = none ∧ lexT l = []) := by
  have hn : ¬ 20000 < l.length := by omega
  unfold lexE lexT
  simp only [if_neg hn]
  cases toksL l with
  | none => exact .inr ⟨rfl, rfl, rfl⟩
  | some x => exact .inl ⟨rfl, rfl⟩
theorem flu_len (o : List Tk) (cur : List UInt8) : (flu o cur).length ≤ o.length + cur.length := by
  unfold flu
  split
  · omega
  · rename_i h
    have : 0 < cur.length := List.length_pos_iff.2 h
    rw [List.length_append, List.length_singleton]
    omega
theorem run_len (l : List UInt8) : ∀ {s t : LSt}, runL s l = some t → t.out.length + t.cur.length ≤ s.out.length + s.cur.length + l.length := by
  induction l with
  | nil => intro s t h; cases h; exact Nat.le_refl _
  | cons c l ih =>
    intro s t h
    rw [runL] at h
    cases hc : stp s c with
    | none => rw [hc] at h; cases h
    | some u =>
      rw [hc] at h
      have h1 := ih h
      have h2 : u.out.length + u.cur.length ≤ s.out.length + s.cur.length + 1 := by
        have hf := flu_len s.out s.cur
        unfold stp at hc
        split at hc
        · cases hc; simp only; omega
        · split at hc
          · cases hc; simp only [List.length_append, List.length_singleton]; omega
          · split at hc
            · cases hc; simp only [List.length_nil]; omega
            · split at hc
              · cases hc; simp only [List.length_append, List.length_singleton, List.length_nil]; omega
              · split at hc
                · cases hc; simp only [List.length_nil]; omega
                · cases hc
      rw [List.length_cons]
      omega
theorem tok_len (l : List UInt8) : (lexT l).length ≤ l.length := by
  unfold lexT
  split
  · exact Nat.zero_le _
  · unfold toksL
    cases h : runL ⟨[], [], false⟩ l with
    | none => exact Nat.zero_le _
    | some s =>
      have h1 := run_len l h
      have h2 := flu_len s.out s.cur
      simp only [List.length_nil] at h1
      show (fin s).length ≤ _
      unfold fin
      omega
theorem bytes_len (l : List UInt8) : ∀ {s t : LSt}, runL s l = some t → (bytesL (fin t)).length ≤ (bytesL (fin s)).length + l.length := by
  induction l with
  | nil => intro s t h; cases h; exact Nat.le_refl _
  | cons c l ih =>
    intro s t h
    rw [runL] at h
    cases hc : stp s c with
    | none => rw [hc] at h; cases h
    | some u =>
      rw [hc] at h
      have h1 := ih h
      have h2 : (bytesL (fin u)).length ≤ (bytesL (fin s)).length + 1 := by
        unfold stp at hc
        split at hc
        · cases hc; exact Nat.le_succ _
        · split at hc
          · cases hc
            simp only [fin, bytes_flu, List.length_append, List.length_singleton]
            omega
          · split at hc
            · cases hc
              simp only [fin, bytes_flu, List.length_append, List.length_nil]
              omega
            · split at hc
              · cases hc
                show (bytesL (flu s.out s.cur ++ [(1, ⟨#[c]⟩)])).length ≤ (bytesL (flu s.out s.cur)).length + 1
                rw [show bytesL (flu s.out s.cur ++ [(1, ⟨#[c]⟩)]) = bytesL (flu s.out s.cur) ++ bytesL [(1, ⟨#[c]⟩)] from List.flatMap_append, List.length_append]
                exact Nat.le_refl _
              · split at hc
                · cases hc
                  simp only [fin, bytes_flu, List.length_append, List.length_nil]
                  omega
                · cases hc
      rw [List.length_cons]
      omega
end Go.Proofs.YtmkahbbcagfbhaaGreatDoor
