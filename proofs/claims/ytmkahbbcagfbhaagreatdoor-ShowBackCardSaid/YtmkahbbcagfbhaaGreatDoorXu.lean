/-
  What the type of bytes is. No statement is proved here.
-/
import Derived.Test.YtmkahbbcagfbhaaGreatDoorXg
namespace Go.Proofs.YtmkahbbcagfbhaaGreatDoor
open Go.ChangeShapes Go.WideShapes Go.ChangeAt Go.RowKit

theorem infoY : (Tryz.prog.info? 5).map (fun i => (i.zero, i.size, i.bytes)) = some (some (.int .u8 0), 1, 1) := by kernel_rfl
theorem info_u8 : ∃ i, Tryz.prog.info? 5 = some i ∧ i.zero = some (.int .u8 0) ∧ i.size = 1 ∧ i.bytes = 1 := by
  have hh := infoY
  cases hi : Tryz.prog.info? 5 with
  | none => rw [hi] at hh; cases hh
  | some i =>
    rw [hi] at hh
    simp at hh
    exact ⟨i, rfl, hh.1, hh.2.1, hh.2.2⟩
end Go.Proofs.YtmkahbbcagfbhaaGreatDoor
