/-
  Arguments' readings that are texts of bytes, and lists of tokens. No statement is proved here.
-/
import Derived.Test.YtmkahbbcagfbhaaGreatDoorXu
import Derived.ChangeSlices
import Derived.Carry
namespace Go.Proofs.YtmkahbbcagfbhaaGreatDoor
open Go.ChangeShapes Go.WideShapes Go.ChangeAt Go.RowKit Go.Deep
set_option linter.unusedVariables false
set_option maxRecDepth 100000
section
variable {H : Type} {enc : TypeId × Value → H} {w : World} {base : Nat} {spare : Nat → Bool} {held : Bool}
theorem cell_spotX {w : World} {a : Addr} {v : Value} (h : w.cell? a = some v) : a.spot = none := by
  unfold World.cell? at h
  split at h
  · split at h
    · cases h
    · rename_i hs; simpa using hs
  · cases h
theorem cellsStr : Tryz.prog.cellsOf 9 = 1 := by kernel_rfl
end
end Go.Proofs.YtmkahbbcagfbhaaGreatDoor
