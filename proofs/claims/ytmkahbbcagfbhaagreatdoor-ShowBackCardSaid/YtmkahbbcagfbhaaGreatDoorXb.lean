/-
  The library's search for a rune in texts of ASCII bytes; which runes may stand in a name; the document's sorts of bytes. No statement is proved here.
-/
import Derived.Test.YtmkahbbcagfbhaaGreatDoorXa
import Derived.Lib.Hide
import Derived.Lib.Bytealg
import Derived.Lib.TrimU
import Derived.Laws.Runes
import Derived.Laws.Strings3
import Derived.Deep.Strs
import Derived.Deep.Fields
import Derived.Deep.QuietTactic
import Derived.WalkMore
import Derived.WalkSpells
import Derived.BigQuiet
import Derived.OwnWalkIn
namespace Go.Proofs.YtmkahbbcagfbhaaGreatDoor
open Go.ChangeShapes Go.WideShapes Go.ChangeAt Go.RowKit
set_option linter.unusedVariables false

set_option maxHeartbeats 1000000 in
set_option maxRecDepth 100000 in
theorem xIndexLiteC (s : ByteArray) (c : Int) (w : World) :
    Calls Tryz.prog 125 #[.string s, .int .u8 c] w fun e w' => e = .returned (.int .i64 (Lib.indexByte s.data.toList c.toNat.toUInt8)) ∧ w' = w := by
  go_enter Tryz.func125, Tryz.ntmps125
  go_wp2
  rw [run_callFunc_extern Tryz.func136 (by kernel_rfl) (by kernel_rfl) (by kernel_rfl) (e := Extern.BytealgIndexByte.indexByte) (by kernel_rfl), Lib.run_indexByteString]
  simp only [Result.andThen]
  rw [Oper.upon_value]
  go_wp2
  go_ret
  exact ⟨rfl, rfl⟩
set_option maxHeartbeats 1000000 in
theorem xIndexByteC (s : ByteArray) (c : Int) (w : World) :
    Calls Tryz.prog 110 #[.string s, .int .u8 c] w fun e w' => e = .returned (.int .i64 (Lib.indexByte s.data.toList c.toNat.toUInt8)) ∧ w' = w := by
  go_enter Tryz.func110, Tryz.ntmps110
  go_wp2_with (refine (xIndexLiteC _ _ _).mono ?_; rintro e w' ⟨rfl, rfl⟩)
  go_ret
  exact ⟨rfl, rfl⟩

theorem ret_boolX {a b : Bool} (h : a = b) : Ending.returned (Value.bool a) = .returned (.bool b) := by rw [h]
theorem ret_intX {a b : Int} (h : a = b) : Ending.returned (Value.int .i64 a) = .returned (.int .i64 b) := by rw [h]
/-- may the rune stand in a name -/
theorem xInNameC (c : Int) (w : World) : Calls Tryz.prog 89 #[.int .i32 c] w fun e w' => e = .returned (.bool (nmI c)) ∧ w' = w := by
  go_enter Tryz.func89, Tryz.ntmps89
  go_wp2_with fail
  all_goals (go_ret; refine ⟨ret_boolX ?_, rfl⟩; rw [Bool.eq_iff_iff]; unfold nmI; first | (simp; done) | (simp; omega))
/-- a valid rune -/
theorem xValidC (c : Int) (w : World) : Calls Tryz.prog 111 #[.int .i32 c] w fun e w' => e = .returned (.bool (validRune c)) ∧ w' = w := by
  go_enter Tryz.func111, Tryz.ntmps111
  go_wp2_with fail
  all_goals (go_ret; refine ⟨ret_boolX ?_, rfl⟩; rw [Bool.eq_iff_iff]; unfold validRune; first | (simp; done) | (simp; omega))
end Go.Proofs.YtmkahbbcagfbhaaGreatDoor
