/-
  The library's search for a rune in texts of ASCII bytes; which runes may stand in a name; the document's sorts of bytes. No statement is proved here.
-/
import Derived.Test.YtdbdeppchlkacaaXa
import Derived.Lib.Hide
import Derived.Lib.Bytealg
import Derived.Lib.TrimU
import Derived.Laws.Runes
import Derived.Laws.Strings3
import Derived.Deep.Strs
import Derived.Deep.Fields
import Derived.Deep.QuietTactic
import Derived.WalkMore
import Derived.WalkSpells
import Derived.BigQuiet
import Derived.OwnWalkIn
namespace Go.Proofs.Ytdbdeppchlkacaa
open Go.ChangeShapes Go.WideShapes Go.ChangeAt Go.RowKit
set_option linter.unusedVariables false

set_option maxHeartbeats 1000000 in
set_option maxRecDepth 100000 in
theorem xIndexLiteC (s : ByteArray) (c : Int) (w : World) :
    Calls Try.prog 61 #[.string s, .int .u8 c] w fun e w' => e = .returned (.int .i64 (Lib.indexByte s.data.toList c.toNat.toUInt8)) ∧ w' = w := by
  go_enter Try.func61, Try.ntmps61
  go_wp2
  rw [run_callFunc_extern Try.func64 (by kernel_rfl) (by kernel_rfl) (by kernel_rfl) (e := Extern.BytealgIndexByte.indexByte) (by kernel_rfl), Lib.run_indexByteString]
  simp only [Result.andThen]
  rw [Oper.upon_value]
  go_wp2
  go_ret
  exact ⟨rfl, rfl⟩
set_option maxHeartbeats 1000000 in
theorem xIndexByteC (s : ByteArray) (c : Int) (w : World) :
    Calls Try.prog 55 #[.string s, .int .u8 c] w fun e w' => e = .returned (.int .i64 (Lib.indexByte s.data.toList c.toNat.toUInt8)) ∧ w' = w := by
  go_enter Try.func55, Try.ntmps55
  go_wp2_with (refine (xIndexLiteC _ _ _).mono ?_; rintro e w' ⟨rfl, rfl⟩)
  go_ret
  exact ⟨rfl, rfl⟩

theorem ret_boolX {a b : Bool} (h : a = b) : Ending.returned (Value.bool a) = .returned (.bool b) := by rw [h]
theorem ret_intX {a b : Int} (h : a = b) : Ending.returned (Value.int .i64 a) = .returned (.int .i64 b) := by rw [h]
/-- may the rune stand in a name -/
theorem xInNameC (c : Int) (w : World) : Calls Try.prog 41 #[.int .i32 c] w fun e w' => e = .returned (.bool (nmI c)) ∧ w' = w := by
  go_enter Try.func41, Try.ntmps41
  go_wp2_with fail
  all_goals (go_ret; refine ⟨ret_boolX ?_, rfl⟩; rw [Bool.eq_iff_iff]; unfold nmI; first | (simp; done) | (simp; omega))
/-- a valid rune -/
theorem xValidC (c : Int) (w : World) : Calls Try.prog 56 #[.int .i32 c] w fun e w' => e = .returned (.bool (validRune c)) ∧ w' = w := by
  go_enter Try.func56, Try.ntmps56
  go_wp2_with fail
  all_goals (go_ret; refine ⟨ret_boolX ?_, rfl⟩; rw [Bool.eq_iff_iff]; unfold validRune; first | (simp; done) | (simp; omega))
end Go.Proofs.Ytdbdeppchlkacaa
