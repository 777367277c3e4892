/-
  The library's search for a rune in texts of ASCII bytes; which runes may stand in a name; the document's sorts of bytes. No statement is proved here.
-/
import Derived.Test.YtmkahbbcagfbhaaDoorXa
import Derived.Lib.Hide
import Derived.Lib.Bytealg
import Derived.Lib.TrimU
import Derived.Laws.Runes
import Derived.Laws.Strings3
import Derived.Deep.Strs
import Derived.Deep.Fields
import Derived.Deep.QuietTactic
import Derived.WalkMore
import Derived.WalkSpells
import Derived.BigQuiet
import Derived.OwnWalkIn
namespace Go.Proofs.YtmkahbbcagfbhaaDoor
open Go.ChangeShapes Go.WideShapes Go.ChangeAt Go.RowKit
set_option linter.unusedVariables false

set_option maxHeartbeats 1000000 in
set_option maxRecDepth 100000 in
theorem xIndexLiteC (s : ByteArray) (c : Int) (w : World) :
    Calls Tryd.prog 99 #[.string s, .int .u8 c] w fun e w' => e = .returned (.int .i64 (Lib.indexByte s.data.toList c.toNat.toUInt8)) ∧ w' = w := by
  go_enter Tryd.func99, Tryd.ntmps99
  go_wp2
  rw [run_callFunc_extern Tryd.func106 (by kernel_rfl) (by kernel_rfl) (by kernel_rfl) (e := Extern.BytealgIndexByte.indexByte) (by kernel_rfl), Lib.run_indexByteString]
  simp only [Result.andThen]
  rw [Oper.upon_value]
  go_wp2
  go_ret
  exact ⟨rfl, rfl⟩
set_option maxHeartbeats 1000000 in
theorem xIndexByteC (s : ByteArray) (c : Int) (w : World) :
    Calls Tryd.prog 89 #[.string s, .int .u8 c] w fun e w' => e = .returned (.int .i64 (Lib.indexByte s.data.toList c.toNat.toUInt8)) ∧ w' = w := by
  go_enter Tryd.func89, Tryd.ntmps89
  go_wp2_with (refine (xIndexLiteC _ _ _).mono ?_; rintro e w' ⟨rfl, rfl⟩)
  go_ret
  exact ⟨rfl, rfl⟩

theorem ret_boolX {a b : Bool} (h : a = b) : Ending.returned (Value.bool a) = .returned (.bool b) := by rw [h]
theorem ret_intX {a b : Int} (h : a = b) : Ending.returned (Value.int .i64 a) = .returned (.int .i64 b) := by rw [h]
/-- may the rune stand in a name -/
theorem xInNameC (c : Int) (w : World) : Calls Tryd.prog 76 #[.int .i32 c] w fun e w' => e = .returned (.bool (nmI c)) ∧ w' = w := by
  go_enter Tryd.func76, Tryd.ntmps76
  go_wp2_with fail
  all_goals (go_ret; refine ⟨ret_boolX ?_, rfl⟩; rw [Bool.eq_iff_iff]; unfold nmI; first | (simp; done) | (simp; omega))
/-- the document's names -/
theorem xNamedC (c : Int) (w : World) : Calls Tryd.prog 65 #[.int .u8 c] w fun e w' => e = .returned (.bool (nmI c)) ∧ w' = w := by
  go_enter Tryd.func65, Tryd.ntmps65
  go_wp2_with fail
  all_goals (go_ret; refine ⟨ret_boolX ?_, rfl⟩; rw [Bool.eq_iff_iff]; unfold nmI; first | (simp; done) | (simp; omega))
/-- the document's marks -/
theorem xMarkC (c : Int) (w : World) : Calls Tryd.prog 64 #[.int .u8 c] w fun e w' => e = .returned (.bool (mkI c)) ∧ w' = w := by
  go_enter Tryd.func64, Tryd.ntmps64
  go_wp2_with fail
  all_goals (go_ret; refine ⟨ret_boolX ?_, rfl⟩; rw [Bool.eq_iff_iff]; unfold mkI; first | (simp; done) | (simp; omega))
/-- a valid rune -/
theorem xValidC (c : Int) (w : World) : Calls Tryd.prog 90 #[.int .i32 c] w fun e w' => e = .returned (.bool (validRune c)) ∧ w' = w := by
  go_enter Tryd.func90, Tryd.ntmps90
  go_wp2_with fail
  all_goals (go_ret; refine ⟨ret_boolX ?_, rfl⟩; rw [Bool.eq_iff_iff]; unfold validRune; first | (simp; done) | (simp; omega))
end Go.Proofs.YtmkahbbcagfbhaaDoor
