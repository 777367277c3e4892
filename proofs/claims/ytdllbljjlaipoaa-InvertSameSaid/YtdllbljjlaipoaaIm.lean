/-
  The library's product of two numbers: its contract, laid at this program. No statement is proved here.
-/
import Derived.Test.YtdllbljjlaipoaaChecked
import Derived.Shelf.Bits.Mul64
namespace Go.Proofs.Ytdllbljjlaipoaa
open Go.Shelf Go.RowKit
set_option linter.unusedVariables false

def mulRen : Ren := ⟨fun | 212 => 66 | 263 => 82 | 264 => 83 | n => n, fun | 46 => 104 | 51 => 126 | 53 => 129 | 146 => 127 | 148 => 130 | n => n, fun n => n⟩
theorem mulLays : Lays.n212 Try.prog mulRen := {
  mixed := by kernel_rfl
  f212 := Try.func66.trans (congrArg some (by kernel_rfl))
  f263 := Try.func82.trans (congrArg some (by kernel_rfl))
  f264 := Try.func83.trans (congrArg some (by kernel_rfl))
  t46 := Try.underlying104
  a46 := Try.isAgg104
  z46 := Try.sizeOf104
  v46 := Try.zeroValue104
  t51 := Try.underlying126
  a51 := Try.isAgg126
  z51 := Try.sizeOf126
  v51 := Try.zeroValue126
  t53 := Try.underlying129
  a53 := Try.isAgg129
  z53 := Try.sizeOf129
  v53 := Try.zeroValue129
  t146 := Try.underlying127
  a146 := Try.isAgg127
  z146 := Try.sizeOf127
  v146 := Try.zeroValue127
  t148 := Try.underlying130
  a148 := Try.isAgg130
  z148 := Try.sizeOf130
  v148 := Try.zeroValue130 }
theorem mulC (x y : Nat) (hx : x < 18446744073709551616) (hy : y < 18446744073709551616) (w : World) :
    Calls Try.prog 66 #[.int .u64 x, .int .u64 y] w fun e w' => e = .returned (.tuple #[.int .u64 ((x * y / 18446744073709551616 : Nat) : Int), .int .u64 ((x * y % 18446744073709551616 : Nat) : Int)]) ∧ w' = w :=
  Any.bits_Mul mulLays x y hx hy w
end Go.Proofs.Ytdllbljjlaipoaa
