/-
  The library's product of two numbers: its contract, laid at this program. No statement is proved here.
-/
import Derived.Test.YtinjeocfnhhlmaaChecked
import Derived.Shelf.Bits.Mul64
namespace Go.Proofs.Ytinjeocfnhhlmaa
open Go.Shelf Go.RowKit
set_option linter.unusedVariables false

def mulRen : Ren := ⟨fun | 212 => 120 | 263 => 133 | 264 => 134 | n => n, fun | 46 => 135 | 51 => 153 | 53 => 156 | 146 => 154 | 148 => 157 | n => n, fun n => n⟩
theorem mulLays : Lays.n212 Try.prog mulRen := {
  mixed := by kernel_rfl
  f212 := Try.func120.trans (congrArg some (by kernel_rfl))
  f263 := Try.func133.trans (congrArg some (by kernel_rfl))
  f264 := Try.func134.trans (congrArg some (by kernel_rfl))
  t46 := Try.underlying135
  a46 := Try.isAgg135
  z46 := Try.sizeOf135
  v46 := Try.zeroValue135
  t51 := Try.underlying153
  a51 := Try.isAgg153
  z51 := Try.sizeOf153
  v51 := Try.zeroValue153
  t53 := Try.underlying156
  a53 := Try.isAgg156
  z53 := Try.sizeOf156
  v53 := Try.zeroValue156
  t146 := Try.underlying154
  a146 := Try.isAgg154
  z146 := Try.sizeOf154
  v146 := Try.zeroValue154
  t148 := Try.underlying157
  a148 := Try.isAgg157
  z148 := Try.sizeOf157
  v148 := Try.zeroValue157 }
theorem mulC (x y : Nat) (hx : x < 18446744073709551616) (hy : y < 18446744073709551616) (w : World) :
    Calls Try.prog 120 #[.int .u64 x, .int .u64 y] w fun e w' => e = .returned (.tuple #[.int .u64 ((x * y / 18446744073709551616 : Nat) : Int), .int .u64 ((x * y % 18446744073709551616 : Nat) : Int)]) ∧ w' = w :=
  Any.bits_Mul mulLays x y hx hy w
end Go.Proofs.Ytinjeocfnhhlmaa
