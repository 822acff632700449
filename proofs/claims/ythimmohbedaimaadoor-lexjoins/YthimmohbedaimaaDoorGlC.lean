/- The document's Read. -/
import Derived.Test.YthimmohbedaimaaDoorGlB
import Derived.Test.YthimmohbedaimaaDoorGlMath
namespace Go.Proofs.YthimmohbedaimaaDoor.Gl
open Go.RowKit
set_option linter.unusedVariables false

theorem acc_le (s : ByteArray) (i x0 j : Nat) (h : x0 < 32) : accB s i x0 j < 32 * 128 ^ j := by
  induction j with
  | zero => rw [acc_zero]; omega
  | succ j ih =>
    have := bt_lt s (i + (j + 1))
    have hp : 0 < 128 ^ j := Nat.pow_pos (by omega)
    rw [acc_succ, Nat.pow_succ]
    omega
theorem acc_small (s : ByteArray) (i x0 j : Nat) (h : x0 < 32) (hj : j ≤ 3) : accB s i x0 j ≤ 100000000 := by
  have h1 := acc_le s i x0 j h
  have h2 : 128 ^ j ≤ 128 ^ 3 := Nat.pow_le_pow_right (by omega) hj
  omega
theorem ret3 {s : ByteArray} {i a b : Nat} {c : Bool} {x y : Int} {z : Bool} (h : rdS s i = (a, b, c)) (hx : x = a) (hy : y = b) (hz : z = c) : Ending.returned (.tuple #[.int .i64 x, .int .i64 y, .bool z]) = .returned (.tuple #[.int .i64 ((rdS s i).1 : Nat), .int .i64 ((rdS s i).2.1 : Nat), .bool (rdS s i).2.2]) := by
  rw [h, hx, hy, hz]
end Go.Proofs.YthimmohbedaimaaDoor.Gl
