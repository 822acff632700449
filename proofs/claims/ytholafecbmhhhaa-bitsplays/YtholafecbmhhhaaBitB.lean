/- The library's count of ones. -/
import Derived.Test.YtholafecbmhhhaaBitA
import Derived.Test.YtholafecbmhhhaaPopC
namespace Go.Proofs.Ytholafecbmhhhaa.Dg
open Go.RowKit
set_option linter.unusedVariables false

theorem wrapN (a : Nat) (h : a < 18446744073709551616) : IntKind.u64.wrap (a : Int) = (a : Int) := by rw [IntKind.wrap_u64]; omega
theorem st1 (X : Nat) (h : X < 18446744073709551616) (h1 : s1 6148914691236517205 X ≤ 12297829382473034410) : IntKind.u64.wrap (bits .and .u64 ((X : Int) / 2) 6148914691236517205 + bits .and .u64 (X : Int) 6148914691236517205) = ((s1 6148914691236517205 X : Nat) : Int) := by
  rw [show ((X : Int) / 2) = ((X / 2 : Nat) : Int) from by omega, show (6148914691236517205 : Int) = ((6148914691236517205 : Nat) : Int) from rfl, u64_and_nat _ _ (by omega) (by omega), u64_and_nat _ _ (by omega) (by omega), ← Int.natCast_add]
  exact wrapN _ (by unfold s1 at h1; omega)
theorem st2 (X : Nat) (h : X < 18446744073709551616) (h1 : s2 3689348814741910323 X ≤ 4919131752989213764) : IntKind.u64.wrap (bits .and .u64 ((X : Int) / 4) 3689348814741910323 + bits .and .u64 (X : Int) 3689348814741910323) = ((s2 3689348814741910323 X : Nat) : Int) := by
  rw [show ((X : Int) / 4) = ((X / 4 : Nat) : Int) from by omega, show (3689348814741910323 : Int) = ((3689348814741910323 : Nat) : Int) from rfl, u64_and_nat _ _ (by omega) (by omega), u64_and_nat _ _ (by omega) (by omega), ← Int.natCast_add]
  exact wrapN _ (by unfold s2 at h1; omega)
theorem st3 (X : Nat) (h : X ≤ 4919131752989213764) : bits .and .u64 (IntKind.u64.wrap ((X : Int) / 16 + (X : Int))) 1085102592571150095 = ((s3 1085102592571150095 X : Nat) : Int) := by
  rw [show ((X : Int) / 16) = ((X / 16 : Nat) : Int) from by omega, ← Int.natCast_add, wrapN _ (by omega), show (1085102592571150095 : Int) = ((1085102592571150095 : Nat) : Int) from rfl, u64_and_nat _ _ (by omega) (by omega)]
  rfl
theorem st4 (X k : Nat) (h : X ≤ 9000000000000000000) : IntKind.u64.wrap ((X : Int) + (X : Int) / (k : Int)) = ((X + X / k : Nat) : Int) := by
  have := Nat.div_le_self X k
  rw [show ((X : Int) / (k : Int)) = ((X / k : Nat) : Int) from by simp, ← Int.natCast_add, wrapN _ (by omega)]
theorem st5 (X : Nat) (h : X ≤ 9000000000000000000) : bits .and .i64 (X : Int) 127 = ((X % 128 : Nat) : Int) := by
  rw [show (127 : Int) = ((127 : Nat) : Int) from rfl, i64_and_nat _ _ (by omega) (by omega)]
  exact congrArg Nat.cast (Nat.and_two_pow_sub_one_eq_mod X 7)

set_option maxHeartbeats 400000 in
theorem ones_at (X : Nat) (w : World) (h : X < 18446744073709551616) :
    Calls Try.prog 57 #[.int .u64 X] w fun e w' => e = .returned (.int .i64 ((ones 64 X : Nat) : Int)) ∧ w = w' := by
  obtain ⟨h0, h1, h2, h3⟩ := popw_eq X h
  have e1 := st1 X h h1
  have e2 := st2 _ (by omega) h2
  have e3 := st3 _ h2
  unfold popw at h0
  generalize s1 6148914691236517205 X = A at e1 e2 e3 h0 h1 h2 h3
  generalize s2 3689348814741910323 A = B at e2 e3 h0 h2 h3
  generalize s3 1085102592571150095 B = C at e3 h0 h3
  have e4 : IntKind.u64.wrap ((C : Int) + (C : Int) / 256) = ((C + C / 256 : Nat) : Int) := st4 C 256 (by omega)
  have e5 : IntKind.u64.wrap (((C + C / 256 : Nat) : Int) + ((C + C / 256 : Nat) : Int) / 65536) = ((C + C / 256 + (C + C / 256) / 65536 : Nat) : Int) := st4 (C + C / 256) 65536 (by omega)
  have e6 : IntKind.u64.wrap (((C + C / 256 + (C + C / 256) / 65536 : Nat) : Int) + ((C + C / 256 + (C + C / 256) / 65536 : Nat) : Int) / 4294967296) = ((C + C / 256 + (C + C / 256) / 65536 + (C + C / 256 + (C + C / 256) / 65536) / 4294967296 : Nat) : Int) := st4 (C + C / 256 + (C + C / 256) / 65536) 4294967296 (by omega)
  simp only [] at h0
  have hle : C + C / 256 + (C + C / 256) / 65536 + (C + C / 256 + (C + C / 256) / 65536) / 4294967296 ≤ 9000000000000000000 := by omega
  have H0 := st5 _ hle
  rw [h0] at H0
  generalize C + C / 256 = D at e4 e5 e6 H0 hle
  generalize D + D / 65536 = E at e5 e6 H0 hle
  generalize E + E / 4294967296 = F at e6 H0 hle
  have K : Hid (_ ∧ _ ∧ _ ∧ _ ∧ _ ∧ _ ∧ _) := ⟨e1, e2, e3, e4, e5, e6, H0⟩
  clear h0 h1 h2 h3 e1 e2 e3 e4 e5 e6 H0
  go_enter Try.func57, Try.ntmps57
  go_wp2
  go_ret
  obtain ⟨e1, e2, e3, e4, e5, e6, H0⟩ := K.out
  refine ⟨?_, rfl⟩
  simp only [e1, e2, e3, e4, e5, e6]
  exact ret1 (by rw [show wrap64 (F : Int) = (F : Int) from by unfold wrap64; omega]; exact H0)
end Go.Proofs.Ytholafecbmhhhaa.Dg
