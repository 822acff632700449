/- What chk's calls tell, in the document's words: the number if it fits, else the error. -/
import Derived.Test.YtgmnohfleadohaaRowRead
import Derived.Test.YtgmnohfleadohaaWideH
namespace Go.Proofs.Ytgmnohfleadohaa.Chk
open Go.RowKit
open Go.Proofs.Ytgmnohfleadohaa.Wd (nOf eOf)
set_option linter.unusedVariables false

theorem nOf_in {x : Int} (h : -9223372036854775808 ≤ x ∧ x ≤ 9223372036854775807) : nOf x = x := if_pos h
theorem eOf_in {x : Int} (h : -9223372036854775808 ≤ x ∧ x ≤ 9223372036854775807) : eOf x = 0 := if_pos h
theorem nOf_out {x : Int} (h : ¬ (-9223372036854775808 ≤ x ∧ x ≤ 9223372036854775807)) : nOf x = 0 := if_neg h
theorem eOf_out {x : Int} (h : ¬ (-9223372036854775808 ≤ x ∧ x ≤ 9223372036854775807)) : eOf x = 10 := if_neg h

theorem add_is (a b : Int) (w : World) (l0 : -9223372036854775808 ≤ a) (u0 : a ≤ 9223372036854775807) (l1 : -9223372036854775808 ≤ b) (u1 : b ≤ 9223372036854775807) :
    Calls Try.prog 9 #[.int .i64 a, .int .i64 b] w fun e w' => e = .returned (.tuple #[.int .i64 (nOf (a + b)), .int .i64 (eOf (a + b))]) ∧ w = w' := by
  by_cases h : -9223372036854775808 ≤ a + b ∧ a + b ≤ 9223372036854775807
  · rw [nOf_in h, eOf_in h]; exact (add_ok a b w l0 u0 l1 u1 h.1 h.2).mono fun e w' ⟨h1, h2⟩ => ⟨h1, h2.symm⟩
  · rw [nOf_out h, eOf_out h]; exact (add_no a b w l0 u0 l1 u1 (by omega)).mono fun e w' ⟨h1, h2⟩ => ⟨h1, h2.symm⟩
theorem sub_is (a b : Int) (w : World) (l0 : -9223372036854775808 ≤ a) (u0 : a ≤ 9223372036854775807) (l1 : -9223372036854775808 ≤ b) (u1 : b ≤ 9223372036854775807) :
    Calls Try.prog 11 #[.int .i64 a, .int .i64 b] w fun e w' => e = .returned (.tuple #[.int .i64 (nOf (a - b)), .int .i64 (eOf (a - b))]) ∧ w = w' := by
  by_cases h : -9223372036854775808 ≤ a - b ∧ a - b ≤ 9223372036854775807
  · rw [nOf_in h, eOf_in h]; exact (sub_ok a b w l0 u0 l1 u1 h.1 h.2).mono fun e w' ⟨h1, h2⟩ => ⟨h1, h2.symm⟩
  · rw [nOf_out h, eOf_out h]; exact (sub_no a b w l0 u0 l1 u1 (by omega)).mono fun e w' ⟨h1, h2⟩ => ⟨h1, h2.symm⟩
theorem mul_is (a b : Int) (w : World) (l0 : -9223372036854775808 ≤ a) (u0 : a ≤ 9223372036854775807) (l1 : -9223372036854775808 ≤ b) (u1 : b ≤ 9223372036854775807) :
    Calls Try.prog 18 #[.int .i64 a, .int .i64 b] w fun e w' => e = .returned (.tuple #[.int .i64 (nOf (a * b)), .int .i64 (eOf (a * b))]) ∧ w = w' := by
  by_cases h : -9223372036854775808 ≤ a * b ∧ a * b ≤ 9223372036854775807
  · rw [nOf_in h, eOf_in h]; exact (mul_ok a b w l0 u0 l1 u1 h.1 h.2).mono fun e w' ⟨h1, h2⟩ => ⟨h1, h2.symm⟩
  · rw [nOf_out h, eOf_out h]; exact (mul_no a b w l0 u0 l1 u1 (by omega)).mono fun e w' ⟨h1, h2⟩ => ⟨h1, h2.symm⟩
theorem neg_is (a : Int) (w : World) (l0 : -9223372036854775808 ≤ a) (u0 : a ≤ 9223372036854775807) :
    Calls Try.prog 15 #[.int .i64 a] w fun e w' => e = .returned (.tuple #[.int .i64 (nOf (-a)), .int .i64 (eOf (-a))]) ∧ w = w' := by
  by_cases h : a = -9223372036854775808
  · subst h
    rw [nOf_out (by omega), eOf_out (by omega)]; exact (neg_no w).mono fun e w' ⟨h1, h2⟩ => ⟨h1, h2.symm⟩
  · rw [nOf_in (by omega), eOf_in (by omega)]; exact (neg_ok a w (by omega) u0).mono fun e w' ⟨h1, h2⟩ => ⟨h1, h2.symm⟩
theorem abs_is (a : Int) (w : World) (l0 : -9223372036854775808 ≤ a) (u0 : a ≤ 9223372036854775807) :
    Calls Try.prog 16 #[.int .i64 a] w fun e w' => e = .returned (.tuple #[.int .i64 (nOf a.natAbs), .int .i64 (eOf a.natAbs)]) ∧ w = w' := by
  by_cases h : a = -9223372036854775808
  · subst h
    rw [nOf_out (by omega), eOf_out (by omega)]; exact (abs_no w).mono fun e w' ⟨h1, h2⟩ => ⟨h1, h2.symm⟩
  · rw [nOf_in (by omega), eOf_in (by omega)]; exact (abs_at a _ w (by omega) rfl).mono fun e w' ⟨h1, h2⟩ => ⟨h1, h2.symm⟩

theorem told_at (n e : Int) (w : World) : Calls Try.prog 14 #[.int .i64 n, .int .i64 e, .int .i64 n, .int .i64 e] w fun x w' => x = .returned (.bool true) ∧ w = w' := by
  have h1 : (n == n) = true := by simp
  have h2 : (e == e) = true := by simp
  go_enter Try.func14, Try.ntmps14
  go_wp2
  go_ret
  exact ⟨rfl, rfl⟩
theorem fixed_is (w : World) : Calls Try.prog 13 #[] w fun e w' => e = .returned (.bool true) ∧ w = w' :=
  (fixed_any w).mono fun e w' ⟨h1, h2⟩ => ⟨h1, h2.symm⟩

set_option maxHeartbeats 1000000 in
theorem sums_walk (a b : Int) (w : World) (l0 : -9223372036854775808 ≤ a) (u0 : a ≤ 9223372036854775807) (l1 : -9223372036854775808 ≤ b) (u1 : b ≤ 9223372036854775807) :
    Calls Try.prog 3 #[.int .i64 a, .int .i64 b] w fun e w' => e = .returned (.bool true) ∧ Below w.heap.size w w' := by
  have hw0 := Below.refl w.heap.size w
  go_enter Try.func3, Try.ntmps3
  go_wp2_with (first
    | (go_at_call 9; refine (add_is a b _ l0 u0 l1 u1).mono ?_; rintro e w' ⟨rfl, rfl⟩)
    | (go_at_call 10; refine (Wd.ref_add a b _ l0 u0 l1 u1).mono ?_; rintro e w1 ⟨rfl, hB1⟩)
    | (go_at_call 11; refine (sub_is a b _ l0 u0 l1 u1).mono ?_; rintro e w' ⟨rfl, rfl⟩)
    | (go_at_call 12; have _t := hw2; refine (Wd.ref_sub 0 a _ (by omega) (by omega) l0 u0).mono ?_; rintro e w3 ⟨rfl, hB3⟩; have hw3 := hw2.trans (hB3.mono hw2.size))
    | (go_at_call 12; refine (Wd.ref_sub a b _ l0 u0 l1 u1).mono ?_; rintro e w2 ⟨rfl, hB2⟩; have hw2 := hB1.trans (hB2.mono hB1.size))
    | (go_at_call 13; refine (fixed_is _).mono ?_; rintro e w' ⟨rfl, rfl⟩)
    | (go_at_call 14; refine (told_at _ _ _).mono ?_; rintro e w' ⟨rfl, rfl⟩)
    | (go_at_call 15; refine (neg_is a _ l0 u0).mono ?_; rintro e w' ⟨rfl, rfl⟩)
    | (go_at_call 16; refine (abs_is a _ l0 u0).mono ?_; rintro e w' ⟨rfl, rfl⟩)
    | (go_at_call 17; refine (Wd.ref_abs a _ l0 u0).mono ?_; rintro e w4 ⟨rfl, hB4⟩; have hw4 := hw3.trans (hB4.mono hw3.size)))
  go_ret
  exact ⟨rfl, hw4⟩
end Go.Proofs.Ytgmnohfleadohaa.Chk
