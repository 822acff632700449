/- The document's products, and ChkProducts. -/
import Derived.Test.YtgmnohfleadohaaSums
import Derived.Test.YtgmnohfleadohaaWideT
namespace Go.Proofs.Ytgmnohfleadohaa.Wd
open Go.RowKit
set_option linter.unusedVariables false

theorem times_b (x y z : Int) (na nb : Bool) (ao bo : Option Addr) (la ca lb cb : Nat) (w : World) (Hna : Hid (na = decide (x < 0))) (Hnb : Hid (nb = decide (y < 0))) (hX : Mg w ao la ca x.natAbs) (hY : Mg w bo lb cb y.natAbs) (hz : z = x * y) (hbig : z.natAbs < 65536 ^ 64) :
    Calls Try.prog 31 #[.agg #[.bool na, .slice ao la ca], .agg #[.bool nb, .slice bo lb cb]] w fun e w' => ∃ b ro lr cr, e = .returned (.agg #[.bool b, .slice ro lr cr]) ∧ Hid (b = decide (z < 0)) ∧ Mg w' ro lr cr z.natAbs ∧ Below w.heap.size w w' := by
  obtain ⟨A, hA, nA, vA, lA⟩ := hX
  obtain ⟨B, hB, nB, vB, lB⟩ := hY
  have hv : val A * val B = z.natAbs := by rw [hz, Int.natAbs_mul, vA, vB]
  refine times_at na nb z ao bo la ca lb cb A B w hA hB lA lB ?_ ?_
  · show z = _
    have h1 := Hna.out
    have h2 := Hnb.out
    rw [vA, vB]
    by_cases hx : x < 0
    · by_cases hy : y < 0
      · have e1 : na = true := by rw [h1]; simpa using hx
        have e2 : nb = true := by rw [h2]; simpa using hy
        rw [e1, e2, if_neg (by simp), hz, Int.natCast_mul, Int.ofNat_natAbs_of_nonpos (by omega), Int.ofNat_natAbs_of_nonpos (by omega), Int.neg_mul_neg]
      · have e1 : na = true := by rw [h1]; simpa using hx
        have e2 : nb = false := by rw [h2]; simpa using hy
        rw [e1, e2, if_pos (by simp), hz, Int.natCast_mul, Int.ofNat_natAbs_of_nonpos (by omega), Int.natAbs_of_nonneg (by omega), Int.neg_mul, Int.neg_neg]
    · by_cases hy : y < 0
      · have e1 : na = false := by rw [h1]; simpa using hx
        have e2 : nb = true := by rw [h2]; simpa using hy
        rw [e1, e2, if_pos (by simp), hz, Int.natCast_mul, Int.natAbs_of_nonneg (by omega), Int.ofNat_natAbs_of_nonpos (by omega), Int.mul_neg, Int.neg_neg]
      · have e1 : na = false := by rw [h1]; simpa using hx
        have e2 : nb = false := by rw [h2]; simpa using hy
        rw [e1, e2, if_neg (by simp), hz, Int.natCast_mul, Int.natAbs_of_nonneg (by omega), Int.natAbs_of_nonneg (by omega)]
  · show _ < _
    rw [hv]; exact hbig

theorem prod_bound (a b : Int) (l0 : -9223372036854775808 ≤ a) (u0 : a ≤ 9223372036854775807) (l1 : -9223372036854775808 ≤ b) (u1 : b ≤ 9223372036854775807) : (a * b).natAbs < 340282366920938463463374607431768211456 := by
  rw [Int.natAbs_mul]
  have : a.natAbs * b.natAbs ≤ 9223372036854775808 * 9223372036854775808 := Nat.mul_le_mul (by omega) (by omega)
  omega

set_option maxHeartbeats 1000000 in
theorem ref_mul (a b : Int) (w : World) (l0 : -9223372036854775808 ≤ a) (u0 : a ≤ 9223372036854775807) (l1 : -9223372036854775808 ≤ b) (u1 : b ≤ 9223372036854775807) :
    Calls Try.prog 19 #[.int .i64 a, .int .i64 b] w fun e w' => e = .returned (.tuple #[.int .i64 (nOf (a * b)), .int .i64 (eOf (a * b))]) ∧ Below w.heap.size w w' := by
  have hpb : Hid ((a * b).natAbs < 340282366920938463463374607431768211456) := prod_bound a b l0 u0 l1 u1
  go_enter Try.func19, Try.ntmps19
  go_wp2_with (first
    | (go_at_call 27; refine (told_is (a * b) b3 ro3 lr3 cr3 _ Hb3 hR3 (big60 _ hpb.out)).mono ?_; rintro e w4 ⟨rfl, hB4⟩; have hw4 := hw3.trans (hB4.mono hw3.size))
    | (go_at_call 31; refine (times_b a b (a * b) b1 b2 ro1 ro2 lr1 cr1 lr2 cr2 _ Hb1 Hb2 (hR1.below (Nat.le_refl _) hB2) hR2 rfl (big64 _ hpb.out)).mono ?_; rintro e w3 ⟨b3, ro3, lr3, cr3, rfl, Hb3, hR3, hB3⟩; have hw3 := hw2.trans (hB3.mono hw2.size))
    | (go_at_call 29; have _t := hB1; refine (of_b _ _ (by omega) (by omega)).mono ?_; rintro e w2 ⟨b2, ro2, lr2, cr2, rfl, Hb2, hR2, hB2⟩; have hw2 := hB1.trans (hB2.mono hB1.size))
    | (go_at_call 29; refine (of_b _ _ (by omega) (by omega)).mono ?_; rintro e w1 ⟨b1, ro1, lr1, cr1, rfl, Hb1, hR1, hB1⟩))
  go_ret2
  exact ⟨rfl, hw4⟩
end Go.Proofs.Ytgmnohfleadohaa.Wd
namespace Go.Proofs.Ytgmnohfleadohaa.Chk
open Go.RowKit
open Go.Proofs.Ytgmnohfleadohaa.Wd (nOf eOf)
set_option linter.unusedVariables false

set_option maxHeartbeats 1000000 in
theorem products_walk (a b : Int) (w : World) (l0 : -9223372036854775808 ≤ a) (u0 : a ≤ 9223372036854775807) (l1 : -9223372036854775808 ≤ b) (u1 : b ≤ 9223372036854775807) :
    Calls Try.prog 4 #[.int .i64 a, .int .i64 b] w fun e w' => e = .returned (.bool true) ∧ Below w.heap.size w w' := by
  go_enter Try.func4, Try.ntmps4
  go_wp2_with (first
    | (go_at_call 18; refine (mul_is a b _ l0 u0 l1 u1).mono ?_; rintro e w' ⟨rfl, rfl⟩)
    | (go_at_call 19; refine (Wd.ref_mul a b _ l0 u0 l1 u1).mono ?_; rintro e w1 ⟨rfl, hB1⟩)
    | (go_at_call 13; refine (fixed_is _).mono ?_; rintro e w' ⟨rfl, rfl⟩)
    | (go_at_call 14; refine (told_at _ _ _).mono ?_; rintro e w' ⟨rfl, rfl⟩))
  go_ret
  exact ⟨rfl, hB1⟩
end Go.Proofs.Ytgmnohfleadohaa.Chk
