/- The document's Rest, and ChkQuotients. -/
import Derived.Test.YtgmnohfleadohaaProducts
import Derived.Test.YtgmnohfleadohaaFloor
namespace Go.Proofs.Ytgmnohfleadohaa.Chk
open Go.RowKit
open Go.Proofs.Ytgmnohfleadohaa.Wd (nOf eOf)
set_option linter.unusedVariables false

theorem floor_low (a b : Int) (ha : -9223372036854775808 ≤ a) (hb : 1 ≤ b) : -9223372036854775808 ≤ a.fdiv b := by
  rw [Int.fdiv_eq_ediv_of_nonneg a (by omega)]
  by_cases h : 0 ≤ a
  · have := Int.ediv_nonneg h (show 0 ≤ b by omega); omega
  · have h1 : a ≤ a / b := by
      rw [Int.le_ediv_iff_mul_le (by omega)]
      have h2 : a * b ≤ a * 1 := Int.mul_le_mul_of_nonpos_left (by omega) hb
      omega
    omega
theorem fdiv_low (a b : Int) (hb : b ≠ 0) (ha : -9223372036854775808 ≤ a) (ha' : a ≤ 9223372036854775807) : -9223372036854775808 ≤ a.fdiv b := by
  by_cases h : 1 ≤ b
  · exact floor_low a b ha h
  · have e : a.fdiv b = (-a).fdiv (-b) := (Int.neg_fdiv_neg a b).symm
    rw [e]
    exact floor_low (-a) (-b) (by omega) (by omega)
theorem fdiv_high (a b : Int) (hb : b ≠ 0) (ha : -9223372036854775808 ≤ a) (ha' : a ≤ 9223372036854775807) (hx : ¬ (a = -9223372036854775808 ∧ b = -1)) : a.fdiv b ≤ 9223372036854775807 := by
  have h := tdiv_in a b hb ha ha' hx
  by_cases hm : a.tmod b = 0
  · rw [fdiv_same a b hm]; exact h.2
  · by_cases hA : a < 0 <;> by_cases hB : b < 0
    · rw [fdiv_like a b (by omega)]; exact h.2
    · rw [fdiv_less a b hb hm (by omega)]; omega
    · rw [fdiv_less a b hb hm (by omega)]; omega
    · rw [fdiv_like a b (by omega)]; exact h.2

theorem floor_is (a b : Int) (w : World) (l0 : -9223372036854775808 ≤ a) (u0 : a ≤ 9223372036854775807) (hb : ¬ b = 0) :
    Calls Try.prog 22 #[.int .i64 a, .int .i64 b] w fun e w' => e = .returned (.tuple #[.int .i64 (nOf (a.fdiv b)), .int .i64 (eOf (a.fdiv b))]) ∧ w = w' := by
  by_cases hx : a = -9223372036854775808 ∧ b = -1
  · obtain ⟨rfl, rfl⟩ := hx
    have e : (-9223372036854775808 : Int).fdiv (-1) = 9223372036854775808 := by decide
    rw [e, nOf_out (by omega), eOf_out (by omega)]
    exact (floor_no w).mono fun e w' ⟨h1, h2⟩ => ⟨h1, h2.symm⟩
  · have hl := fdiv_low a b hb l0 u0
    have hh := fdiv_high a b hb l0 u0 hx
    rw [nOf_in ⟨hl, hh⟩, eOf_in ⟨hl, hh⟩]
    exact (floor_ok a b w l0 u0 hb hx hl).mono fun e w' ⟨h1, h2⟩ => ⟨h1, h2.symm⟩
theorem half_is (a : Int) (w : World) (l0 : -9223372036854775808 ≤ a) (u0 : a ≤ 9223372036854775807) :
    Calls Try.prog 24 #[.int .i64 a] w fun e w' => e = .returned (.int .i64 (nOf (a.fdiv 2))) ∧ w = w' := by
  have hl := fdiv_low a 2 (by omega) l0 u0
  have hh := fdiv_high a 2 (by omega) l0 u0 (by omega)
  rw [nOf_in ⟨hl, hh⟩, Int.fdiv_eq_ediv_of_nonneg _ (by omega)]
  exact (half_any a w l0 u0).mono fun e w' ⟨h1, h2⟩ => ⟨h1, h2.symm⟩

theorem rest_is (a m r : Int) (w : World) (ha : -9223372036854775808 ≤ a) (ha' : a ≤ 9223372036854775807) (hm : 1 ≤ m) (hm' : m ≤ 9223372036854775807) (hr : a % m = r) :
    Calls Try.prog 20 #[.int .i64 a, .int .i64 m] w fun e w' => e = .returned (.tuple #[.int .i64 r, .int .i64 0]) ∧ w = w' := by
  subst hr; exact (rest_ok a m w ha ha' hm hm').mono fun e w' ⟨h1, h2⟩ => ⟨h1, h2.symm⟩
theorem ref_floor_none (a : Int) (w : World) :
    Calls Try.prog 23 #[.int .i64 a, .int .i64 0] w fun e w' => e = .returned (.tuple #[.int .i64 0, .int .i64 2]) ∧ w = w' := by
  go_enter Try.func23, Try.ntmps23
  go_wp2
  go_ret2
  exact ⟨rfl, rfl⟩
theorem ref_rest_none (a m : Int) (w : World) (hm : m < 1) :
    Calls Try.prog 21 #[.int .i64 a, .int .i64 m] w fun e w' => e = .returned (.tuple #[.int .i64 0, .int .i64 2]) ∧ w = w' := by
  go_enter Try.func21, Try.ntmps21
  go_wp2
  go_ret2
  exact ⟨rfl, rfl⟩

theorem ref_floor_at (a b q : Int) (w : World) (l0 : -9223372036854775808 ≤ a) (u0 : a ≤ 9223372036854775807) (l1 : -9223372036854775808 ≤ b) (u1 : b ≤ 9223372036854775807) (hb : ¬ b = 0) (hq : nOf (a.fdiv b) = q) :
    Calls Try.prog 23 #[.int .i64 a, .int .i64 b] w fun e w' => ∃ f, e = .returned (.tuple #[.int .i64 q, .int .i64 f]) ∧ Below w.heap.size w w' := by
  refine (Wd.ref_floor a b w l0 u0 l1 u1 hb).mono ?_
  rintro e w' ⟨rfl, h⟩
  exact ⟨_, by rw [hq], h⟩

set_option maxHeartbeats 1000000 in
theorem ref_rest (a m r q : Int) (w : World) (l0 : -9223372036854775808 ≤ a) (u0 : a ≤ 9223372036854775807) (l1 : 1 ≤ m) (u1 : m ≤ 9223372036854775807) (hq : Hid (nOf (a.fdiv m) = q)) (lq : -9223372036854775808 ≤ q) (uq : q ≤ 9223372036854775807)
    (hr : Hid (r = a + -(q * m))) (lr : 0 ≤ r) (ur : r < m) :
    Calls Try.prog 21 #[.int .i64 a, .int .i64 m] w fun e w' => e = .returned (.tuple #[.int .i64 r, .int .i64 0]) ∧ Below w.heap.size w w' := by
  have hm1 : ¬ m < 1 := by omega
  have hpb : Hid ((q * m).natAbs < 340282366920938463463374607431768211456) := Wd.prod_bound q m lq uq (by omega) u1
  have hrb : Hid (r.natAbs < 340282366920938463463374607431768211456) := by show _ < _; omega
  go_enter Try.func21, Try.ntmps21
  go_wp2_with (first
    | (go_at_call 23; refine (ref_floor_at a m q _ l0 u0 (by omega) u1 (by omega) hq.out).mono ?_; rintro e w1 ⟨f1, rfl, hB1⟩)
    | (go_at_call 29; have _t := hB3; refine (Wd.of_b _ _ (by omega) (by omega)).mono ?_; rintro e w4 ⟨b4, o4, k4, c4, rfl, Hb4, hR4, hB4⟩; have hw4 := hw3.trans (hB4.mono hw3.size))
    | (go_at_call 29; have _t := hB2; refine (Wd.of_b _ _ (by omega) (by omega)).mono ?_; rintro e w3 ⟨b3, o3, k3, c3, rfl, Hb3, hR3, hB3⟩; have hw3 := hw2.trans (hB3.mono hw2.size))
    | (go_at_call 29; refine (Wd.of_b _ _ (by omega) (by omega)).mono ?_; rintro e w2 ⟨b2, o2, k2, c2, rfl, Hb2, hR2, hB2⟩; have hw2 := hB1.trans (hB2.mono hB1.size))
    | (go_at_call 31; refine (Wd.times_b q m (q * m) b3 b4 o3 o4 k3 c3 k4 c4 _ Hb3 Hb4 (hR3.below (Nat.le_refl _) hB4) hR4 rfl (Wd.big64 _ hpb.out)).mono ?_; rintro e w5 ⟨b5, o5, k5, c5, rfl, Hb5, hR5, hB5⟩; have hw5 := hw4.trans (hB5.mono hw4.size))
    | (go_at_call 30; refine (Wd.minus_b (q * m) b5 o5 k5 c5 _ Hb5.out hR5).mono ?_; rintro e w6 ⟨b6, o6, k6, c6, rfl, Hb6, hR6, hB6⟩; have hw6 := hw5.trans (hB6.mono hw5.size))
    | (go_at_call 28; refine (Wd.plus_b a (-(q * m)) r b2 b6 o2 o6 k2 c2 k6 c6 _ Hb2.out Hb6.out ((((hR2.below (Nat.le_refl _) hB3).below (Nat.le_refl _) hB4).below (Nat.le_refl _) hB5).below (Nat.le_refl _) hB6) hR6 hr.out (Wd.big64 _ hrb.out)).mono ?_; rintro e w7 ⟨b7, o7, k7, c7, rfl, Hb7, hR7, hB7⟩; have hw7 := hw6.trans (hB7.mono hw6.size))
    | (go_at_call 27; refine (Wd.told_in r b7 o7 k7 c7 _ Hb7 hR7 ⟨by omega, by omega⟩).mono ?_; rintro e w8 ⟨rfl, hB8⟩; have hw8 := hw7.trans (hB8.mono hw7.size)))
  go_ret2
  exact ⟨rfl, hw8⟩

theorem quot_facts (a m : Int) (l0 : -9223372036854775808 ≤ a) (u0 : a ≤ 9223372036854775807) (hm : 1 ≤ m) (u1 : m ≤ 9223372036854775807) :
    ∃ q, nOf (a.fdiv m) = q ∧ -9223372036854775808 ≤ q ∧ q ≤ 9223372036854775807 ∧ a % m = a + -(q * m) ∧ 0 ≤ a % m ∧ a % m < m := by
  have hl := fdiv_low a m (by omega) l0 u0
  have hh := fdiv_high a m (by omega) l0 u0 (by omega)
  refine ⟨a.fdiv m, nOf_in ⟨hl, hh⟩, hl, hh, ?_, Int.emod_nonneg a (by omega), Int.emod_lt_of_pos a (by omega)⟩
  rw [Int.fdiv_eq_ediv_of_nonneg _ (by omega)]
  have := Int.mul_ediv_add_emod a m
  rw [Int.mul_comm] at this
  omega

set_option maxHeartbeats 2000000 in
theorem quotients_walk (a b : Int) (w : World) (l0 : -9223372036854775808 ≤ a) (u0 : a ≤ 9223372036854775807) (l1 : -9223372036854775808 ≤ b) (u1 : b ≤ 9223372036854775807) :
    Calls Try.prog 5 #[.int .i64 a, .int .i64 b] w fun e w' => e = .returned (.bool true) ∧ Below w.heap.size w w' := by
  have hnn : (nOf (a.fdiv 2) == nOf (a.fdiv 2)) = true := by simp
  by_cases h1 : 1 ≤ b
  · obtain ⟨q, hq, lq, uq, hr, lr, ur⟩ := quot_facts a b l0 u0 h1 u1
    obtain ⟨r, hre⟩ : ∃ r, a % b = r := ⟨_, rfl⟩
    rw [hre] at hr lr ur
    have Hq : Hid (nOf (a.fdiv b) = q) := hq
    have Hr : Hid (r = a + -(q * b)) := hr
    have Hre : Hid (a % b = r) := hre
    clear hq hr hre
    go_enter Try.func5, Try.ntmps5
    go_wp2_with (first
      | (go_at_call 20; refine (rest_is a b r _ l0 u0 h1 u1 Hre.out).mono ?_; rintro e w' ⟨rfl, rfl⟩)
      | (go_at_call 21; refine (ref_rest a b r q _ l0 u0 h1 u1 Hq lq uq Hr lr ur).mono ?_; rintro e w1 ⟨rfl, hB1⟩)
      | (go_at_call 22; refine (floor_is a b _ l0 u0 (by omega)).mono ?_; rintro e w' ⟨rfl, rfl⟩)
      | (go_at_call 23; have _t := hw2; refine (Wd.ref_floor a 2 _ l0 u0 (by omega) (by omega) (by omega)).mono ?_; rintro e w3 ⟨rfl, hB3⟩; have hw3 := hw2.trans (hB3.mono hw2.size))
      | (go_at_call 23; refine (Wd.ref_floor a b _ l0 u0 l1 u1 (by omega)).mono ?_; rintro e w2 ⟨rfl, hB2⟩; have hw2 := hB1.trans (hB2.mono hB1.size))
      | (go_at_call 13; refine (fixed_is _).mono ?_; rintro e w' ⟨rfl, rfl⟩)
      | (go_at_call 14; refine (told_at _ _ _).mono ?_; rintro e w' ⟨rfl, rfl⟩)
      | (go_at_call 24; refine (half_is a _ l0 u0).mono ?_; rintro e w' ⟨rfl, rfl⟩))
    go_ret
    exact ⟨rfl, hw3⟩
  · by_cases h0 : b = 0
    · subst h0
      have hB0 := Below.refl w.heap.size w
      go_enter Try.func5, Try.ntmps5
      go_wp2_with (first
        | (go_at_call 20; refine (rest_no a 0 _ (by omega)).mono ?_; rintro e w' ⟨rfl, hw⟩; obtain rfl := hw.symm)
        | (go_at_call 21; refine (ref_rest_none a 0 _ (by omega)).mono ?_; rintro e w' ⟨rfl, rfl⟩)
        | (go_at_call 22; refine (floor_none a _).mono ?_; rintro e w' ⟨rfl, hw⟩; obtain rfl := hw.symm)
        | (go_at_call_of 23 (Value.int IntKind.i64 0); refine (ref_floor_none a _).mono ?_; rintro e w' ⟨rfl, rfl⟩)
        | (go_at_call 23; refine (Wd.ref_floor a 2 _ l0 u0 (by omega) (by omega) (by omega)).mono ?_; rintro e w3 ⟨rfl, hB3⟩)
        | (go_at_call 13; refine (fixed_is _).mono ?_; rintro e w' ⟨rfl, rfl⟩)
        | (go_at_call 14; refine (told_at _ _ _).mono ?_; rintro e w' ⟨rfl, rfl⟩)
        | (go_at_call 24; refine (half_is a _ l0 u0).mono ?_; rintro e w' ⟨rfl, rfl⟩))
      go_ret
      exact ⟨rfl, hB3⟩
    · go_enter Try.func5, Try.ntmps5
      go_wp2_with (first
        | (go_at_call 20; refine (rest_no a b _ (by omega)).mono ?_; rintro e w' ⟨rfl, hw⟩; obtain rfl := hw.symm)
        | (go_at_call 21; refine (ref_rest_none a b _ (by omega)).mono ?_; rintro e w' ⟨rfl, rfl⟩)
        | (go_at_call 22; refine (floor_is a b _ l0 u0 h0).mono ?_; rintro e w' ⟨rfl, rfl⟩)
        | (go_at_call 23; have _t := hB2; refine (Wd.ref_floor a 2 _ l0 u0 (by omega) (by omega) (by omega)).mono ?_; rintro e w3 ⟨rfl, hB3⟩; have hw3 := hB2.trans (hB3.mono hB2.size))
        | (go_at_call 23; refine (Wd.ref_floor a b _ l0 u0 l1 u1 h0).mono ?_; rintro e w2 ⟨rfl, hB2⟩)
        | (go_at_call 13; refine (fixed_is _).mono ?_; rintro e w' ⟨rfl, rfl⟩)
        | (go_at_call 14; refine (told_at _ _ _).mono ?_; rintro e w' ⟨rfl, rfl⟩)
        | (go_at_call 24; refine (half_is a _ l0 u0).mono ?_; rintro e w' ⟨rfl, rfl⟩))
      go_ret
      exact ⟨rfl, hw3⟩
end Go.Proofs.Ytgmnohfleadohaa.Chk
