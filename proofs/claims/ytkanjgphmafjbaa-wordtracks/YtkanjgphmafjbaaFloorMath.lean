/- Quotients by digits of 2: plain mathematics, no Go. -/
import Derived.Test.YtkanjgphmafjbaaWideMath
namespace Go.Proofs.Ytkanjgphmafjbaa.Wd
set_option linter.unusedVariables false

theorem V_dig {f : Nat → Nat} (hf : ∀ i, f i < 65536) (j k : Nat) (h : j < k) : V f k / 65536 ^ j % 65536 = f j := by
  induction k with
  | zero => omega
  | succ k ih =>
    simp only [V]
    by_cases e : j = k
    · subst e
      have h1 := V_lt hf j
      rw [Nat.add_mul_div_left _ _ (Nat.pow_pos (by omega)), Nat.div_eq_of_lt h1, Nat.zero_add, Nat.mod_eq_of_lt (hf j)]
    · obtain ⟨t, ht⟩ : ∃ t, k = j + (t + 1) := ⟨k - j - 1, by omega⟩
      have e2 : 65536 ^ k * f k = 65536 ^ j * (65536 * (65536 ^ t * f k)) := by
        rw [ht, Nat.pow_add, Nat.pow_succ, Nat.mul_assoc, Nat.mul_comm (65536 ^ t) 65536, Nat.mul_assoc]
      rw [e2, Nat.add_mul_div_left _ _ (Nat.pow_pos (by omega)), Nat.add_mul_mod_self_left]
      exact ih (by omega)
theorem dg_val {A : List Nat} (h : Small A) (j : Nat) : dg A j = val A / 65536 ^ j % 65536 := by
  by_cases hj : j < A.length
  · unfold val; rw [V_dig (dg_lt h) j A.length hj]
  · have e := val_at (ds := A) (k := j + 1) (by omega)
    rw [← e, V_dig (dg_lt h) j (j + 1) (by omega)]
theorem bit_mod (x r : Nat) (h : r < 16) : x % 65536 / 2 ^ r % 2 = x / 2 ^ r % 2 := by
  rw [← Nat.toNat_testBit, ← Nat.toNat_testBit, show (65536 : Nat) = 2 ^ 16 from rfl, Nat.testBit_mod_two_pow]
  simp [h]
theorem bit_at {A : List Nat} (h : Small A) (i : Nat) : dg A (i / 16) / 2 ^ (i % 16) % 2 = val A / 2 ^ i % 2 := by
  rw [dg_val h, bit_mod _ _ (by omega), Nat.div_div_eq_div_mul]
  congr 2
  have e : i = 16 * (i / 16) + i % 16 := by omega
  rw [show (65536 : Nat) = 2 ^ 16 from rfl, ← Nat.pow_mul, ← Nat.pow_add, ← e]

/-- a round of the quotient -/
theorem quo_step {m n q r d c : Nat} (h : q * d + r = m / 2 ^ (n + 1)) (hr : r < d) (hc : c = m / 2 ^ n % 2) :
    (d ≤ r + r + c → (q + q + 1) * d + (r + r + c - d) = m / 2 ^ n ∧ r + r + c - d < d) ∧ (¬ d ≤ r + r + c → (q + q) * d + (r + r + c) = m / 2 ^ n ∧ r + r + c < d) := by
  have e : m / 2 ^ n = 2 * (m / 2 ^ (n + 1)) + c := by
    rw [Nat.pow_succ, ← Nat.div_div_eq_div_mul]; omega
  have e1 : (q + q) * d = q * d + q * d := Nat.add_mul _ _ _
  have e2 : (q + q + 1) * d = q * d + q * d + d := by rw [Nat.add_mul, Nat.add_mul]; omega
  constructor
  · intro h1; rw [e2]; omega
  · intro h1; rw [e1]; omega
theorem quo_bound {m n q r d : Nat} (h : q * d + r = m / 2 ^ n) (hd : 0 < d) (hm : m ≤ 9223372036854775808) : q ≤ 9223372036854775808 := by
  have h1 : q * 1 ≤ q * d := Nat.mul_le_mul_left _ hd
  have h2 : m / 2 ^ n ≤ m := Nat.div_le_self _ _
  omega
theorem quo_end {m q r d : Nat} (h : q * d + r = m / 2 ^ 0) (hr : r < d) : q = m / d ∧ r = m % d := by
  rw [Nat.pow_zero, Nat.div_one] at h
  have h1 : m / d = q := by
    rw [← h, Nat.mul_comm, Nat.mul_add_div (by omega), Nat.div_eq_of_lt hr, Nat.add_zero]
  have h2 : m % d = r := by
    rw [← h, Nat.mul_comm, Nat.mul_add_mod, Nat.mod_eq_of_lt hr]
  exact ⟨h1.symm, h2.symm⟩

/-- the quotient that goes down, out of the one of the absolute values -/
theorem floor_like (a b : Int) (hb : b ≠ 0) (h : (a < 0 ↔ b < 0)) : ((a.natAbs / b.natAbs : Nat) : Int) = a.fdiv b := by
  rw [Int.natCast_ediv]
  by_cases hs : a < 0
  · have hb' : b < 0 := h.1 hs
    rw [Int.ofNat_natAbs_of_nonpos (by omega), Int.ofNat_natAbs_of_nonpos (by omega), ← Int.fdiv_eq_ediv_of_nonneg _ (by omega), Int.neg_fdiv_neg]
  · have hb' : ¬ b < 0 := fun h2 => hs (h.2 h2)
    rw [Int.natAbs_of_nonneg (by omega), Int.natAbs_of_nonneg (by omega), Int.fdiv_eq_ediv_of_nonneg _ (by omega)]
theorem floor_unlike (a b : Int) (hb : b ≠ 0) (h : ¬ (a < 0 ↔ b < 0)) : a.fdiv b = -((a.natAbs / b.natAbs : Nat) : Int) - (if 0 < a.natAbs % b.natAbs then 1 else 0) := by
  obtain ⟨m, hm⟩ : ∃ m, m = a.natAbs := ⟨_, rfl⟩
  obtain ⟨d, hd⟩ : ∃ d, d = b.natAbs := ⟨_, rfl⟩
  rw [← hm, ← hd]
  have e : a.fdiv b = (-(m : Int)).fdiv d := by
    by_cases hs : a < 0
    · have hb' : ¬ b < 0 := fun h2 => h ⟨fun _ => h2, fun _ => hs⟩
      rw [show -(m : Int) = a from by omega, show (d : Int) = b from by omega]
    · have hb' : b < 0 := by
        by_cases h2 : b < 0
        · exact h2
        · exact absurd ⟨fun h3 => absurd h3 hs, fun h3 => absurd h3 h2⟩ h
      rw [show -(m : Int) = -a from by omega, show (d : Int) = -b from by omega, Int.neg_fdiv_neg]
  rw [e, Int.fdiv_eq_ediv_of_nonneg _ (by omega)]
  have hdp : 0 < d := by omega
  have hqr := Nat.div_add_mod m d
  have hlt := Nat.mod_lt m hdp
  generalize hq : m / d = q at *
  generalize hrr : m % d = r at *
  have hmi : (m : Int) = d * q + r := by rw [← Int.natCast_mul, ← Int.natCast_add, hqr]
  by_cases hr : 0 < r
  · rw [if_pos hr]
    have e2 : -(m : Int) = (d - r) + d * (-(q : Int) - 1) := by
      rw [Int.mul_sub, Int.mul_neg, Int.mul_one]; omega
    rw [e2, Int.add_mul_ediv_left _ _ (by omega), Int.ediv_eq_zero_of_lt (by omega) (by omega)]
    omega
  · rw [if_neg hr]
    have hr0 : r = 0 := by omega
    have e2 : -(m : Int) = 0 + d * (-(q : Int)) := by
      rw [Int.mul_neg]; omega
    rw [e2, Int.add_mul_ediv_left _ _ (by omega)]
    simp
end Go.Proofs.Ytkanjgphmafjbaa.Wd
