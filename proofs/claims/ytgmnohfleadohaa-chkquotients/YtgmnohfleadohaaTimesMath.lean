/- Products in digits of 16 bits: plain mathematics, no Go. -/
import Derived.Test.YtgmnohfleadohaaWideMath
namespace Go.Proofs.Ytgmnohfleadohaa.Wd

theorem dg_set_same {O : List Nat} {p d : Nat} (h : p < O.length) : dg (O.set p d) p = d := by
  unfold dg; rw [List.getD_eq_getElem?_getD, List.getElem?_set_self h]; rfl
theorem dg_set_other {O : List Nat} {p d i : Nat} (h : p ≠ i) : dg (O.set p d) i = dg O i := by
  unfold dg; rw [List.getD_eq_getElem?_getD, List.getD_eq_getElem?_getD, List.getElem?_set_ne h]
theorem V_set {O : List Nat} {p d : Nat} (h : p < O.length) (k : Nat) (hk : p < k) : V (dg (O.set p d)) k + 65536 ^ p * dg O p = V (dg O) k + 65536 ^ p * d := by
  induction k with
  | zero => omega
  | succ k ih =>
    simp only [V]
    by_cases e : p = k
    · subst e
      rw [dg_set_same h, V_congr (f := dg (O.set p d)) (g := dg O) p (fun i hi => dg_set_other (by omega))]
      omega
    · have h1 := ih (by omega)
      rw [dg_set_other e]
      omega
theorem val_set {O : List Nat} {p d : Nat} (h : p < O.length) : val (O.set p d) + 65536 ^ p * dg O p = val O + 65536 ^ p * d := by
  unfold val
  rw [List.length_set]
  exact V_set h _ h
theorem small_set {O : List Nat} {p d : Nat} (h : Small O) (hd : d < 65536) : Small (O.set p d) := by
  intro x hx
  rcases List.mem_or_eq_of_mem_set hx with hx | rfl
  · exact h x hx
  · exact hd

/-- a step of the inner loop -/
theorem times_step {O : List Nat} {b : Nat → Nat} {i j cy a X s : Nat} (hp : i + j < O.length) (hinv : val O + 65536 ^ (i + j) * cy = X + 65536 ^ i * (a * V b j)) (hs : s = dg O (i + j) + a * b j + cy) :
    val (O.set (i + j) (s % 65536)) + 65536 ^ (i + (j + 1)) * (s / 65536) = X + 65536 ^ i * (a * V b (j + 1)) := by
  have h1 := val_set (d := s % 65536) hp
  have h2 : 65536 ^ (i + (j + 1)) * (s / 65536) = 65536 ^ (i + j) * (65536 * (s / 65536)) := by
    rw [← Nat.add_assoc, Nat.pow_succ, Nat.mul_assoc]
  have h3 : 65536 ^ (i + j) * (s % 65536) + 65536 ^ (i + j) * (65536 * (s / 65536)) = 65536 ^ (i + j) * s := by rw [← Nat.mul_add, Nat.mod_add_div]
  have h4 : 65536 ^ (i + j) * s = 65536 ^ (i + j) * dg O (i + j) + 65536 ^ (i + j) * (a * b j) + 65536 ^ (i + j) * cy := by rw [hs, Nat.mul_add, Nat.mul_add]
  have h5 : 65536 ^ i * (a * V b (j + 1)) = 65536 ^ i * (a * V b j) + 65536 ^ (i + j) * (a * b j) := by
    simp only [V]
    rw [Nat.mul_add, Nat.mul_add, Nat.pow_add]
    congr 1
    rw [Nat.mul_assoc, Nat.mul_left_comm a]
  omega
theorem times_small {x a b cy : Nat} (hx : x < 65536) (ha : a < 65536) (hb : b < 65536) (hc : cy < 65536) : x + a * b + cy < 4294967296 ∧ (x + a * b + cy) / 65536 < 65536 ∧ a * b ≤ 4294836225 := by
  have h : a * b ≤ 65535 * 65535 := Nat.mul_le_mul (by omega) (by omega)
  omega
/-- at the inner loop's end, and that it comes to one -/
theorem times_high {O B : List Nat} {A : Nat → Nat} {i j cy : Nat} (hA : ∀ k, A k < 65536) (hB : Small B) (hj : B.length ≤ j) (hinv : val O + 65536 ^ (i + j) * cy = V A i * val B + 65536 ^ i * (A i * V (dg B) j)) :
    val O + 65536 ^ (i + j) * cy = V A (i + 1) * val B ∧ (0 < cy → j ≤ B.length) := by
  rw [val_at hj] at hinv
  have h1 : V A (i + 1) * val B = V A i * val B + 65536 ^ i * (A i * val B) := by
    simp only [V]; rw [Nat.add_mul, Nat.mul_assoc]
  refine ⟨by omega, fun hc => ?_⟩
  have h2 : V A (i + 1) * val B < 65536 ^ (i + 1) * 65536 ^ B.length := by
    have g1 := V_lt hA (i + 1)
    have g2 := val_lt hB
    exact Nat.mul_lt_mul_of_lt_of_le g1 (Nat.le_of_lt g2) (Nat.lt_of_le_of_lt (Nat.zero_le _) g2)
  rw [← Nat.pow_add] at h2
  have h3 : 65536 ^ (i + j) * 1 ≤ 65536 ^ (i + j) * cy := Nat.mul_le_mul_left _ hc
  have h4 : 65536 ^ (i + j) < 65536 ^ (i + 1 + B.length) := by omega
  have := (Nat.pow_lt_pow_iff_right (show 1 < 65536 by omega)).1 h4
  omega
theorem zeros_val (n : Nat) : val (List.replicate n 0) = 0 := by
  have h : ∀ k, V (dg (List.replicate n 0)) k = 0 := by
    intro k
    induction k with
    | zero => rfl
    | succ k ih =>
      simp only [V]
      rw [ih]
      have : dg (List.replicate n 0) k = 0 := by
        unfold dg
        by_cases h : k < n
        · simp [List.getD_eq_getElem?_getD, h]
        · simp [List.getD_eq_getElem?_getD, h]
      rw [this]; omega
  exact h _
end Go.Proofs.Ytgmnohfleadohaa.Wd
