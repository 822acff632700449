/- The count of a word's ones, by its eight bytes: plain mathematics, no Go. -/
import Derived.RowKit
namespace Go.Proofs.Ytholafecbmhhhaa.Dg
set_option linter.unusedVariables false

theorem and_split (a c d e : Nat) (ha : a < 256) (hd : d < 256) : (a + 256 * c) &&& (d + 256 * e) = (a &&& d) + 256 * (c &&& e) := by
  have h1 : a + 256 * c = 2 ^ 8 * c + a := by omega
  have h2 : d + 256 * e = 2 ^ 8 * e + d := by omega
  have h3 : (a &&& d) + 256 * (c &&& e) = 2 ^ 8 * (c &&& e) + (a &&& d) := by omega
  rw [h1, h2, h3]
  apply Nat.eq_of_testBit_eq
  intro j
  rw [Nat.testBit_and, Nat.testBit_two_pow_mul_add _ (show a < 2 ^ 8 from ha), Nat.testBit_two_pow_mul_add _ (show d < 2 ^ 8 from hd), Nat.testBit_two_pow_mul_add _ (Nat.and_lt_two_pow _ (show d < 2 ^ 8 from hd))]
  by_cases h : j < 8
  · simp [h]
  · simp [h]

/-- n bytes of k -/
def rep (k : Nat) : Nat → Nat
  | 0 => 0
  | n + 1 => k + 256 * rep k n
def s1 (m x : Nat) : Nat := (x / 2 &&& m) + (x &&& m)
def s2 (m x : Nat) : Nat := (x / 4 &&& m) + (x &&& m)
def s3 (m x : Nat) : Nat := (x / 16 + x) &&& m
theorem b1_all : ∀ b : Fin 256, ∀ q : Fin 2, (b.val / 2 + 128 * q.val) &&& 85 = (b.val / 2) &&& 85 := by decide +kernel
theorem b2_all : ∀ b : Fin 256, ∀ q : Fin 4, (b.val / 4 + 64 * q.val) &&& 51 = (b.val / 4) &&& 51 := by decide +kernel
theorem b1_le : ∀ b : Fin 256, s1 85 b.val ≤ 170 := by decide +kernel
theorem b2_le : ∀ b : Fin 256, s2 51 (s1 85 b.val) ≤ 68 := by decide +kernel
theorem s1_byte (n b r : Nat) (hb : b < 256) : s1 (rep 85 (n + 1)) (b + 256 * r) = s1 85 b + 256 * s1 (rep 85 n) r := by
  unfold s1
  rw [rep, and_split b r 85 _ hb (by omega), show (b + 256 * r) / 2 = (b / 2 + 128 * (r % 2)) + 256 * (r / 2) from by omega, and_split _ _ 85 _ (by omega) (by omega)]
  have := b1_all ⟨b, hb⟩ ⟨r % 2, by omega⟩
  simp only at this
  rw [this]
  omega
theorem s2_byte (n b r : Nat) (hb : b < 256) : s2 (rep 51 (n + 1)) (b + 256 * r) = s2 51 b + 256 * s2 (rep 51 n) r := by
  unfold s2
  rw [rep, and_split b r 51 _ hb (by omega), show (b + 256 * r) / 4 = (b / 4 + 64 * (r % 4)) + 256 * (r / 4) from by omega, and_split _ _ 51 _ (by omega) (by omega)]
  have := b2_all ⟨b, hb⟩ ⟨r % 4, by omega⟩
  simp only at this
  rw [this]
  omega
theorem and15 (x : Nat) : x &&& 15 = x % 16 := Nat.and_two_pow_sub_one_eq_mod x 4
theorem s3_byte (n b r : Nat) (hb : b ≤ 68) (hr : r % 16 ≤ 4) : s3 (rep 15 (n + 1)) (b + 256 * r) = s3 15 b + 256 * s3 (rep 15 n) r := by
  unfold s3
  rw [rep, show (b + 256 * r) / 16 + (b + 256 * r) = (b / 16 + 16 * (r % 16) + b) + 256 * (r / 16 + r) from by omega, and_split _ _ 15 _ (by omega) (by omega), and15, and15]
  omega
/-- the bytes' counts -/
def pop8 (b : Nat) : Nat := s3 15 (s2 51 (s1 85 b))
def ones : Nat → Nat → Nat
  | 0, _ => 0
  | k + 1, x => ones k x + x / 2 ^ k % 2
theorem pop8_all : ∀ b : Fin 256, pop8 b.val = ones 8 b.val := by decide +kernel
theorem nib_all : ∀ b : Fin 256, s2 51 (s1 85 b.val) % 16 ≤ 4 := by decide +kernel
theorem ones_le (k x : Nat) : ones k x ≤ k := by
  induction k with
  | zero => exact Nat.le_refl _
  | succ k ih => rw [ones]; omega
def join : List Nat → Nat
  | [] => 0
  | b :: r => b + 256 * join r
theorem s123 (B : List Nat) (h : ∀ b ∈ B, b < 256) : s3 (rep 15 B.length) (s2 (rep 51 B.length) (s1 (rep 85 B.length) (join B))) = join (B.map pop8) ∧ s2 (rep 51 B.length) (s1 (rep 85 B.length) (join B)) % 16 ≤ 4 ∧ s2 (rep 51 B.length) (s1 (rep 85 B.length) (join B)) ≤ join (B.map fun _ => 68) ∧ s1 (rep 85 B.length) (join B) ≤ join (B.map fun _ => 170) := by
  induction B with
  | nil => exact ⟨rfl, by decide, by decide, by decide⟩
  | cons b r ih =>
    obtain ⟨i1, i2, i3, i4⟩ := ih fun x hx => h x (List.mem_cons_of_mem _ hx)
    have hb := h b List.mem_cons_self
    have h1 := b1_le ⟨b, hb⟩
    have h2 := b2_le ⟨b, hb⟩
    have h3 := nib_all ⟨b, hb⟩
    simp only at h1 h2 h3
    simp only [List.length_cons, join, List.map_cons]
    rw [s1_byte _ b _ hb, s2_byte _ _ _ (by omega), s3_byte _ _ _ h2 i2, i1]
    exact ⟨rfl, by omega, by omega, by omega⟩
theorem ones_add (j k x : Nat) : ones (j + k) x = ones j x + ones k (x / 2 ^ j) := by
  induction k with
  | zero => rfl
  | succ k ih => rw [← Nat.add_assoc, ones, ih, ones, Nat.div_div_eq_div_mul, ← Nat.pow_add]; omega
theorem ones_low (k j b r : Nat) (h : k ≤ j) : ones k (b + 2 ^ j * r) = ones k b := by
  induction k with
  | zero => rfl
  | succ k ih =>
    rw [ones, ones, ih (by omega)]
    have e : 2 ^ j * r = 2 ^ k * (2 * (2 ^ (j - k - 1) * r)) := by
      rw [← Nat.mul_assoc, ← Nat.mul_assoc, ← Nat.pow_succ, ← Nat.pow_add]
      congr 2; omega
    rw [e, Nat.add_mul_div_left _ _ (Nat.pow_pos (by omega)), Nat.add_mul_mod_self_left]
theorem ones_join (B : List Nat) (h : ∀ b ∈ B, b < 256) : ones (8 * B.length) (join B) = (B.map pop8).sum := by
  induction B with
  | nil => rfl
  | cons b r ih =>
    have hb := h b List.mem_cons_self
    rw [List.length_cons, show 8 * (r.length + 1) = 8 + 8 * r.length from by omega, ones_add, join, show b + 256 * join r = b + 2 ^ 8 * join r from rfl, ones_low 8 8 _ _ (Nat.le_refl _),
      Nat.add_mul_div_left _ _ (by omega), Nat.div_eq_of_lt (show b < 2 ^ 8 from hb), Nat.zero_add, ih fun x hx => h x (List.mem_cons_of_mem _ hx), List.map_cons, List.sum_cons, pop8_all ⟨b, hb⟩]
def bytes : Nat → Nat → List Nat
  | 0, _ => []
  | n + 1, x => x % 256 :: bytes n (x / 256)
theorem bytes_length (n x : Nat) : (bytes n x).length = n := by
  induction n generalizing x with
  | zero => rfl
  | succ n ih => rw [bytes, List.length_cons, ih]
theorem bytes_lt (n x : Nat) : ∀ b ∈ bytes n x, b < 256 := by
  induction n generalizing x with
  | zero => intro b hb; cases hb
  | succ n ih =>
    intro b hb
    rw [bytes] at hb
    rcases List.mem_cons.1 hb with rfl | hb
    · omega
    · exact ih _ b hb
theorem join_bytes (n x : Nat) (h : x < 256 ^ n) : join (bytes n x) = x := by
  induction n generalizing x with
  | zero => simp at h; subst h; rfl
  | succ n ih => rw [bytes, join, ih _ (by rw [Nat.pow_succ] at h; omega)]; omega

end Go.Proofs.Ytholafecbmhhhaa.Dg
