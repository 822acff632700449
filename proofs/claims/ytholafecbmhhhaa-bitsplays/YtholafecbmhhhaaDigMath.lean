/- Digits of 2 as lists: plain mathematics, no Go. -/
import Derived.RowKit
namespace Go.Proofs.Ytholafecbmhhhaa.Dg
set_option linter.unusedVariables false

/-- the n lowest digits of L -/
def digs (L n : Nat) : List Nat := (List.range n).map fun i => L / 2 ^ i % 2
theorem digs_length (L n : Nat) : (digs L n).length = n := by simp [digs]
theorem digs_get (L n i : Nat) (h : i < n) : (digs L n).getD i 0 = L / 2 ^ i % 2 := by
  simp [digs, List.getD_eq_getElem?_getD, h]
theorem digs_succ (L n : Nat) : digs L (n + 1) = digs L n ++ [L / 2 ^ n % 2] := by
  simp [digs, List.range_succ]
theorem digs_bit (L n : Nat) : ∀ d ∈ digs L n, d ≤ 1 := by
  intro d hd
  simp only [digs, List.mem_map] at hd
  obtain ⟨i, _, rfl⟩ := hd
  omega
/-- the number of a list of digits, the lowest first -/
def num : List Nat → Nat
  | [] => 0
  | d :: r => d + 2 * num r
theorem num_append (a b : List Nat) : num (a ++ b) = num a + 2 ^ a.length * num b := by
  induction a with
  | nil => simp [num]
  | cons d r ih =>
    simp only [List.cons_append, num, ih, List.length_cons, Nat.pow_succ, Nat.mul_add]
    rw [Nat.mul_comm (2 ^ r.length) 2, Nat.mul_assoc]
    omega
theorem num_lt (a : List Nat) (h : ∀ d ∈ a, d ≤ 1) : num a < 2 ^ a.length := by
  induction a with
  | nil => simp [num]
  | cons d r ih =>
    have h1 := ih fun x hx => h x (List.mem_cons_of_mem _ hx)
    have h2 := h d List.mem_cons_self
    simp only [num, List.length_cons, Nat.pow_succ]
    omega
theorem num_digs (L n : Nat) : num (digs L n) = L % 2 ^ n := by
  induction n with
  | zero => simp [digs, num, Nat.mod_one]
  | succ n ih =>
    rw [digs_succ, num_append, ih, digs_length]
    simp only [num]
    rw [Nat.mul_zero, Nat.add_zero, Nat.mod_pow_succ]
theorem num_drop (a : List Nat) (k : Nat) (h : k < a.length) : num (a.drop k) = a.getD k 0 + 2 * num (a.drop (k + 1)) := by
  rw [List.drop_eq_getElem_cons h]
  simp [num, List.getD_eq_getElem?_getD, List.getElem?_eq_getElem h]
theorem digs_take (L n t : Nat) (h : t ≤ n) : (digs L n).take t = digs L t := by
  simp [digs, ← List.map_take, List.take_range, Nat.min_eq_left h]
theorem num_digs_drop (L n t : Nat) (h : t ≤ n) (hL : L < 2 ^ n) : num ((digs L n).drop t) = L / 2 ^ t := by
  have h1 := num_append ((digs L n).take t) ((digs L n).drop t)
  rw [List.take_append_drop, num_digs, digs_take L n t h, num_digs, digs_length, Nat.mod_eq_of_lt hL] at h1
  have h2 := Nat.mod_add_div L (2 ^ t)
  have h3 : 2 ^ t * num ((digs L n).drop t) = 2 ^ t * (L / 2 ^ t) := by omega
  exact Nat.eq_of_mul_eq_mul_left (Nat.pow_pos (by omega)) h3
end Go.Proofs.Ytholafecbmhhhaa.Dg
