/- The document's Chars, Good, Name. -/
import Derived.Test.YthimmohbedaimaaDoorGlC
namespace Go.Proofs.YthimmohbedaimaaDoor.Gl
open Go.RowKit
set_option linter.unusedVariables false

theorem rd_bd (s : ByteArray) (i : Nat) (hi : i < s.size) : 1 ≤ (rdS s i).2.1 ∧ i + (rdS s i).2.1 ≤ s.size ∧ (rdS s i).2.1 ≤ 4 := by
  have hb := bt_lt s i
  by_cases h1 : bt s i < 128
  · rw [rd_one s i h1]; dsimp only; omega
  · by_cases h2 : (128 ≤ bt s i ∧ bt s i < 194) ∨ 245 ≤ bt s i
    · rw [rd_bad0 s i h2]; dsimp only; omega
    · by_cases h3 : bt s i < 224
      · rw [rd_two s i (by omega)]
        split
        · rename_i hc; have := hc.1; dsimp only; omega
        · (dsimp only; omega)
      · by_cases h4 : bt s i < 240
        · rw [rd_three s i (by omega)]
          split
          · rename_i hc; have := hc.1; dsimp only; omega
          · (dsimp only; omega)
        · rw [rd_four s i (by omega)]
          split
          · rename_i hc; have := hc.1; dsimp only; omega
          · (dsimp only; omega)
/-- where character number n begins -/
def pos (s : ByteArray) : Nat → Nat
  | 0 => 0
  | n + 1 => pos s n + (rdS s (pos s n)).2.1
theorem pos_zero (s : ByteArray) : pos s 0 = 0 := rfl
theorem pos_succ (s : ByteArray) (n : Nat) : pos s (n + 1) = pos s n + (rdS s (pos s n)).2.1 := rfl
theorem pos_ge (s : ByteArray) (n : Nat) (h : ∀ k, k < n → pos s k < s.size) : n ≤ pos s n ∧ pos s n ≤ s.size := by
  induction n with
  | zero => rw [pos_zero]; omega
  | succ n ih =>
    have h1 := ih (fun k hk => h k (by omega))
    have h2 := rd_bd s (pos s n) (h n (by omega))
    rw [pos_succ]; omega
/-- the text has n characters -/
def IsCnt (s : ByteArray) (n : Nat) : Prop := pos s n = s.size ∧ ∀ k, k < n → pos s k < s.size
theorem cnt_or (s : ByteArray) (n : Nat) : (∃ m, m ≤ n ∧ IsCnt s m) ∨ ∀ k, k ≤ n → pos s k < s.size := by
  induction n with
  | zero =>
    by_cases h : 0 < s.size
    · right; intro k hk; obtain rfl : k = 0 := by omega
      rw [pos_zero]; exact h
    · left; exact ⟨0, Nat.le_refl _, by rw [pos_zero]; omega, fun k hk => by omega⟩
  | succ n ih =>
    rcases ih with ⟨m, hm, hc⟩ | h
    · left; exact ⟨m, by omega, hc⟩
    · by_cases h1 : pos s (n + 1) < s.size
      · right
        intro k hk
        rcases Nat.lt_or_eq_of_le hk with hk | rfl
        · exact h k (by omega)
        · exact h1
      · left
        refine ⟨n + 1, Nat.le_refl _, ?_, fun k hk => h k (by omega)⟩
        have := (pos_ge s (n + 1) (fun k hk => h k (by omega))).2
        omega
theorem cnt_is (s : ByteArray) : ∃ n, IsCnt s n := by
  rcases cnt_or s s.size with ⟨m, _, h⟩ | h
  · exact ⟨m, h⟩
  · have h1 := (pos_ge s s.size (fun k hk => h k (by omega))).1
    have h2 := h s.size (Nat.le_refl _)
    omega
theorem cnt_lt {s : ByteArray} {n m : Nat} (h : IsCnt s n) (hm : ∀ k, k < m → pos s k < s.size) : m ≤ n := by
  by_cases hc : m ≤ n
  · exact hc
  · have := hm n (by omega)
    have := h.1
    omega
theorem cnt_one {s : ByteArray} {n m : Nat} (h : IsCnt s n) (k : IsCnt s m) : n = m := Nat.le_antisymm (cnt_lt k h.2) (cnt_lt h k.2)
end Go.Proofs.YthimmohbedaimaaDoor.Gl
