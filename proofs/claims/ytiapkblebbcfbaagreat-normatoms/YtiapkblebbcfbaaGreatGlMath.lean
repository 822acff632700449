/- Characters of a text: the model's decoding by bytes: plain mathematics. -/
import Derived.RowKit
namespace Go.Proofs.YtiapkblebbcfbaaGreat.Gl

/-- byte k of s; 0 behind its end -/
def bt (s : ByteArray) (k : Nat) : Nat := (s.get! k).toNat
theorem bt_of (s : ByteArray) (k : Nat) (h : k < s.size) : bt s k = s[k].toNat := by
  unfold bt
  cases s with
  | mk d =>
    have hd : k < d.size := h
    simp only [ByteArray.get!, getElem!_pos d k hd]
    rfl
theorem bt_lt (s : ByteArray) (k : Nat) : bt s k < 256 := (s.get! k).toNat_lt
/-- what is read at byte i: the character, its bytes, and whether it is one -/
def rdS (s : ByteArray) (i : Nat) : Nat × Nat × Bool := ((Utf8.decode s i).1, (Utf8.decode s i).2, !((Utf8.decode s i).1 == 65533 && (Utf8.decode s i).2 == 1))
theorem rd_of {s : ByteArray} {i c n : Nat} (h : Utf8.decode s i = (c, n)) : rdS s i = (c, n, !(c == 65533 && n == 1)) := by unfold rdS; rw [h]
theorem rd_err {s : ByteArray} {i : Nat} (h : Utf8.decode s i = (65533, 1)) : rdS s i = (65533, 1, false) := rd_of h
theorem rd_one (s : ByteArray) (i : Nat) (h : bt s i < 128) : rdS s i = (bt s i, 1, true) := by
  rw [rd_of (c := bt s i) (n := 1) (by unfold Utf8.decode; simp only [Nat.add_zero]; unfold bt at h ⊢; rw [if_pos h])]
  have : (bt s i == 65533) = false := by simp; omega
  rw [this]; rfl
theorem dec_bad0 (s : ByteArray) (i : Nat) (h : (128 ≤ bt s i ∧ bt s i < 194) ∨ 245 ≤ bt s i) : Utf8.decode s i = (65533, 1) := by
  have hb := bt_lt s i
  have hb1 := bt_lt s (i + 1)
  have hb2 := bt_lt s (i + 2)
  have hb3 := bt_lt s (i + 3)
  unfold Utf8.decode
  simp only [Nat.add_zero, Utf8.runeError]
  unfold bt at *
  rw [if_neg (by omega)]
  split
  · rename_i hc
    simp only [Bool.and_eq_true, beq_iff_eq, decide_eq_true_eq] at hc
    rw [if_neg (by omega)]
  · split
    · rename_i hc
      simp only [Bool.and_eq_true, beq_iff_eq, decide_eq_true_eq] at hc
      omega
    · split
      · rename_i hc
        simp only [Bool.and_eq_true, beq_iff_eq, decide_eq_true_eq] at hc
        rw [if_neg (by simp only [Bool.and_eq_true, decide_eq_true_eq, Utf8.valid, Bool.or_eq_true, ge_iff_le]; omega)]
      · rfl
theorem rd_bad0 (s : ByteArray) (i : Nat) (h : (128 ≤ bt s i ∧ bt s i < 194) ∨ 245 ≤ bt s i) : rdS s i = (65533, 1, false) :=
  rd_err (dec_bad0 s i h)
/-- two bytes -/
theorem dec_two (s : ByteArray) (i : Nat) (h : 194 ≤ bt s i ∧ bt s i < 224) : Utf8.decode s i = if 1 < s.size - i ∧ 128 ≤ bt s (i + 1) ∧ bt s (i + 1) < 192 then ((bt s i - 192) * 64 + (bt s (i + 1) - 128), 2) else (65533, 1) := by
  have hb := bt_lt s i
  have hb1 := bt_lt s (i + 1)
  have hb2 := bt_lt s (i + 2)
  have hb3 := bt_lt s (i + 3)
  unfold Utf8.decode
  simp only [Nat.add_zero, Utf8.runeError]
  unfold bt at *
  rw [if_neg (by omega)]
  by_cases hc : 1 < s.size - i ∧ 128 ≤ (s.get! (i + 1)).toNat ∧ (s.get! (i + 1)).toNat < 192
  · rw [if_pos (by simp only [Bool.and_eq_true, beq_iff_eq, decide_eq_true_eq]; omega), if_pos (by omega), if_pos hc]
    exact congrArg (fun c : Nat => (c, 2)) (by omega)
  · rw [if_neg (by simp only [Bool.and_eq_true, beq_iff_eq, decide_eq_true_eq]; omega), if_neg (by simp only [Bool.and_eq_true, beq_iff_eq, decide_eq_true_eq]; omega), if_neg (by simp only [Bool.and_eq_true, beq_iff_eq, decide_eq_true_eq]; omega), if_neg hc]
/-- three bytes -/
theorem dec_three (s : ByteArray) (i c : Nat) (h : 224 ≤ bt s i ∧ bt s i < 240) (hc0 : c = ((bt s i - 224) * 64 + (bt s (i + 1) - 128)) * 64 + (bt s (i + 2) - 128)) : Utf8.decode s i = if (2 < s.size - i ∧ (128 ≤ bt s (i + 1) ∧ bt s (i + 1) < 192) ∧ 128 ≤ bt s (i + 2) ∧ bt s (i + 2) < 192) ∧ (2048 ≤ c ∧ ¬ (55296 ≤ c ∧ c ≤ 57343)) then (c, 3) else (65533, 1) := by
  have hb := bt_lt s i
  have hb1 := bt_lt s (i + 1)
  have hb2 := bt_lt s (i + 2)
  have hb3 := bt_lt s (i + 3)
  unfold Utf8.decode
  simp only [Nat.add_zero, Utf8.runeError]
  unfold bt at *
  rw [if_neg (by omega), if_neg (by simp only [Bool.and_eq_true, beq_iff_eq, decide_eq_true_eq]; omega)]
  by_cases hc : 2 < s.size - i ∧ (128 ≤ (s.get! (i + 1)).toNat ∧ (s.get! (i + 1)).toNat < 192) ∧ 128 ≤ (s.get! (i + 2)).toNat ∧ (s.get! (i + 2)).toNat < 192
  · have e2 : (s.get! i).toNat % 16 * 4096 + (s.get! (i + 1)).toNat % 64 * 64 + (s.get! (i + 2)).toNat % 64 = c := by omega
    rw [if_pos (by simp only [Bool.and_eq_true, beq_iff_eq, decide_eq_true_eq]; omega)]
    by_cases hv : 2048 ≤ c ∧ ¬ (55296 ≤ c ∧ c ≤ 57343)
    · rw [if_pos (by simp only [Bool.and_eq_true, decide_eq_true_eq, Utf8.valid, Bool.or_eq_true, ge_iff_le]; omega), if_pos ⟨hc, hv⟩]
      exact congrArg (fun c : Nat => (c, 3)) e2
    · rw [if_neg (by simp only [Bool.and_eq_true, decide_eq_true_eq, Utf8.valid, Bool.or_eq_true, ge_iff_le]; omega), if_neg (fun h => hv h.2)]
  · rw [if_neg (by simp only [Bool.and_eq_true, beq_iff_eq, decide_eq_true_eq]; omega), if_neg (by simp only [Bool.and_eq_true, beq_iff_eq, decide_eq_true_eq]; omega), if_neg (fun h => hc h.1)]
/-- four bytes -/
theorem dec_four (s : ByteArray) (i c : Nat) (h : 240 ≤ bt s i ∧ bt s i < 245) (hc0 : c = (((bt s i - 240) * 64 + (bt s (i + 1) - 128)) * 64 + (bt s (i + 2) - 128)) * 64 + (bt s (i + 3) - 128)) : Utf8.decode s i = if (3 < s.size - i ∧ (128 ≤ bt s (i + 1) ∧ bt s (i + 1) < 192) ∧ (128 ≤ bt s (i + 2) ∧ bt s (i + 2) < 192) ∧ 128 ≤ bt s (i + 3) ∧ bt s (i + 3) < 192) ∧ (65536 ≤ c ∧ c ≤ 1114111) then (c, 4) else (65533, 1) := by
  have hb := bt_lt s i
  have hb1 := bt_lt s (i + 1)
  have hb2 := bt_lt s (i + 2)
  have hb3 := bt_lt s (i + 3)
  unfold Utf8.decode
  simp only [Nat.add_zero, Utf8.runeError]
  unfold bt at *
  rw [if_neg (by omega), if_neg (by simp only [Bool.and_eq_true, beq_iff_eq, decide_eq_true_eq]; omega), if_neg (by simp only [Bool.and_eq_true, beq_iff_eq, decide_eq_true_eq]; omega)]
  by_cases hc : 3 < s.size - i ∧ (128 ≤ (s.get! (i + 1)).toNat ∧ (s.get! (i + 1)).toNat < 192) ∧ (128 ≤ (s.get! (i + 2)).toNat ∧ (s.get! (i + 2)).toNat < 192) ∧ 128 ≤ (s.get! (i + 3)).toNat ∧ (s.get! (i + 3)).toNat < 192
  · have e2 : (s.get! i).toNat % 8 * 262144 + (s.get! (i + 1)).toNat % 64 * 4096 + (s.get! (i + 2)).toNat % 64 * 64 + (s.get! (i + 3)).toNat % 64 = c := by omega
    rw [if_pos (by simp only [Bool.and_eq_true, beq_iff_eq, decide_eq_true_eq]; omega)]
    by_cases hv : 65536 ≤ c ∧ c ≤ 1114111
    · rw [if_pos (by simp only [Bool.and_eq_true, decide_eq_true_eq, Utf8.valid, Bool.or_eq_true, ge_iff_le]; omega), if_pos ⟨hc, hv⟩]
      exact congrArg (fun c : Nat => (c, 4)) e2
    · rw [if_neg (by simp only [Bool.and_eq_true, decide_eq_true_eq, Utf8.valid, Bool.or_eq_true, ge_iff_le]; omega), if_neg (fun h => hv h.2)]
  · rw [if_neg (by simp only [Bool.and_eq_true, beq_iff_eq, decide_eq_true_eq]; omega), if_neg (fun h => hc h.1)]
/-- how many bytes the character at i should have, by its first one; the number so far behind j further bytes -/
def accB (s : ByteArray) (i x0 : Nat) : Nat → Nat
  | 0 => x0
  | j + 1 => accB s i x0 j * 64 + (bt s (i + (j + 1)) - 128)
theorem acc_zero (s : ByteArray) (i x0 : Nat) : accB s i x0 0 = x0 := rfl
theorem acc_succ (s : ByteArray) (i x0 j : Nat) : accB s i x0 (j + 1) = accB s i x0 j * 64 + (bt s (i + (j + 1)) - 128) := rfl
theorem rd_two (s : ByteArray) (i : Nat) (h : 194 ≤ bt s i ∧ bt s i < 224) : rdS s i = if 1 < s.size - i ∧ (∀ k, k < 1 → 128 ≤ bt s (i + (k + 1)) ∧ bt s (i + (k + 1)) < 192) ∧ (128 ≤ accB s i (bt s i - 192) 1 ∧ accB s i (bt s i - 192) 1 ≤ 1114111 ∧ ¬ (55296 ≤ accB s i (bt s i - 192) 1 ∧ accB s i (bt s i - 192) 1 ≤ 57343)) then (accB s i (bt s i - 192) 1, 2, true) else (65533, 1, false) := by
  have hd := dec_two s i h
  have e : accB s i (bt s i - 192) 1 = (bt s i - 192) * 64 + (bt s (i + 1) - 128) := rfl
  by_cases hc : 1 < s.size - i ∧ 128 ≤ bt s (i + 1) ∧ bt s (i + 1) < 192
  · rw [if_pos hc] at hd
    rw [if_pos ⟨hc.1, fun k hk => (by obtain rfl : k = 0 := by omega
                                      exact hc.2), by rw [e]; omega⟩, rd_of hd, e]
    have : ((bt s i - 192) * 64 + (bt s (i + 1) - 128) == 65533) = false := by simp; omega
    rw [this]; rfl
  · rw [if_neg hc] at hd
    rw [if_neg (fun h => hc ⟨h.1, h.2.1 0 (by omega)⟩), rd_err hd]
theorem rd_three (s : ByteArray) (i : Nat) (h : 224 ≤ bt s i ∧ bt s i < 240) : rdS s i = if 2 < s.size - i ∧ (∀ k, k < 2 → 128 ≤ bt s (i + (k + 1)) ∧ bt s (i + (k + 1)) < 192) ∧ (2048 ≤ accB s i (bt s i - 224) 2 ∧ accB s i (bt s i - 224) 2 ≤ 1114111 ∧ ¬ (55296 ≤ accB s i (bt s i - 224) 2 ∧ accB s i (bt s i - 224) 2 ≤ 57343)) then (accB s i (bt s i - 224) 2, 3, true) else (65533, 1, false) := by
  have hd := dec_three s i (accB s i (bt s i - 224) 2) h rfl
  have e : accB s i (bt s i - 224) 2 = ((bt s i - 224) * 64 + (bt s (i + 1) - 128)) * 64 + (bt s (i + 2) - 128) := rfl
  generalize accB s i (bt s i - 224) 2 = c at *
  by_cases hc : (2 < s.size - i ∧ (128 ≤ bt s (i + 1) ∧ bt s (i + 1) < 192) ∧ 128 ≤ bt s (i + 2) ∧ bt s (i + 2) < 192) ∧ (2048 ≤ c ∧ ¬ (55296 ≤ c ∧ c ≤ 57343))
  · rw [if_pos hc] at hd
    rw [if_pos ⟨hc.1.1, fun k hk => (by
      rcases (show k = 0 ∨ k = 1 by omega) with rfl | rfl
      · exact hc.1.2.1
      · exact hc.1.2.2), by omega⟩, rd_of hd]
    simp
  · rw [if_neg hc] at hd
    rw [if_neg (fun h => hc ⟨⟨h.1, h.2.1 0 (by omega), h.2.1 1 (by omega)⟩, h.2.2.1, h.2.2.2.2⟩), rd_err hd]
theorem rd_four (s : ByteArray) (i : Nat) (h : 240 ≤ bt s i ∧ bt s i < 245) : rdS s i = if 3 < s.size - i ∧ (∀ k, k < 3 → 128 ≤ bt s (i + (k + 1)) ∧ bt s (i + (k + 1)) < 192) ∧ (65536 ≤ accB s i (bt s i - 240) 3 ∧ accB s i (bt s i - 240) 3 ≤ 1114111 ∧ ¬ (55296 ≤ accB s i (bt s i - 240) 3 ∧ accB s i (bt s i - 240) 3 ≤ 57343)) then (accB s i (bt s i - 240) 3, 4, true) else (65533, 1, false) := by
  have hd := dec_four s i (accB s i (bt s i - 240) 3) h rfl
  generalize accB s i (bt s i - 240) 3 = c at *
  by_cases hc : (3 < s.size - i ∧ (128 ≤ bt s (i + 1) ∧ bt s (i + 1) < 192) ∧ (128 ≤ bt s (i + 2) ∧ bt s (i + 2) < 192) ∧ 128 ≤ bt s (i + 3) ∧ bt s (i + 3) < 192) ∧ (65536 ≤ c ∧ c ≤ 1114111)
  · rw [if_pos hc] at hd
    rw [if_pos ⟨hc.1.1, fun k hk => (by
      rcases (show k = 0 ∨ k = 1 ∨ k = 2 by omega) with rfl | rfl | rfl
      · exact hc.1.2.1
      · exact hc.1.2.2.1
      · exact hc.1.2.2.2), by omega⟩, rd_of hd]
    simp
  · rw [if_neg hc] at hd
    rw [if_neg (fun h => hc ⟨⟨h.1, h.2.1 0 (by omega), h.2.1 1 (by omega), h.2.1 2 (by omega)⟩, h.2.2.1, h.2.2.2.1⟩), rd_err hd]
end Go.Proofs.YtiapkblebbcfbaaGreat.Gl
