/- Characters of a text: the model's decoding by bytes: plain mathematics. -/
import Derived.RowKit
import Derived.Test.YtncgmnijgdfenaaGreatDoorGlJ
namespace Go.Proofs.YtncgmnijgdfenaaGreatDoor.Gl

/-- byte k of s; 0 behind its end -/
def bt (s : ByteArray) (k : Nat) : Nat := (s.get! k).toNat
theorem bt_of (s : ByteArray) (k : Nat) (h : k < s.size) : bt s k = s[k].toNat := by
  unfold bt
  cases s with
  | mk d =>
    have hd : k < d.size := h
    simp only [ByteArray.get!, getElem!_pos d k hd]
    rfl
theorem bt_lt (s : ByteArray) (k : Nat) : bt s k < 256 := (s.get! k).toNat_lt
/-- what is read at byte i: the character, its bytes, and whether it is one -/
def rdS (s : ByteArray) (i : Nat) : Nat × Nat × Bool := ((Utf8.decode s i).1, (Utf8.decode s i).2, !((Utf8.decode s i).1 == 65533 && (Utf8.decode s i).2 == 1))
theorem rd_of {s : ByteArray} {i c n : Nat} (h : Utf8.decode s i = (c, n)) : rdS s i = (c, n, !(c == 65533 && n == 1)) := by unfold rdS; rw [h]
theorem rd_err {s : ByteArray} {i : Nat} (h : Utf8.decode s i = (65533, 1)) : rdS s i = (65533, 1, false) := rd_of h
theorem rd_one (s : ByteArray) (i : Nat) (h : bt s i < 128) : rdS s i = (bt s i, 1, true) := by
  rw [rd_of (c := bt s i) (n := 1) (by unfold Utf8.decode; simp only [Nat.add_zero]; unfold bt at h ⊢; rw [if_pos h])]
  have : (bt s i == 65533) = false := by simp; omega
  rw [this]; rfl
theorem dec_bad0 (s : ByteArray) (i : Nat) (h : (128 ≤ bt s i ∧ bt s i < 194) ∨ 245 ≤ bt s i) : Utf8.decode s i = (65533, 1) := by
  have hb := bt_lt s i
  have hb1 := bt_lt s (i + 1)
  have hb2 := bt_lt s (i + 2)
  have hb3 := bt_lt s (i + 3)
  unfold Utf8.decode
  simp only [Nat.add_zero, Utf8.runeError]
  unfold bt at *
  rw [if_neg (by omega)]
  split
  · rename_i hc
    simp only [Bool.and_eq_true, beq_iff_eq, decide_eq_true_eq] at hc
    rw [if_neg (by omega)]
  · split
    · rename_i hc
      simp only [Bool.and_eq_true, beq_iff_eq, decide_eq_true_eq] at hc
      omega
    · split
      · rename_i hc
        simp only [Bool.and_eq_true, beq_iff_eq, decide_eq_true_eq] at hc
        rw [if_neg (by simp only [Bool.and_eq_true, decide_eq_true_eq, Utf8.valid, Bool.or_eq_true, ge_iff_le]; omega)]
      · rfl
theorem rd_bad0 (s : ByteArray) (i : Nat) (h : (128 ≤ bt s i ∧ bt s i < 194) ∨ 245 ≤ bt s i) : rdS s i = (65533, 1, false) :=
  rd_err (dec_bad0 s i h)
/-- two bytes -/
theorem dec_two (s : ByteArray) (i : Nat) (h : 194 ≤ bt s i ∧ bt s i < 224) : Utf8.decode s i = if 1 < s.size - i ∧ 128 ≤ bt s (i + 1) ∧ bt s (i + 1) < 192 then ((bt s i - 192) * 64 + (bt s (i + 1) - 128), 2) else (65533, 1) := by
  have hb := bt_lt s i
  have hb1 := bt_lt s (i + 1)
  have hb2 := bt_lt s (i + 2)
  have hb3 := bt_lt s (i + 3)
  unfold Utf8.decode
  simp only [Nat.add_zero, Utf8.runeError]
  unfold bt at *
  rw [if_neg (by omega)]
  by_cases hc : 1 < s.size - i ∧ 128 ≤ (s.get! (i + 1)).toNat ∧ (s.get! (i + 1)).toNat < 192
  · rw [if_pos (by simp only [Bool.and_eq_true, beq_iff_eq, decide_eq_true_eq]; omega), if_pos (by omega), if_pos hc]
    exact congrArg (fun c : Nat => (c, 2)) (by omega)
  · rw [if_neg (by simp only [Bool.and_eq_true, beq_iff_eq, decide_eq_true_eq]; omega), if_neg (by simp only [Bool.and_eq_true, beq_iff_eq, decide_eq_true_eq]; omega), if_neg (by simp only [Bool.and_eq_true, beq_iff_eq, decide_eq_true_eq]; omega), if_neg hc]
/-- three bytes -/
theorem dec_three (s : ByteArray) (i c : Nat) (h : 224 ≤ bt s i ∧ bt s i < 240) (hc0 : c = ((bt s i - 224) * 64 + (bt s (i + 1) - 128)) * 64 + (bt s (i + 2) - 128)) : Utf8.decode s i = if (2 < s.size - i ∧ (128 ≤ bt s (i + 1) ∧ bt s (i + 1) < 192) ∧ 128 ≤ bt s (i + 2) ∧ bt s (i + 2) < 192) ∧ (2048 ≤ c ∧ ¬ (55296 ≤ c ∧ c ≤ 57343)) then (c, 3) else (65533, 1) := by
  have hb := bt_lt s i
  have hb1 := bt_lt s (i + 1)
  have hb2 := bt_lt s (i + 2)
  have hb3 := bt_lt s (i + 3)
  unfold Utf8.decode
  simp only [Nat.add_zero, Utf8.runeError]
  unfold bt at *
  rw [if_neg (by omega), if_neg (by simp only [Bool.and_eq_true, beq_iff_eq, decide_eq_true_eq]; omega)]
  by_cases hc : 2 < s.size - i ∧ (128 ≤ (s.get! (i + 1)).toNat ∧ (s.get! (i + 1)).toNat < 192) ∧ 128 ≤ (s.get! (i + 2)).toNat ∧ (s.get! (i + 2)).toNat < 192
  · have e2 : (s.get! i).toNat % 16 * 4096 + (s.get! (i + 1)).toNat % 64 * 64 + (s.get! (i + 2)).toNat % 64 = c := by omega
    rw [if_pos (by simp only [Bool.and_eq_true, beq_iff_eq, decide_eq_true_eq]; omega)]
    by_cases hv : 2048 ≤ c ∧ ¬ (55296 ≤ c ∧ c ≤ 57343)
    · rw [if_pos (by simp only [Bool.and_eq_true, decide_eq_true_eq, Utf8.valid, Bool.or_eq_true, ge_iff_le]; omega), if_pos ⟨hc, hv⟩]
      exact congrArg (fun c : Nat => (c, 3)) e2
    · rw [if_neg (by simp only [Bool.and_eq_true, decide_eq_true_eq, Utf8.valid, Bool.or_eq_true, ge_iff_le]; omega), if_neg (fun h => hv h.2)]
  · rw [if_neg (by simp only [Bool.and_eq_true, beq_iff_eq, decide_eq_true_eq]; omega), if_neg (by simp only [Bool.and_eq_true, beq_iff_eq, decide_eq_true_eq]; omega), if_neg (fun h => hc h.1)]
/-- four bytes -/
theorem dec_four (s : ByteArray) (i c : Nat) (h : 240 ≤ bt s i ∧ bt s i < 245) (hc0 : c = (((bt s i - 240) * 64 + (bt s (i + 1) - 128)) * 64 + (bt s (i + 2) - 128)) * 64 + (bt s (i + 3) - 128)) : Utf8.decode s i = if (3 < s.size - i ∧ (128 ≤ bt s (i + 1) ∧ bt s (i + 1) < 192) ∧ (128 ≤ bt s (i + 2) ∧ bt s (i + 2) < 192) ∧ 128 ≤ bt s (i + 3) ∧ bt s (i + 3) < 192) ∧ (65536 ≤ c ∧ c ≤ 1114111) then (c, 4) else (65533, 1) := by
  have hb := bt_lt s i
  have hb1 := bt_lt s (i + 1)
  have hb2 := bt_lt s (i + 2)
  have hb3 := bt_lt s (i + 3)
  unfold Utf8.decode
  simp only [Nat.add_zero, Utf8.runeError]
  unfold bt at *
  rw [if_neg (by omega), if_neg (by simp only [Bool.and_eq_true, beq_iff_eq, decide_eq_true_eq]; omega), if_neg (by simp only [Bool.and_eq_true, beq_iff_eq, decide_eq_true_eq]; omega)]
  by_cases hc : 3 < s.size - i ∧ (128 ≤ (s.get! (i + 1)).toNat ∧ (s.get! (i + 1)).toNat < 192) ∧ (128 ≤ (s.get! (i + 2)).toNat ∧ (s.get! (i + 2)).toNat < 192) ∧ 128 ≤ (s.get! (i + 3)).toNat ∧ (s.get! (i + 3)).toNat < 192
  · have e2 : (s.get! i).toNat % 8 * 262144 + (s.get! (i + 1)).toNat % 64 * 4096 + (s.get! (i + 2)).toNat % 64 * 64 + (s.get! (i + 3)).toNat % 64 = c := by omega
    rw [if_pos (by simp only [Bool.and_eq_true, beq_iff_eq, decide_eq_true_eq]; omega)]
    by_cases hv : 65536 ≤ c ∧ c ≤ 1114111
    · rw [if_pos (by simp only [Bool.and_eq_true, decide_eq_true_eq, Utf8.valid, Bool.or_eq_true, ge_iff_le]; omega), if_pos ⟨hc, hv⟩]
      exact congrArg (fun c : Nat => (c, 4)) e2
    · rw [if_neg (by simp only [Bool.and_eq_true, decide_eq_true_eq, Utf8.valid, Bool.or_eq_true, ge_iff_le]; omega), if_neg (fun h => hv h.2)]
  · rw [if_neg (by simp only [Bool.and_eq_true, beq_iff_eq, decide_eq_true_eq]; omega), if_neg (fun h => hc h.1)]
/-- how many bytes the character at i should have, by its first one; the number so far behind j further bytes -/
def accB (s : ByteArray) (i x0 : Nat) : Nat → Nat
  | 0 => x0
  | j + 1 => accB s i x0 j * 64 + (bt s (i + (j + 1)) - 128)
theorem acc_zero (s : ByteArray) (i x0 : Nat) : accB s i x0 0 = x0 := rfl
theorem acc_succ (s : ByteArray) (i x0 j : Nat) : accB s i x0 (j + 1) = accB s i x0 j * 64 + (bt s (i + (j + 1)) - 128) := rfl
theorem rd_two (s : ByteArray) (i : Nat) (h : 194 ≤ bt s i ∧ bt s i < 224) : rdS s i = if 1 < s.size - i ∧ (∀ k, k < 1 → 128 ≤ bt s (i + (k + 1)) ∧ bt s (i + (k + 1)) < 192) ∧ (128 ≤ accB s i (bt s i - 192) 1 ∧ accB s i (bt s i - 192) 1 ≤ 1114111 ∧ ¬ (55296 ≤ accB s i (bt s i - 192) 1 ∧ accB s i (bt s i - 192) 1 ≤ 57343)) then (accB s i (bt s i - 192) 1, 2, true) else (65533, 1, false) := by
  have hd := dec_two s i h
  have e : accB s i (bt s i - 192) 1 = (bt s i - 192) * 64 + (bt s (i + 1) - 128) := rfl
  by_cases hc : 1 < s.size - i ∧ 128 ≤ bt s (i + 1) ∧ bt s (i + 1) < 192
  · rw [if_pos hc] at hd
    rw [if_pos ⟨hc.1, fun k hk => (by obtain rfl : k = 0 := by omega
                                      exact hc.2), by rw [e]; omega⟩, rd_of hd, e]
    have : ((bt s i - 192) * 64 + (bt s (i + 1) - 128) == 65533) = false := by simp; omega
    rw [this]; rfl
  · rw [if_neg hc] at hd
    rw [if_neg (fun h => hc ⟨h.1, h.2.1 0 (by omega)⟩), rd_err hd]
theorem rd_three (s : ByteArray) (i : Nat) (h : 224 ≤ bt s i ∧ bt s i < 240) : rdS s i = if 2 < s.size - i ∧ (∀ k, k < 2 → 128 ≤ bt s (i + (k + 1)) ∧ bt s (i + (k + 1)) < 192) ∧ (2048 ≤ accB s i (bt s i - 224) 2 ∧ accB s i (bt s i - 224) 2 ≤ 1114111 ∧ ¬ (55296 ≤ accB s i (bt s i - 224) 2 ∧ accB s i (bt s i - 224) 2 ≤ 57343)) then (accB s i (bt s i - 224) 2, 3, true) else (65533, 1, false) := by
  have hd := dec_three s i (accB s i (bt s i - 224) 2) h rfl
  have e : accB s i (bt s i - 224) 2 = ((bt s i - 224) * 64 + (bt s (i + 1) - 128)) * 64 + (bt s (i + 2) - 128) := rfl
  generalize accB s i (bt s i - 224) 2 = c at *
  by_cases hc : (2 < s.size - i ∧ (128 ≤ bt s (i + 1) ∧ bt s (i + 1) < 192) ∧ 128 ≤ bt s (i + 2) ∧ bt s (i + 2) < 192) ∧ (2048 ≤ c ∧ ¬ (55296 ≤ c ∧ c ≤ 57343))
  · rw [if_pos hc] at hd
    rw [if_pos ⟨hc.1.1, fun k hk => (by
      rcases (show k = 0 ∨ k = 1 by omega) with rfl | rfl
      · exact hc.1.2.1
      · exact hc.1.2.2), by omega⟩, rd_of hd]
    simp
  · rw [if_neg hc] at hd
    rw [if_neg (fun h => hc ⟨⟨h.1, h.2.1 0 (by omega), h.2.1 1 (by omega)⟩, h.2.2.1, h.2.2.2.2⟩), rd_err hd]
theorem rd_four (s : ByteArray) (i : Nat) (h : 240 ≤ bt s i ∧ bt s i < 245) : rdS s i = if 3 < s.size - i ∧ (∀ k, k < 3 → 128 ≤ bt s (i + (k + 1)) ∧ bt s (i + (k + 1)) < 192) ∧ (65536 ≤ accB s i (bt s i - 240) 3 ∧ accB s i (bt s i - 240) 3 ≤ 1114111 ∧ ¬ (55296 ≤ accB s i (bt s i - 240) 3 ∧ accB s i (bt s i - 240) 3 ≤ 57343)) then (accB s i (bt s i - 240) 3, 4, true) else (65533, 1, false) := by
  have hd := dec_four s i (accB s i (bt s i - 240) 3) h rfl
  generalize accB s i (bt s i - 240) 3 = c at *
  by_cases hc : (3 < s.size - i ∧ (128 ≤ bt s (i + 1) ∧ bt s (i + 1) < 192) ∧ (128 ≤ bt s (i + 2) ∧ bt s (i + 2) < 192) ∧ 128 ≤ bt s (i + 3) ∧ bt s (i + 3) < 192) ∧ (65536 ≤ c ∧ c ≤ 1114111)
  · rw [if_pos hc] at hd
    rw [if_pos ⟨hc.1.1, fun k hk => (by
      rcases (show k = 0 ∨ k = 1 ∨ k = 2 by omega) with rfl | rfl | rfl
      · exact hc.1.2.1
      · exact hc.1.2.2.1
      · exact hc.1.2.2.2), by omega⟩, rd_of hd]
    simp
  · rw [if_neg hc] at hd
    rw [if_neg (fun h => hc ⟨⟨h.1, h.2.1 0 (by omega), h.2.1 1 (by omega), h.2.1 2 (by omega)⟩, h.2.2.1, h.2.2.2.1⟩), rd_err hd]
end Go.Proofs.YtncgmnijgdfenaaGreatDoor.Gl
/- The document's Read. -/
namespace Go.Proofs.YtncgmnijgdfenaaGreatDoor.Gl
open Go.RowKit
set_option linter.unusedVariables false

theorem acc_le (s : ByteArray) (i x0 j : Nat) (h : x0 < 32) : accB s i x0 j < 32 * 128 ^ j := by
  induction j with
  | zero => rw [acc_zero]; omega
  | succ j ih =>
    have := bt_lt s (i + (j + 1))
    have hp : 0 < 128 ^ j := Nat.pow_pos (by omega)
    rw [acc_succ, Nat.pow_succ]
    omega
theorem acc_small (s : ByteArray) (i x0 j : Nat) (h : x0 < 32) (hj : j ≤ 3) : accB s i x0 j ≤ 100000000 := by
  have h1 := acc_le s i x0 j h
  have h2 : 128 ^ j ≤ 128 ^ 3 := Nat.pow_le_pow_right (by omega) hj
  omega
theorem ret3 {s : ByteArray} {i a b : Nat} {c : Bool} {x y : Int} {z : Bool} (h : rdS s i = (a, b, c)) (hx : x = a) (hy : y = b) (hz : z = c) : Ending.returned (.tuple #[.int .i64 x, .int .i64 y, .bool z]) = .returned (.tuple #[.int .i64 ((rdS s i).1 : Nat), .int .i64 ((rdS s i).2.1 : Nat), .bool (rdS s i).2.2]) := by
  rw [h, hx, hy, hz]
abbrev Reads (s : ByteArray) (i : Nat) (w : World) : Prop := Calls Tryz.prog 82 #[.string s, .int .i64 i] w fun e w' => e = .returned (.tuple #[.int .i64 ((rdS s i).1 : Nat), .int .i64 ((rdS s i).2.1 : Nat), .bool (rdS s i).2.2]) ∧ w = w'
set_option maxRecDepth 100000 in
theorem read_one (s : ByteArray) (i : Nat) (w : World) (hs : s.size ≤ 9223372036854775807) (hi : i < s.size) (h : s[i].toNat < 128) : Reads s i w := by
  have HE : Hid (rdS s i = (s[i].toNat, 1, true)) := by
    have := rd_one s i (by rw [bt_of s i hi]; exact h)
    rwa [bt_of s i hi] at this
  go_enter Tryz.func82, Tryz.ntmps82
  go_wp2
  all_goals go_ret3
  all_goals exact ⟨ret3 HE.out rfl rfl rfl, rfl⟩
set_option maxRecDepth 100000 in
theorem read_bad (s : ByteArray) (i : Nat) (w : World) (hs : s.size ≤ 9223372036854775807) (hi : i < s.size) (h : (128 ≤ s[i].toNat ∧ s[i].toNat < 194) ∨ 245 ≤ s[i].toNat) : Reads s i w := by
  have HE : Hid (rdS s i = (65533, 1, false)) := rd_bad0 s i (by rw [bt_of s i hi]; exact h)
  rcases h with ⟨h1, h2⟩ | h1
  · go_enter Tryz.func82, Tryz.ntmps82
    go_wp2
    all_goals go_ret3
    all_goals exact ⟨ret3 HE.out rfl rfl rfl, rfl⟩
  · have h2 : s[i].toNat < 256 := s[i].toNat_lt
    go_enter Tryz.func82, Tryz.ntmps82
    go_wp2
    all_goals go_ret3
    all_goals exact ⟨ret3 HE.out rfl rfl rfl, rfl⟩
set_option maxRecDepth 100000 in
set_option maxHeartbeats 2000000 in
theorem read_two (s : ByteArray) (i : Nat) (w : World) (hs : s.size ≤ 9223372036854775807) (hi : i < s.size) (h1 : 194 ≤ s[i].toNat) (h2 : s[i].toNat < 224) : Reads s i w := by
  have hr := rd_two s i (by rw [bt_of s i hi]; exact ⟨h1, h2⟩)
  rw [bt_of s i hi] at hr
  obtain ⟨x0, hx0⟩ : ∃ x0, s[i].toNat - 192 = x0 := ⟨_, rfl⟩
  rw [hx0] at hr
  have HR : Hid _ := hr
  have hx1 : x0 < 32 := by omega
  have HX : Hid ((s[i].toNat : Int) - 192 = (x0 : Int)) := by show _ = _; omega
  have hxe := HX.out
  clear hr hx0
  by_cases hz : 2 ≤ s.size - i
  · have d0 : decide ((s[i].toNat : Int) < 128) = false := decide_eq_false (by omega)
    have d1 : decide ((194 : Int) ≤ (s[i].toNat : Int)) = true := decide_eq_true (by omega)
    have d2 : decide ((s[i].toNat : Int) < 224) = true := decide_eq_true (by omega)
    have d3 : decide ((s.size : Int) - (i : Int) < 2) = false := decide_eq_false (by omega)
    go_enter Tryz.func82, Tryz.ntmps82
    go_wp2
    clear hxe
    go_loop [7, 10] (fun x n => ∃ j : Nat, j + 1 ≤ 2 ∧ n = .int .i64 ((j : Int) + 1) ∧ x = .int .i64 (accB s i x0 j : Nat) ∧ Hid (∀ k, k < j → 128 ≤ bt s (i + (k + 1)) ∧ bt s (i + (k + 1)) < 192)) (fun _ n => 2 + 1 - (intOf n).toNat)
    case atStart => exact ⟨0, by omega, rfl, by first | rfl | (rw [HX.out]; rfl), fun k hk => absurd hk (by omega)⟩
    case round =>
      obtain ⟨j, hj, rfl, rfl, hall⟩ := hrel
      have hA := acc_small s i x0 j hx1 (by omega)
      by_cases hlt : j + 1 < 2
      · have hij : i + (j + 1) < s.size := by omega
        have hy := bt_of s (i + (j + 1)) hij
        have HY : Hid (bt s (i + (j + 1)) = s[i + (j + 1)].toNat) := hy
        have HA : Hid (accB s i x0 (j + 1) = accB s i x0 j * 64 + (s[i + (j + 1)].toNat - 128)) := by show _ = _; rw [acc_succ, hy]
        have e1 : ((i : Int) + ((j : Int) + 1)).toNat = i + (j + 1) := by omega
        have hcb : s[i + (j + 1)].toNat < 256 := s[i + (j + 1)].toNat_lt
        clear hy
        generalize hq : accB s i x0 j = q at *
        clear hq
        by_cases hc : 128 ≤ s[i + (j + 1)].toNat ∧ s[i + (j + 1)].toNat < 192
        · obtain ⟨hc1, hc2⟩ := hc
          go_wp2
          go_round
          case rel =>
            refine ⟨j + 1, by omega, by go_num, congrArg (Value.int .i64) (by rw [HA.out]; omega), fun k hk => ?_⟩
            rcases Nat.lt_succ_iff_lt_or_eq.1 hk with hk | rfl
            · exact hall.out k hk
            · rw [HY.out]; omega
          case measure => simp [intOf]; omega
        · have HE : Hid (rdS s i = (65533, 1, false)) := by
            show _ = _
            rw [HR.out, if_neg (fun h => hc (by have := h.2.1 j (by omega); rwa [HY.out] at this))]
          by_cases hc1 : s[i + (j + 1)].toNat < 128
          all_goals try (have hc2 : 191 < s[i + (j + 1)].toNat := by omega)
          all_goals
            clear hc
            go_wp2
            all_goals go_ret3
            all_goals exact ⟨ret3 HE.out rfl rfl rfl, rfl⟩
      · obtain rfl : j = 1 := by omega
        generalize hq : accB s i x0 1 = q at *
        by_cases hv : 128 ≤ q ∧ q ≤ 1114111 ∧ ¬ (55296 ≤ q ∧ q ≤ 57343)
        · have HE : Hid (rdS s i = (q, 2, true)) := by
            show _ = _
            rw [HR.out, if_pos ⟨by omega, hall.out, hv⟩]
          obtain ⟨v1, v2, v3⟩ := hv
          clear hq
          by_cases hv4 : q < 55296
          all_goals try (have hv5 : 57343 < q := by omega)
          all_goals
            clear v3
            go_wp2
            all_goals go_ret3
            all_goals exact ⟨ret3 HE.out rfl rfl rfl, rfl⟩
        · have HE : Hid (rdS s i = (65533, 1, false)) := by
            show _ = _
            rw [HR.out, if_neg (fun h => hv h.2.2)]
          clear hq
          by_cases v1 : q < 128
          · clear hv
            go_wp2
            all_goals go_ret3
            all_goals exact ⟨ret3 HE.out rfl rfl rfl, rfl⟩
          · by_cases v2 : 1114111 < q
            · clear hv
              go_wp2
              all_goals go_ret3
              all_goals exact ⟨ret3 HE.out rfl rfl rfl, rfl⟩
            · have v3 : 55296 ≤ q := by omega
              have v4 : q ≤ 57343 := by omega
              clear hv
              go_wp2
              all_goals go_ret3
              all_goals exact ⟨ret3 HE.out rfl rfl rfl, rfl⟩
  · have HE : Hid (rdS s i = (65533, 1, false)) := by
      show _ = _
      rw [HR.out, if_neg (fun h => hz (by have := h.1; omega))]
    go_enter Tryz.func82, Tryz.ntmps82
    go_wp2
    all_goals go_ret3
    all_goals exact ⟨ret3 HE.out rfl rfl rfl, rfl⟩
set_option maxRecDepth 100000 in
set_option maxHeartbeats 2000000 in
theorem read_three (s : ByteArray) (i : Nat) (w : World) (hs : s.size ≤ 9223372036854775807) (hi : i < s.size) (h1 : 224 ≤ s[i].toNat) (h2 : s[i].toNat < 240) : Reads s i w := by
  have hr := rd_three s i (by rw [bt_of s i hi]; exact ⟨h1, h2⟩)
  rw [bt_of s i hi] at hr
  obtain ⟨x0, hx0⟩ : ∃ x0, s[i].toNat - 224 = x0 := ⟨_, rfl⟩
  rw [hx0] at hr
  have HR : Hid _ := hr
  have hx1 : x0 < 32 := by omega
  have HX : Hid ((s[i].toNat : Int) - 224 = (x0 : Int)) := by show _ = _; omega
  have hxe := HX.out
  clear hr hx0
  by_cases hz : 3 ≤ s.size - i
  · have d0 : decide ((s[i].toNat : Int) < 128) = false := decide_eq_false (by omega)
    have d1 : decide ((194 : Int) ≤ (s[i].toNat : Int)) = true := decide_eq_true (by omega)
    have d2 : decide ((s[i].toNat : Int) < 224) = false := decide_eq_false (by omega)
    have d3 : decide ((224 : Int) ≤ (s[i].toNat : Int)) = true := decide_eq_true (by omega)
    have d4 : decide ((s[i].toNat : Int) < 240) = true := decide_eq_true (by omega)
    have d5 : decide ((s.size : Int) - (i : Int) < 3) = false := decide_eq_false (by omega)
    go_enter Tryz.func82, Tryz.ntmps82
    go_wp2
    clear hxe
    go_loop [7, 10] (fun x n => ∃ j : Nat, j + 1 ≤ 3 ∧ n = .int .i64 ((j : Int) + 1) ∧ x = .int .i64 (accB s i x0 j : Nat) ∧ Hid (∀ k, k < j → 128 ≤ bt s (i + (k + 1)) ∧ bt s (i + (k + 1)) < 192)) (fun _ n => 3 + 1 - (intOf n).toNat)
    case atStart => exact ⟨0, by omega, rfl, by first | rfl | (rw [HX.out]; rfl), fun k hk => absurd hk (by omega)⟩
    case round =>
      obtain ⟨j, hj, rfl, rfl, hall⟩ := hrel
      have hA := acc_small s i x0 j hx1 (by omega)
      by_cases hlt : j + 1 < 3
      · have hij : i + (j + 1) < s.size := by omega
        have hy := bt_of s (i + (j + 1)) hij
        have HY : Hid (bt s (i + (j + 1)) = s[i + (j + 1)].toNat) := hy
        have HA : Hid (accB s i x0 (j + 1) = accB s i x0 j * 64 + (s[i + (j + 1)].toNat - 128)) := by show _ = _; rw [acc_succ, hy]
        have e1 : ((i : Int) + ((j : Int) + 1)).toNat = i + (j + 1) := by omega
        have hcb : s[i + (j + 1)].toNat < 256 := s[i + (j + 1)].toNat_lt
        clear hy
        generalize hq : accB s i x0 j = q at *
        clear hq
        by_cases hc : 128 ≤ s[i + (j + 1)].toNat ∧ s[i + (j + 1)].toNat < 192
        · obtain ⟨hc1, hc2⟩ := hc
          go_wp2
          go_round
          case rel =>
            refine ⟨j + 1, by omega, by go_num, congrArg (Value.int .i64) (by rw [HA.out]; omega), fun k hk => ?_⟩
            rcases Nat.lt_succ_iff_lt_or_eq.1 hk with hk | rfl
            · exact hall.out k hk
            · rw [HY.out]; omega
          case measure => simp [intOf]; omega
        · have HE : Hid (rdS s i = (65533, 1, false)) := by
            show _ = _
            rw [HR.out, if_neg (fun h => hc (by have := h.2.1 j (by omega); rwa [HY.out] at this))]
          by_cases hc1 : s[i + (j + 1)].toNat < 128
          all_goals try (have hc2 : 191 < s[i + (j + 1)].toNat := by omega)
          all_goals
            clear hc
            go_wp2
            all_goals go_ret3
            all_goals exact ⟨ret3 HE.out rfl rfl rfl, rfl⟩
      · obtain rfl : j = 2 := by omega
        generalize hq : accB s i x0 2 = q at *
        by_cases hv : 2048 ≤ q ∧ q ≤ 1114111 ∧ ¬ (55296 ≤ q ∧ q ≤ 57343)
        · have HE : Hid (rdS s i = (q, 3, true)) := by
            show _ = _
            rw [HR.out, if_pos ⟨by omega, hall.out, hv⟩]
          obtain ⟨v1, v2, v3⟩ := hv
          clear hq
          by_cases hv4 : q < 55296
          all_goals try (have hv5 : 57343 < q := by omega)
          all_goals
            clear v3
            go_wp2
            all_goals go_ret3
            all_goals exact ⟨ret3 HE.out rfl rfl rfl, rfl⟩
        · have HE : Hid (rdS s i = (65533, 1, false)) := by
            show _ = _
            rw [HR.out, if_neg (fun h => hv h.2.2)]
          clear hq
          by_cases v1 : q < 2048
          · clear hv
            go_wp2
            all_goals go_ret3
            all_goals exact ⟨ret3 HE.out rfl rfl rfl, rfl⟩
          · by_cases v2 : 1114111 < q
            · clear hv
              go_wp2
              all_goals go_ret3
              all_goals exact ⟨ret3 HE.out rfl rfl rfl, rfl⟩
            · have v3 : 55296 ≤ q := by omega
              have v4 : q ≤ 57343 := by omega
              clear hv
              go_wp2
              all_goals go_ret3
              all_goals exact ⟨ret3 HE.out rfl rfl rfl, rfl⟩
  · have HE : Hid (rdS s i = (65533, 1, false)) := by
      show _ = _
      rw [HR.out, if_neg (fun h => hz (by have := h.1; omega))]
    go_enter Tryz.func82, Tryz.ntmps82
    go_wp2
    all_goals go_ret3
    all_goals exact ⟨ret3 HE.out rfl rfl rfl, rfl⟩
set_option maxRecDepth 100000 in
set_option maxHeartbeats 2000000 in
theorem read_four (s : ByteArray) (i : Nat) (w : World) (hs : s.size ≤ 9223372036854775807) (hi : i < s.size) (h1 : 240 ≤ s[i].toNat) (h2 : s[i].toNat < 245) : Reads s i w := by
  have hr := rd_four s i (by rw [bt_of s i hi]; exact ⟨h1, h2⟩)
  rw [bt_of s i hi] at hr
  obtain ⟨x0, hx0⟩ : ∃ x0, s[i].toNat - 240 = x0 := ⟨_, rfl⟩
  rw [hx0] at hr
  have HR : Hid _ := hr
  have hx1 : x0 < 32 := by omega
  have HX : Hid ((s[i].toNat : Int) - 240 = (x0 : Int)) := by show _ = _; omega
  have hxe := HX.out
  clear hr hx0
  by_cases hz : 4 ≤ s.size - i
  · have d0 : decide ((s[i].toNat : Int) < 128) = false := decide_eq_false (by omega)
    have d1 : decide ((194 : Int) ≤ (s[i].toNat : Int)) = true := decide_eq_true (by omega)
    have d2 : decide ((s[i].toNat : Int) < 224) = false := decide_eq_false (by omega)
    have d3 : decide ((224 : Int) ≤ (s[i].toNat : Int)) = true := decide_eq_true (by omega)
    have d4 : decide ((s[i].toNat : Int) < 240) = false := decide_eq_false (by omega)
    have d5 : decide ((240 : Int) ≤ (s[i].toNat : Int)) = true := decide_eq_true (by omega)
    have d6 : decide ((s[i].toNat : Int) < 245) = true := decide_eq_true (by omega)
    have d7 : decide ((s.size : Int) - (i : Int) < 4) = false := decide_eq_false (by omega)
    go_enter Tryz.func82, Tryz.ntmps82
    go_wp2
    clear hxe
    go_loop [7, 10] (fun x n => ∃ j : Nat, j + 1 ≤ 4 ∧ n = .int .i64 ((j : Int) + 1) ∧ x = .int .i64 (accB s i x0 j : Nat) ∧ Hid (∀ k, k < j → 128 ≤ bt s (i + (k + 1)) ∧ bt s (i + (k + 1)) < 192)) (fun _ n => 4 + 1 - (intOf n).toNat)
    case atStart => exact ⟨0, by omega, rfl, by first | rfl | (rw [HX.out]; rfl), fun k hk => absurd hk (by omega)⟩
    case round =>
      obtain ⟨j, hj, rfl, rfl, hall⟩ := hrel
      have hA := acc_small s i x0 j hx1 (by omega)
      by_cases hlt : j + 1 < 4
      · have hij : i + (j + 1) < s.size := by omega
        have hy := bt_of s (i + (j + 1)) hij
        have HY : Hid (bt s (i + (j + 1)) = s[i + (j + 1)].toNat) := hy
        have HA : Hid (accB s i x0 (j + 1) = accB s i x0 j * 64 + (s[i + (j + 1)].toNat - 128)) := by show _ = _; rw [acc_succ, hy]
        have e1 : ((i : Int) + ((j : Int) + 1)).toNat = i + (j + 1) := by omega
        have hcb : s[i + (j + 1)].toNat < 256 := s[i + (j + 1)].toNat_lt
        clear hy
        generalize hq : accB s i x0 j = q at *
        clear hq
        by_cases hc : 128 ≤ s[i + (j + 1)].toNat ∧ s[i + (j + 1)].toNat < 192
        · obtain ⟨hc1, hc2⟩ := hc
          go_wp2
          go_round
          case rel =>
            refine ⟨j + 1, by omega, by go_num, congrArg (Value.int .i64) (by rw [HA.out]; omega), fun k hk => ?_⟩
            rcases Nat.lt_succ_iff_lt_or_eq.1 hk with hk | rfl
            · exact hall.out k hk
            · rw [HY.out]; omega
          case measure => simp [intOf]; omega
        · have HE : Hid (rdS s i = (65533, 1, false)) := by
            show _ = _
            rw [HR.out, if_neg (fun h => hc (by have := h.2.1 j (by omega); rwa [HY.out] at this))]
          by_cases hc1 : s[i + (j + 1)].toNat < 128
          all_goals try (have hc2 : 191 < s[i + (j + 1)].toNat := by omega)
          all_goals
            clear hc
            go_wp2
            all_goals go_ret3
            all_goals exact ⟨ret3 HE.out rfl rfl rfl, rfl⟩
      · obtain rfl : j = 3 := by omega
        generalize hq : accB s i x0 3 = q at *
        by_cases hv : 65536 ≤ q ∧ q ≤ 1114111 ∧ ¬ (55296 ≤ q ∧ q ≤ 57343)
        · have HE : Hid (rdS s i = (q, 4, true)) := by
            show _ = _
            rw [HR.out, if_pos ⟨by omega, hall.out, hv⟩]
          obtain ⟨v1, v2, v3⟩ := hv
          clear hq
          by_cases hv4 : q < 55296
          all_goals try (have hv5 : 57343 < q := by omega)
          all_goals
            clear v3
            go_wp2
            all_goals go_ret3
            all_goals exact ⟨ret3 HE.out rfl rfl rfl, rfl⟩
        · have HE : Hid (rdS s i = (65533, 1, false)) := by
            show _ = _
            rw [HR.out, if_neg (fun h => hv h.2.2)]
          clear hq
          by_cases v1 : q < 65536
          · clear hv
            go_wp2
            all_goals go_ret3
            all_goals exact ⟨ret3 HE.out rfl rfl rfl, rfl⟩
          · by_cases v2 : 1114111 < q
            · clear hv
              go_wp2
              all_goals go_ret3
              all_goals exact ⟨ret3 HE.out rfl rfl rfl, rfl⟩
            · have v3 : 55296 ≤ q := by omega
              have v4 : q ≤ 57343 := by omega
              clear hv
              go_wp2
              all_goals go_ret3
              all_goals exact ⟨ret3 HE.out rfl rfl rfl, rfl⟩
  · have HE : Hid (rdS s i = (65533, 1, false)) := by
      show _ = _
      rw [HR.out, if_neg (fun h => hz (by have := h.1; omega))]
    go_enter Tryz.func82, Tryz.ntmps82
    go_wp2
    all_goals go_ret3
    all_goals exact ⟨ret3 HE.out rfl rfl rfl, rfl⟩
theorem read_at (s : ByteArray) (i : Nat) (w : World) (hs : s.size ≤ 9223372036854775807) (hi : i < s.size) : Reads s i w := by
  have hb : s[i].toNat < 256 := s[i].toNat_lt
  by_cases h1 : s[i].toNat < 128
  · exact read_one s i w hs hi h1
  · by_cases h2 : s[i].toNat < 194 ∨ 245 ≤ s[i].toNat
    · exact read_bad s i w hs hi (by omega)
    · by_cases h3 : s[i].toNat < 224
      · exact read_two s i w hs hi (by omega) h3
      · by_cases h4 : s[i].toNat < 240
        · exact read_three s i w hs hi (by omega) h4
        · exact read_four s i w hs hi (by omega) (by omega)
end Go.Proofs.YtncgmnijgdfenaaGreatDoor.Gl
/- The document's Chars, Good, Name. -/
namespace Go.Proofs.YtncgmnijgdfenaaGreatDoor.Gl
open Go.RowKit
set_option linter.unusedVariables false

theorem rd_bd (s : ByteArray) (i : Nat) (hi : i < s.size) : 1 ≤ (rdS s i).2.1 ∧ i + (rdS s i).2.1 ≤ s.size ∧ (rdS s i).2.1 ≤ 4 := by
  have hb := bt_lt s i
  by_cases h1 : bt s i < 128
  · rw [rd_one s i h1]; dsimp only; omega
  · by_cases h2 : (128 ≤ bt s i ∧ bt s i < 194) ∨ 245 ≤ bt s i
    · rw [rd_bad0 s i h2]; dsimp only; omega
    · by_cases h3 : bt s i < 224
      · rw [rd_two s i (by omega)]
        split
        · rename_i hc; have := hc.1; dsimp only; omega
        · (dsimp only; omega)
      · by_cases h4 : bt s i < 240
        · rw [rd_three s i (by omega)]
          split
          · rename_i hc; have := hc.1; dsimp only; omega
          · (dsimp only; omega)
        · rw [rd_four s i (by omega)]
          split
          · rename_i hc; have := hc.1; dsimp only; omega
          · (dsimp only; omega)
/-- where character number n begins -/
def pos (s : ByteArray) : Nat → Nat
  | 0 => 0
  | n + 1 => pos s n + (rdS s (pos s n)).2.1
theorem pos_zero (s : ByteArray) : pos s 0 = 0 := rfl
theorem pos_succ (s : ByteArray) (n : Nat) : pos s (n + 1) = pos s n + (rdS s (pos s n)).2.1 := rfl
theorem pos_ge (s : ByteArray) (n : Nat) (h : ∀ k, k < n → pos s k < s.size) : n ≤ pos s n ∧ pos s n ≤ s.size := by
  induction n with
  | zero => rw [pos_zero]; omega
  | succ n ih =>
    have h1 := ih (fun k hk => h k (by omega))
    have h2 := rd_bd s (pos s n) (h n (by omega))
    rw [pos_succ]; omega
/-- the text has n characters -/
def IsCnt (s : ByteArray) (n : Nat) : Prop := pos s n = s.size ∧ ∀ k, k < n → pos s k < s.size
theorem cnt_or (s : ByteArray) (n : Nat) : (∃ m, m ≤ n ∧ IsCnt s m) ∨ ∀ k, k ≤ n → pos s k < s.size := by
  induction n with
  | zero =>
    by_cases h : 0 < s.size
    · right; intro k hk; obtain rfl : k = 0 := by omega
      rw [pos_zero]; exact h
    · left; exact ⟨0, Nat.le_refl _, by rw [pos_zero]; omega, fun k hk => by omega⟩
  | succ n ih =>
    rcases ih with ⟨m, hm, hc⟩ | h
    · left; exact ⟨m, by omega, hc⟩
    · by_cases h1 : pos s (n + 1) < s.size
      · right
        intro k hk
        rcases Nat.lt_or_eq_of_le hk with hk | rfl
        · exact h k (by omega)
        · exact h1
      · left
        refine ⟨n + 1, Nat.le_refl _, ?_, fun k hk => h k (by omega)⟩
        have := (pos_ge s (n + 1) (fun k hk => h k (by omega))).2
        omega
theorem cnt_is (s : ByteArray) : ∃ n, IsCnt s n := by
  rcases cnt_or s s.size with ⟨m, _, h⟩ | h
  · exact ⟨m, h⟩
  · have h1 := (pos_ge s s.size (fun k hk => h k (by omega))).1
    have h2 := h s.size (Nat.le_refl _)
    omega
theorem cnt_lt {s : ByteArray} {n m : Nat} (h : IsCnt s n) (hm : ∀ k, k < m → pos s k < s.size) : m ≤ n := by
  by_cases hc : m ≤ n
  · exact hc
  · have := hm n (by omega)
    have := h.1
    omega
theorem cnt_one {s : ByteArray} {n m : Nat} (h : IsCnt s n) (k : IsCnt s m) : n = m := Nat.le_antisymm (cnt_lt k h.2) (cnt_lt h k.2)
end Go.Proofs.YtncgmnijgdfenaaGreatDoor.Gl
