/- Reading words off a text: the plain function, and that it hangs on what stands there alone: plain mathematics. -/
import Derived.Test.YthimmohbedaimaaDoorGlJ
import Derived.Test.YthimmohbedaimaaDoorGlO
namespace Go.Proofs.YthimmohbedaimaaDoor.Gl
set_option linter.unusedVariables false

/-- u from d on goes as s does, and then ends, or goes on with a blank -/
structure Sim (u : ByteArray) (d : Nat) (s : ByteArray) : Prop where
  size : d + s.size ≤ u.size
  byte : ∀ j, j < s.size → bt u (d + j) = bt s j
  stop : d + s.size = u.size ∨ bt u (d + s.size) = 32
theorem acc_sim {u s : ByteArray} {d : Nat} (h : Sim u d s) (p x0 : Nat) : ∀ j, p + j < s.size → accB u (d + p) x0 j = accB s p x0 j
  | 0, _ => rfl
  | j + 1, hj => by
    rw [acc_succ, acc_succ, acc_sim h p x0 j (by omega), show d + p + (j + 1) = d + (p + (j + 1)) by omega, h.byte (p + (j + 1)) hj]
theorem cond_sim {u s : ByteArray} {d : Nat} (h : Sim u d s) (p x0 m : Nat) (Q : Nat → Prop) (hp : p < s.size) :
    (m < u.size - (d + p) ∧ (∀ k, k < m → 128 ≤ bt u (d + p + (k + 1)) ∧ bt u (d + p + (k + 1)) < 192) ∧ Q (accB u (d + p) x0 m)) ↔
    (m < s.size - p ∧ (∀ k, k < m → 128 ≤ bt s (p + (k + 1)) ∧ bt s (p + (k + 1)) < 192) ∧ Q (accB s p x0 m)) := by
  have hsz := h.size
  constructor
  · rintro ⟨h1, h2, h3⟩
    have hm : p + m < s.size := by
      by_cases hc : p + m < s.size
      · exact hc
      · have := h2 (s.size - p - 1) (by omega)
        rw [show d + p + (s.size - p - 1 + 1) = d + s.size by omega] at this
        rcases h.stop with e | e <;> omega
    refine ⟨by omega, fun k hk => ?_, ?_⟩
    · have := h2 k hk
      rwa [show d + p + (k + 1) = d + (p + (k + 1)) by omega, h.byte _ (by omega)] at this
    · rwa [acc_sim h p x0 m hm] at h3
  · rintro ⟨h1, h2, h3⟩
    refine ⟨by omega, fun k hk => ?_, ?_⟩
    · rw [show d + p + (k + 1) = d + (p + (k + 1)) by omega, h.byte _ (by omega)]; exact h2 k hk
    · rw [acc_sim h p x0 m (by omega)]; exact h3
theorem rd_sim {u s : ByteArray} {d : Nat} (h : Sim u d s) (p : Nat) (hp : p < s.size) : rdS u (d + p) = rdS s p := by
  have hb := bt_lt s p
  have e0 := h.byte p hp
  by_cases h1 : bt s p < 128
  · rw [rd_one s p h1, rd_one u _ (by rw [e0]; exact h1), e0]
  · by_cases h2 : (128 ≤ bt s p ∧ bt s p < 194) ∨ 245 ≤ bt s p
    · rw [rd_bad0 s p h2, rd_bad0 u _ (by rw [e0]; exact h2)]
    · by_cases h3 : bt s p < 224
      · rw [rd_two s p (by omega), rd_two u _ (by rw [e0]; omega), e0]
        have hq := cond_sim h p (bt s p - 192) 1 (fun c => 128 ≤ c ∧ c ≤ 1114111 ∧ ¬ (55296 ≤ c ∧ c ≤ 57343)) hp
        split
        · rename_i hc
          have hd := hq.1 hc
          have := hd.1
          rw [if_pos hd, acc_sim h p _ 1 (by omega)]
        · rename_i hc
          rw [if_neg (fun e => hc (hq.2 e))]
      · by_cases h4 : bt s p < 240
        · rw [rd_three s p (by omega), rd_three u _ (by rw [e0]; omega), e0]
          have hq := cond_sim h p (bt s p - 224) 2 (fun c => 2048 ≤ c ∧ c ≤ 1114111 ∧ ¬ (55296 ≤ c ∧ c ≤ 57343)) hp
          split
          · rename_i hc
            have hd := hq.1 hc
            have := hd.1
            rw [if_pos hd, acc_sim h p _ 2 (by omega)]
          · rename_i hc
            rw [if_neg (fun e => hc (hq.2 e))]
        · rw [rd_four s p (by omega), rd_four u _ (by rw [e0]; omega), e0]
          have hq := cond_sim h p (bt s p - 240) 3 (fun c => 65536 ≤ c ∧ c ≤ 1114111 ∧ ¬ (55296 ≤ c ∧ c ≤ 57343)) hp
          split
          · rename_i hc
            have hd := hq.1 hc
            have := hd.1
            rw [if_pos hd, acc_sim h p _ 3 (by omega)]
          · rename_i hc
            rw [if_neg (fun e => hc (hq.2 e))]
/- a window of a text -/
theorem bt_win (s : ByteArray) (a e j : Nat) (he : e ≤ s.size) (hj : a + j < e) : bt (s.extract a e) j = bt s (a + j) := bt_extract s a e j hj he
theorem size_win (s : ByteArray) (a e : Nat) (he : e ≤ s.size) : (s.extract a e).size = e - a := by rw [ByteArray.size_extract]; omega
theorem acc_win (s : ByteArray) (a e i x0 : Nat) (he : e ≤ s.size) : ∀ j, a + i + j < e → accB (s.extract a e) i x0 j = accB s (a + i) x0 j
  | 0, _ => rfl
  | j + 1, h => by rw [acc_succ, acc_succ, acc_win s a e i x0 he j (by omega), bt_win s a e (i + (j + 1)) he (by omega), show a + (i + (j + 1)) = a + i + (j + 1) by omega]
theorem cond_win (s : ByteArray) (a e i x0 m : Nat) (Q : Nat → Prop) (he : e ≤ s.size) (hi : a + i < e) :
    (m < (s.extract a e).size - i ∧ (∀ k, k < m → 128 ≤ bt (s.extract a e) (i + (k + 1)) ∧ bt (s.extract a e) (i + (k + 1)) < 192) ∧ Q (accB (s.extract a e) i x0 m)) ↔
    a + i + m < e ∧ (m < s.size - (a + i) ∧ (∀ k, k < m → 128 ≤ bt s (a + i + (k + 1)) ∧ bt s (a + i + (k + 1)) < 192) ∧ Q (accB s (a + i) x0 m)) := by
  rw [size_win s a e he]
  constructor
  · rintro ⟨h1, h2, h3⟩
    have hm : a + i + m < e := by omega
    refine ⟨hm, by omega, fun k hk => ?_, ?_⟩
    · have := h2 k hk
      rwa [bt_win s a e _ he (by omega), show a + (i + (k + 1)) = a + i + (k + 1) by omega] at this
    · rwa [acc_win s a e i x0 he m hm] at h3
  · rintro ⟨hm, h1, h2, h3⟩
    refine ⟨by omega, fun k hk => ?_, ?_⟩
    · rw [bt_win s a e _ he (by omega), show a + (i + (k + 1)) = a + i + (k + 1) by omega]; exact h2 k hk
    · rw [acc_win s a e i x0 he m hm]; exact h3
/-- a character that lies within the window is read there as in the text -/
theorem rd_win (s : ByteArray) (a e i : Nat) (he : e ≤ s.size) (hi : a + i + (rdS s (a + i)).2.1 ≤ e) (h : a + i < e) : rdS (s.extract a e) i = rdS s (a + i) := by
  have hb := bt_lt s (a + i)
  have e0 := bt_win s a e i he h
  by_cases h1 : bt s (a + i) < 128
  · rw [rd_one s _ h1, rd_one _ i (by rw [e0]; exact h1), e0]
  · by_cases h2 : (128 ≤ bt s (a + i) ∧ bt s (a + i) < 194) ∨ 245 ≤ bt s (a + i)
    · rw [rd_bad0 s _ h2, rd_bad0 _ i (by rw [e0]; exact h2)]
    · by_cases h3 : bt s (a + i) < 224
      · rw [rd_two s _ (by omega)] at hi ⊢
        rw [rd_two _ i (by rw [e0]; omega), e0]
        have hq := cond_win s a e i (bt s (a + i) - 192) 1 (fun c => 128 ≤ c ∧ c ≤ 1114111 ∧ ¬ (55296 ≤ c ∧ c ≤ 57343)) he h
        split at hi
        · rename_i hc
          dsimp only at hi
          rw [if_pos hc, if_pos (hq.2 ⟨by omega, hc⟩), acc_win s a e i _ he 1 (by omega)]
        · rename_i hc
          rw [if_neg hc, if_neg (fun h => hc (hq.1 h).2)]
      · by_cases h4 : bt s (a + i) < 240
        · rw [rd_three s _ (by omega)] at hi ⊢
          rw [rd_three _ i (by rw [e0]; omega), e0]
          have hq := cond_win s a e i (bt s (a + i) - 224) 2 (fun c => 2048 ≤ c ∧ c ≤ 1114111 ∧ ¬ (55296 ≤ c ∧ c ≤ 57343)) he h
          split at hi
          · rename_i hc
            dsimp only at hi
            rw [if_pos hc, if_pos (hq.2 ⟨by omega, hc⟩), acc_win s a e i _ he 2 (by omega)]
          · rename_i hc
            rw [if_neg hc, if_neg (fun h => hc (hq.1 h).2)]
        · rw [rd_four s _ (by omega)] at hi ⊢
          rw [rd_four _ i (by rw [e0]; omega), e0]
          have hq := cond_win s a e i (bt s (a + i) - 240) 3 (fun c => 65536 ≤ c ∧ c ≤ 1114111 ∧ ¬ (55296 ≤ c ∧ c ≤ 57343)) he h
          split at hi
          · rename_i hc
            dsimp only at hi
            rw [if_pos hc, if_pos (hq.2 ⟨by omega, hc⟩), acc_win s a e i _ he 3 (by omega)]
          · rename_i hc
            rw [if_neg hc, if_neg (fun h => hc (hq.1 h).2)]
/-- the first byte of an ASCII character is the character -/
theorem rd_ascii {s : ByteArray} {p : Nat} (h : (rdS s p).1 < 128) : bt s p = (rdS s p).1 ∧ (rdS s p).2.1 = 1 ∧ (rdS s p).2.2 = true := by
  have hb := bt_lt s p
  by_cases h1 : bt s p < 128
  · rw [rd_one s p h1]; exact ⟨rfl, rfl, rfl⟩
  · exfalso
    by_cases h2 : (128 ≤ bt s p ∧ bt s p < 194) ∨ 245 ≤ bt s p
    · rw [rd_bad0 s p h2] at h; dsimp only at h; omega
    · by_cases h3 : bt s p < 224
      · rw [rd_two s p (by omega)] at h
        split at h
        · rename_i hc; dsimp only at h; have := hc.2.2.1; omega
        · dsimp only at h; omega
      · by_cases h4 : bt s p < 240
        · rw [rd_three s p (by omega)] at h
          split at h
          · rename_i hc; dsimp only at h; have := hc.2.2.1; omega
          · dsimp only at h; omega
        · rw [rd_four s p (by omega)] at h
          split at h
          · rename_i hc; dsimp only at h; have := hc.2.2.1; omega
          · dsimp only at h; omega
end Go.Proofs.YthimmohbedaimaaDoor.Gl
