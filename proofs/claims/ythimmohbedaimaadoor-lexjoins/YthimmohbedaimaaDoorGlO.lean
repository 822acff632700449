/- A text cut at a character's end has the characters ahead of it: plain mathematics. -/
import Derived.Test.YthimmohbedaimaaDoorGlE
import Derived.Test.YthimmohbedaimaaDoorGlMb
namespace Go.Proofs.YthimmohbedaimaaDoor.Gl
set_option linter.unusedVariables false

def Cont (s : ByteArray) (i m : Nat) : Prop := ∀ k, k < m → 128 ≤ bt s (i + (k + 1)) ∧ bt s (i + (k + 1)) < 192
theorem bt_cut (s : ByteArray) (p j : Nat) (hp : p ≤ s.size) (hj : j < p) : bt (s.extract 0 p) j = bt s j := by
  rw [bt_extract s 0 p j (by omega) hp, Nat.zero_add]
theorem acc_cut (s : ByteArray) (p i x0 : Nat) (hp : p ≤ s.size) : ∀ j, i + j < p → accB (s.extract 0 p) i x0 j = accB s i x0 j
  | 0, _ => rfl
  | j + 1, h => by rw [acc_succ, acc_succ, acc_cut s p i x0 hp j (by omega), bt_cut s p (i + (j + 1)) hp (by omega)]
theorem cond_cut (s : ByteArray) (p i x0 m : Nat) (Q : Nat → Prop) (hp : p ≤ s.size) :
    (m < (s.extract 0 p).size - i ∧ (∀ k, k < m → 128 ≤ bt (s.extract 0 p) (i + (k + 1)) ∧ bt (s.extract 0 p) (i + (k + 1)) < 192) ∧ Q (accB (s.extract 0 p) i x0 m)) ↔
    i + m < p ∧ (m < s.size - i ∧ (∀ k, k < m → 128 ≤ bt s (i + (k + 1)) ∧ bt s (i + (k + 1)) < 192) ∧ Q (accB s i x0 m)) := by
  have hsz : (s.extract 0 p).size = p := by rw [ByteArray.size_extract]; omega
  rw [hsz]
  constructor
  · rintro ⟨h1, h2, h3⟩
    have hm : i + m < p := by omega
    refine ⟨hm, by omega, fun k hk => ?_, ?_⟩
    · have := h2 k hk
      rwa [bt_cut s p _ hp (by omega)] at this
    · rwa [acc_cut s p i x0 hp m hm] at h3
  · rintro ⟨hm, h1, h2, h3⟩
    refine ⟨by omega, fun k hk => ?_, ?_⟩
    · rw [bt_cut s p _ hp (by omega)]; exact h2 k hk
    · rw [acc_cut s p i x0 hp m hm]; exact h3
theorem rd_cut (s : ByteArray) (p i : Nat) (hp : p ≤ s.size) (hi : i + (rdS s i).2.1 ≤ p) (h : i < p) : rdS (s.extract 0 p) i = rdS s i := by
  have hb := bt_lt s i
  have e0 := bt_cut s p i hp h
  by_cases h1 : bt s i < 128
  · rw [rd_one s i h1, rd_one _ i (by rw [e0]; exact h1), e0]
  · by_cases h2 : (128 ≤ bt s i ∧ bt s i < 194) ∨ 245 ≤ bt s i
    · rw [rd_bad0 s i h2, rd_bad0 _ i (by rw [e0]; exact h2)]
    · by_cases h3 : bt s i < 224
      · rw [rd_two s i (by omega)] at hi ⊢
        rw [rd_two _ i (by rw [e0]; omega), e0]
        have hq := cond_cut s p i (bt s i - 192) 1 (fun c => 128 ≤ c ∧ c ≤ 1114111 ∧ ¬ (55296 ≤ c ∧ c ≤ 57343)) hp
        split at hi
        · rename_i hc
          dsimp only at hi
          rw [if_pos hc, if_pos (hq.2 ⟨by omega, hc⟩), acc_cut s p i _ hp 1 (by omega)]
        · rename_i hc
          rw [if_neg hc, if_neg (fun h => hc (hq.1 h).2)]
      · by_cases h4 : bt s i < 240
        · rw [rd_three s i (by omega)] at hi ⊢
          rw [rd_three _ i (by rw [e0]; omega), e0]
          have hq := cond_cut s p i (bt s i - 224) 2 (fun c => 2048 ≤ c ∧ c ≤ 1114111 ∧ ¬ (55296 ≤ c ∧ c ≤ 57343)) hp
          split at hi
          · rename_i hc
            dsimp only at hi
            rw [if_pos hc, if_pos (hq.2 ⟨by omega, hc⟩), acc_cut s p i _ hp 2 (by omega)]
          · rename_i hc
            rw [if_neg hc, if_neg (fun h => hc (hq.1 h).2)]
        · rw [rd_four s i (by omega)] at hi ⊢
          rw [rd_four _ i (by rw [e0]; omega), e0]
          have hq := cond_cut s p i (bt s i - 240) 3 (fun c => 65536 ≤ c ∧ c ≤ 1114111 ∧ ¬ (55296 ≤ c ∧ c ≤ 57343)) hp
          split at hi
          · rename_i hc
            dsimp only at hi
            rw [if_pos hc, if_pos (hq.2 ⟨by omega, hc⟩), acc_cut s p i _ hp 3 (by omega)]
          · rename_i hc
            rw [if_neg hc, if_neg (fun h => hc (hq.1 h).2)]
theorem pos_mono (s : ByteArray) (k j : Nat) (h : ∀ i, i < k → pos s i < s.size) (hj : j < k) : pos s j < pos s k ∧ pos s (j + 1) ≤ pos s k := by
  induction k with
  | zero => omega
  | succ k ih =>
    have hb := rd_bd s (pos s k) (h k (by omega))
    have hs := pos_succ s k
    rcases Nat.lt_succ_iff_lt_or_eq.1 hj with hj | rfl
    · have := ih (fun i hi => h i (by omega)) hj
      omega
    · omega
theorem cnt_cut (s : ByteArray) (k : Nat) (h : ∀ i, i < k → pos s i < s.size) : IsCnt (s.extract 0 (pos s k)) k := by
  have hp := (pos_ge s k h).2
  have key : ∀ j, j ≤ k → pos (s.extract 0 (pos s k)) j = pos s j := by
    intro j
    induction j with
    | zero => intro _; rfl
    | succ j ih =>
      intro hj
      obtain ⟨m1, m2⟩ := pos_mono s k j h (by omega)
      rw [pos_succ, ih (by omega), pos_succ, rd_cut s (pos s k) (pos s j) hp (by rw [← pos_succ]; exact m2) m1]
  refine ⟨?_, fun j hj => ?_⟩
  · rw [key k (Nat.le_refl _), ByteArray.size_extract]; omega
  · rw [key j (by omega), ByteArray.size_extract]
    have := (pos_mono s k j h hj).1
    omega
/-- what 'good' holds behind k characters -/
def Gd (s : ByteArray) (k gk g : Nat) : Prop := (Oks s k ∧ gk = s.size) ∨ (¬ Oks s k ∧ gk = g ∧ g ≤ pos s k)
theorem gd_start (s : ByteArray) (g : Nat) : Gd s 0 s.size g := .inl ⟨fun j hj => absurd hj (by omega), rfl⟩
theorem gd_ok {s : ByteArray} {k gk g : Nat} (h : Gd s k gk g) (hlt : pos s k < s.size) (ho : (rdS s (pos s k)).2.2 = true) : Gd s (k + 1) gk g := by
  rcases h with ⟨h1, h2⟩ | ⟨h1, h2, h3⟩
  · refine .inl ⟨fun j hj => ?_, h2⟩
    rcases Nat.lt_succ_iff_lt_or_eq.1 hj with hj | rfl
    · exact h1 j hj
    · exact ⟨hlt, ho⟩
  · exact .inr ⟨fun h => h1 (fun j hj => h j (by omega)), h2, by have := pos_succ s k; omega⟩
theorem gd_bad {s : ByteArray} {k gk g : Nat} (h : Gd s k gk g) (hg : IsGood s g) (hlt : pos s k < s.size) (ho : (rdS s (pos s k)).2.2 = false) : Gd s (k + 1) (min gk (pos s k)) g := by
  have hn : ¬ Oks s (k + 1) := fun h => by have := (h k (by omega)).2; rw [ho] at this; cases this
  have hs := pos_succ s k
  rcases h with ⟨h1, h2⟩ | ⟨h1, h2, h3⟩
  · have := good_one hg ⟨k, rfl, h1, .inr ⟨hlt, ho⟩⟩
    exact .inr ⟨hn, by omega, by omega⟩
  · exact .inr ⟨hn, by omega, by omega⟩
theorem gd_end {s : ByteArray} {k gk g : Nat} (h : Gd s k gk g) (hg : IsGood s g) (he : pos s k = s.size) : gk = g := by
  rcases h with ⟨h1, h2⟩ | ⟨_, h2, _⟩
  · have := good_one hg ⟨k, rfl, h1, .inl he⟩
    omega
  · exact h2
theorem gd_le {s : ByteArray} {k gk g : Nat} (h : Gd s k gk g) (hp : pos s k ≤ s.size) : gk ≤ s.size := by
  rcases h with ⟨_, h2⟩ | ⟨_, h2, h3⟩ <;> omega
theorem nms_succ {s : ByteArray} {k : Nat} (hlt : pos s k < s.size) : Nms s (k + 1) ↔ Nms s k ∧ reB ((rdS s (pos s k)).1 : Nat) = true ∧ (k = 0 → stB ((rdS s (pos s k)).1 : Nat) = true) := by
  constructor
  · intro h
    exact ⟨fun j hj => h j (by omega), (h k (by omega)).2.2.1, (h k (by omega)).2.2.2⟩
  · rintro ⟨h1, h2, h3⟩ j hj
    rcases Nat.lt_succ_iff_lt_or_eq.1 hj with hj | rfl
    · exact h1 j hj
    · refine ⟨hlt, ?_, h2, h3⟩
      by_cases hc : (rdS s (pos s j)).1 = 65533
      · rw [hc] at h2; exact absurd h2 (by decide)
      · exact rd_ok s _ hc
theorem name_iff {s : ByteArray} {k : Nat} (h : IsCnt s k) : IsName s ↔ Nms s k ∧ 1 ≤ k ∧ k ≤ 16 ∧ rsB s = false := by
  constructor
  · rintro ⟨⟨n, hn, h1, h2, h3⟩, h4⟩
    have := cnt_one hn h
    subst this
    exact ⟨h3, h1, h2, h4⟩
  · rintro ⟨h1, h2, h3, h4⟩
    exact ⟨⟨k, h, h2, h3, h1⟩, h4⟩
end Go.Proofs.YthimmohbedaimaaDoor.Gl
