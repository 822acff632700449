/- U+FFFD in a text: plain mathematics. -/
import Derived.Test.YtabfhdmcljdjhaaGreatDoorGlMath
import Derived.Laws.Strings
import Derived.Test.YtabfhdmcljdjhaaGreatDoorGlE
namespace Go.Proofs.YtabfhdmcljdjhaaGreatDoor.Gl
set_option linter.unusedVariables false

/-- the three bytes of U+FFFD stand at p -/
def Fd (s : ByteArray) (p : Nat) : Prop := p + 3 ≤ s.size ∧ bt s p = 239 ∧ bt s (p + 1) = 191 ∧ bt s (p + 2) = 189
theorem rd_fffd (s : ByteArray) (p : Nat) (hp : p < s.size) (h : (rdS s p).1 = 65533) : (rdS s p).2.2 = true ↔ Fd s p := by
  have hb := bt_lt s p
  have hb1 := bt_lt s (p + 1)
  have hb2 := bt_lt s (p + 2)
  unfold Fd
  by_cases h1 : bt s p < 128
  · rw [rd_one s p h1] at h; dsimp only at h; omega
  · by_cases h2 : (128 ≤ bt s p ∧ bt s p < 194) ∨ 245 ≤ bt s p
    · rw [rd_bad0 s p h2]; dsimp only
      exact ⟨fun e => (by cases e), fun e => (by omega)⟩
    · by_cases h3 : bt s p < 224
      · rw [rd_two s p (by omega)] at h ⊢
        split at h
        · rename_i hc
          have e : accB s p (bt s p - 192) 1 = (bt s p - 192) * 64 + (bt s (p + 1) - 128) := rfl
          dsimp only at h
          have := hc.2.1 0 (by omega)
          omega
        · rename_i hc
          rw [if_neg hc]; dsimp only
          exact ⟨fun e => (by cases e), fun e => (by omega)⟩
      · by_cases h4 : bt s p < 240
        · have e : accB s p (bt s p - 224) 2 = ((bt s p - 224) * 64 + (bt s (p + 1) - 128)) * 64 + (bt s (p + 2) - 128) := rfl
          rw [rd_three s p (by omega)] at h ⊢
          split at h
          · rename_i hc
            rw [if_pos hc]; dsimp only at h ⊢
            have k0 := hc.2.1 0 (by omega)
            have k1 := hc.2.1 1 (by omega)
            have hc1 := hc.1
            refine ⟨fun _ => ?_, fun _ => rfl⟩
            rw [e] at h
            have k1' : 128 ≤ bt s (p + 2) ∧ bt s (p + 2) < 192 := k1
            simp only [Nat.zero_add] at k0
            omega
          · rename_i hc
            rw [if_neg hc]; dsimp only
            refine ⟨fun e => (by cases e), fun ⟨f0, f1, f2, f3⟩ => absurd ⟨by omega, ?_, ?_⟩ hc⟩
            · intro k hk
              rcases (show k = 0 ∨ k = 1 by omega) with rfl | rfl
              · simp only [Nat.zero_add]; omega
              · show 128 ≤ bt s (p + 2) ∧ bt s (p + 2) < 192
                omega
            · rw [e, f1, f2, f3]; omega
        · rw [rd_four s p (by omega)] at h ⊢
          split at h
          · rename_i hc
            dsimp only at h
            have := hc.2.2.1
            omega
          · rename_i hc
            rw [if_neg hc]; dsimp only
            exact ⟨fun e => (by cases e), fun e => (by omega)⟩
theorem rd_ok (s : ByteArray) (p : Nat) (h : (rdS s p).1 ≠ 65533) : (rdS s p).2.2 = true := by
  unfold rdS at h ⊢
  dsimp only at h ⊢
  have : ((Utf8.decode s p).1 == 65533) = false := by simpa using h
  rw [this]; rfl
theorem bt_extract (s : ByteArray) (i j k : Nat) (h : i + k < j) (hj : j ≤ s.size) : bt (s.extract i j) k = bt s (i + k) := by
  rw [bt_of _ k (by rw [ByteArray.size_extract]; omega), bt_of s (i + k) (by omega), ByteArray.getElem_extract]
theorem list_three (t : ByteArray) (h : t.size = 3) : t.toList = [t[0], t[1], t[2]] := by
  rw [ByteArray.toList_eq]
  cases t with
  | mk d =>
    have hd : d.size = 3 := h
    have hl : d.toList.length = 3 := by simpa using hd
    apply List.ext_getElem
    · simp [hd]
    · intro i h1 h2
      rcases (show i = 0 ∨ i = 1 ∨ i = 2 by simp at h2; omega) with rfl | rfl | rfl <;> rfl
theorem three_iff (t : ByteArray) (h : t.size = 3) : (t.toList == [239, 191, 189]) = true ↔ bt t 0 = 239 ∧ bt t 1 = 191 ∧ bt t 2 = 189 := by
  rw [beq_iff_eq, list_three t h, bt_of t 0 (by omega), bt_of t 1 (by omega), bt_of t 2 (by omega)]
  simp only [List.cons.injEq, and_true]
  have key : ∀ (x : UInt8) (n : Nat) (hn : n < 256), x = UInt8.ofNat n ↔ x.toNat = n := fun x n hn => by
    rw [← UInt8.toNat_inj, UInt8.toNat_ofNat']; omega
  rw [← key t[0] 239 (by omega), ← key t[1] 191 (by omega), ← key t[2] 189 (by omega)]
  exact Iff.rfl
/-- 's[p:p+3]' is U+FFFD -/
theorem cut3_iff (s : ByteArray) (p : Nat) (h : p + 3 ≤ s.size) : ((s.extract p (p + 3)).toList == [239, 191, 189]) = true ↔ Fd s p := by
  rw [three_iff _ (by rw [ByteArray.size_extract]; omega), bt_extract s p (p + 3) 0 (by omega) h, bt_extract s p (p + 3) 1 (by omega) h, bt_extract s p (p + 3) 2 (by omega) h]
  unfold Fd
  exact ⟨fun ⟨a, b, c⟩ => ⟨h, a, b, c⟩, fun ⟨_, a, b, c⟩ => ⟨a, b, c⟩⟩
/-- the beginning of 's[p:]' is U+FFFD -/
theorem pre3_iff (s : ByteArray) (p : Nat) (hp : p ≤ s.size) (h : 3 ≤ (s.extract p s.size).size) : (((s.extract p s.size).extract 0 3).toList == [239, 191, 189]) = true ↔ Fd s p := by
  have h' : p + 3 ≤ s.size := by rw [ByteArray.size_extract] at h; omega
  have e : ∀ k, k < 3 → bt ((s.extract p s.size).extract 0 3) k = bt s (p + k) := fun k hk => by
    rw [bt_extract _ 0 3 k (by omega) h, bt_extract s p s.size (0 + k) (by omega) (Nat.le_refl _), Nat.zero_add]
  rw [three_iff _ (by rw [ByteArray.size_extract]; omega), e 0 (by omega), e 1 (by omega), e 2 (by omega)]
  unfold Fd
  exact ⟨fun ⟨a, b, c⟩ => ⟨h', a, b, c⟩, fun ⟨_, a, b, c⟩ => ⟨a, b, c⟩⟩
theorem pre3_no (s : ByteArray) (p : Nat) (hp : p ≤ s.size) (h : (s.extract p s.size).size < 3) : ¬ Fd s p := by
  rintro ⟨h1, _⟩
  rw [ByteArray.size_extract] at h; omega
end Go.Proofs.YtabfhdmcljdjhaaGreatDoor.Gl
/- A text cut at a character's end has the characters ahead of it: plain mathematics. -/
namespace Go.Proofs.YtabfhdmcljdjhaaGreatDoor.Gl
set_option linter.unusedVariables false

def Cont (s : ByteArray) (i m : Nat) : Prop := ∀ k, k < m → 128 ≤ bt s (i + (k + 1)) ∧ bt s (i + (k + 1)) < 192
theorem bt_cut (s : ByteArray) (p j : Nat) (hp : p ≤ s.size) (hj : j < p) : bt (s.extract 0 p) j = bt s j := by
  rw [bt_extract s 0 p j (by omega) hp, Nat.zero_add]
theorem acc_cut (s : ByteArray) (p i x0 : Nat) (hp : p ≤ s.size) : ∀ j, i + j < p → accB (s.extract 0 p) i x0 j = accB s i x0 j
  | 0, _ => rfl
  | j + 1, h => by rw [acc_succ, acc_succ, acc_cut s p i x0 hp j (by omega), bt_cut s p (i + (j + 1)) hp (by omega)]
theorem cond_cut (s : ByteArray) (p i x0 m : Nat) (Q : Nat → Prop) (hp : p ≤ s.size) :
    (m < (s.extract 0 p).size - i ∧ (∀ k, k < m → 128 ≤ bt (s.extract 0 p) (i + (k + 1)) ∧ bt (s.extract 0 p) (i + (k + 1)) < 192) ∧ Q (accB (s.extract 0 p) i x0 m)) ↔
    i + m < p ∧ (m < s.size - i ∧ (∀ k, k < m → 128 ≤ bt s (i + (k + 1)) ∧ bt s (i + (k + 1)) < 192) ∧ Q (accB s i x0 m)) := by
  have hsz : (s.extract 0 p).size = p := by rw [ByteArray.size_extract]; omega
  rw [hsz]
  constructor
  · rintro ⟨h1, h2, h3⟩
    have hm : i + m < p := by omega
    refine ⟨hm, by omega, fun k hk => ?_, ?_⟩
    · have := h2 k hk
      rwa [bt_cut s p _ hp (by omega)] at this
    · rwa [acc_cut s p i x0 hp m hm] at h3
  · rintro ⟨hm, h1, h2, h3⟩
    refine ⟨by omega, fun k hk => ?_, ?_⟩
    · rw [bt_cut s p _ hp (by omega)]; exact h2 k hk
    · rw [acc_cut s p i x0 hp m hm]; exact h3
theorem rd_cut (s : ByteArray) (p i : Nat) (hp : p ≤ s.size) (hi : i + (rdS s i).2.1 ≤ p) (h : i < p) : rdS (s.extract 0 p) i = rdS s i := by
  have hb := bt_lt s i
  have e0 := bt_cut s p i hp h
  by_cases h1 : bt s i < 128
  · rw [rd_one s i h1, rd_one _ i (by rw [e0]; exact h1), e0]
  · by_cases h2 : (128 ≤ bt s i ∧ bt s i < 194) ∨ 245 ≤ bt s i
    · rw [rd_bad0 s i h2, rd_bad0 _ i (by rw [e0]; exact h2)]
    · by_cases h3 : bt s i < 224
      · rw [rd_two s i (by omega)] at hi ⊢
        rw [rd_two _ i (by rw [e0]; omega), e0]
        have hq := cond_cut s p i (bt s i - 192) 1 (fun c => 128 ≤ c ∧ c ≤ 1114111 ∧ ¬ (55296 ≤ c ∧ c ≤ 57343)) hp
        split at hi
        · rename_i hc
          dsimp only at hi
          rw [if_pos hc, if_pos (hq.2 ⟨by omega, hc⟩), acc_cut s p i _ hp 1 (by omega)]
        · rename_i hc
          rw [if_neg hc, if_neg (fun h => hc (hq.1 h).2)]
      · by_cases h4 : bt s i < 240
        · rw [rd_three s i (by omega)] at hi ⊢
          rw [rd_three _ i (by rw [e0]; omega), e0]
          have hq := cond_cut s p i (bt s i - 224) 2 (fun c => 2048 ≤ c ∧ c ≤ 1114111 ∧ ¬ (55296 ≤ c ∧ c ≤ 57343)) hp
          split at hi
          · rename_i hc
            dsimp only at hi
            rw [if_pos hc, if_pos (hq.2 ⟨by omega, hc⟩), acc_cut s p i _ hp 2 (by omega)]
          · rename_i hc
            rw [if_neg hc, if_neg (fun h => hc (hq.1 h).2)]
        · rw [rd_four s i (by omega)] at hi ⊢
          rw [rd_four _ i (by rw [e0]; omega), e0]
          have hq := cond_cut s p i (bt s i - 240) 3 (fun c => 65536 ≤ c ∧ c ≤ 1114111 ∧ ¬ (55296 ≤ c ∧ c ≤ 57343)) hp
          split at hi
          · rename_i hc
            dsimp only at hi
            rw [if_pos hc, if_pos (hq.2 ⟨by omega, hc⟩), acc_cut s p i _ hp 3 (by omega)]
          · rename_i hc
            rw [if_neg hc, if_neg (fun h => hc (hq.1 h).2)]
theorem pos_mono (s : ByteArray) (k j : Nat) (h : ∀ i, i < k → pos s i < s.size) (hj : j < k) : pos s j < pos s k ∧ pos s (j + 1) ≤ pos s k := by
  induction k with
  | zero => omega
  | succ k ih =>
    have hb := rd_bd s (pos s k) (h k (by omega))
    have hs := pos_succ s k
    rcases Nat.lt_succ_iff_lt_or_eq.1 hj with hj | rfl
    · have := ih (fun i hi => h i (by omega)) hj
      omega
    · omega
theorem cnt_cut (s : ByteArray) (k : Nat) (h : ∀ i, i < k → pos s i < s.size) : IsCnt (s.extract 0 (pos s k)) k := by
  have hp := (pos_ge s k h).2
  have key : ∀ j, j ≤ k → pos (s.extract 0 (pos s k)) j = pos s j := by
    intro j
    induction j with
    | zero => intro _; rfl
    | succ j ih =>
      intro hj
      obtain ⟨m1, m2⟩ := pos_mono s k j h (by omega)
      rw [pos_succ, ih (by omega), pos_succ, rd_cut s (pos s k) (pos s j) hp (by rw [← pos_succ]; exact m2) m1]
  refine ⟨?_, fun j hj => ?_⟩
  · rw [key k (Nat.le_refl _), ByteArray.size_extract]; omega
  · rw [key j (by omega), ByteArray.size_extract]
    have := (pos_mono s k j h hj).1
    omega
/-- what 'good' holds behind k characters -/
def Gd (s : ByteArray) (k gk g : Nat) : Prop := (Oks s k ∧ gk = s.size) ∨ (¬ Oks s k ∧ gk = g ∧ g ≤ pos s k)
theorem gd_start (s : ByteArray) (g : Nat) : Gd s 0 s.size g := .inl ⟨fun j hj => absurd hj (by omega), rfl⟩
theorem gd_ok {s : ByteArray} {k gk g : Nat} (h : Gd s k gk g) (hlt : pos s k < s.size) (ho : (rdS s (pos s k)).2.2 = true) : Gd s (k + 1) gk g := by
  rcases h with ⟨h1, h2⟩ | ⟨h1, h2, h3⟩
  · refine .inl ⟨fun j hj => ?_, h2⟩
    rcases Nat.lt_succ_iff_lt_or_eq.1 hj with hj | rfl
    · exact h1 j hj
    · exact ⟨hlt, ho⟩
  · exact .inr ⟨fun h => h1 (fun j hj => h j (by omega)), h2, by have := pos_succ s k; omega⟩
theorem gd_bad {s : ByteArray} {k gk g : Nat} (h : Gd s k gk g) (hg : IsGood s g) (hlt : pos s k < s.size) (ho : (rdS s (pos s k)).2.2 = false) : Gd s (k + 1) (min gk (pos s k)) g := by
  have hn : ¬ Oks s (k + 1) := fun h => by have := (h k (by omega)).2; rw [ho] at this; cases this
  have hs := pos_succ s k
  rcases h with ⟨h1, h2⟩ | ⟨h1, h2, h3⟩
  · have := good_one hg ⟨k, rfl, h1, .inr ⟨hlt, ho⟩⟩
    exact .inr ⟨hn, by omega, by omega⟩
  · exact .inr ⟨hn, by omega, by omega⟩
theorem gd_end {s : ByteArray} {k gk g : Nat} (h : Gd s k gk g) (hg : IsGood s g) (he : pos s k = s.size) : gk = g := by
  rcases h with ⟨h1, h2⟩ | ⟨_, h2, _⟩
  · have := good_one hg ⟨k, rfl, h1, .inl he⟩
    omega
  · exact h2
theorem gd_le {s : ByteArray} {k gk g : Nat} (h : Gd s k gk g) (hp : pos s k ≤ s.size) : gk ≤ s.size := by
  rcases h with ⟨_, h2⟩ | ⟨_, h2, h3⟩ <;> omega
theorem nms_succ {s : ByteArray} {k : Nat} (hlt : pos s k < s.size) : Nms s (k + 1) ↔ Nms s k ∧ reB ((rdS s (pos s k)).1 : Nat) = true ∧ (k = 0 → stB ((rdS s (pos s k)).1 : Nat) = true) := by
  constructor
  · intro h
    exact ⟨fun j hj => h j (by omega), (h k (by omega)).2.2.1, (h k (by omega)).2.2.2⟩
  · rintro ⟨h1, h2, h3⟩ j hj
    rcases Nat.lt_succ_iff_lt_or_eq.1 hj with hj | rfl
    · exact h1 j hj
    · refine ⟨hlt, ?_, h2, h3⟩
      by_cases hc : (rdS s (pos s j)).1 = 65533
      · rw [hc] at h2; exact absurd h2 (by decide)
      · exact rd_ok s _ hc
theorem name_iff {s : ByteArray} {k : Nat} (h : IsCnt s k) : IsName s ↔ Nms s k ∧ 1 ≤ k ∧ k ≤ 16 ∧ rsB s = false := by
  constructor
  · rintro ⟨⟨n, hn, h1, h2, h3⟩, h4⟩
    have := cnt_one hn h
    subst this
    exact ⟨h3, h1, h2, h4⟩
  · rintro ⟨h1, h2, h3, h4⟩
    exact ⟨⟨k, h, h2, h3, h1⟩, h4⟩
end Go.Proofs.YtabfhdmcljdjhaaGreatDoor.Gl
/- Reading words off a text: the plain function, and that it hangs on what stands there alone: plain mathematics. -/
namespace Go.Proofs.YtabfhdmcljdjhaaGreatDoor.Gl
set_option linter.unusedVariables false

/-- u from d on goes as s does, and then ends, or goes on with a blank -/
structure Sim (u : ByteArray) (d : Nat) (s : ByteArray) : Prop where
  size : d + s.size ≤ u.size
  byte : ∀ j, j < s.size → bt u (d + j) = bt s j
  stop : d + s.size = u.size ∨ bt u (d + s.size) = 32
theorem acc_sim {u s : ByteArray} {d : Nat} (h : Sim u d s) (p x0 : Nat) : ∀ j, p + j < s.size → accB u (d + p) x0 j = accB s p x0 j
  | 0, _ => rfl
  | j + 1, hj => by
    rw [acc_succ, acc_succ, acc_sim h p x0 j (by omega), show d + p + (j + 1) = d + (p + (j + 1)) by omega, h.byte (p + (j + 1)) hj]
theorem cond_sim {u s : ByteArray} {d : Nat} (h : Sim u d s) (p x0 m : Nat) (Q : Nat → Prop) (hp : p < s.size) :
    (m < u.size - (d + p) ∧ (∀ k, k < m → 128 ≤ bt u (d + p + (k + 1)) ∧ bt u (d + p + (k + 1)) < 192) ∧ Q (accB u (d + p) x0 m)) ↔
    (m < s.size - p ∧ (∀ k, k < m → 128 ≤ bt s (p + (k + 1)) ∧ bt s (p + (k + 1)) < 192) ∧ Q (accB s p x0 m)) := by
  have hsz := h.size
  constructor
  · rintro ⟨h1, h2, h3⟩
    have hm : p + m < s.size := by
      by_cases hc : p + m < s.size
      · exact hc
      · have := h2 (s.size - p - 1) (by omega)
        rw [show d + p + (s.size - p - 1 + 1) = d + s.size by omega] at this
        rcases h.stop with e | e <;> omega
    refine ⟨by omega, fun k hk => ?_, ?_⟩
    · have := h2 k hk
      rwa [show d + p + (k + 1) = d + (p + (k + 1)) by omega, h.byte _ (by omega)] at this
    · rwa [acc_sim h p x0 m hm] at h3
  · rintro ⟨h1, h2, h3⟩
    refine ⟨by omega, fun k hk => ?_, ?_⟩
    · rw [show d + p + (k + 1) = d + (p + (k + 1)) by omega, h.byte _ (by omega)]; exact h2 k hk
    · rw [acc_sim h p x0 m (by omega)]; exact h3
theorem rd_sim {u s : ByteArray} {d : Nat} (h : Sim u d s) (p : Nat) (hp : p < s.size) : rdS u (d + p) = rdS s p := by
  have hb := bt_lt s p
  have e0 := h.byte p hp
  by_cases h1 : bt s p < 128
  · rw [rd_one s p h1, rd_one u _ (by rw [e0]; exact h1), e0]
  · by_cases h2 : (128 ≤ bt s p ∧ bt s p < 194) ∨ 245 ≤ bt s p
    · rw [rd_bad0 s p h2, rd_bad0 u _ (by rw [e0]; exact h2)]
    · by_cases h3 : bt s p < 224
      · rw [rd_two s p (by omega), rd_two u _ (by rw [e0]; omega), e0]
        have hq := cond_sim h p (bt s p - 192) 1 (fun c => 128 ≤ c ∧ c ≤ 1114111 ∧ ¬ (55296 ≤ c ∧ c ≤ 57343)) hp
        split
        · rename_i hc
          have hd := hq.1 hc
          have := hd.1
          rw [if_pos hd, acc_sim h p _ 1 (by omega)]
        · rename_i hc
          rw [if_neg (fun e => hc (hq.2 e))]
      · by_cases h4 : bt s p < 240
        · rw [rd_three s p (by omega), rd_three u _ (by rw [e0]; omega), e0]
          have hq := cond_sim h p (bt s p - 224) 2 (fun c => 2048 ≤ c ∧ c ≤ 1114111 ∧ ¬ (55296 ≤ c ∧ c ≤ 57343)) hp
          split
          · rename_i hc
            have hd := hq.1 hc
            have := hd.1
            rw [if_pos hd, acc_sim h p _ 2 (by omega)]
          · rename_i hc
            rw [if_neg (fun e => hc (hq.2 e))]
        · rw [rd_four s p (by omega), rd_four u _ (by rw [e0]; omega), e0]
          have hq := cond_sim h p (bt s p - 240) 3 (fun c => 65536 ≤ c ∧ c ≤ 1114111 ∧ ¬ (55296 ≤ c ∧ c ≤ 57343)) hp
          split
          · rename_i hc
            have hd := hq.1 hc
            have := hd.1
            rw [if_pos hd, acc_sim h p _ 3 (by omega)]
          · rename_i hc
            rw [if_neg (fun e => hc (hq.2 e))]
/- a window of a text -/
theorem bt_win (s : ByteArray) (a e j : Nat) (he : e ≤ s.size) (hj : a + j < e) : bt (s.extract a e) j = bt s (a + j) := bt_extract s a e j hj he
theorem size_win (s : ByteArray) (a e : Nat) (he : e ≤ s.size) : (s.extract a e).size = e - a := by rw [ByteArray.size_extract]; omega
theorem acc_win (s : ByteArray) (a e i x0 : Nat) (he : e ≤ s.size) : ∀ j, a + i + j < e → accB (s.extract a e) i x0 j = accB s (a + i) x0 j
  | 0, _ => rfl
  | j + 1, h => by rw [acc_succ, acc_succ, acc_win s a e i x0 he j (by omega), bt_win s a e (i + (j + 1)) he (by omega), show a + (i + (j + 1)) = a + i + (j + 1) by omega]
theorem cond_win (s : ByteArray) (a e i x0 m : Nat) (Q : Nat → Prop) (he : e ≤ s.size) (hi : a + i < e) :
    (m < (s.extract a e).size - i ∧ (∀ k, k < m → 128 ≤ bt (s.extract a e) (i + (k + 1)) ∧ bt (s.extract a e) (i + (k + 1)) < 192) ∧ Q (accB (s.extract a e) i x0 m)) ↔
    a + i + m < e ∧ (m < s.size - (a + i) ∧ (∀ k, k < m → 128 ≤ bt s (a + i + (k + 1)) ∧ bt s (a + i + (k + 1)) < 192) ∧ Q (accB s (a + i) x0 m)) := by
  rw [size_win s a e he]
  constructor
  · rintro ⟨h1, h2, h3⟩
    have hm : a + i + m < e := by omega
    refine ⟨hm, by omega, fun k hk => ?_, ?_⟩
    · have := h2 k hk
      rwa [bt_win s a e _ he (by omega), show a + (i + (k + 1)) = a + i + (k + 1) by omega] at this
    · rwa [acc_win s a e i x0 he m hm] at h3
  · rintro ⟨hm, h1, h2, h3⟩
    refine ⟨by omega, fun k hk => ?_, ?_⟩
    · rw [bt_win s a e _ he (by omega), show a + (i + (k + 1)) = a + i + (k + 1) by omega]; exact h2 k hk
    · rw [acc_win s a e i x0 he m hm]; exact h3
/-- a character that lies within the window is read there as in the text -/
theorem rd_win (s : ByteArray) (a e i : Nat) (he : e ≤ s.size) (hi : a + i + (rdS s (a + i)).2.1 ≤ e) (h : a + i < e) : rdS (s.extract a e) i = rdS s (a + i) := by
  have hb := bt_lt s (a + i)
  have e0 := bt_win s a e i he h
  by_cases h1 : bt s (a + i) < 128
  · rw [rd_one s _ h1, rd_one _ i (by rw [e0]; exact h1), e0]
  · by_cases h2 : (128 ≤ bt s (a + i) ∧ bt s (a + i) < 194) ∨ 245 ≤ bt s (a + i)
    · rw [rd_bad0 s _ h2, rd_bad0 _ i (by rw [e0]; exact h2)]
    · by_cases h3 : bt s (a + i) < 224
      · rw [rd_two s _ (by omega)] at hi ⊢
        rw [rd_two _ i (by rw [e0]; omega), e0]
        have hq := cond_win s a e i (bt s (a + i) - 192) 1 (fun c => 128 ≤ c ∧ c ≤ 1114111 ∧ ¬ (55296 ≤ c ∧ c ≤ 57343)) he h
        split at hi
        · rename_i hc
          dsimp only at hi
          rw [if_pos hc, if_pos (hq.2 ⟨by omega, hc⟩), acc_win s a e i _ he 1 (by omega)]
        · rename_i hc
          rw [if_neg hc, if_neg (fun h => hc (hq.1 h).2)]
      · by_cases h4 : bt s (a + i) < 240
        · rw [rd_three s _ (by omega)] at hi ⊢
          rw [rd_three _ i (by rw [e0]; omega), e0]
          have hq := cond_win s a e i (bt s (a + i) - 224) 2 (fun c => 2048 ≤ c ∧ c ≤ 1114111 ∧ ¬ (55296 ≤ c ∧ c ≤ 57343)) he h
          split at hi
          · rename_i hc
            dsimp only at hi
            rw [if_pos hc, if_pos (hq.2 ⟨by omega, hc⟩), acc_win s a e i _ he 2 (by omega)]
          · rename_i hc
            rw [if_neg hc, if_neg (fun h => hc (hq.1 h).2)]
        · rw [rd_four s _ (by omega)] at hi ⊢
          rw [rd_four _ i (by rw [e0]; omega), e0]
          have hq := cond_win s a e i (bt s (a + i) - 240) 3 (fun c => 65536 ≤ c ∧ c ≤ 1114111 ∧ ¬ (55296 ≤ c ∧ c ≤ 57343)) he h
          split at hi
          · rename_i hc
            dsimp only at hi
            rw [if_pos hc, if_pos (hq.2 ⟨by omega, hc⟩), acc_win s a e i _ he 3 (by omega)]
          · rename_i hc
            rw [if_neg hc, if_neg (fun h => hc (hq.1 h).2)]
/-- the first byte of an ASCII character is the character -/
theorem rd_ascii {s : ByteArray} {p : Nat} (h : (rdS s p).1 < 128) : bt s p = (rdS s p).1 ∧ (rdS s p).2.1 = 1 ∧ (rdS s p).2.2 = true := by
  have hb := bt_lt s p
  by_cases h1 : bt s p < 128
  · rw [rd_one s p h1]; exact ⟨rfl, rfl, rfl⟩
  · exfalso
    by_cases h2 : (128 ≤ bt s p ∧ bt s p < 194) ∨ 245 ≤ bt s p
    · rw [rd_bad0 s p h2] at h; dsimp only at h; omega
    · by_cases h3 : bt s p < 224
      · rw [rd_two s p (by omega)] at h
        split at h
        · rename_i hc; dsimp only at h; have := hc.2.2.1; omega
        · dsimp only at h; omega
      · by_cases h4 : bt s p < 240
        · rw [rd_three s p (by omega)] at h
          split at h
          · rename_i hc; dsimp only at h; have := hc.2.2.1; omega
          · dsimp only at h; omega
        · rw [rd_four s p (by omega)] at h
          split at h
          · rename_i hc; dsimp only at h; have := hc.2.2.1; omega
          · dsimp only at h; omega
end Go.Proofs.YtabfhdmcljdjhaaGreatDoor.Gl
/- Words of a text: the plain function; texts put together: plain mathematics. -/
namespace Go.Proofs.YtabfhdmcljdjhaaGreatDoor.Gl
set_option linter.unusedVariables false

/-- where the run of characters with P ends -/
def runF (P : Nat → Bool) (s : ByteArray) : Nat → Nat → Nat
  | 0, p => p
  | f + 1, p => if p < s.size ∧ (rdS s p).2.2 = true ∧ P (rdS s p).1 = true then runF P s f (p + (rdS s p).2.1) else p
/-- a run of characters with P -/
inductive RunTo (P : Nat → Bool) (s : ByteArray) : Nat → Nat → Prop
  | nil (p) : RunTo P s p p
  | cons {p q} : p < s.size → (rdS s p).2.2 = true → P (rdS s p).1 = true → RunTo P s (p + (rdS s p).2.1) q → RunTo P s p q
/-- nothing with P stands at p -/
def Ends (P : Nat → Bool) (s : ByteArray) (p : Nat) : Prop := ¬ (p < s.size ∧ (rdS s p).2.2 = true ∧ P (rdS s p).1 = true)
theorem RunTo.le {P : Nat → Bool} {s : ByteArray} {p q : Nat} (h : RunTo P s p q) : p ≤ q := by
  induction h with
  | nil => exact Nat.le_refl _
  | cons hp _ _ _ ih => omega
theorem RunTo.le_size {P : Nat → Bool} {s : ByteArray} {p q : Nat} (h : RunTo P s p q) (hp : p ≤ s.size) : q ≤ s.size := by
  induction h with
  | nil => exact hp
  | cons a _ _ _ ih => exact ih (rd_bd s _ a).2.1
theorem runF_run (P : Nat → Bool) (s : ByteArray) : ∀ f p, RunTo P s p (runF P s f p)
  | 0, p => .nil p
  | f + 1, p => by
    rw [runF]
    split
    · rename_i h
      exact .cons h.1 h.2.1 h.2.2 (runF_run P s f _)
    · exact .nil p
theorem runF_ends (P : Nat → Bool) (s : ByteArray) : ∀ f p, s.size ≤ p + f → Ends P s (runF P s f p)
  | 0, p, h => fun hc => by rw [runF] at hc; omega
  | f + 1, p, h => by
    rw [runF]
    split
    · rename_i hc
      have := rd_bd s p hc.1
      exact runF_ends P s f _ (by omega)
    · rename_i hc
      exact hc
theorem run_one {P : Nat → Bool} {s : ByteArray} {p q r : Nat} (h : RunTo P s p q) (hq : Ends P s q) (k : RunTo P s p r) (hr : Ends P s r) : q = r := by
  induction h generalizing r with
  | nil =>
    cases k with
    | nil => rfl
    | cons a b c _ => exact absurd ⟨a, b, c⟩ hq
  | cons a b c h ih =>
    cases k with
    | nil => exact absurd ⟨a, b, c⟩ hr
    | cons _ _ _ k => exact ih hq k hr
def run (P : Nat → Bool) (s : ByteArray) (p : Nat) : Nat := runF P s s.size p
theorem run_is {P : Nat → Bool} {s : ByteArray} {p q : Nat} (h : RunTo P s p q) (hq : Ends P s q) : run P s p = q :=
  run_one (runF_run P s s.size p) (runF_ends P s s.size p (by omega)) h hq
theorem run_run (P : Nat → Bool) (s : ByteArray) (p : Nat) : RunTo P s p (run P s p) := runF_run P s s.size p
theorem run_ends (P : Nat → Bool) (s : ByteArray) (p : Nat) : Ends P s (run P s p) := runF_ends P s s.size p (by omega)
theorem RunTo.sim {P : Nat → Bool} {u s : ByteArray} {d : Nat} (h : Sim u d s) {p q : Nat} (k : RunTo P s p q) : RunTo P u (d + p) (d + q) := by
  induction k with
  | nil => exact .nil _
  | cons a b c _ ih =>
    have e := rd_sim h _ a
    refine .cons (by have := h.size; omega) (by rw [e]; exact b) (by rw [e]; exact c) ?_
    rw [e, Nat.add_assoc]
    exact ih
theorem rd_blank {s : ByteArray} {p : Nat} (h : bt s p = 32) : rdS s p = (32, 1, true) := by rw [rd_one s p (by omega), h]
theorem ends_sim {P : Nat → Bool} {u s : ByteArray} {d : Nat} (h : Sim u d s) (hP : P 32 = false) {q : Nat} (hq : q ≤ s.size) (k : Ends P s q) : Ends P u (d + q) := by
  rintro ⟨a, b, c⟩
  by_cases hlt : q < s.size
  · rw [rd_sim h q hlt] at b c
    exact k ⟨hlt, b, c⟩
  · obtain rfl : q = s.size := by omega
    rcases h.stop with e | e
    · omega
    · rw [rd_blank e] at c
      rw [hP] at c; cases c
theorem run_sim {P : Nat → Bool} {u s : ByteArray} {d : Nat} (h : Sim u d s) (hP : P 32 = false) {p : Nat} (hp : p ≤ s.size) : run P u (d + p) = d + run P s p :=
  run_is ((run_run P s p).sim h) (ends_sim h hP ((run_run P s p).le_size hp) (run_ends P s p))
/- signs -/
abbrev allSigns : List ByteArray := [⟨#[40]⟩, ⟨#[41]⟩, ⟨#[91]⟩, ⟨#[93]⟩, ⟨#[44]⟩, ⟨#[46]⟩, ⟨#[43]⟩, ⟨#[45]⟩, ⟨#[42]⟩, ⟨#[61]⟩, ⟨#[33, 61]⟩, ⟨#[60, 61]⟩, ⟨#[62, 61]⟩, ⟨#[60]⟩, ⟨#[62]⟩, ⟨#[45, 62]⟩, ⟨#[60, 45, 62]⟩, ⟨#[126]⟩]
/-- does x stand at p? -/
def fits (s : ByteArray) (p : Nat) (x : ByteArray) : Bool := decide (p + x.size ≤ s.size) && (List.range x.size).all (fun j => bt s (p + j) == bt x j)
theorem fits_iff (s : ByteArray) (p : Nat) (x : ByteArray) : fits s p x = true ↔ p + x.size ≤ s.size ∧ ∀ j, j < x.size → bt s (p + j) = bt x j := by
  unfold fits
  rw [Bool.and_eq_true, decide_eq_true_eq, List.all_eq_true]
  simp only [List.mem_range, beq_iff_eq]
/-- the longest of them that stands at p -/
def longest (s : ByteArray) (p : Nat) : List ByteArray → ByteArray → ByteArray
  | [], b => b
  | x :: l, b => longest s p l (if (fits s p x && decide (b.size < x.size)) = true then x else b)
theorem longest_congr {s u : ByteArray} {p q : Nat} (l : List ByteArray) (b : ByteArray) (h : ∀ x ∈ l, fits s p x = fits u q x) : longest s p l b = longest u q l b := by
  induction l generalizing b with
  | nil => rfl
  | cons x l ih =>
    rw [longest, longest, h x (List.mem_cons_self ..)]
    exact ih _ (fun y hy => h y (List.mem_cons_of_mem _ hy))
theorem longest_or (s : ByteArray) (p : Nat) (l : List ByteArray) (b : ByteArray) : longest s p l b = b ∨ (fits s p (longest s p l b) = true ∧ longest s p l b ∈ l ∧ b.size < (longest s p l b).size) := by
  induction l generalizing b with
  | nil => exact .inl rfl
  | cons x l ih =>
    rw [longest]
    split
    · rename_i h
      rw [Bool.and_eq_true, decide_eq_true_eq] at h
      rcases ih x with e | ⟨e1, e2, e3⟩
      · rw [e]; exact .inr ⟨h.1, List.mem_cons_self .., h.2⟩
      · exact .inr ⟨e1, List.mem_cons_of_mem _ e2, by omega⟩
    · rcases ih b with e | ⟨e1, e2, e3⟩
      · exact .inl e
      · exact .inr ⟨e1, List.mem_cons_of_mem _ e2, e3⟩
theorem longest_fits (s : ByteArray) (p : Nat) (l : List ByteArray) (b : ByteArray) (h : ¬ longest s p l b = b) : fits s p (longest s p l b) = true ∧ 0 < (longest s p l b).size := by
  rcases longest_or s p l b with e | ⟨e1, _, e3⟩
  · exact absurd e h
  · exact ⟨e1, by omega⟩
def sgn (s : ByteArray) (p : Nat) : ByteArray := longest s p allSigns emp
/-- no sign has a blank -/
theorem signs_plain : ∀ x ∈ allSigns, ∀ j, j < x.size → bt x j ≠ 32 ∧ bt x j < 128 := by decide +kernel
theorem fits_sim {u s : ByteArray} {d : Nat} (h : Sim u d s) {p : Nat} (hp : p ≤ s.size) (x : ByteArray) (hx : ∀ j, j < x.size → bt x j ≠ 32) : fits u (d + p) x = fits s p x := by
  rw [Bool.eq_iff_iff, fits_iff, fits_iff]
  have hsz := h.size
  constructor
  · rintro ⟨h1, h2⟩
    have hle : p + x.size ≤ s.size := by
      by_cases hc : p + x.size ≤ s.size
      · exact hc
      · have h3 := h2 (s.size - p) (by omega)
        rw [show d + p + (s.size - p) = d + s.size by omega] at h3
        have h4 := hx (s.size - p) (by omega)
        rcases h.stop with e | e <;> omega
    refine ⟨hle, fun j hj => ?_⟩
    have := h2 j hj
    rwa [Nat.add_assoc, h.byte _ (by omega)] at this
  · rintro ⟨h1, h2⟩
    refine ⟨by omega, fun j hj => ?_⟩
    rw [Nat.add_assoc, h.byte _ (by omega)]
    exact h2 j hj
theorem sgn_sim {u s : ByteArray} {d : Nat} (h : Sim u d s) {p : Nat} (hp : p ≤ s.size) : sgn u (d + p) = sgn s p :=
  longest_congr _ _ (fun x hx => fits_sim h hp x (fun j hj => (signs_plain x hx j hj).1))
/- characters, numbers -/
def cntF (s : ByteArray) : Nat → Nat → Nat
  | 0, _ => 0
  | f + 1, p => if p < s.size then cntF s f (p + (rdS s p).2.1) + 1 else 0
def cnt (s : ByteArray) : Nat := cntF s s.size 0
theorem cntF_is (s : ByteArray) (k : Nat) (hk : ∀ j, j < k → pos s j < s.size) : ∀ f, s.size ≤ pos s k + f → IsCnt s (k + cntF s f (pos s k)) := by
  intro f
  induction f generalizing k with
  | zero =>
    intro h
    rw [cntF, Nat.add_zero]
    have := (pos_ge s k hk).2
    exact ⟨by omega, hk⟩
  | succ f ih =>
    intro h
    rw [cntF]
    split
    · rename_i hlt
      have hb := rd_bd s (pos s k) hlt
      have := ih (k + 1) (fun j hj => by
        rcases Nat.lt_succ_iff_lt_or_eq.1 hj with hj | rfl
        · exact hk j hj
        · exact hlt) (by rw [pos_succ]; omega)
      rw [pos_succ] at this
      rwa [show k + 1 + cntF s f (pos s k + (rdS s (pos s k)).2.1) = k + (cntF s f (pos s k + (rdS s (pos s k)).2.1) + 1) by omega] at this
    · have := (pos_ge s k hk).2
      rw [Nat.add_zero]
      exact ⟨by omega, hk⟩
theorem cnt_cnt (s : ByteArray) : IsCnt s (cnt s) := by
  have := cntF_is s 0 (fun j hj => by omega) s.size (by omega)
  rwa [Nat.zero_add] at this
def valF (s : ByteArray) (p : Nat) : Nat → Nat
  | 0 => 0
  | n + 1 => 10 * valF s p n + (bt s (p + n) - 48)
theorem valF_congr {s u : ByteArray} {p q : Nat} : ∀ n, (∀ j, j < n → bt s (p + j) = bt u (q + j)) → valF s p n = valF u q n
  | 0, _ => rfl
  | n + 1, h => by rw [valF, valF, valF_congr n (fun j hj => h j (by omega)), h n (by omega)]
def isDig (r : Nat) : Bool := decide (48 ≤ r ∧ r ≤ 57)
def reN (r : Nat) : Bool := reB (r : Nat)
/-- what stands at p: a blank; a fault; a word: its kind, text and number, and where it ends -/
inductive Tk
  | blank
  | bad (e : Nat)
  | word (kind : Nat) (text : ByteArray) (num : Nat) (to : Nat)
def tok (s : ByteArray) (p : Nat) : Tk :=
  if blB ((rdS s p).1 : Nat) = true then .blank
  else if (rdS s p).2.2 = false then .bad 50
  else if stB ((rdS s p).1 : Nat) = true then
    (if rsB (s.extract p (run reN s p)) = true then .word 2 (s.extract p (run reN s p)) 0 (run reN s p)
     else if 16 < cnt (s.extract p (run reN s p)) then .bad 6 else .word 0 (s.extract p (run reN s p)) 0 (run reN s p))
  else if isDig (rdS s p).1 = true then
    (if 9223372036854775807 < valF s p (run isDig s p - p) then .bad 52 else .word 1 emp (valF s p (run isDig s p - p)) (run isDig s p))
  else if plB ((rdS s p).1 : Nat) ≠ emp then .word 2 (plB ((rdS s p).1 : Nat)) 0 (p + (rdS s p).2.1)
  else if sgn s p = emp then .bad 51 else .word 2 (sgn s p) 0 (p + (sgn s p).size)
def Tk.move (d : Nat) : Tk → Tk
  | .blank => .blank
  | .bad e => .bad e
  | .word k t v q => .word k t v (d + q)
end Go.Proofs.YtabfhdmcljdjhaaGreatDoor.Gl
