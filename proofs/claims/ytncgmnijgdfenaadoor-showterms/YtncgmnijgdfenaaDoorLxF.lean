/- U+FFFD in a text: plain mathematics. -/
import Derived.Test.YtncgmnijgdfenaaDoorGlE
import Derived.Laws.Strings
import Derived.Laws.Cover1
namespace Go.Proofs.YtncgmnijgdfenaaDoor.Gl
set_option linter.unusedVariables false

/-- the three bytes of U+FFFD stand at p -/
def Fd (s : ByteArray) (p : Nat) : Prop := p + 3 ≤ s.size ∧ bt s p = 239 ∧ bt s (p + 1) = 191 ∧ bt s (p + 2) = 189
theorem rd_fffd (s : ByteArray) (p : Nat) (hp : p < s.size) (h : (rdS s p).1 = 65533) : (rdS s p).2.2 = true ↔ Fd s p := by
  have hb := bt_lt s p
  have hb1 := bt_lt s (p + 1)
  have hb2 := bt_lt s (p + 2)
  unfold Fd
  by_cases h1 : bt s p < 128
  · rw [rd_one s p h1] at h; dsimp only at h; omega
  · by_cases h2 : (128 ≤ bt s p ∧ bt s p < 194) ∨ 245 ≤ bt s p
    · rw [rd_bad0 s p h2]; dsimp only
      exact ⟨fun e => (by cases e), fun e => (by omega)⟩
    · by_cases h3 : bt s p < 224
      · rw [rd_two s p (by omega)] at h ⊢
        split at h
        · rename_i hc
          have e : accB s p (bt s p - 192) 1 = (bt s p - 192) * 64 + (bt s (p + 1) - 128) := rfl
          dsimp only at h
          have := hc.2.1 0 (by omega)
          omega
        · rename_i hc
          rw [if_neg hc]; dsimp only
          exact ⟨fun e => (by cases e), fun e => (by omega)⟩
      · by_cases h4 : bt s p < 240
        · have e : accB s p (bt s p - 224) 2 = ((bt s p - 224) * 64 + (bt s (p + 1) - 128)) * 64 + (bt s (p + 2) - 128) := rfl
          rw [rd_three s p (by omega)] at h ⊢
          split at h
          · rename_i hc
            rw [if_pos hc]; dsimp only at h ⊢
            have k0 := hc.2.1 0 (by omega)
            have k1 := hc.2.1 1 (by omega)
            have hc1 := hc.1
            refine ⟨fun _ => ?_, fun _ => rfl⟩
            rw [e] at h
            have k1' : 128 ≤ bt s (p + 2) ∧ bt s (p + 2) < 192 := k1
            simp only [Nat.zero_add] at k0
            omega
          · rename_i hc
            rw [if_neg hc]; dsimp only
            refine ⟨fun e => (by cases e), fun ⟨f0, f1, f2, f3⟩ => absurd ⟨by omega, ?_, ?_⟩ hc⟩
            · intro k hk
              rcases (show k = 0 ∨ k = 1 by omega) with rfl | rfl
              · simp only [Nat.zero_add]; omega
              · show 128 ≤ bt s (p + 2) ∧ bt s (p + 2) < 192
                omega
            · rw [e, f1, f2, f3]; omega
        · rw [rd_four s p (by omega)] at h ⊢
          split at h
          · rename_i hc
            dsimp only at h
            have := hc.2.2.1
            omega
          · rename_i hc
            rw [if_neg hc]; dsimp only
            exact ⟨fun e => (by cases e), fun e => (by omega)⟩
theorem rd_ok (s : ByteArray) (p : Nat) (h : (rdS s p).1 ≠ 65533) : (rdS s p).2.2 = true := by
  unfold rdS at h ⊢
  dsimp only at h ⊢
  have : ((Utf8.decode s p).1 == 65533) = false := by simpa using h
  rw [this]; rfl
theorem bt_extract (s : ByteArray) (i j k : Nat) (h : i + k < j) (hj : j ≤ s.size) : bt (s.extract i j) k = bt s (i + k) := by
  rw [bt_of _ k (by rw [ByteArray.size_extract]; omega), bt_of s (i + k) (by omega), ByteArray.getElem_extract]
theorem list_three (t : ByteArray) (h : t.size = 3) : t.toList = [t[0], t[1], t[2]] := by
  rw [ByteArray.toList_eq]
  cases t with
  | mk d =>
    have hd : d.size = 3 := h
    have hl : d.toList.length = 3 := by simpa using hd
    apply List.ext_getElem
    · simp [hd]
    · intro i h1 h2
      rcases (show i = 0 ∨ i = 1 ∨ i = 2 by simp at h2; omega) with rfl | rfl | rfl <;> rfl
theorem three_iff (t : ByteArray) (h : t.size = 3) : (t.toList == [239, 191, 189]) = true ↔ bt t 0 = 239 ∧ bt t 1 = 191 ∧ bt t 2 = 189 := by
  rw [beq_iff_eq, list_three t h, bt_of t 0 (by omega), bt_of t 1 (by omega), bt_of t 2 (by omega)]
  simp only [List.cons.injEq, and_true]
  have key : ∀ (x : UInt8) (n : Nat) (hn : n < 256), x = UInt8.ofNat n ↔ x.toNat = n := fun x n hn => by
    rw [← UInt8.toNat_inj, UInt8.toNat_ofNat']; omega
  rw [← key t[0] 239 (by omega), ← key t[1] 191 (by omega), ← key t[2] 189 (by omega)]
  exact Iff.rfl
/-- 's[p:p+3]' is U+FFFD -/
theorem cut3_iff (s : ByteArray) (p : Nat) (h : p + 3 ≤ s.size) : ((s.extract p (p + 3)).toList == [239, 191, 189]) = true ↔ Fd s p := by
  rw [three_iff _ (by rw [ByteArray.size_extract]; omega), bt_extract s p (p + 3) 0 (by omega) h, bt_extract s p (p + 3) 1 (by omega) h, bt_extract s p (p + 3) 2 (by omega) h]
  unfold Fd
  exact ⟨fun ⟨a, b, c⟩ => ⟨h, a, b, c⟩, fun ⟨_, a, b, c⟩ => ⟨a, b, c⟩⟩
/-- the beginning of 's[p:]' is U+FFFD -/
theorem pre3_iff (s : ByteArray) (p : Nat) (hp : p ≤ s.size) (h : 3 ≤ (s.extract p s.size).size) : (((s.extract p s.size).extract 0 3).toList == [239, 191, 189]) = true ↔ Fd s p := by
  have h' : p + 3 ≤ s.size := by rw [ByteArray.size_extract] at h; omega
  have e : ∀ k, k < 3 → bt ((s.extract p s.size).extract 0 3) k = bt s (p + k) := fun k hk => by
    rw [bt_extract _ 0 3 k (by omega) h, bt_extract s p s.size (0 + k) (by omega) (Nat.le_refl _), Nat.zero_add]
  rw [three_iff _ (by rw [ByteArray.size_extract]; omega), e 0 (by omega), e 1 (by omega), e 2 (by omega)]
  unfold Fd
  exact ⟨fun ⟨a, b, c⟩ => ⟨h', a, b, c⟩, fun ⟨_, a, b, c⟩ => ⟨a, b, c⟩⟩
theorem pre3_no (s : ByteArray) (p : Nat) (hp : p ≤ s.size) (h : (s.extract p s.size).size < 3) : ¬ Fd s p := by
  rintro ⟨h1, _⟩
  rw [ByteArray.size_extract] at h; omega
end Go.Proofs.YtncgmnijgdfenaaDoor.Gl
/- A text cut at a character's end has the characters ahead of it: plain mathematics. -/
namespace Go.Proofs.YtncgmnijgdfenaaDoor.Gl
set_option linter.unusedVariables false

def Cont (s : ByteArray) (i m : Nat) : Prop := ∀ k, k < m → 128 ≤ bt s (i + (k + 1)) ∧ bt s (i + (k + 1)) < 192
theorem bt_cut (s : ByteArray) (p j : Nat) (hp : p ≤ s.size) (hj : j < p) : bt (s.extract 0 p) j = bt s j := by
  rw [bt_extract s 0 p j (by omega) hp, Nat.zero_add]
theorem acc_cut (s : ByteArray) (p i x0 : Nat) (hp : p ≤ s.size) : ∀ j, i + j < p → accB (s.extract 0 p) i x0 j = accB s i x0 j
  | 0, _ => rfl
  | j + 1, h => by rw [acc_succ, acc_succ, acc_cut s p i x0 hp j (by omega), bt_cut s p (i + (j + 1)) hp (by omega)]
theorem cond_cut (s : ByteArray) (p i x0 m : Nat) (Q : Nat → Prop) (hp : p ≤ s.size) :
    (m < (s.extract 0 p).size - i ∧ (∀ k, k < m → 128 ≤ bt (s.extract 0 p) (i + (k + 1)) ∧ bt (s.extract 0 p) (i + (k + 1)) < 192) ∧ Q (accB (s.extract 0 p) i x0 m)) ↔
    i + m < p ∧ (m < s.size - i ∧ (∀ k, k < m → 128 ≤ bt s (i + (k + 1)) ∧ bt s (i + (k + 1)) < 192) ∧ Q (accB s i x0 m)) := by
  have hsz : (s.extract 0 p).size = p := by rw [ByteArray.size_extract]; omega
  rw [hsz]
  constructor
  · rintro ⟨h1, h2, h3⟩
    have hm : i + m < p := by omega
    refine ⟨hm, by omega, fun k hk => ?_, ?_⟩
    · have := h2 k hk
      rwa [bt_cut s p _ hp (by omega)] at this
    · rwa [acc_cut s p i x0 hp m hm] at h3
  · rintro ⟨hm, h1, h2, h3⟩
    refine ⟨by omega, fun k hk => ?_, ?_⟩
    · rw [bt_cut s p _ hp (by omega)]; exact h2 k hk
    · rw [acc_cut s p i x0 hp m hm]; exact h3
theorem rd_cut (s : ByteArray) (p i : Nat) (hp : p ≤ s.size) (hi : i + (rdS s i).2.1 ≤ p) (h : i < p) : rdS (s.extract 0 p) i = rdS s i := by
  have hb := bt_lt s i
  have e0 := bt_cut s p i hp h
  by_cases h1 : bt s i < 128
  · rw [rd_one s i h1, rd_one _ i (by rw [e0]; exact h1), e0]
  · by_cases h2 : (128 ≤ bt s i ∧ bt s i < 194) ∨ 245 ≤ bt s i
    · rw [rd_bad0 s i h2, rd_bad0 _ i (by rw [e0]; exact h2)]
    · by_cases h3 : bt s i < 224
      · rw [rd_two s i (by omega)] at hi ⊢
        rw [rd_two _ i (by rw [e0]; omega), e0]
        have hq := cond_cut s p i (bt s i - 192) 1 (fun c => 128 ≤ c ∧ c ≤ 1114111 ∧ ¬ (55296 ≤ c ∧ c ≤ 57343)) hp
        split at hi
        · rename_i hc
          dsimp only at hi
          rw [if_pos hc, if_pos (hq.2 ⟨by omega, hc⟩), acc_cut s p i _ hp 1 (by omega)]
        · rename_i hc
          rw [if_neg hc, if_neg (fun h => hc (hq.1 h).2)]
      · by_cases h4 : bt s i < 240
        · rw [rd_three s i (by omega)] at hi ⊢
          rw [rd_three _ i (by rw [e0]; omega), e0]
          have hq := cond_cut s p i (bt s i - 224) 2 (fun c => 2048 ≤ c ∧ c ≤ 1114111 ∧ ¬ (55296 ≤ c ∧ c ≤ 57343)) hp
          split at hi
          · rename_i hc
            dsimp only at hi
            rw [if_pos hc, if_pos (hq.2 ⟨by omega, hc⟩), acc_cut s p i _ hp 2 (by omega)]
          · rename_i hc
            rw [if_neg hc, if_neg (fun h => hc (hq.1 h).2)]
        · rw [rd_four s i (by omega)] at hi ⊢
          rw [rd_four _ i (by rw [e0]; omega), e0]
          have hq := cond_cut s p i (bt s i - 240) 3 (fun c => 65536 ≤ c ∧ c ≤ 1114111 ∧ ¬ (55296 ≤ c ∧ c ≤ 57343)) hp
          split at hi
          · rename_i hc
            dsimp only at hi
            rw [if_pos hc, if_pos (hq.2 ⟨by omega, hc⟩), acc_cut s p i _ hp 3 (by omega)]
          · rename_i hc
            rw [if_neg hc, if_neg (fun h => hc (hq.1 h).2)]
theorem pos_mono (s : ByteArray) (k j : Nat) (h : ∀ i, i < k → pos s i < s.size) (hj : j < k) : pos s j < pos s k ∧ pos s (j + 1) ≤ pos s k := by
  induction k with
  | zero => omega
  | succ k ih =>
    have hb := rd_bd s (pos s k) (h k (by omega))
    have hs := pos_succ s k
    rcases Nat.lt_succ_iff_lt_or_eq.1 hj with hj | rfl
    · have := ih (fun i hi => h i (by omega)) hj
      omega
    · omega
theorem cnt_cut (s : ByteArray) (k : Nat) (h : ∀ i, i < k → pos s i < s.size) : IsCnt (s.extract 0 (pos s k)) k := by
  have hp := (pos_ge s k h).2
  have key : ∀ j, j ≤ k → pos (s.extract 0 (pos s k)) j = pos s j := by
    intro j
    induction j with
    | zero => intro _; rfl
    | succ j ih =>
      intro hj
      obtain ⟨m1, m2⟩ := pos_mono s k j h (by omega)
      rw [pos_succ, ih (by omega), pos_succ, rd_cut s (pos s k) (pos s j) hp (by rw [← pos_succ]; exact m2) m1]
  refine ⟨?_, fun j hj => ?_⟩
  · rw [key k (Nat.le_refl _), ByteArray.size_extract]; omega
  · rw [key j (by omega), ByteArray.size_extract]
    have := (pos_mono s k j h hj).1
    omega
/-- what 'good' holds behind k characters -/
def Gd (s : ByteArray) (k gk g : Nat) : Prop := (Oks s k ∧ gk = s.size) ∨ (¬ Oks s k ∧ gk = g ∧ g ≤ pos s k)
theorem gd_start (s : ByteArray) (g : Nat) : Gd s 0 s.size g := .inl ⟨fun j hj => absurd hj (by omega), rfl⟩
theorem gd_ok {s : ByteArray} {k gk g : Nat} (h : Gd s k gk g) (hlt : pos s k < s.size) (ho : (rdS s (pos s k)).2.2 = true) : Gd s (k + 1) gk g := by
  rcases h with ⟨h1, h2⟩ | ⟨h1, h2, h3⟩
  · refine .inl ⟨fun j hj => ?_, h2⟩
    rcases Nat.lt_succ_iff_lt_or_eq.1 hj with hj | rfl
    · exact h1 j hj
    · exact ⟨hlt, ho⟩
  · exact .inr ⟨fun h => h1 (fun j hj => h j (by omega)), h2, by have := pos_succ s k; omega⟩
theorem gd_bad {s : ByteArray} {k gk g : Nat} (h : Gd s k gk g) (hg : IsGood s g) (hlt : pos s k < s.size) (ho : (rdS s (pos s k)).2.2 = false) : Gd s (k + 1) (min gk (pos s k)) g := by
  have hn : ¬ Oks s (k + 1) := fun h => by have := (h k (by omega)).2; rw [ho] at this; cases this
  have hs := pos_succ s k
  rcases h with ⟨h1, h2⟩ | ⟨h1, h2, h3⟩
  · have := good_one hg ⟨k, rfl, h1, .inr ⟨hlt, ho⟩⟩
    exact .inr ⟨hn, by omega, by omega⟩
  · exact .inr ⟨hn, by omega, by omega⟩
theorem gd_end {s : ByteArray} {k gk g : Nat} (h : Gd s k gk g) (hg : IsGood s g) (he : pos s k = s.size) : gk = g := by
  rcases h with ⟨h1, h2⟩ | ⟨_, h2, _⟩
  · have := good_one hg ⟨k, rfl, h1, .inl he⟩
    omega
  · exact h2
theorem gd_le {s : ByteArray} {k gk g : Nat} (h : Gd s k gk g) (hp : pos s k ≤ s.size) : gk ≤ s.size := by
  rcases h with ⟨_, h2⟩ | ⟨_, h2, h3⟩ <;> omega
theorem nms_succ {s : ByteArray} {k : Nat} (hlt : pos s k < s.size) : Nms s (k + 1) ↔ Nms s k ∧ reB ((rdS s (pos s k)).1 : Nat) = true ∧ (k = 0 → stB ((rdS s (pos s k)).1 : Nat) = true) := by
  constructor
  · intro h
    exact ⟨fun j hj => h j (by omega), (h k (by omega)).2.2.1, (h k (by omega)).2.2.2⟩
  · rintro ⟨h1, h2, h3⟩ j hj
    rcases Nat.lt_succ_iff_lt_or_eq.1 hj with hj | rfl
    · exact h1 j hj
    · refine ⟨hlt, ?_, h2, h3⟩
      by_cases hc : (rdS s (pos s j)).1 = 65533
      · rw [hc] at h2; exact absurd h2 (by decide)
      · exact rd_ok s _ hc
theorem name_iff {s : ByteArray} {k : Nat} (h : IsCnt s k) : IsName s ↔ Nms s k ∧ 1 ≤ k ∧ k ≤ 16 ∧ rsB s = false := by
  constructor
  · rintro ⟨⟨n, hn, h1, h2, h3⟩, h4⟩
    have := cnt_one hn h
    subst this
    exact ⟨h3, h1, h2, h4⟩
  · rintro ⟨h1, h2, h3, h4⟩
    exact ⟨⟨k, h, h2, h3, h1⟩, h4⟩
end Go.Proofs.YtncgmnijgdfenaaDoor.Gl
/- Reading words off a text: the plain function, and that it hangs on what stands there alone: plain mathematics. -/
namespace Go.Proofs.YtncgmnijgdfenaaDoor.Gl
set_option linter.unusedVariables false

/-- u from d on goes as s does, and then ends, or goes on with a blank -/
structure Sim (u : ByteArray) (d : Nat) (s : ByteArray) : Prop where
  size : d + s.size ≤ u.size
  byte : ∀ j, j < s.size → bt u (d + j) = bt s j
  stop : d + s.size = u.size ∨ bt u (d + s.size) = 32
theorem acc_sim {u s : ByteArray} {d : Nat} (h : Sim u d s) (p x0 : Nat) : ∀ j, p + j < s.size → accB u (d + p) x0 j = accB s p x0 j
  | 0, _ => rfl
  | j + 1, hj => by
    rw [acc_succ, acc_succ, acc_sim h p x0 j (by omega), show d + p + (j + 1) = d + (p + (j + 1)) by omega, h.byte (p + (j + 1)) hj]
theorem cond_sim {u s : ByteArray} {d : Nat} (h : Sim u d s) (p x0 m : Nat) (Q : Nat → Prop) (hp : p < s.size) :
    (m < u.size - (d + p) ∧ (∀ k, k < m → 128 ≤ bt u (d + p + (k + 1)) ∧ bt u (d + p + (k + 1)) < 192) ∧ Q (accB u (d + p) x0 m)) ↔
    (m < s.size - p ∧ (∀ k, k < m → 128 ≤ bt s (p + (k + 1)) ∧ bt s (p + (k + 1)) < 192) ∧ Q (accB s p x0 m)) := by
  have hsz := h.size
  constructor
  · rintro ⟨h1, h2, h3⟩
    have hm : p + m < s.size := by
      by_cases hc : p + m < s.size
      · exact hc
      · have := h2 (s.size - p - 1) (by omega)
        rw [show d + p + (s.size - p - 1 + 1) = d + s.size by omega] at this
        rcases h.stop with e | e <;> omega
    refine ⟨by omega, fun k hk => ?_, ?_⟩
    · have := h2 k hk
      rwa [show d + p + (k + 1) = d + (p + (k + 1)) by omega, h.byte _ (by omega)] at this
    · rwa [acc_sim h p x0 m hm] at h3
  · rintro ⟨h1, h2, h3⟩
    refine ⟨by omega, fun k hk => ?_, ?_⟩
    · rw [show d + p + (k + 1) = d + (p + (k + 1)) by omega, h.byte _ (by omega)]; exact h2 k hk
    · rw [acc_sim h p x0 m (by omega)]; exact h3
theorem rd_sim {u s : ByteArray} {d : Nat} (h : Sim u d s) (p : Nat) (hp : p < s.size) : rdS u (d + p) = rdS s p := by
  have hb := bt_lt s p
  have e0 := h.byte p hp
  by_cases h1 : bt s p < 128
  · rw [rd_one s p h1, rd_one u _ (by rw [e0]; exact h1), e0]
  · by_cases h2 : (128 ≤ bt s p ∧ bt s p < 194) ∨ 245 ≤ bt s p
    · rw [rd_bad0 s p h2, rd_bad0 u _ (by rw [e0]; exact h2)]
    · by_cases h3 : bt s p < 224
      · rw [rd_two s p (by omega), rd_two u _ (by rw [e0]; omega), e0]
        have hq := cond_sim h p (bt s p - 192) 1 (fun c => 128 ≤ c ∧ c ≤ 1114111 ∧ ¬ (55296 ≤ c ∧ c ≤ 57343)) hp
        split
        · rename_i hc
          have hd := hq.1 hc
          have := hd.1
          rw [if_pos hd, acc_sim h p _ 1 (by omega)]
        · rename_i hc
          rw [if_neg (fun e => hc (hq.2 e))]
      · by_cases h4 : bt s p < 240
        · rw [rd_three s p (by omega), rd_three u _ (by rw [e0]; omega), e0]
          have hq := cond_sim h p (bt s p - 224) 2 (fun c => 2048 ≤ c ∧ c ≤ 1114111 ∧ ¬ (55296 ≤ c ∧ c ≤ 57343)) hp
          split
          · rename_i hc
            have hd := hq.1 hc
            have := hd.1
            rw [if_pos hd, acc_sim h p _ 2 (by omega)]
          · rename_i hc
            rw [if_neg (fun e => hc (hq.2 e))]
        · rw [rd_four s p (by omega), rd_four u _ (by rw [e0]; omega), e0]
          have hq := cond_sim h p (bt s p - 240) 3 (fun c => 65536 ≤ c ∧ c ≤ 1114111 ∧ ¬ (55296 ≤ c ∧ c ≤ 57343)) hp
          split
          · rename_i hc
            have hd := hq.1 hc
            have := hd.1
            rw [if_pos hd, acc_sim h p _ 3 (by omega)]
          · rename_i hc
            rw [if_neg (fun e => hc (hq.2 e))]
/- a window of a text -/
theorem bt_win (s : ByteArray) (a e j : Nat) (he : e ≤ s.size) (hj : a + j < e) : bt (s.extract a e) j = bt s (a + j) := bt_extract s a e j hj he
theorem size_win (s : ByteArray) (a e : Nat) (he : e ≤ s.size) : (s.extract a e).size = e - a := by rw [ByteArray.size_extract]; omega
theorem acc_win (s : ByteArray) (a e i x0 : Nat) (he : e ≤ s.size) : ∀ j, a + i + j < e → accB (s.extract a e) i x0 j = accB s (a + i) x0 j
  | 0, _ => rfl
  | j + 1, h => by rw [acc_succ, acc_succ, acc_win s a e i x0 he j (by omega), bt_win s a e (i + (j + 1)) he (by omega), show a + (i + (j + 1)) = a + i + (j + 1) by omega]
theorem cond_win (s : ByteArray) (a e i x0 m : Nat) (Q : Nat → Prop) (he : e ≤ s.size) (hi : a + i < e) :
    (m < (s.extract a e).size - i ∧ (∀ k, k < m → 128 ≤ bt (s.extract a e) (i + (k + 1)) ∧ bt (s.extract a e) (i + (k + 1)) < 192) ∧ Q (accB (s.extract a e) i x0 m)) ↔
    a + i + m < e ∧ (m < s.size - (a + i) ∧ (∀ k, k < m → 128 ≤ bt s (a + i + (k + 1)) ∧ bt s (a + i + (k + 1)) < 192) ∧ Q (accB s (a + i) x0 m)) := by
  rw [size_win s a e he]
  constructor
  · rintro ⟨h1, h2, h3⟩
    have hm : a + i + m < e := by omega
    refine ⟨hm, by omega, fun k hk => ?_, ?_⟩
    · have := h2 k hk
      rwa [bt_win s a e _ he (by omega), show a + (i + (k + 1)) = a + i + (k + 1) by omega] at this
    · rwa [acc_win s a e i x0 he m hm] at h3
  · rintro ⟨hm, h1, h2, h3⟩
    refine ⟨by omega, fun k hk => ?_, ?_⟩
    · rw [bt_win s a e _ he (by omega), show a + (i + (k + 1)) = a + i + (k + 1) by omega]; exact h2 k hk
    · rw [acc_win s a e i x0 he m hm]; exact h3
/-- a character that lies within the window is read there as in the text -/
theorem rd_win (s : ByteArray) (a e i : Nat) (he : e ≤ s.size) (hi : a + i + (rdS s (a + i)).2.1 ≤ e) (h : a + i < e) : rdS (s.extract a e) i = rdS s (a + i) := by
  have hb := bt_lt s (a + i)
  have e0 := bt_win s a e i he h
  by_cases h1 : bt s (a + i) < 128
  · rw [rd_one s _ h1, rd_one _ i (by rw [e0]; exact h1), e0]
  · by_cases h2 : (128 ≤ bt s (a + i) ∧ bt s (a + i) < 194) ∨ 245 ≤ bt s (a + i)
    · rw [rd_bad0 s _ h2, rd_bad0 _ i (by rw [e0]; exact h2)]
    · by_cases h3 : bt s (a + i) < 224
      · rw [rd_two s _ (by omega)] at hi ⊢
        rw [rd_two _ i (by rw [e0]; omega), e0]
        have hq := cond_win s a e i (bt s (a + i) - 192) 1 (fun c => 128 ≤ c ∧ c ≤ 1114111 ∧ ¬ (55296 ≤ c ∧ c ≤ 57343)) he h
        split at hi
        · rename_i hc
          dsimp only at hi
          rw [if_pos hc, if_pos (hq.2 ⟨by omega, hc⟩), acc_win s a e i _ he 1 (by omega)]
        · rename_i hc
          rw [if_neg hc, if_neg (fun h => hc (hq.1 h).2)]
      · by_cases h4 : bt s (a + i) < 240
        · rw [rd_three s _ (by omega)] at hi ⊢
          rw [rd_three _ i (by rw [e0]; omega), e0]
          have hq := cond_win s a e i (bt s (a + i) - 224) 2 (fun c => 2048 ≤ c ∧ c ≤ 1114111 ∧ ¬ (55296 ≤ c ∧ c ≤ 57343)) he h
          split at hi
          · rename_i hc
            dsimp only at hi
            rw [if_pos hc, if_pos (hq.2 ⟨by omega, hc⟩), acc_win s a e i _ he 2 (by omega)]
          · rename_i hc
            rw [if_neg hc, if_neg (fun h => hc (hq.1 h).2)]
        · rw [rd_four s _ (by omega)] at hi ⊢
          rw [rd_four _ i (by rw [e0]; omega), e0]
          have hq := cond_win s a e i (bt s (a + i) - 240) 3 (fun c => 65536 ≤ c ∧ c ≤ 1114111 ∧ ¬ (55296 ≤ c ∧ c ≤ 57343)) he h
          split at hi
          · rename_i hc
            dsimp only at hi
            rw [if_pos hc, if_pos (hq.2 ⟨by omega, hc⟩), acc_win s a e i _ he 3 (by omega)]
          · rename_i hc
            rw [if_neg hc, if_neg (fun h => hc (hq.1 h).2)]
/-- the first byte of an ASCII character is the character -/
theorem rd_ascii {s : ByteArray} {p : Nat} (h : (rdS s p).1 < 128) : bt s p = (rdS s p).1 ∧ (rdS s p).2.1 = 1 ∧ (rdS s p).2.2 = true := by
  have hb := bt_lt s p
  by_cases h1 : bt s p < 128
  · rw [rd_one s p h1]; exact ⟨rfl, rfl, rfl⟩
  · exfalso
    by_cases h2 : (128 ≤ bt s p ∧ bt s p < 194) ∨ 245 ≤ bt s p
    · rw [rd_bad0 s p h2] at h; dsimp only at h; omega
    · by_cases h3 : bt s p < 224
      · rw [rd_two s p (by omega)] at h
        split at h
        · rename_i hc; dsimp only at h; have := hc.2.2.1; omega
        · dsimp only at h; omega
      · by_cases h4 : bt s p < 240
        · rw [rd_three s p (by omega)] at h
          split at h
          · rename_i hc; dsimp only at h; have := hc.2.2.1; omega
          · dsimp only at h; omega
        · rw [rd_four s p (by omega)] at h
          split at h
          · rename_i hc; dsimp only at h; have := hc.2.2.1; omega
          · dsimp only at h; omega
end Go.Proofs.YtncgmnijgdfenaaDoor.Gl
/- Words of a text: the plain function; texts put together: plain mathematics. -/
namespace Go.Proofs.YtncgmnijgdfenaaDoor.Gl
set_option linter.unusedVariables false

/-- where the run of characters with P ends -/
def runF (P : Nat → Bool) (s : ByteArray) : Nat → Nat → Nat
  | 0, p => p
  | f + 1, p => if p < s.size ∧ (rdS s p).2.2 = true ∧ P (rdS s p).1 = true then runF P s f (p + (rdS s p).2.1) else p
/-- a run of characters with P -/
inductive RunTo (P : Nat → Bool) (s : ByteArray) : Nat → Nat → Prop
  | nil (p) : RunTo P s p p
  | cons {p q} : p < s.size → (rdS s p).2.2 = true → P (rdS s p).1 = true → RunTo P s (p + (rdS s p).2.1) q → RunTo P s p q
/-- nothing with P stands at p -/
def Ends (P : Nat → Bool) (s : ByteArray) (p : Nat) : Prop := ¬ (p < s.size ∧ (rdS s p).2.2 = true ∧ P (rdS s p).1 = true)
theorem RunTo.le {P : Nat → Bool} {s : ByteArray} {p q : Nat} (h : RunTo P s p q) : p ≤ q := by
  induction h with
  | nil => exact Nat.le_refl _
  | cons hp _ _ _ ih => omega
theorem RunTo.le_size {P : Nat → Bool} {s : ByteArray} {p q : Nat} (h : RunTo P s p q) (hp : p ≤ s.size) : q ≤ s.size := by
  induction h with
  | nil => exact hp
  | cons a _ _ _ ih => exact ih (rd_bd s _ a).2.1
theorem runF_run (P : Nat → Bool) (s : ByteArray) : ∀ f p, RunTo P s p (runF P s f p)
  | 0, p => .nil p
  | f + 1, p => by
    rw [runF]
    split
    · rename_i h
      exact .cons h.1 h.2.1 h.2.2 (runF_run P s f _)
    · exact .nil p
theorem runF_ends (P : Nat → Bool) (s : ByteArray) : ∀ f p, s.size ≤ p + f → Ends P s (runF P s f p)
  | 0, p, h => fun hc => by rw [runF] at hc; omega
  | f + 1, p, h => by
    rw [runF]
    split
    · rename_i hc
      have := rd_bd s p hc.1
      exact runF_ends P s f _ (by omega)
    · rename_i hc
      exact hc
theorem run_one {P : Nat → Bool} {s : ByteArray} {p q r : Nat} (h : RunTo P s p q) (hq : Ends P s q) (k : RunTo P s p r) (hr : Ends P s r) : q = r := by
  induction h generalizing r with
  | nil =>
    cases k with
    | nil => rfl
    | cons a b c _ => exact absurd ⟨a, b, c⟩ hq
  | cons a b c h ih =>
    cases k with
    | nil => exact absurd ⟨a, b, c⟩ hr
    | cons _ _ _ k => exact ih hq k hr
def run (P : Nat → Bool) (s : ByteArray) (p : Nat) : Nat := runF P s s.size p
theorem run_is {P : Nat → Bool} {s : ByteArray} {p q : Nat} (h : RunTo P s p q) (hq : Ends P s q) : run P s p = q :=
  run_one (runF_run P s s.size p) (runF_ends P s s.size p (by omega)) h hq
theorem run_run (P : Nat → Bool) (s : ByteArray) (p : Nat) : RunTo P s p (run P s p) := runF_run P s s.size p
theorem run_ends (P : Nat → Bool) (s : ByteArray) (p : Nat) : Ends P s (run P s p) := runF_ends P s s.size p (by omega)
theorem RunTo.sim {P : Nat → Bool} {u s : ByteArray} {d : Nat} (h : Sim u d s) {p q : Nat} (k : RunTo P s p q) : RunTo P u (d + p) (d + q) := by
  induction k with
  | nil => exact .nil _
  | cons a b c _ ih =>
    have e := rd_sim h _ a
    refine .cons (by have := h.size; omega) (by rw [e]; exact b) (by rw [e]; exact c) ?_
    rw [e, Nat.add_assoc]
    exact ih
theorem rd_blank {s : ByteArray} {p : Nat} (h : bt s p = 32) : rdS s p = (32, 1, true) := by rw [rd_one s p (by omega), h]
theorem ends_sim {P : Nat → Bool} {u s : ByteArray} {d : Nat} (h : Sim u d s) (hP : P 32 = false) {q : Nat} (hq : q ≤ s.size) (k : Ends P s q) : Ends P u (d + q) := by
  rintro ⟨a, b, c⟩
  by_cases hlt : q < s.size
  · rw [rd_sim h q hlt] at b c
    exact k ⟨hlt, b, c⟩
  · obtain rfl : q = s.size := by omega
    rcases h.stop with e | e
    · omega
    · rw [rd_blank e] at c
      rw [hP] at c; cases c
theorem run_sim {P : Nat → Bool} {u s : ByteArray} {d : Nat} (h : Sim u d s) (hP : P 32 = false) {p : Nat} (hp : p ≤ s.size) : run P u (d + p) = d + run P s p :=
  run_is ((run_run P s p).sim h) (ends_sim h hP ((run_run P s p).le_size hp) (run_ends P s p))
/- signs -/
abbrev allSigns : List ByteArray := [⟨#[40]⟩, ⟨#[41]⟩, ⟨#[91]⟩, ⟨#[93]⟩, ⟨#[44]⟩, ⟨#[46]⟩, ⟨#[43]⟩, ⟨#[45]⟩, ⟨#[42]⟩, ⟨#[61]⟩, ⟨#[33, 61]⟩, ⟨#[60, 61]⟩, ⟨#[62, 61]⟩, ⟨#[60]⟩, ⟨#[62]⟩, ⟨#[45, 62]⟩, ⟨#[60, 45, 62]⟩, ⟨#[126]⟩]
/-- does x stand at p? -/
def fits (s : ByteArray) (p : Nat) (x : ByteArray) : Bool := decide (p + x.size ≤ s.size) && (List.range x.size).all (fun j => bt s (p + j) == bt x j)
theorem fits_iff (s : ByteArray) (p : Nat) (x : ByteArray) : fits s p x = true ↔ p + x.size ≤ s.size ∧ ∀ j, j < x.size → bt s (p + j) = bt x j := by
  unfold fits
  rw [Bool.and_eq_true, decide_eq_true_eq, List.all_eq_true]
  simp only [List.mem_range, beq_iff_eq]
/-- the longest of them that stands at p -/
def longest (s : ByteArray) (p : Nat) : List ByteArray → ByteArray → ByteArray
  | [], b => b
  | x :: l, b => longest s p l (if (fits s p x && decide (b.size < x.size)) = true then x else b)
theorem longest_congr {s u : ByteArray} {p q : Nat} (l : List ByteArray) (b : ByteArray) (h : ∀ x ∈ l, fits s p x = fits u q x) : longest s p l b = longest u q l b := by
  induction l generalizing b with
  | nil => rfl
  | cons x l ih =>
    rw [longest, longest, h x (List.mem_cons_self ..)]
    exact ih _ (fun y hy => h y (List.mem_cons_of_mem _ hy))
theorem longest_or (s : ByteArray) (p : Nat) (l : List ByteArray) (b : ByteArray) : longest s p l b = b ∨ (fits s p (longest s p l b) = true ∧ longest s p l b ∈ l ∧ b.size < (longest s p l b).size) := by
  induction l generalizing b with
  | nil => exact .inl rfl
  | cons x l ih =>
    rw [longest]
    split
    · rename_i h
      rw [Bool.and_eq_true, decide_eq_true_eq] at h
      rcases ih x with e | ⟨e1, e2, e3⟩
      · rw [e]; exact .inr ⟨h.1, List.mem_cons_self .., h.2⟩
      · exact .inr ⟨e1, List.mem_cons_of_mem _ e2, by omega⟩
    · rcases ih b with e | ⟨e1, e2, e3⟩
      · exact .inl e
      · exact .inr ⟨e1, List.mem_cons_of_mem _ e2, e3⟩
theorem longest_fits (s : ByteArray) (p : Nat) (l : List ByteArray) (b : ByteArray) (h : ¬ longest s p l b = b) : fits s p (longest s p l b) = true ∧ 0 < (longest s p l b).size := by
  rcases longest_or s p l b with e | ⟨e1, _, e3⟩
  · exact absurd e h
  · exact ⟨e1, by omega⟩
def sgn (s : ByteArray) (p : Nat) : ByteArray := longest s p allSigns emp
/-- no sign has a blank -/
theorem signs_plain : ∀ x ∈ allSigns, ∀ j, j < x.size → bt x j ≠ 32 ∧ bt x j < 128 := by decide +kernel
theorem fits_sim {u s : ByteArray} {d : Nat} (h : Sim u d s) {p : Nat} (hp : p ≤ s.size) (x : ByteArray) (hx : ∀ j, j < x.size → bt x j ≠ 32) : fits u (d + p) x = fits s p x := by
  rw [Bool.eq_iff_iff, fits_iff, fits_iff]
  have hsz := h.size
  constructor
  · rintro ⟨h1, h2⟩
    have hle : p + x.size ≤ s.size := by
      by_cases hc : p + x.size ≤ s.size
      · exact hc
      · have h3 := h2 (s.size - p) (by omega)
        rw [show d + p + (s.size - p) = d + s.size by omega] at h3
        have h4 := hx (s.size - p) (by omega)
        rcases h.stop with e | e <;> omega
    refine ⟨hle, fun j hj => ?_⟩
    have := h2 j hj
    rwa [Nat.add_assoc, h.byte _ (by omega)] at this
  · rintro ⟨h1, h2⟩
    refine ⟨by omega, fun j hj => ?_⟩
    rw [Nat.add_assoc, h.byte _ (by omega)]
    exact h2 j hj
theorem sgn_sim {u s : ByteArray} {d : Nat} (h : Sim u d s) {p : Nat} (hp : p ≤ s.size) : sgn u (d + p) = sgn s p :=
  longest_congr _ _ (fun x hx => fits_sim h hp x (fun j hj => (signs_plain x hx j hj).1))
/- characters, numbers -/
def cntF (s : ByteArray) : Nat → Nat → Nat
  | 0, _ => 0
  | f + 1, p => if p < s.size then cntF s f (p + (rdS s p).2.1) + 1 else 0
def cnt (s : ByteArray) : Nat := cntF s s.size 0
theorem cntF_is (s : ByteArray) (k : Nat) (hk : ∀ j, j < k → pos s j < s.size) : ∀ f, s.size ≤ pos s k + f → IsCnt s (k + cntF s f (pos s k)) := by
  intro f
  induction f generalizing k with
  | zero =>
    intro h
    rw [cntF, Nat.add_zero]
    have := (pos_ge s k hk).2
    exact ⟨by omega, hk⟩
  | succ f ih =>
    intro h
    rw [cntF]
    split
    · rename_i hlt
      have hb := rd_bd s (pos s k) hlt
      have := ih (k + 1) (fun j hj => by
        rcases Nat.lt_succ_iff_lt_or_eq.1 hj with hj | rfl
        · exact hk j hj
        · exact hlt) (by rw [pos_succ]; omega)
      rw [pos_succ] at this
      rwa [show k + 1 + cntF s f (pos s k + (rdS s (pos s k)).2.1) = k + (cntF s f (pos s k + (rdS s (pos s k)).2.1) + 1) by omega] at this
    · have := (pos_ge s k hk).2
      rw [Nat.add_zero]
      exact ⟨by omega, hk⟩
theorem cnt_cnt (s : ByteArray) : IsCnt s (cnt s) := by
  have := cntF_is s 0 (fun j hj => by omega) s.size (by omega)
  rwa [Nat.zero_add] at this
def valF (s : ByteArray) (p : Nat) : Nat → Nat
  | 0 => 0
  | n + 1 => 10 * valF s p n + (bt s (p + n) - 48)
theorem valF_congr {s u : ByteArray} {p q : Nat} : ∀ n, (∀ j, j < n → bt s (p + j) = bt u (q + j)) → valF s p n = valF u q n
  | 0, _ => rfl
  | n + 1, h => by rw [valF, valF, valF_congr n (fun j hj => h j (by omega)), h n (by omega)]
def isDig (r : Nat) : Bool := decide (48 ≤ r ∧ r ≤ 57)
def reN (r : Nat) : Bool := reB (r : Nat)
/-- what stands at p: a blank; a fault; a word: its kind, text and number, and where it ends -/
inductive Tk
  | blank
  | bad (e : Nat)
  | word (kind : Nat) (text : ByteArray) (num : Nat) (to : Nat)
def tok (s : ByteArray) (p : Nat) : Tk :=
  if blB ((rdS s p).1 : Nat) = true then .blank
  else if (rdS s p).2.2 = false then .bad 50
  else if stB ((rdS s p).1 : Nat) = true then
    (if rsB (s.extract p (run reN s p)) = true then .word 2 (s.extract p (run reN s p)) 0 (run reN s p)
     else if 16 < cnt (s.extract p (run reN s p)) then .bad 6 else .word 0 (s.extract p (run reN s p)) 0 (run reN s p))
  else if isDig (rdS s p).1 = true then
    (if 9223372036854775807 < valF s p (run isDig s p - p) then .bad 52 else .word 1 emp (valF s p (run isDig s p - p)) (run isDig s p))
  else if plB ((rdS s p).1 : Nat) ≠ emp then .word 2 (plB ((rdS s p).1 : Nat)) 0 (p + (rdS s p).2.1)
  else if sgn s p = emp then .bad 51 else .word 2 (sgn s p) 0 (p + (sgn s p).size)
def Tk.move (d : Nat) : Tk → Tk
  | .blank => .blank
  | .bad e => .bad e
  | .word k t v q => .word k t v (d + q)
end Go.Proofs.YtncgmnijgdfenaaDoor.Gl
/- Words of a text: texts put together, texts cut: plain mathematics. -/
namespace Go.Proofs.YtncgmnijgdfenaaDoor.Gl
set_option linter.unusedVariables false

theorem run_gt {P : Nat → Bool} {s : ByteArray} {p : Nat} (hp : p < s.size) (h1 : (rdS s p).2.2 = true) (h2 : P (rdS s p).1 = true) : p < run P s p := by
  have hr : RunTo P s p (run P s (p + (rdS s p).2.1)) := .cons hp h1 h2 (run_run P s _)
  rw [run_is hr (run_ends P s _)]
  have := (run_run P s (p + (rdS s p).2.1)).le
  have := rd_bd s p hp
  omega
theorem extract_eq {u s : ByteArray} {a b i j : Nat} (hj : j ≤ s.size) (hb : b ≤ u.size) (hl : b - a = j - i) (h : ∀ k, i + k < j → bt u (a + k) = bt s (i + k)) : u.extract a b = s.extract i j := by
  apply ByteArray.ext_getElem
  · rw [ByteArray.size_extract, ByteArray.size_extract]; omega
  · intro k hk1 hk2
    rw [ByteArray.size_extract] at hk1 hk2
    have e := h k (by omega)
    rw [bt_of u (a + k) (by omega), bt_of s (i + k) (by omega)] at e
    rw [ByteArray.getElem_extract, ByteArray.getElem_extract]
    exact UInt8.toNat_inj.1 e
theorem extract_sim {u s : ByteArray} {d : Nat} (h : Sim u d s) {p q : Nat} (hq : q ≤ s.size) : u.extract (d + p) (d + q) = s.extract p q :=
  extract_eq hq (by have := h.size; omega) (by omega) (fun k hk => by rw [Nat.add_assoc]; exact h.byte _ (by omega))
theorem tok_sim {u s : ByteArray} {d : Nat} (h : Sim u d s) {p : Nat} (hp : p < s.size) : tok u (d + p) = (tok s p).move d := by
  have e := rd_sim h p hp
  have r1 := run_sim h (P := reN) (by decide +kernel) (Nat.le_of_lt hp)
  have r2 := run_sim h (P := isDig) (by decide) (Nat.le_of_lt hp)
  have l1 := (run_run reN s p).le_size (Nat.le_of_lt hp)
  have l2 := (run_run isDig s p).le_size (Nat.le_of_lt hp)
  have g2 := (run_run isDig s p).le
  have x1 := extract_sim h (p := p) l1
  have v2 : valF u (d + p) (d + run isDig s p - (d + p)) = valF s p (run isDig s p - p) := by
    rw [show d + run isDig s p - (d + p) = run isDig s p - p by omega]
    exact valF_congr _ (fun j hj => by rw [Nat.add_assoc]; exact h.byte _ (by omega))
  have s1 := sgn_sim h (Nat.le_of_lt hp)
  unfold tok
  rw [e, r1, r2, x1, v2, s1]
  split
  · rfl
  · split
    · rfl
    · split
      · split
        · rfl
        · split <;> rfl
      · split
        · split <;> rfl
        · split
          · rw [Nat.add_assoc]; rfl
          · split
            · rfl
            · rw [Nat.add_assoc]; rfl
/-- a word: its kind, text and number, and its first byte -/
structure Wd where
  kind : Nat
  text : ByteArray
  num : Nat
  byte : Nat
def Wd.move (d : Nat) (w : Wd) : Wd := ⟨w.kind, w.text, w.num, d + w.byte⟩
/-- the words from p on, and the fault -/
inductive Lx (s : ByteArray) : Nat → List Wd → Option (Nat × Nat) → Prop
  | done {p} : s.size ≤ p → Lx s p [] none
  | blank {p ws f} : p < s.size → tok s p = .blank → Lx s (p + 1) ws f → Lx s p ws f
  | bad {p e} : p < s.size → tok s p = .bad e → Lx s p [] (some (e, p))
  | word {p k t v q ws f} : p < s.size → tok s p = .word k t v q → Lx s q ws f → Lx s p (⟨k, t, v, p⟩ :: ws) f
theorem Lx.one {s : ByteArray} {p : Nat} {ws : List Wd} {f : Option (Nat × Nat)} (h : Lx s p ws f) : ∀ {ws' f'}, Lx s p ws' f' → ws = ws' ∧ f = f' := by
  induction h with
  | done h =>
    intro ws' f' k
    cases k with
    | done _ => exact ⟨rfl, rfl⟩
    | blank a _ _ => omega
    | bad a _ => omega
    | word a _ _ => omega
  | blank a b _ ih =>
    intro ws' f' k
    cases k with
    | done _ => omega
    | blank _ _ k => exact ih k
    | bad _ c => rw [b] at c; cases c
    | word _ c _ => rw [b] at c; cases c
  | bad a b =>
    intro ws' f' k
    cases k with
    | done _ => omega
    | blank _ c _ => rw [b] at c; cases c
    | bad _ c => rw [b] at c; cases c; exact ⟨rfl, rfl⟩
    | word _ c _ => rw [b] at c; cases c
  | word a b _ ih =>
    intro ws' f' k
    cases k with
    | done _ => omega
    | blank _ c _ => rw [b] at c; cases c
    | bad _ c => rw [b] at c; cases c
    | word _ c k =>
      rw [b] at c
      cases c
      obtain ⟨rfl, rfl⟩ := ih k
      exact ⟨rfl, rfl⟩
/-- where a word ends: behind its beginning, and within the text -/
theorem tok_to {s : ByteArray} {p k v q : Nat} {t : ByteArray} (hp : p < s.size) (h : tok s p = .word k t v q) : p < q ∧ q ≤ s.size := by
  have hb := rd_bd s p hp
  unfold tok at h
  split at h
  · cases h
  · split at h
    · cases h
    · rename_i hok
      have hok' : (rdS s p).2.2 = true := by
        cases hq : (rdS s p).2.2 with
        | true => rfl
        | false => exact absurd hq hok
      split at h
      · rename_i hst
        have hre : reN (rdS s p).1 = true := reB_of hst
        have hl := (run_run reN s p).le_size (Nat.le_of_lt hp)
        have hg := run_gt hp hok' hre
        split at h
        · cases h; exact ⟨hg, hl⟩
        · split at h
          · cases h
          · cases h; exact ⟨hg, hl⟩
      · split at h
        · rename_i hd
          have hl := (run_run isDig s p).le_size (Nat.le_of_lt hp)
          have hg := run_gt hp hok' hd
          split at h
          · cases h
          · cases h; exact ⟨hg, hl⟩
        · split at h
          · cases h; omega
          · split at h
            · cases h
            · rename_i hne
              cases h
              have hf := longest_fits s p allSigns emp hne
              have h1 := (fits_iff s p _).1 hf.1
              have h2 := hf.2
              exact ⟨by unfold sgn; omega, h1.1⟩
theorem Lx.is (s : ByteArray) : ∀ n p, s.size ≤ p + n → ∃ ws f, Lx s p ws f
  | 0, p, h => ⟨[], none, .done (by omega)⟩
  | n + 1, p, h => by
    by_cases hp : p < s.size
    · cases ht : tok s p with
      | blank =>
        obtain ⟨ws, f, k⟩ := Lx.is s n (p + 1) (by omega)
        exact ⟨ws, f, .blank hp ht k⟩
      | bad e => exact ⟨_, _, .bad hp ht⟩
      | word k t v q =>
        obtain ⟨ws, f, l⟩ := Lx.is s n q (by have := tok_to hp ht; omega)
        exact ⟨_, _, .word hp ht l⟩
    · exact ⟨[], none, .done (by omega)⟩
theorem Lx.ex (s : ByteArray) : ∃ ws f, Lx s 0 ws f := Lx.is s s.size 0 (by omega)
/-- words ahead of what follows -/
theorem Lx.sim {u s : ByteArray} {d : Nat} (h : Sim u d s) {p : Nat} {a : List Wd} {f : Option (Nat × Nat)} (k : Lx s p a f) (hp : p ≤ s.size) : 
    (∀ b g, f = none → Lx u (d + s.size) b g → Lx u (d + p) (a.map (Wd.move d) ++ b) g) ∧ (∀ c e, f = some (c, e) → Lx u (d + p) (a.map (Wd.move d)) (some (c, d + e))) := by
  have hsz := h.size
  induction k with
  | done hd =>
    refine ⟨fun b g _ l => ?_, fun c e he => (by cases he)⟩
    obtain rfl : _ = s.size := Nat.le_antisymm hp hd
    exact l
  | blank a b k ih =>
    have := ih (by omega)
    have ht := tok_sim h a
    rw [b] at ht
    exact ⟨fun c g e l => .blank (by omega) ht (this.1 c g e l), fun c e he => .blank (by omega) ht (this.2 c e he)⟩
  | bad a b =>
    have ht := tok_sim h a
    rw [b] at ht
    refine ⟨fun c g e l => (by cases e), fun c e he => ?_⟩
    cases he
    exact .bad (by omega) ht
  | word a b k ih =>
    have hq := tok_to a b
    have := ih hq.2
    have ht := tok_sim h a
    rw [b] at ht
    exact ⟨fun c g e l => .word (by omega) ht (this.1 c g e l), fun c e he => .word (by omega) ht (this.2 c e he)⟩
end Go.Proofs.YtncgmnijgdfenaaDoor.Gl
/- Words of a text: places, texts cut at a fault, texts joined: plain mathematics. -/
namespace Go.Proofs.YtncgmnijgdfenaaDoor.Gl
set_option linter.unusedVariables false

/-- from p on whole characters lead to e -/
inductive Bd (s : ByteArray) : Nat → Nat → Prop
  | nil (p) : Bd s p p
  | cons {p e} : p < s.size → Bd s (p + (rdS s p).2.1) e → Bd s p e
theorem Bd.trans {s : ByteArray} {p q e : Nat} (h : Bd s p q) (k : Bd s q e) : Bd s p e := by
  induction h with
  | nil => exact k
  | cons a _ ih => exact .cons a (ih k)
theorem Bd.le {s : ByteArray} {p e : Nat} (h : Bd s p e) : p ≤ e := by
  induction h with
  | nil => exact Nat.le_refl _
  | cons _ _ ih => omega
theorem Bd.le_size {s : ByteArray} {p e : Nat} (h : Bd s p e) (hp : p ≤ s.size) : e ≤ s.size := by
  induction h with
  | nil => exact hp
  | cons a _ ih => exact ih (rd_bd s _ a).2.1
theorem Bd.step {s : ByteArray} {p e : Nat} (h : Bd s p e) (hp : p < e) : p + (rdS s p).2.1 ≤ e := by
  cases h with
  | nil => omega
  | cons _ k => exact k.le
theorem RunTo.bd {P : Nat → Bool} {s : ByteArray} {p q : Nat} (h : RunTo P s p q) : Bd s p q := by
  induction h with
  | nil => exact .nil _
  | cons a _ _ _ ih => exact .cons a ih
theorem bd_pos {s : ByteArray} : ∀ (k : Nat), (∀ j, j < k → pos s j < s.size) → Bd s 0 (pos s k)
  | 0, _ => .nil 0
  | k + 1, h => (bd_pos k (fun j hj => h j (by omega))).trans (.cons (h k (by omega)) (by rw [← pos_succ]; exact .nil _))
theorem pos_bd {s : ByteArray} {p e : Nat} (h : Bd s p e) : ∀ k, pos s k = p → (∀ j, j < k → pos s j < s.size) → ∃ m, pos s m = e ∧ ∀ j, j < m → pos s j < s.size := by
  induction h with
  | nil => intro k h1 h2; exact ⟨k, h1, h2⟩
  | cons a _ ih =>
    intro k h1 h2
    refine ih (k + 1) (by rw [pos_succ, h1]) (fun j hj => ?_)
    rcases Nat.lt_succ_iff_lt_or_eq.1 hj with hj | rfl
    · exact h2 j hj
    · rw [h1]; exact a
/-- the place of a byte at which a character begins -/
theorem bd_place {s : ByteArray} {e : Nat} (h : Bd s 0 e) : ∃ m, pos s m = e ∧ (∀ j, j < m → pos s j < s.size) ∧ IsCnt (s.extract 0 e) m := by
  obtain ⟨m, h1, h2⟩ := pos_bd h 0 rfl (fun j hj => by omega)
  exact ⟨m, h1, h2, by rw [← h1]; exact cnt_cut s m h2⟩
theorem bd_ascii {s : ByteArray} : ∀ (n p : Nat), p + n ≤ s.size → (∀ j, j < n → bt s (p + j) < 128) → Bd s p (p + n)
  | 0, p, _, _ => .nil p
  | n + 1, p, h, hb => by
    have h0 := hb 0 (by omega)
    rw [Nat.add_zero] at h0
    refine .cons (by omega) ?_
    rw [rd_one s p h0]
    have := bd_ascii (s := s) n (p + 1) (by omega) (fun j hj => by have := hb (j + 1) (by omega); rwa [show p + 1 + j = p + (j + 1) by omega])
    rw [show p + 1 + n = p + (n + 1) by omega] at this
    exact this
theorem blank_one {s : ByteArray} {p : Nat} (h : blB ((rdS s p).1 : Nat) = true) : (rdS s p).2.1 = 1 ∧ blB (bt s p : Nat) = true := by
  have hr : (rdS s p).1 < 128 := by
    have := of_decide_eq_true h
    omega
  obtain ⟨h1, h2, _⟩ := rd_ascii hr
  exact ⟨h2, by rw [h1]; exact h⟩
theorem sgn_mem {s : ByteArray} {p : Nat} (h : ¬ sgn s p = emp) : fits s p (sgn s p) = true ∧ sgn s p ∈ allSigns ∧ 0 < (sgn s p).size := by
  rcases longest_or s p allSigns emp with e | ⟨e1, e2, e3⟩
  · exact absurd e h
  · exact ⟨e1, e2, Nat.lt_of_le_of_lt (Nat.zero_le _) e3⟩
/-- what the token says -/
theorem tok_cases (s : ByteArray) (p : Nat) :
    (blB ((rdS s p).1 : Nat) = true ∧ tok s p = .blank) ∨ (blB ((rdS s p).1 : Nat) = false ∧
      (((rdS s p).2.2 = false ∧ tok s p = .bad 50) ∨ ((rdS s p).2.2 = true ∧
        ((stB ((rdS s p).1 : Nat) = true ∧ ((rsB (s.extract p (run reN s p)) = true ∧ tok s p = .word 2 (s.extract p (run reN s p)) 0 (run reN s p)) ∨ (rsB (s.extract p (run reN s p)) = false ∧ 16 < cnt (s.extract p (run reN s p)) ∧ tok s p = .bad 6) ∨
          (rsB (s.extract p (run reN s p)) = false ∧ ¬ 16 < cnt (s.extract p (run reN s p)) ∧ tok s p = .word 0 (s.extract p (run reN s p)) 0 (run reN s p)))) ∨
         (stB ((rdS s p).1 : Nat) = false ∧ isDig (rdS s p).1 = true ∧ ((9223372036854775807 < valF s p (run isDig s p - p) ∧ tok s p = .bad 52) ∨ (¬ 9223372036854775807 < valF s p (run isDig s p - p) ∧ tok s p = .word 1 emp (valF s p (run isDig s p - p)) (run isDig s p)))) ∨
         (stB ((rdS s p).1 : Nat) = false ∧ isDig (rdS s p).1 = false ∧ plB ((rdS s p).1 : Nat) ≠ emp ∧ tok s p = .word 2 (plB ((rdS s p).1 : Nat)) 0 (p + (rdS s p).2.1)) ∨
         (stB ((rdS s p).1 : Nat) = false ∧ isDig (rdS s p).1 = false ∧ plB ((rdS s p).1 : Nat) = emp ∧ ((sgn s p = emp ∧ tok s p = .bad 51) ∨ (¬ sgn s p = emp ∧ tok s p = .word 2 (sgn s p) 0 (p + (sgn s p).size)))))))) := by
  have e : tok s p = tok s p := rfl
  conv at e => rhs; unfold tok
  cases h1 : blB ((rdS s p).1 : Nat) with
  | true => rw [h1, if_pos rfl] at e; exact .inl ⟨rfl, e⟩
  | false =>
    rw [h1, if_neg (by decide)] at e
    refine .inr ⟨rfl, ?_⟩
    cases h2 : (rdS s p).2.2 with
    | false => rw [h2, if_pos rfl] at e; exact .inl ⟨rfl, e⟩
    | true =>
      rw [h2, if_neg (by decide)] at e
      refine .inr ⟨rfl, ?_⟩
      cases h3 : stB ((rdS s p).1 : Nat) with
      | true =>
        rw [h3, if_pos rfl] at e
        refine .inl ⟨rfl, ?_⟩
        cases h4 : rsB (s.extract p (run reN s p)) with
        | true => rw [h4, if_pos rfl] at e; exact .inl ⟨rfl, e⟩
        | false =>
          rw [h4, if_neg (by decide)] at e
          by_cases h5 : 16 < cnt (s.extract p (run reN s p))
          · rw [if_pos h5] at e; exact .inr (.inl ⟨rfl, h5, e⟩)
          · rw [if_neg h5] at e; exact .inr (.inr ⟨rfl, h5, e⟩)
      | false =>
        rw [h3, if_neg (by decide)] at e
        cases h6 : isDig (rdS s p).1 with
        | true =>
          rw [h6, if_pos rfl] at e
          refine .inr (.inl ⟨rfl, rfl, ?_⟩)
          by_cases h7 : 9223372036854775807 < valF s p (run isDig s p - p)
          · rw [if_pos h7] at e; exact .inl ⟨h7, e⟩
          · rw [if_neg h7] at e; exact .inr ⟨h7, e⟩
        | false =>
          rw [h6, if_neg (by decide)] at e
          by_cases h8 : plB ((rdS s p).1 : Nat) = emp
          · rw [if_neg (fun h => h h8)] at e
            refine .inr (.inr (.inr ⟨rfl, rfl, h8, ?_⟩))
            by_cases h9 : sgn s p = emp
            · rw [if_pos h9] at e; exact .inl ⟨h9, e⟩
            · rw [if_neg h9] at e; exact .inr ⟨h9, e⟩
          · rw [if_pos h8] at e
            exact .inr (.inr (.inl ⟨rfl, rfl, h8, e⟩))
/-- a word is made of whole characters, the first of which is no blank -/
theorem tok_bd {s : ByteArray} {p k v q : Nat} {t : ByteArray} (hp : p < s.size) (h : tok s p = .word k t v q) : Bd s p q ∧ blB ((rdS s p).1 : Nat) = false := by
  rcases tok_cases s p with ⟨_, e⟩ | ⟨hbl, ⟨_, e⟩ | ⟨_, ⟨_, ⟨_, e⟩ | ⟨_, _, e⟩ | ⟨_, _, e⟩⟩ | ⟨_, _, ⟨_, e⟩ | ⟨_, e⟩⟩ | ⟨_, _, _, e⟩ | ⟨_, _, _, ⟨_, e⟩ | ⟨hne, e⟩⟩⟩⟩
  all_goals rw [h] at e
  all_goals cases e
  all_goals refine ⟨?_, hbl⟩
  · exact (run_run reN s p).bd
  · exact (run_run reN s p).bd
  · exact (run_run isDig s p).bd
  · exact .cons hp (.nil _)
  · obtain ⟨h1, h2, _⟩ := sgn_mem hne
    have h3 := (fits_iff s p _).1 h1
    exact bd_ascii _ p h3.1 (fun j hj => by rw [h3.2 j hj]; exact (signs_plain _ h2 j hj).2)
theorem blank_bd {s : ByteArray} {p : Nat} (hp : p < s.size) (h : tok s p = .blank) : Bd s p (p + 1) ∧ blB ((rdS s p).1 : Nat) = true := by
  have hbl : blB ((rdS s p).1 : Nat) = true := by
    rcases tok_cases s p with ⟨hbl, _⟩ | ⟨hbl, ⟨_, e⟩ | ⟨_, ⟨_, ⟨_, e⟩ | ⟨_, _, e⟩ | ⟨_, _, e⟩⟩ | ⟨_, _, ⟨_, e⟩ | ⟨_, e⟩⟩ | ⟨_, _, _, e⟩ | ⟨_, _, _, ⟨_, e⟩ | ⟨hne, e⟩⟩⟩⟩
    · exact hbl
    all_goals rw [h] at e
    all_goals cases e
  refine ⟨.cons hp ?_, hbl⟩
  rw [(blank_one hbl).1]
  exact .nil _
/-- a fault's place: a character begins there -/
theorem Lx.bd {s : ByteArray} {p : Nat} {ws : List Wd} {f : Option (Nat × Nat)} (h : Lx s p ws f) : (∀ w ∈ ws, Bd s p w.byte ∧ w.byte < s.size ∧ blB ((rdS s w.byte).1 : Nat) = false) ∧ ∀ c e, f = some (c, e) → Bd s p e ∧ e < s.size := by
  induction h with
  | done => exact ⟨fun w hw => (by cases hw), fun c e he => (by cases he)⟩
  | blank a b _ ih =>
    obtain ⟨h1, _⟩ := blank_bd a b
    exact ⟨fun w hw => ⟨h1.trans (ih.1 w hw).1, (ih.1 w hw).2⟩, fun c e he => ⟨h1.trans (ih.2 c e he).1, (ih.2 c e he).2⟩⟩
  | bad a b =>
    refine ⟨fun w hw => (by cases hw), fun c e he => ?_⟩
    cases he
    exact ⟨.nil _, a⟩
  | word a b _ ih =>
    obtain ⟨h1, h2⟩ := tok_bd a b
    refine ⟨fun w hw => ?_, fun c e he => ⟨h1.trans (ih.2 c e he).1, (ih.2 c e he).2⟩⟩
    rcases List.mem_cons.1 hw with rfl | hw
    · exact ⟨.nil _, a, h2⟩
    · exact ⟨h1.trans (ih.1 w hw).1, (ih.1 w hw).2⟩
/-- the words stand in order -/
theorem Lx.rise {s : ByteArray} {p : Nat} {ws : List Wd} {f : Option (Nat × Nat)} (h : Lx s p ws f) : (∀ w ∈ ws, p ≤ w.byte) ∧ ws.Pairwise (fun a b => a.byte < b.byte) := by
  induction h with
  | done => exact ⟨fun w hw => (by cases hw), .nil⟩
  | blank a b _ ih => exact ⟨fun w hw => by have := ih.1 w hw; omega, ih.2⟩
  | bad => exact ⟨fun w hw => (by cases hw), .nil⟩
  | word a b _ ih =>
    have hq := tok_to a b
    refine ⟨fun w hw => ?_, List.pairwise_cons.2 ⟨fun w hw => ?_, ih.2⟩⟩
    · rcases List.mem_cons.1 hw with rfl | hw
      · exact Nat.le_refl _
      · have := ih.1 w hw; omega
    · have := ih.1 w hw
      dsimp only
      omega
/-- ahead of the first word stand blanks -/
theorem Lx.ahead {s : ByteArray} {p : Nat} {ws : List Wd} {f : Option (Nat × Nat)} (h : Lx s p ws f) (hf : f = none) : ∀ i, p ≤ i → i < s.size → (∀ w ∈ ws, i < w.byte) → blB (bt s i : Nat) = true := by
  induction h with
  | done hd => intro i h1 h2 _; omega
  | blank a b _ ih =>
    intro i h1 h2 h3
    rcases Nat.lt_or_eq_of_le h1 with hlt | rfl
    · exact ih hf i hlt h2 h3
    · exact (blank_one (blank_bd a b).2).2
  | bad => cases hf
  | word a b _ ih =>
    intro i h1 h2 h3
    have h4 : i < _ := h3 _ (List.mem_cons_self ..)
    dsimp only at h4
    omega
end Go.Proofs.YtncgmnijgdfenaaDoor.Gl
/- Words of a text: a text cut at a fault; two texts joined by a blank: plain mathematics. -/
namespace Go.Proofs.YtncgmnijgdfenaaDoor.Gl
set_option linter.unusedVariables false

theorem st_dig {r : Nat} (h : stB (r : Nat) = true) : ¬ isDig r = true := by
  intro hd
  have h2 := of_decide_eq_true hd
  rw [st_eq] at h
  unfold laB grB at h
  simp only [Bool.or_eq_true, decide_eq_true_eq] at h
  omega
theorem tok_eq {c s : ByteArray} {d p : Nat} (e0 : rdS c p = rdS s (d + p))
    (hname : stB ((rdS s (d + p)).1 : Nat) = true → d + run reN c p = run reN s (d + p) ∧ c.extract p (run reN c p) = s.extract (d + p) (run reN s (d + p)))
    (hdig : isDig (rdS s (d + p)).1 = true → d + run isDig c p = run isDig s (d + p) ∧ valF c p (run isDig c p - p) = valF s (d + p) (run isDig s (d + p) - (d + p)))
    (hsgn : stB ((rdS s (d + p)).1 : Nat) = false → isDig (rdS s (d + p)).1 = false → plB ((rdS s (d + p)).1 : Nat) = emp → (rdS s (d + p)).2.2 = true → sgn c p = sgn s (d + p)) : (tok c p).move d = tok s (d + p) := by
  unfold tok
  rw [e0]
  split
  · rfl
  · split
    · rfl
    · rename_i hok
      split
      · rename_i hst
        obtain ⟨h1, h2⟩ := hname hst
        rw [h2, ← h1]
        split
        · rfl
        · split <;> rfl
      · rename_i hst
        split
        · rename_i hd
          obtain ⟨h1, h2⟩ := hdig hd
          rw [h2, ← h1]
          split <;> rfl
        · rename_i hd
          split
          · show Tk.word _ _ _ (d + (p + _)) = _
            rw [Nat.add_assoc]
          · rename_i hpl
            rw [hsgn (by simpa using hst) (by simpa using hd) (Classical.byContradiction hpl) (by simpa using hok)]
            split
            · rfl
            · show Tk.word _ _ _ (d + (p + _)) = _
              rw [Nat.add_assoc]
/-- a run within a window -/
theorem RunTo.win {P : Nat → Bool} {s : ByteArray} {a e : Nat} (he : e ≤ s.size) {x y : Nat} (h : RunTo P s x y) : ∀ i j, x = a + i → y = a + j → y ≤ e → RunTo P (s.extract a e) i j := by
  induction h with
  | nil p =>
    intro i j h1 h2 _
    obtain rfl : i = j := by omega
    exact .nil i
  | cons hp hok hP k ih =>
    intro i j h1 h2 h3
    subst h1
    have hk := k.le
    have hb := rd_bd s _ hp
    have hr := rd_win s a e i he (by omega) (by omega)
    refine .cons (by rw [size_win s a e he]; omega) (by rw [hr]; exact hok) (by rw [hr]; exact hP) (ih _ j (by rw [hr]; omega) h2 h3)
theorem ends_win {P : Nat → Bool} {s : ByteArray} {a e j : Nat} (he : e ≤ s.size) (h : Ends P s (a + j)) (hb : Bd s (a + j) e) : Ends P (s.extract a e) j := by
  rintro ⟨h1, h2, h3⟩
  rw [size_win s a e he] at h1
  have hr := rd_win s a e j he (hb.step (by omega)) (by omega)
  rw [hr] at h2 h3
  exact h ⟨by omega, h2, h3⟩
theorem run_win {P : Nat → Bool} {s : ByteArray} {a e i : Nat} (he : e ≤ s.size) (hq : run P s (a + i) ≤ e) (hb : Bd s (run P s (a + i)) e) : a + run P (s.extract a e) i = run P s (a + i) := by
  have hr := run_run P s (a + i)
  have hl := hr.le
  obtain ⟨j, hj⟩ : ∃ j, run P s (a + i) = a + j := ⟨run P s (a + i) - a, by omega⟩
  rw [hj] at hr hq hb ⊢
  have hen := run_ends P s (a + i)
  rw [hj] at hen
  rw [run_is (hr.win he i j rfl rfl hq) (ends_win he hen hb)]
theorem longest_max (s : ByteArray) (p : Nat) (l : List ByteArray) (b : ByteArray) : b.size ≤ (longest s p l b).size ∧ ∀ x ∈ l, fits s p x = true → x.size ≤ (longest s p l b).size := by
  induction l generalizing b with
  | nil => exact ⟨Nat.le_refl _, fun x hx => (by cases hx)⟩
  | cons y l ih =>
    rw [longest]
    split
    · rename_i h
      rw [Bool.and_eq_true, decide_eq_true_eq] at h
      obtain ⟨h1, h2⟩ := ih y
      refine ⟨by omega, fun x hx hf => ?_⟩
      rcases List.mem_cons.1 hx with rfl | hx
      · exact h1
      · exact h2 x hx hf
    · rename_i h
      obtain ⟨h1, h2⟩ := ih b
      refine ⟨h1, fun x hx hf => ?_⟩
      rcases List.mem_cons.1 hx with rfl | hx
      · rw [Bool.and_eq_true, decide_eq_true_eq] at h
        have : ¬ b.size < x.size := fun e => h ⟨hf, e⟩
        omega
      · exact h2 x hx hf
theorem fits_win {s : ByteArray} {a e i : Nat} (he : e ≤ s.size) (x : ByteArray) (hx : fits s (a + i) x = true → a + i + x.size ≤ e) (hi : a + i ≤ e) : fits (s.extract a e) i x = fits s (a + i) x := by
  rw [Bool.eq_iff_iff]
  constructor
  · intro h
    obtain ⟨h1, h2⟩ := (fits_iff _ _ _).1 h
    rw [size_win s a e he] at h1
    refine (fits_iff _ _ _).2 ⟨by omega, fun j hj => ?_⟩
    rw [← h2 j hj, bt_win s a e (i + j) he (by omega), Nat.add_assoc]
  · intro h
    have h3 := hx h
    obtain ⟨h1, h2⟩ := (fits_iff _ _ _).1 h
    refine (fits_iff _ _ _).2 ⟨by rw [size_win s a e he]; omega, fun j hj => ?_⟩
    rw [bt_win s a e (i + j) he (by omega), ← Nat.add_assoc]
    exact h2 j hj
theorem sgn_win {s : ByteArray} {a e i : Nat} (he : e ≤ s.size) (hi : a + i ≤ e) (h : a + i + (sgn s (a + i)).size ≤ e) : sgn (s.extract a e) i = sgn s (a + i) :=
  longest_congr _ _ (fun x hx => fits_win he x (fun hf => by have := (longest_max s (a + i) allSigns emp).2 x hx hf; unfold sgn at h; omega) hi)
/-- a word that lies within the window, whose end whole characters lead on to the window's end: it is that word there -/
theorem tok_win {s : ByteArray} {a e i k v q : Nat} {t : ByteArray} (he : e ≤ s.size) (hi : a + i < e) (h : tok s (a + i) = .word k t v q) (hq : q ≤ e) (hb : Bd s q e) : (tok (s.extract a e) i).move a = .word k t v q := by
  have hp : a + i < s.size := by omega
  obtain ⟨hbd, _⟩ := tok_bd hp h
  have hto := tok_to hp h
  have hst := hbd.step hto.1
  have e0 := rd_win s a e i he (by omega) hi
  rw [← h]
  refine tok_eq e0 (fun h1 => ?_) (fun h1 => ?_) (fun h1 h2 h3 h4 => ?_)
  · have hqe : run reN s (a + i) = q := by
      rcases tok_cases s (a + i) with ⟨_, e⟩ | ⟨_, ⟨_, e⟩ | ⟨_, ⟨_, ⟨_, e⟩ | ⟨_, _, e⟩ | ⟨_, _, e⟩⟩ | ⟨hc, _⟩ | ⟨hc, _⟩ | ⟨hc, _⟩⟩⟩
      any_goals (rw [h] at e; cases e)
      any_goals rfl
      all_goals (rw [h1] at hc; cases hc)
    have hr := run_win (P := reN) he (i := i) (a := a) (by rw [hqe]; exact hq) (by rw [hqe]; exact hb)
    refine ⟨hr, ?_⟩
    have hl := (run_run reN s (a + i)).le
    refine extract_eq (by omega) (by rw [size_win s a e he]; omega) (by omega) (fun j hj => ?_)
    rw [bt_win s a e (i + j) he (by omega), Nat.add_assoc]
  · have hqe : run isDig s (a + i) = q := by
      rcases tok_cases s (a + i) with ⟨_, e⟩ | ⟨_, ⟨_, e⟩ | ⟨_, ⟨hc, ⟨_, e⟩ | ⟨_, _, e⟩ | ⟨_, _, e⟩⟩ | ⟨_, _, ⟨_, e⟩ | ⟨_, e⟩⟩ | ⟨_, hc, _⟩ | ⟨_, hc, _⟩⟩⟩
      any_goals (rw [h] at e; cases e)
      any_goals rfl
      any_goals (rw [h1] at hc; cases hc)
      all_goals (exact absurd h1 (st_dig hc))
    have hr := run_win (P := isDig) he (i := i) (a := a) (by rw [hqe]; exact hq) (by rw [hqe]; exact hb)
    refine ⟨hr, ?_⟩
    have hl := (run_run isDig s (a + i)).le
    rw [show run isDig (s.extract a e) i - i = run isDig s (a + i) - (a + i) by omega]
    refine valF_congr _ (fun j hj => ?_)
    rw [bt_win s a e (i + j) he (by omega), Nat.add_assoc]
  · have hqe : a + i + (sgn s (a + i)).size = q := by
      rcases tok_cases s (a + i) with ⟨_, e⟩ | ⟨_, ⟨_, e⟩ | ⟨_, ⟨hc, _⟩ | ⟨_, hc, _⟩ | ⟨_, _, hc, _⟩ | ⟨_, _, _, ⟨_, e⟩ | ⟨_, e⟩⟩⟩⟩
      any_goals (rw [h] at e; cases e)
      any_goals rfl
      · rw [h1] at hc; cases hc
      · rw [h2] at hc; cases hc
      · exact absurd h3 hc
    exact sgn_win he (by omega) (by omega)
theorem Tk.move_zero (t : Tk) : t.move 0 = t := by cases t <;> simp [Tk.move]
/-- a text cut where its fault stands has the words ahead of it, and no fault -/
theorem Lx.cut {s : ByteArray} {p e : Nat} {ws : List Wd} {f : Option (Nat × Nat)} (h : Lx s p ws f) (hs : e ≤ s.size) : ∀ c, f = some (c, e) → Lx (s.extract 0 e) p ws none := by
  have hz : (s.extract 0 e).size = e := by rw [size_win s 0 e hs]; omega
  induction h with
  | done => intro c hc; cases hc
  | @blank p ws f a b k ih =>
    intro c hc
    have hk := (k.bd).2 c e hc
    have hle := hk.1.le
    obtain ⟨_, hbl⟩ := blank_bd a b
    have e0 := rd_cut s e p hs (by rw [(blank_one hbl).1]; exact hle) (by omega)
    refine .blank (by omega) ?_ (ih c hc)
    unfold tok
    rw [e0, if_pos hbl]
  | bad a b =>
    intro c hc
    cases hc
    exact .done (by omega)
  | @word p kd t v q ws f a b k ih =>
    intro c hc
    have hk := (k.bd).2 c e hc
    have hle := hk.1.le
    have hto := tok_to a b
    have h0 : tok s (0 + p) = .word kd t v q := by rw [Nat.zero_add]; exact b
    have ht := tok_win (a := 0) (i := p) hs (by omega) h0 hle hk.1
    rw [Tk.move_zero] at ht
    exact .word (by omega) ht (ih c hc)
end Go.Proofs.YtncgmnijgdfenaaDoor.Gl
/- Lists of texts: the law's same; the document's Index, put, Together. -/
namespace Go.Proofs.YtncgmnijgdfenaaDoor.Gl
open Go.RowKit
set_option linter.unusedVariables false

theorem toList_inj {x y : ByteArray} (h : x.toList = y.toList) : x = y := by
  rw [ByteArray.toList_eq, ByteArray.toList_eq] at h
  cases x; cases y
  exact congrArg ByteArray.mk (Array.toList_inj.1 h)
theorem eqS_iff (x y : ByteArray) : (x.toList == y.toList) = true ↔ x = y := by
  rw [beq_iff_eq]
  exact ⟨toList_inj, fun h => by rw [h]⟩
theorem slist_eq {T U : List ByteArray} (n : Nat) (hT : T.length = n) (hU : U.length = n) (h : ∀ j, j < n → T.getD j emp = U.getD j emp) : T = U := by
  apply List.ext_getElem (by rw [hT, hU])
  intro i h1 h2
  have := h i (by omega)
  rwa [sgetD_of h1, sgetD_of h2] at this
/-- where the name stands first -/
def idx (s : ByteArray) : List ByteArray → Int → Int
  | [], _ => -1
  | x :: l, k => if (x.toList == s.toList) = true then k else idx s l (k + 1)
theorem idx_step (s : ByteArray) (ss : List ByteArray) (k : Nat) (h : k < ss.length) : idx s (ss.drop k) k = if ((ss.getD k emp).toList == s.toList) = true then (k : Int) else idx s (ss.drop (k + 1)) ((k + 1 : Nat) : Int) := by
  rw [List.drop_eq_getElem_cons h, idx, sgetD_of h]; rfl
end Go.Proofs.YtncgmnijgdfenaaDoor.Gl
/- Words of a text: two texts joined by a blank; words written down and read again: plain mathematics. -/
namespace Go.Proofs.YtncgmnijgdfenaaDoor.Gl
set_option linter.unusedVariables false

abbrev blk : ByteArray := ⟨#[32]⟩
theorem bt_app_left (s t : ByteArray) (k : Nat) (h : k < s.size) : bt (s ++ t) k = bt s k := by
  rw [bt_of _ k (by rw [ByteArray.size_append]; omega), bt_of s k h, ByteArray.getElem_append_left h]
theorem bt_app_right (s t : ByteArray) (k : Nat) (h : k < t.size) : bt (s ++ t) (s.size + k) = bt t k := by
  rw [bt_of _ _ (by rw [ByteArray.size_append]; omega), bt_of t k h, ByteArray.getElem_append_right (by omega)]
  congr 2
  omega
theorem sim_left (s t : ByteArray) : Sim (s ++ blk ++ t) 0 s where
  size := by rw [ByteArray.size_append, ByteArray.size_append]; omega
  byte := fun j hj => by rw [Nat.zero_add, bt_app_left _ t j (by rw [ByteArray.size_append]; omega), bt_app_left s blk j hj]
  stop := .inr (by
    have h1 : s.size < (s ++ blk).size := by rw [ByteArray.size_append]; show s.size < s.size + 1; omega
    have := bt_app_right s blk 0 (by decide)
    rw [Nat.add_zero] at this
    rw [Nat.zero_add, bt_app_left _ t s.size h1, this]
    rfl)
theorem sim_right (s t : ByteArray) : Sim (s ++ blk ++ t) (s.size + 1) t where
  size := by rw [ByteArray.size_append, ByteArray.size_append]; exact Nat.le_refl _
  byte := fun j hj => by
    have := bt_app_right (s ++ blk) t j hj
    rwa [ByteArray.size_append] at this
  stop := .inl (by rw [ByteArray.size_append, ByteArray.size_append]; rfl)
theorem move_zero (a : List Wd) : a.map (Wd.move 0) = a := by
  have : Wd.move 0 = id := by funext w; simp [Wd.move]
  rw [this, List.map_id]
/-- a fault in the first one stays -/
theorem join_bad {s t : ByteArray} {a : List Wd} {c e : Nat} (h : Lx s 0 a (some (c, e))) : Lx (s ++ blk ++ t) 0 a (some (c, e)) := by
  have := (h.sim (sim_left s t) (Nat.zero_le _)).2 c e rfl
  rwa [move_zero, Nat.zero_add, Nat.zero_add] at this
/-- two texts with a blank between have the words of both -/
theorem join_lx {s t : ByteArray} {a b : List Wd} {g : Option (Nat × Nat)} (h : Lx s 0 a none) (k : Lx t 0 b g) :
    Lx (s ++ blk ++ t) 0 (a ++ b.map (Wd.move (s.size + 1))) (g.map fun x => (x.1, s.size + 1 + x.2)) := by
  have hz : (s ++ blk ++ t).size = s.size + 1 + t.size := by rw [ByteArray.size_append, ByteArray.size_append]; rfl
  have hr : Lx (s ++ blk ++ t) (s.size + 1) (b.map (Wd.move (s.size + 1))) (g.map fun x => (x.1, s.size + 1 + x.2)) := by
    have hs := k.sim (sim_right s t) (Nat.zero_le _)
    cases g with
    | none =>
      have := hs.1 [] none rfl (.done (by omega))
      rwa [List.append_nil] at this
    | some x =>
      obtain ⟨c, e⟩ := x
      exact hs.2 c e rfl
  have hst := (sim_left s t).stop
  rw [Nat.zero_add] at hst
  have h32 : bt (s ++ blk ++ t) s.size = 32 := hst.resolve_left (by omega)
  have hm : Lx (s ++ blk ++ t) (0 + s.size) (b.map (Wd.move (s.size + 1))) (g.map fun x => (x.1, s.size + 1 + x.2)) := by
    rw [Nat.zero_add]
    refine .blank (by omega) ?_ hr
    unfold tok
    rw [rd_blank h32]
    rfl
  have := (h.sim (sim_left s t) (Nat.zero_le _)).1 _ _ rfl hm
  rwa [move_zero, Nat.zero_add] at this
/- numbers written down -/
def decL (n : Nat) : List UInt8 := if h : n < 10 then [UInt8.ofNat (48 + n)] else decL (n / 10) ++ [UInt8.ofNat (48 + n % 10)]
termination_by n
decreasing_by omega
def dec (n : Nat) : ByteArray := ⟨(decL n).toArray⟩
theorem bt_list (l : List UInt8) (k : Nat) (h : k < l.length) : bt ⟨l.toArray⟩ k = l[k].toNat := by
  rw [bt_of _ k (by simpa [ByteArray.size] using h)]
  rfl
theorem dec_size (n : Nat) : (dec n).size = (decL n).length := by simp [dec, ByteArray.size]
theorem u8_of {n : Nat} (h : n < 256) : (UInt8.ofNat n).toNat = n := by rw [UInt8.toNat_ofNat']; omega
theorem dec_lt {n : Nat} (h : n < 10) : decL n = [UInt8.ofNat (48 + n)] := by rw [decL, dif_pos h]
theorem dec_ge {n : Nat} (h : ¬ n < 10) : decL n = decL (n / 10) ++ [UInt8.ofNat (48 + n % 10)] := by rw [decL, dif_neg h]
theorem dec_all (n : Nat) : 0 < (decL n).length ∧ (∀ c ∈ decL n, 48 ≤ c.toNat ∧ c.toNat ≤ 57) ∧ valF (dec n) 0 (decL n).length = n := by
  induction n using Nat.strongRecOn with
  | _ n ih =>
    by_cases h : n < 10
    · have hd : dec n = ⟨#[UInt8.ofNat (48 + n)]⟩ := by unfold dec; rw [dec_lt h]
      rw [hd, dec_lt h]
      refine ⟨by simp, fun c hc => ?_, ?_⟩
      · rw [List.mem_singleton] at hc
        subst hc
        rw [u8_of (by omega)]; omega
      · have := bt_list [UInt8.ofNat (48 + n)] 0 (by simp)
        show 10 * 0 + (bt ⟨[UInt8.ofNat (48 + n)].toArray⟩ 0 - 48) = n
        rw [this]
        show 10 * 0 + ((UInt8.ofNat (48 + n)).toNat - 48) = n
        rw [u8_of (by omega)]; omega
    · obtain ⟨h1, h2, h3⟩ := ih (n / 10) (by omega)
      have hl : (decL n).length = (decL (n / 10)).length + 1 := by rw [dec_ge h]; simp
      refine ⟨by omega, fun c hc => ?_, ?_⟩
      · rw [dec_ge h, List.mem_append, List.mem_singleton] at hc
        rcases hc with hc | rfl
        · exact h2 c hc
        · rw [u8_of (by omega)]; omega
      · rw [hl, valF]
        have e1 : valF (dec n) 0 (decL (n / 10)).length = valF (dec (n / 10)) 0 (decL (n / 10)).length := valF_congr _ (fun j hj => by
          rw [Nat.zero_add]
          unfold dec
          rw [bt_list _ j (by omega), bt_list _ j hj]
          congr 1
          simp only [dec_ge h]
          rw [List.getElem_append_left hj])
        have e2 : bt (dec n) (0 + (decL (n / 10)).length) = 48 + n % 10 := by
          rw [Nat.zero_add]
          unfold dec
          rw [bt_list _ _ (by omega)]
          simp only [dec_ge h]
          rw [List.getElem_append_right (Nat.le_refl _)]
          simp only [Nat.sub_self, List.getElem_cons_zero]
          exact u8_of (by omega)
        rw [e1, h3, e2]
        omega
/-- all of it, if all its characters are with P -/
theorem run_all {P : Nat → Bool} {s : ByteArray} (h : RunTo P s 0 s.size) : run P s 0 = s.size := run_is h (fun hc => by omega)
theorem run_dig {s : ByteArray} : ∀ (n p : Nat), p + n = s.size → (∀ j, j < n → 48 ≤ bt s (p + j) ∧ bt s (p + j) ≤ 57) → RunTo isDig s p s.size
  | 0, p, h, _ => by
    obtain rfl : p = s.size := by omega
    exact .nil _
  | n + 1, p, h, hb => by
    have h0 := hb 0 (by omega)
    rw [Nat.add_zero] at h0
    have hr := rd_one s p (by omega)
    refine .cons (by omega) (by rw [hr]) (by rw [hr]; exact decide_eq_true h0) ?_
    rw [hr]
    exact run_dig n (p + 1) (by omega) (fun j hj => by have := hb (j + 1) (by omega); rwa [show p + 1 + j = p + (j + 1) by omega])
theorem tok_dec {n : Nat} (hn : n ≤ 9223372036854775807) : tok (dec n) 0 = .word 1 emp n (dec n).size := by
  obtain ⟨h1, h2, h3⟩ := dec_all n
  have hz := dec_size n
  have hb : ∀ j, j < (decL n).length → 48 ≤ bt (dec n) (0 + j) ∧ bt (dec n) (0 + j) ≤ 57 := fun j hj => by
    rw [Nat.zero_add]
    unfold dec
    rw [bt_list _ j hj]
    exact h2 _ (List.getElem_mem hj)
  have hr := run_all (run_dig (s := dec n) (decL n).length 0 (by omega) hb)
  have h0 := hb 0 h1
  rw [Nat.zero_add] at h0
  have hrd := rd_one (dec n) 0 (by omega)
  have hd : isDig (bt (dec n) 0) = true := decide_eq_true h0
  have hst : stB (bt (dec n) 0 : Nat) = false := by
    cases hq : stB (bt (dec n) 0 : Nat) with
    | false => rfl
    | true => exact absurd hd (st_dig hq)
  have hbl : blB (bt (dec n) 0 : Nat) = false := decide_eq_false (by omega)
  unfold tok
  rw [hrd]
  dsimp only
  rw [hbl, hst, hd, hr, if_neg (by decide), if_neg (by decide), if_neg (by decide), if_pos rfl, Nat.sub_zero, hz, h3, if_neg (by omega)]
/- words written down -/
def wrt (w : Wd) : ByteArray := if w.kind = 1 then dec w.num else w.text
def Tk.is2 (t : Tk) (x : ByteArray) : Bool := match t with
  | .word 2 y 0 q => y.toList == x.toList && q == x.size
  | _ => false
theorem Tk.of_is2 {t : Tk} {x : ByteArray} (h : t.is2 x = true) : t = .word 2 x 0 x.size := by
  unfold Tk.is2 at h
  split at h
  · rw [Bool.and_eq_true, eqS_iff, beq_iff_eq] at h
    rw [h.1, h.2]
  · cases h
theorem signs_again : ∀ x ∈ allSigns, (tok x 0).is2 x = true := by decide +kernel
theorem plain_again : ∀ r ∈ marks, (tok (plB r) 0).is2 (plB r) = true := by decide +kernel
theorem extract_all (s : ByteArray) : s.extract 0 s.size = s := ByteArray.extract_zero_size
/-- a word of a text, written down, is read as itself -/
theorem tok_again {s : ByteArray} {p k v q : Nat} {t : ByteArray} (hp : p < s.size) (h : tok s p = .word k t v q) : tok (wrt ⟨k, t, v, p⟩) 0 = .word k t v (wrt ⟨k, t, v, p⟩).size := by
  have hto := tok_to hp h
  rcases tok_cases s p with ⟨_, e⟩ | ⟨hbl, ⟨_, e⟩ | ⟨hok, ⟨hst, hc⟩ | ⟨_, _, ⟨_, e⟩ | ⟨hv, e⟩⟩ | ⟨_, _, hpl, e⟩ | ⟨_, _, _, ⟨_, e⟩ | ⟨hne, e⟩⟩⟩⟩
  · rw [h] at e; cases e
  · rw [h] at e; cases e
  · have hq : q = run reN s p ∧ t = s.extract p (run reN s p) ∧ v = 0 ∧ ((k = 2 ∧ rsB t = true) ∨ (k = 0 ∧ rsB t = false ∧ ¬ 16 < cnt t)) := by
      rcases hc with ⟨h1, e⟩ | ⟨_, _, e⟩ | ⟨h1, h2, e⟩
      · rw [h] at e; cases e; exact ⟨rfl, rfl, rfl, .inl ⟨rfl, h1⟩⟩
      · rw [h] at e; cases e
      · rw [h] at e; cases e; exact ⟨rfl, rfl, rfl, .inr ⟨rfl, h1, h2⟩⟩
    obtain ⟨hq, ht, rfl, hk⟩ := hq
    have hw : wrt ⟨k, t, 0, p⟩ = t := by
      unfold wrt
      rcases hk with ⟨rfl, _⟩ | ⟨rfl, _⟩ <;> rfl
    rw [hw]
    have hz : t.size = q - p := by rw [ht, ← hq]; exact size_win s p q hto.2
    have hrt : RunTo reN t 0 t.size := by
      have hr := run_run reN s p
      rw [← hq] at hr ht
      rw [hz, ht]
      exact hr.win hto.2 0 (q - p) (by omega) (by omega) (Nat.le_refl _)
    have hrun := run_all hrt
    have hst1 : p + (rdS s p).2.1 ≤ q := ((tok_bd hp h).1).step hto.1
    have e0 : rdS t 0 = rdS s p := by
      rw [ht, ← hq]
      exact rd_win s p q 0 hto.2 hst1 hto.1
    unfold tok
    rw [e0, hbl, hok, hst, hrun, extract_all, if_neg (by decide), if_neg (by decide), if_pos rfl]
    rcases hk with ⟨rfl, h1⟩ | ⟨rfl, h1, h2⟩
    · rw [h1, if_pos rfl]
    · rw [h1, if_neg (by decide), if_neg h2]
  · rw [h] at e; cases e
  · rw [h] at e; cases e
    exact tok_dec (Nat.le_of_not_lt hv)
  · rw [h] at e; cases e
    exact Tk.of_is2 (plain_again _ (by
      by_cases hm : ((rdS s p).1 : Int) ∈ marks
      · exact hm
      · exact absurd (pl_none _ (fun m h' e => hm (by rw [← e]; exact h'))) hpl))
  · rw [h] at e; cases e
  · rw [h] at e; cases e
    exact Tk.of_is2 (signs_again _ (sgn_mem hne).2.1)
theorem tok_size {s : ByteArray} {k v q : Nat} {t : ByteArray} (h : tok s 0 = .word k t v q) (hq : q = s.size) (hs : 0 < s.size) : Lx s 0 [⟨k, t, v, 0⟩] none := .word hs h (.done (by omega))
/-- the same words, but for their places -/
def Wd.core (w : Wd) : Nat × ByteArray × Nat := (w.kind, w.text, w.num)
/-- words written down with a blank behind each -/
def txt : List Wd → ByteArray
  | [] => emp
  | w :: ws => wrt w ++ blk ++ txt ws
theorem Lx.writes {s : ByteArray} {p : Nat} {ws : List Wd} {f : Option (Nat × Nat)} (h : Lx s p ws f) : ∀ w ∈ ws, tok (wrt w) 0 = .word w.kind w.text w.num (wrt w).size := by
  induction h with
  | done => intro w hw; cases hw
  | blank _ _ _ ih => exact ih
  | bad => intro w hw; cases hw
  | word a b _ ih =>
    intro w hw
    rcases List.mem_cons.1 hw with rfl | hw
    · exact tok_again a b
    · exact ih w hw
def Tk.isWord : Tk → Bool
  | .word _ _ _ _ => true
  | _ => false
theorem wr_pos {w : Wd} (h : tok (wrt w) 0 = .word w.kind w.text w.num (wrt w).size) : 0 < (wrt w).size := by
  by_cases hc : 0 < (wrt w).size
  · exact hc
  · exfalso
    have h0 : (wrt w) = emp := by
      have := ByteArray.size_eq_zero_iff.1 (show (wrt w).size = 0 by omega)
      exact this
    rw [h0] at h
    have h2 : (tok emp 0).isWord = false := by decide +kernel
    rw [h] at h2
    cases h2
theorem txt_lx (ws : List Wd) (h : ∀ w ∈ ws, tok (wrt w) 0 = .word w.kind w.text w.num (wrt w).size) : ∃ ws', Lx (txt ws) 0 ws' none ∧ ws'.map Wd.core = ws.map Wd.core := by
  induction ws with
  | nil => exact ⟨[], .done (Nat.zero_le _), rfl⟩
  | cons w ws ih =>
    obtain ⟨b, hb, hc⟩ := ih (fun x hx => h x (List.mem_cons_of_mem _ hx))
    have hw := h w (List.mem_cons_self ..)
    have h1 := tok_size hw rfl (wr_pos hw)
    refine ⟨_, join_lx h1 hb, ?_⟩
    rw [List.map_append, List.map_map]
    show [w.core] ++ b.map Wd.core = w.core :: ws.map Wd.core
    rw [hc]
    rfl
end Go.Proofs.YtncgmnijgdfenaaDoor.Gl
