/- U+FFFD in a text: plain mathematics. -/
import Derived.Test.YtiihabecncnbcaaGlMath
import Derived.Laws.Strings
namespace Go.Proofs.Ytiihabecncnbcaa.Gl
set_option linter.unusedVariables false

/-- the three bytes of U+FFFD stand at p -/
def Fd (s : ByteArray) (p : Nat) : Prop := p + 3 ≤ s.size ∧ bt s p = 239 ∧ bt s (p + 1) = 191 ∧ bt s (p + 2) = 189
theorem rd_fffd (s : ByteArray) (p : Nat) (hp : p < s.size) (h : (rdS s p).1 = 65533) : (rdS s p).2.2 = true ↔ Fd s p := by
  have hb := bt_lt s p
  have hb1 := bt_lt s (p + 1)
  have hb2 := bt_lt s (p + 2)
  unfold Fd
  by_cases h1 : bt s p < 128
  · rw [rd_one s p h1] at h; dsimp only at h; omega
  · by_cases h2 : (128 ≤ bt s p ∧ bt s p < 194) ∨ 245 ≤ bt s p
    · rw [rd_bad0 s p h2]; dsimp only
      exact ⟨fun e => (by cases e), fun e => (by omega)⟩
    · by_cases h3 : bt s p < 224
      · rw [rd_two s p (by omega)] at h ⊢
        split at h
        · rename_i hc
          have e : accB s p (bt s p - 192) 1 = (bt s p - 192) * 64 + (bt s (p + 1) - 128) := rfl
          dsimp only at h
          have := hc.2.1 0 (by omega)
          omega
        · rename_i hc
          rw [if_neg hc]; dsimp only
          exact ⟨fun e => (by cases e), fun e => (by omega)⟩
      · by_cases h4 : bt s p < 240
        · have e : accB s p (bt s p - 224) 2 = ((bt s p - 224) * 64 + (bt s (p + 1) - 128)) * 64 + (bt s (p + 2) - 128) := rfl
          rw [rd_three s p (by omega)] at h ⊢
          split at h
          · rename_i hc
            rw [if_pos hc]; dsimp only at h ⊢
            have k0 := hc.2.1 0 (by omega)
            have k1 := hc.2.1 1 (by omega)
            have hc1 := hc.1
            refine ⟨fun _ => ?_, fun _ => rfl⟩
            rw [e] at h
            have k1' : 128 ≤ bt s (p + 2) ∧ bt s (p + 2) < 192 := k1
            simp only [Nat.zero_add] at k0
            omega
          · rename_i hc
            rw [if_neg hc]; dsimp only
            refine ⟨fun e => (by cases e), fun ⟨f0, f1, f2, f3⟩ => absurd ⟨by omega, ?_, ?_⟩ hc⟩
            · intro k hk
              rcases (show k = 0 ∨ k = 1 by omega) with rfl | rfl
              · simp only [Nat.zero_add]; omega
              · show 128 ≤ bt s (p + 2) ∧ bt s (p + 2) < 192
                omega
            · rw [e, f1, f2, f3]; omega
        · rw [rd_four s p (by omega)] at h ⊢
          split at h
          · rename_i hc
            dsimp only at h
            have := hc.2.2.1
            omega
          · rename_i hc
            rw [if_neg hc]; dsimp only
            exact ⟨fun e => (by cases e), fun e => (by omega)⟩
theorem rd_ok (s : ByteArray) (p : Nat) (h : (rdS s p).1 ≠ 65533) : (rdS s p).2.2 = true := by
  unfold rdS at h ⊢
  dsimp only at h ⊢
  have : ((Utf8.decode s p).1 == 65533) = false := by simpa using h
  rw [this]; rfl
theorem bt_extract (s : ByteArray) (i j k : Nat) (h : i + k < j) (hj : j ≤ s.size) : bt (s.extract i j) k = bt s (i + k) := by
  rw [bt_of _ k (by rw [ByteArray.size_extract]; omega), bt_of s (i + k) (by omega), ByteArray.getElem_extract]
theorem list_three (t : ByteArray) (h : t.size = 3) : t.toList = [t[0], t[1], t[2]] := by
  rw [ByteArray.toList_eq]
  cases t with
  | mk d =>
    have hd : d.size = 3 := h
    have hl : d.toList.length = 3 := by simpa using hd
    apply List.ext_getElem
    · simp [hd]
    · intro i h1 h2
      rcases (show i = 0 ∨ i = 1 ∨ i = 2 by simp at h2; omega) with rfl | rfl | rfl <;> rfl
theorem three_iff (t : ByteArray) (h : t.size = 3) : (t.toList == [239, 191, 189]) = true ↔ bt t 0 = 239 ∧ bt t 1 = 191 ∧ bt t 2 = 189 := by
  rw [beq_iff_eq, list_three t h, bt_of t 0 (by omega), bt_of t 1 (by omega), bt_of t 2 (by omega)]
  simp only [List.cons.injEq, and_true]
  have key : ∀ (x : UInt8) (n : Nat) (hn : n < 256), x = UInt8.ofNat n ↔ x.toNat = n := fun x n hn => by
    rw [← UInt8.toNat_inj, UInt8.toNat_ofNat']; omega
  rw [← key t[0] 239 (by omega), ← key t[1] 191 (by omega), ← key t[2] 189 (by omega)]
  exact Iff.rfl
/-- 's[p:p+3]' is U+FFFD -/
theorem cut3_iff (s : ByteArray) (p : Nat) (h : p + 3 ≤ s.size) : ((s.extract p (p + 3)).toList == [239, 191, 189]) = true ↔ Fd s p := by
  rw [three_iff _ (by rw [ByteArray.size_extract]; omega), bt_extract s p (p + 3) 0 (by omega) h, bt_extract s p (p + 3) 1 (by omega) h, bt_extract s p (p + 3) 2 (by omega) h]
  unfold Fd
  exact ⟨fun ⟨a, b, c⟩ => ⟨h, a, b, c⟩, fun ⟨_, a, b, c⟩ => ⟨a, b, c⟩⟩
/-- the beginning of 's[p:]' is U+FFFD -/
theorem pre3_iff (s : ByteArray) (p : Nat) (hp : p ≤ s.size) (h : 3 ≤ (s.extract p s.size).size) : (((s.extract p s.size).extract 0 3).toList == [239, 191, 189]) = true ↔ Fd s p := by
  have h' : p + 3 ≤ s.size := by rw [ByteArray.size_extract] at h; omega
  have e : ∀ k, k < 3 → bt ((s.extract p s.size).extract 0 3) k = bt s (p + k) := fun k hk => by
    rw [bt_extract _ 0 3 k (by omega) h, bt_extract s p s.size (0 + k) (by omega) (Nat.le_refl _), Nat.zero_add]
  rw [three_iff _ (by rw [ByteArray.size_extract]; omega), e 0 (by omega), e 1 (by omega), e 2 (by omega)]
  unfold Fd
  exact ⟨fun ⟨a, b, c⟩ => ⟨h', a, b, c⟩, fun ⟨_, a, b, c⟩ => ⟨a, b, c⟩⟩
theorem pre3_no (s : ByteArray) (p : Nat) (hp : p ≤ s.size) (h : (s.extract p s.size).size < 3) : ¬ Fd s p := by
  rintro ⟨h1, _⟩
  rw [ByteArray.size_extract] at h; omega
end Go.Proofs.Ytiihabecncnbcaa.Gl
