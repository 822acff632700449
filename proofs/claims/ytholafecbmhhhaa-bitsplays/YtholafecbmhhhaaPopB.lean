/- The count of a word: the steps. -/
import Derived.Test.YtholafecbmhhhaaPopMath
namespace Go.Proofs.Ytholafecbmhhhaa.Dg
set_option linter.unusedVariables false
theorem rep15 : rep 15 8 = 1085102592571150095 := by decide +kernel
theorem rep51 : rep 51 8 = 3689348814741910323 := by decide +kernel
theorem rep85 : rep 85 8 = 6148914691236517205 := by decide +kernel
/-- the steps on the whole word -/
theorem word1 (x : Nat) (h : x < 18446744073709551616) : s1 6148914691236517205 x ≤ 12297829382473034410 ∧ s2 3689348814741910323 (s1 6148914691236517205 x) ≤ 4919131752989213764
    ∧ ∃ c0 c1 c2 c3 c4 c5 c6 c7 : Nat, s3 1085102592571150095 (s2 3689348814741910323 (s1 6148914691236517205 x)) = c0 + 256 * (c1 + 256 * (c2 + 256 * (c3 + 256 * (c4 + 256 * (c5 + 256 * (c6 + 256 * c7)))))) ∧ c0 ≤ 8 ∧ c1 ≤ 8 ∧ c2 ≤ 8 ∧ c3 ≤ 8 ∧ c4 ≤ 8 ∧ c5 ≤ 8 ∧ c6 ≤ 8 ∧ c7 ≤ 8 ∧ ones 64 x = c0 + c1 + c2 + c3 + c4 + c5 + c6 + c7 := by
  have hj := join_bytes 8 x h
  have hl := bytes_length 8 x
  have hb := bytes_lt 8 x
  have h1 := s123 _ hb
  have h2 := ones_join _ hb
  have h8 : ∀ b, b < 256 → pop8 b ≤ 8 := fun b hb => by rw [pop8_all ⟨b, hb⟩]; exact ones_le 8 b
  rw [hj, hl, rep15, rep51, rep85] at h1
  rw [hj, hl] at h2
  match hB : bytes 8 x, hl with
  | [b0, b1, b2, b3, b4, b5, b6, b7], _ =>
    rw [hB] at h1 h2 hb
    simp only [List.map_cons, List.map_nil, join, List.sum_cons, List.sum_nil] at h1 h2
    obtain ⟨i1, _, i3, i4⟩ := h1
    refine ⟨i4, i3, _, _, _, _, _, _, _, _, i1, h8 _ (hb _ (by simp)), h8 _ (hb _ (by simp)), h8 _ (hb _ (by simp)), h8 _ (hb _ (by simp)), h8 _ (hb _ (by simp)), h8 _ (hb _ (by simp)), h8 _ (hb _ (by simp)), h8 _ (hb _ (by simp)), ?_⟩
    simp only [show 8 * 8 = 64 from rfl] at h2
    omega
end Go.Proofs.Ytholafecbmhhhaa.Dg
