/- The count of a word: the sum. -/
import Derived.Test.YtholafecbmhhhaaPopB
namespace Go.Proofs.Ytholafecbmhhhaa.Dg
set_option linter.unusedVariables false
theorem div1 (c r : Nat) (h : c < 256) : (c + 256 * r) / 256 = r := by omega
theorem div2 (c d r : Nat) (h : c < 256) (k : d < 256) : (c + 256 * (d + 256 * r)) / 65536 = r := by omega
theorem div4 (c d e f r : Nat) (h : c < 256) (k : d < 256) (h' : e < 256) (k' : f < 256) : (c + 256 * (d + 256 * (e + 256 * (f + 256 * r)))) / 4294967296 = r := by
  rw [show 4294967296 = 65536 * 65536 from rfl, ← Nat.div_div_eq_div_mul, div2 _ _ _ h k, div2 _ _ _ h' k']
theorem le8 (a b k : Nat) (h : a ≤ b) (r s : Nat) (h2 : r ≤ s) : a + 256 * r ≤ b + 256 * s := by omega
theorem word2 (y c0 c1 c2 c3 c4 c5 c6 c7 : Nat) (e : y = c0 + 256 * (c1 + 256 * (c2 + 256 * (c3 + 256 * (c4 + 256 * (c5 + 256 * (c6 + 256 * c7))))))) (h0 : c0 ≤ 8) (h1 : c1 ≤ 8) (h2 : c2 ≤ 8) (h3 : c3 ≤ 8) (h4 : c4 ≤ 8) (h5 : c5 ≤ 8) (h6 : c6 ≤ 8) (h7 : c7 ≤ 8) :
    y ≤ 600000000000000000 ∧ (((y + y / 256) + (y + y / 256) / 65536) + ((y + y / 256) + (y + y / 256) / 65536) / 4294967296) % 128 = c0 + c1 + c2 + c3 + c4 + c5 + c6 + c7 := by
  have hy : y ≤ 600000000000000000 := by
    subst e
    refine Nat.le_trans (le8 c0 8 0 h0 _ _ (le8 c1 8 0 h1 _ _ (le8 c2 8 0 h2 _ _ (le8 c3 8 0 h3 _ _ (le8 c4 8 0 h4 _ _ (le8 c5 8 0 h5 _ _ (le8 c6 8 0 h6 _ _ h7))))))) (by decide)
  refine ⟨hy, ?_⟩
  clear hy
  have a : y + y / 256 = (c0 + c1) + 256 * ((c1 + c2) + 256 * ((c2 + c3) + 256 * ((c3 + c4) + 256 * ((c4 + c5) + 256 * ((c5 + c6) + 256 * ((c6 + c7) + 256 * c7)))))) := by
    rw [e, div1 _ _ (by omega)]
    clear e h0 h1 h2 h3 h4 h5 h6 h7
    simp only [Nat.mul_add, ← Nat.mul_assoc]
    ac_rfl
  rw [a]
  clear a e
  have b : (c0 + c1) + 256 * ((c1 + c2) + 256 * ((c2 + c3) + 256 * ((c3 + c4) + 256 * ((c4 + c5) + 256 * ((c5 + c6) + 256 * ((c6 + c7) + 256 * c7)))))) + ((c0 + c1) + 256 * ((c1 + c2) + 256 * ((c2 + c3) + 256 * ((c3 + c4) + 256 * ((c4 + c5) + 256 * ((c5 + c6) + 256 * ((c6 + c7) + 256 * c7))))))) / 65536
      = (c0 + c1 + c2 + c3) + 256 * ((c1 + c2 + c3 + c4) + 256 * ((c2 + c3 + c4 + c5) + 256 * ((c3 + c4 + c5 + c6) + 256 * ((c4 + c5 + c6 + c7) + 256 * ((c5 + c6 + c7) + 256 * ((c6 + c7) + 256 * c7)))))) := by
    rw [div2 _ _ _ (by omega) (by omega)]
    clear h0 h1 h2 h3 h4 h5 h6 h7
    simp only [Nat.mul_add, ← Nat.mul_assoc]
    ac_rfl
  rw [b]
  clear b
  rw [div4 _ _ _ _ _ (by omega) (by omega) (by omega) (by omega)]
  generalize c2 + c3 + c4 + c5 + 256 * ((c3 + c4 + c5 + c6) + 256 * ((c4 + c5 + c6 + c7) + 256 * ((c5 + c6 + c7) + 256 * ((c6 + c7) + 256 * c7)))) = r
  generalize c5 + c6 + c7 + 256 * (c6 + c7 + 256 * c7) = s
  omega
/-- the whole count -/
def popw (x : Nat) : Nat := let y := s3 1085102592571150095 (s2 3689348814741910323 (s1 6148914691236517205 x)); (((y + y / 256) + (y + y / 256) / 65536) + ((y + y / 256) + (y + y / 256) / 65536) / 4294967296) % 128
theorem popw_eq (x : Nat) (h : x < 18446744073709551616) : popw x = ones 64 x ∧ s1 6148914691236517205 x ≤ 12297829382473034410 ∧ s2 3689348814741910323 (s1 6148914691236517205 x) ≤ 4919131752989213764 ∧ s3 1085102592571150095 (s2 3689348814741910323 (s1 6148914691236517205 x)) ≤ 600000000000000000 := by
  obtain ⟨h1, h2, c0, c1, c2, c3, c4, c5, c6, c7, e, g0, g1, g2, g3, g4, g5, g6, g7, ho⟩ := word1 x h
  obtain ⟨a, b⟩ := word2 _ c0 c1 c2 c3 c4 c5 c6 c7 e g0 g1 g2 g3 g4 g5 g6 g7
  exact ⟨b.trans ho.symm, h1, h2, a⟩
end Go.Proofs.Ytholafecbmhhhaa.Dg
