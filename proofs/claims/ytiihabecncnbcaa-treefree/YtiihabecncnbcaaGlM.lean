/- The law's fixed; the walks of GlyphChars, GlyphNames. -/
import Derived.Test.YtiihabecncnbcaaGlL
import Derived.Laws.StructEq
namespace Go.Proofs.Ytiihabecncnbcaa.Gl
open Go.RowKit
set_option linter.unusedVariables false

theorem bt2 {w w1 w2 : World} (h : Below w.heap.size w w1) (k : Below w1.heap.size w1 w2) : Below w.heap.size w w2 := h.trans (k.mono h.size)
theorem bta {w w1 : World} (h : Below w.heap.size w w1) (o : Obj) : Below w.heap.size w (w1.alloc o) := h.alloc h.size o
theorem fx_cnt : IsCnt ((⟨#[97, 195, 169, 98]⟩ : ByteArray).extract 0 3) 2 := by unfold IsCnt; decide +kernel
theorem fx_yes : IsName ⟨#[206, 177, 226, 130, 129]⟩ := by
  refine ⟨⟨2, by unfold IsCnt; decide +kernel, by omega, by omega, ?_⟩, by decide +kernel⟩
  unfold Nms; decide +kernel
theorem fx_no : ¬ IsName ⟨#[97, 110, 100]⟩ := fun h => absurd h.2 (by decide +kernel)
open Classical in
theorem bool_for (p : Prop) : ∃ b : Bool, b = true ↔ p := ⟨decide p, by simp⟩
theorem good_is (s : ByteArray) : ∃ g, IsGood s g := by
  have key : ∀ n, (∃ g, IsGood s g) ∨ (n ≤ pos s n ∧ Oks s n) := by
    intro n
    induction n with
    | zero => right; exact ⟨Nat.zero_le _, fun j hj => absurd hj (by omega)⟩
    | succ n ih =>
      rcases ih with h | ⟨h1, h2⟩
      · exact .inl h
      · have hle := (pos_ge s n h2.lt).2
        by_cases hlt : pos s n < s.size
        · cases ho : (rdS s (pos s n)).2.2 with
          | true =>
            right
            refine ⟨?_, fun j hj => ?_⟩
            · have := rd_bd s (pos s n) hlt
              rw [pos_succ]; omega
            · rcases Nat.lt_succ_iff_lt_or_eq.1 hj with hj | rfl
              · exact h2 j hj
              · exact ⟨hlt, ho⟩
          | false => left; exact ⟨_, n, rfl, h2, .inr ⟨hlt, ho⟩⟩
        · left; exact ⟨_, n, rfl, h2, .inl (by omega)⟩
  rcases key (s.size + 1) with h | ⟨h1, h2⟩
  · exact h
  · have := (pos_ge s (s.size + 1) h2.lt).2
    omega
end Go.Proofs.Ytiihabecncnbcaa.Gl
