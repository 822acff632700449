/- The law's fixed; the walks of GlyphChars, GlyphNames. -/
import Derived.Test.YtdfdbhjgighkpabGlL
import Derived.Laws.StructEq
namespace Go.Proofs.Ytdfdbhjgighkpab.Gl
open Go.RowKit
set_option linter.unusedVariables false

theorem bt2 {w w1 w2 : World} (h : Below w.heap.size w w1) (k : Below w1.heap.size w1 w2) : Below w.heap.size w w2 := h.trans (k.mono h.size)
theorem bta {w w1 : World} (h : Below w.heap.size w w1) (o : Obj) : Below w.heap.size w (w1.alloc o) := h.alloc h.size o
theorem fx_cnt : IsCnt ((⟨#[97, 195, 169, 98]⟩ : ByteArray).extract 0 3) 2 := by unfold IsCnt; decide +kernel
theorem fx_yes : IsName ⟨#[206, 177, 226, 130, 129]⟩ := by
  refine ⟨⟨2, by unfold IsCnt; decide +kernel, by omega, by omega, ?_⟩, by decide +kernel⟩
  unfold Nms; decide +kernel
theorem fx_no : ¬ IsName ⟨#[97, 110, 100]⟩ := fun h => absurd h.2 (by decide +kernel)
set_option maxHeartbeats 1000000 in
theorem fixed_at (w : World) : Calls Try.prog 4 #[] w fun e w' => e = .returned (.bool true) ∧ Below w.heap.size w w' := by
  have AT : Hid (∀ w, Calls Try.prog 10 #[.string ⟨#[97, 195, 169, 98]⟩, .int .i64 3] w fun e w' => e = .returned (.tuple #[.agg #[.int .i64 3, .int .i64 2], .int .i64 0]) ∧ Below w.heap.size w w') := fun w => at_in ⟨#[97, 195, 169, 98]⟩ 3 2 w (by decide) (by decide) fx_cnt
  have N1 : Hid (∀ w, Calls Try.prog 11 #[.string ⟨#[206, 177, 226, 130, 129]⟩] w fun e w' => e = .returned (.bool true) ∧ Below w.heap.size w w') := fun w => name_at _ true w (by decide) ⟨fun _ => fx_yes, fun _ => rfl⟩
  have N2 : Hid (∀ w, Calls Try.prog 11 #[.string ⟨#[97, 110, 100]⟩] w fun e w' => e = .returned (.bool false) ∧ Below w.heap.size w w') := fun w => name_at _ false w (by decide) ⟨fun e => (by cases e), fun e => absurd e fx_no⟩
  have PL : Hid (∀ w, Calls Try.prog 12 #[.int .i32 8804] w fun e w' => e = .returned (.string ⟨#[60, 61]⟩) ∧ w = w') := fun w => plain_at 8804 w
  go_enter Try.func4, Try.ntmps4
  go_wp2_with (first
    | (have _t := q1; go_at_call 11; refine (N2.out _).mono ?_; rintro e w3 ⟨rfl, hB3⟩)
    | (go_at_call 10; refine (AT.out _).mono ?_; rintro e w1 ⟨rfl, hB1⟩)
    | (go_at_call 11; refine (N1.out _).mono ?_; rintro e w2 ⟨rfl, hB2⟩; have q1 : Hid True := trivial)
    | (go_at_call 12; refine (PL.out _).mono ?_; rintro e w4 ⟨rfl, rfl⟩))
  go_ret
  exact ⟨rfl, bt2 (bt2 (bta hB1 _) hB2) hB3⟩
open Classical in
theorem bool_for (p : Prop) : ∃ b : Bool, b = true ↔ p := ⟨decide p, by simp⟩
theorem good_is (s : ByteArray) : ∃ g, IsGood s g := by
  have key : ∀ n, (∃ g, IsGood s g) ∨ (n ≤ pos s n ∧ Oks s n) := by
    intro n
    induction n with
    | zero => right; exact ⟨Nat.zero_le _, fun j hj => absurd hj (by omega)⟩
    | succ n ih =>
      rcases ih with h | ⟨h1, h2⟩
      · exact .inl h
      · have hle := (pos_ge s n h2.lt).2
        by_cases hlt : pos s n < s.size
        · cases ho : (rdS s (pos s n)).2.2 with
          | true =>
            right
            refine ⟨?_, fun j hj => ?_⟩
            · have := rd_bd s (pos s n) hlt
              rw [pos_succ]; omega
            · rcases Nat.lt_succ_iff_lt_or_eq.1 hj with hj | rfl
              · exact h2 j hj
              · exact ⟨hlt, ho⟩
          | false => left; exact ⟨_, n, rfl, h2, .inr ⟨hlt, ho⟩⟩
        · left; exact ⟨_, n, rfl, h2, .inl (by omega)⟩
  rcases key (s.size + 1) with h | ⟨h1, h2⟩
  · exact h
  · have := (pos_ge s (s.size + 1) h2.lt).2
    omega
end Go.Proofs.Ytdfdbhjgighkpab.Gl
