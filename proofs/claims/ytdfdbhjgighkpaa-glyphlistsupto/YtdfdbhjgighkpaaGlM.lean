/- The law's fixed; the walks of GlyphChars, GlyphNames. -/
import Derived.Test.YtdfdbhjgighkpaaGlL
import Derived.Laws.StructEq
namespace Go.Proofs.Ytdfdbhjgighkpaa.Gl
open Go.RowKit
set_option linter.unusedVariables false

theorem bt2 {w w1 w2 : World} (h : Below w.heap.size w w1) (k : Below w1.heap.size w1 w2) : Below w.heap.size w w2 := h.trans (k.mono h.size)
theorem bta {w w1 : World} (h : Below w.heap.size w w1) (o : Obj) : Below w.heap.size w (w1.alloc o) := h.alloc h.size o
theorem fx_cnt : IsCnt ((⟨#[97, 195, 169, 98]⟩ : ByteArray).extract 0 3) 2 := by unfold IsCnt; decide +kernel
theorem fx_yes : IsName ⟨#[206, 177, 226, 130, 129]⟩ := by
  refine ⟨⟨2, by unfold IsCnt; decide +kernel, by omega, by omega, ?_⟩, by decide +kernel⟩
  unfold Nms; decide +kernel
theorem fx_no : ¬ IsName ⟨#[97, 110, 100]⟩ := fun h => absurd h.2 (by decide +kernel)
set_option maxHeartbeats 1000000 in
theorem fixed_at (w : World) : Calls Try.prog 9 #[] w fun e w' => e = .returned (.bool true) ∧ Below w.heap.size w w' := by
  have AT : Hid (∀ w, Calls Try.prog 24 #[.string ⟨#[97, 195, 169, 98]⟩, .int .i64 3] w fun e w' => e = .returned (.tuple #[.agg #[.int .i64 3, .int .i64 2], .int .i64 0]) ∧ Below w.heap.size w w') := fun w => at_in ⟨#[97, 195, 169, 98]⟩ 3 2 w (by decide) (by decide) fx_cnt
  have N1 : Hid (∀ w, Calls Try.prog 18 #[.string ⟨#[206, 177, 226, 130, 129]⟩] w fun e w' => e = .returned (.bool true) ∧ Below w.heap.size w w') := fun w => name_at _ true w (by decide) ⟨fun _ => fx_yes, fun _ => rfl⟩
  have N2 : Hid (∀ w, Calls Try.prog 18 #[.string ⟨#[97, 110, 100]⟩] w fun e w' => e = .returned (.bool false) ∧ Below w.heap.size w w') := fun w => name_at _ false w (by decide) ⟨fun e => (by cases e), fun e => absurd e fx_no⟩
  have PL : Hid (∀ w, Calls Try.prog 16 #[.int .i32 8804] w fun e w' => e = .returned (.string ⟨#[60, 61]⟩) ∧ w = w') := fun w => plain_at 8804 w
  go_enter Try.func9, Try.ntmps9
  go_wp2_with (first
    | (have _t := q1; go_at_call 18; refine (N2.out _).mono ?_; rintro e w3 ⟨rfl, hB3⟩)
    | (go_at_call 24; refine (AT.out _).mono ?_; rintro e w1 ⟨rfl, hB1⟩)
    | (go_at_call 18; refine (N1.out _).mono ?_; rintro e w2 ⟨rfl, hB2⟩; have q1 : Hid True := trivial)
    | (go_at_call 16; refine (PL.out _).mono ?_; rintro e w4 ⟨rfl, rfl⟩))
  go_ret
  exact ⟨rfl, bt2 (bt2 (bta hB1 _) hB2) hB3⟩
set_option maxHeartbeats 1000000 in
theorem chars_walk (r : Int) (w : World) (h1 : -2147483648 ≤ r) (h2 : r ≤ 2147483647) :
    Calls Try.prog 3 #[.int .i32 r] w fun e w' => e = .returned (.bool true) ∧ Below w.heap.size w w' := by
  obtain ⟨b1, S1, R1⟩ : ∃ b, Hid (∀ w, Calls Try.prog 10 #[.int .i32 r] w fun e w' => e = .returned (.bool b) ∧ w = w') ∧ Hid (∀ w, Calls Try.prog 11 #[.int .i64 r] w fun e w' => e = .returned (.bool b) ∧ Below w.heap.size w w') := ⟨_, fun w => start_at r w, fun w => rstart_at r w⟩
  obtain ⟨b2, S2, R2⟩ : ∃ b, Hid (∀ w, Calls Try.prog 12 #[.int .i32 r] w fun e w' => e = .returned (.bool b) ∧ w = w') ∧ Hid (∀ w, Calls Try.prog 13 #[.int .i64 r] w fun e w' => e = .returned (.bool b) ∧ Below w.heap.size w w') := ⟨_, fun w => rest_at r w, fun w => rrest_at r w⟩
  obtain ⟨b3, S3, R3⟩ : ∃ b, Hid (∀ w, Calls Try.prog 14 #[.int .i32 r] w fun e w' => e = .returned (.bool b) ∧ w = w') ∧ Hid (∀ w, Calls Try.prog 15 #[.int .i64 r] w fun e w' => e = .returned (.bool b) ∧ w = w') := ⟨_, fun w => blank_at r w, fun w => rblank_at r w⟩
  obtain ⟨b4, S4, R4⟩ : ∃ b, Hid (∀ w, Calls Try.prog 16 #[.int .i32 r] w fun e w' => e = .returned (.string b) ∧ w = w') ∧ Hid (∀ w, Calls Try.prog 17 #[.int .i64 r] w fun e w' => e = .returned (.string b) ∧ Below w.heap.size w w') := ⟨_, fun w => plain_at r w, fun w => rplain_at r w⟩
  have e1 : (b1 == b1) = true := by simp
  have e4 : (b4.toList == b4.toList) = true := by simp
  go_enter Try.func3, Try.ntmps3
  go_wp2_with (first
    | (go_at_call 9; refine (fixed_at _).mono ?_; rintro e w1 ⟨rfl, hB1⟩)
    | (go_at_call 10; refine (S1.out _).mono ?_; rintro e w2 ⟨rfl, rfl⟩)
    | (go_at_call 11; refine (R1.out _).mono ?_; rintro e w2 ⟨rfl, hB2⟩)
    | (go_at_call 12; refine (S2.out _).mono ?_; rintro e w3 ⟨rfl, rfl⟩)
    | (go_at_call 13; refine (R2.out _).mono ?_; rintro e w3 ⟨rfl, hB3⟩)
    | (go_at_call 14; refine (S3.out _).mono ?_; rintro e w4 ⟨rfl, rfl⟩)
    | (go_at_call 15; refine (R3.out _).mono ?_; rintro e w4 ⟨rfl, rfl⟩)
    | (go_at_call 16; refine (S4.out _).mono ?_; rintro e w5 ⟨rfl, rfl⟩)
    | (go_at_call 17; refine (R4.out _).mono ?_; rintro e w5 ⟨rfl, hB5⟩))
  go_ret
  exact ⟨rfl, bt2 (bt2 (bt2 hB1 hB2) hB3) hB5⟩
open Classical in
theorem bool_for (p : Prop) : ∃ b : Bool, b = true ↔ p := ⟨decide p, by simp⟩
theorem good_is (s : ByteArray) : ∃ g, IsGood s g := by
  have key : ∀ n, (∃ g, IsGood s g) ∨ (n ≤ pos s n ∧ Oks s n) := by
    intro n
    induction n with
    | zero => right; exact ⟨Nat.zero_le _, fun j hj => absurd hj (by omega)⟩
    | succ n ih =>
      rcases ih with h | ⟨h1, h2⟩
      · exact .inl h
      · have hle := (pos_ge s n h2.lt).2
        by_cases hlt : pos s n < s.size
        · cases ho : (rdS s (pos s n)).2.2 with
          | true =>
            right
            refine ⟨?_, fun j hj => ?_⟩
            · have := rd_bd s (pos s n) hlt
              rw [pos_succ]; omega
            · rcases Nat.lt_succ_iff_lt_or_eq.1 hj with hj | rfl
              · exact h2 j hj
              · exact ⟨hlt, ho⟩
          | false => left; exact ⟨_, n, rfl, h2, .inr ⟨hlt, ho⟩⟩
        · left; exact ⟨_, n, rfl, h2, .inl (by omega)⟩
  rcases key (s.size + 1) with h | ⟨h1, h2⟩
  · exact h
  · have := (pos_ge s (s.size + 1) h2.lt).2
    omega
set_option maxHeartbeats 1000000 in
theorem names_walk (s : ByteArray) (w : World) (hs : s.size ≤ 9223372036854775807) :
    Calls Try.prog 4 #[.string s] w fun e w' => e = .returned (.bool true) ∧ Below w.heap.size w w' := by
  obtain ⟨b1, hb1⟩ := bool_for (IsName s)
  obtain ⟨g, hg⟩ := good_is s
  have S1 : Hid (∀ w, Calls Try.prog 18 #[.string s] w fun e w' => e = .returned (.bool b1) ∧ Below w.heap.size w w') := fun w => name_at s b1 w hs hb1
  have R1 : Hid (∀ w, Calls Try.prog 19 #[.string s] w fun e w' => e = .returned (.bool b1) ∧ Below w.heap.size w w') := fun w => rname_at s b1 w hs hb1
  obtain ⟨b2, S2, R2⟩ : ∃ b, Hid (∀ w, Calls Try.prog 20 #[.string s] w fun e w' => e = .returned (.bool b) ∧ w = w') ∧ Hid (∀ w, Calls Try.prog 21 #[.string s] w fun e w' => e = .returned (.bool b) ∧ Below w.heap.size w w') := ⟨_, fun w => reserved_at s w, fun w => rreserved_at s w⟩
  have S3 : Hid (∀ w, Calls Try.prog 22 #[.string s] w fun e w' => e = .returned (.int .i64 g) ∧ Below w.heap.size w w') := fun w => good_at s g w hs hg
  have R3 : Hid (∀ w, Calls Try.prog 23 #[.string s] w fun e w' => e = .returned (.int .i64 g) ∧ w = w') := fun w => rgood_at s g w hs hg
  clear hb1 hg
  go_enter Try.func4, Try.ntmps4
  go_wp2_with (first
    | (go_at_call 9; refine (fixed_at _).mono ?_; rintro e w1 ⟨rfl, hB1⟩)
    | (go_at_call 18; refine (S1.out _).mono ?_; rintro e w2 ⟨rfl, hB2⟩)
    | (go_at_call 19; refine (R1.out _).mono ?_; rintro e w3 ⟨rfl, hB3⟩)
    | (go_at_call 20; refine (S2.out _).mono ?_; rintro e w4 ⟨rfl, rfl⟩)
    | (go_at_call 21; refine (R2.out _).mono ?_; rintro e w4 ⟨rfl, hB4⟩)
    | (go_at_call 22; refine (S3.out _).mono ?_; rintro e w5 ⟨rfl, hB5⟩)
    | (go_at_call 23; refine (R3.out _).mono ?_; rintro e w6 ⟨rfl, rfl⟩))
  go_ret
  exact ⟨rfl, bt2 (bt2 (bt2 (bt2 hB1 hB2) hB3) hB4) hB5⟩
end Go.Proofs.Ytdfdbhjgighkpaa.Gl
