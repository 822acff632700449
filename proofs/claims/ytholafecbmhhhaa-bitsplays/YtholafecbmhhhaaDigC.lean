/- The document's digits and letters: Remove. -/
import Derived.Test.YtholafecbmhhhaaDigB
import Derived.Deep.RegionWith
namespace Go.Proofs.Ytholafecbmhhhaa.Dg
open Go.RowKit
set_option linter.unusedVariables false

set_option maxHeartbeats 1000000 in
theorem remove_lt (L t : Nat) (w : World) (hL : L < 64) (ht : t < 5) :
    Calls Try.prog 34 #[.int .i64 L, .int .i64 t] w fun e w' => e = .returned (.tuple #[.int .i64 (rem L t : Nat), .int .i64 0]) ∧ Below w.heap.size w w' := by
  have hfin : Hid (num (digs L t ++ (digs L 6).drop (t + 1)) = rem L t) := num_rem L t (by omega) hL
  have hbit : Hid (∀ x ∈ digs L t ++ (digs L 6).drop (t + 1), x ≤ 1) := by
    intro x hx
    rcases List.mem_append.1 hx with hx | hx
    · exact digs_bit L t x hx
    · exact digs_bit L 6 x (List.mem_of_mem_drop hx)
  go_enter Try.func34, Try.ntmps34
  go_wp2_with (first
    | (go_at_call 50; refine (below_at _ _ true _ (decide_eq_true ⟨by omega, by omega⟩)).mono ?_; rintro e w' ⟨rfl, rfl⟩)
    | (go_at_call 51; refine (digits_row L 6 _ (by omega) (by omega) (by omega)).mono ?_; rintro e w1 ⟨b, off, cr, rfl, hcr, hcm, hc, hbb, hB⟩)
    | (at_builtin; refine wp_appI w1 _ w1.heap.size w1.heap.size rfl (.tmp 18) (.tmp 21) rfl _ 0 [] rfl ⟨b, off, none⟩ t _ (digs L t) rfl (World.ownsRow_made _ #[] 0 (Nat.le_refl _) (Nat.zero_le _) (by simp)) (digs_length L t) (take_cells hc.out (by omega) _) (by simp) (by omega) ((Below.refl _ _).alloc (Nat.le_refl _) _) (Nat.le_refl _) ?_; intro v2 w2 hown2 hB2; simp only [Nat.zero_add, List.nil_append] at hown2)
    | (at_builtin; refine wp_appI w1 _ w1.heap.size w1.heap.size rfl (.tmp 23) (.tmp 27) rfl _ t (digs L t) rfl ⟨b, off + (t + 1), none⟩ (5 - t) _ ((digs L 6).drop (t + 1)) rfl hown2 (by rw [List.length_drop, digs_length]; omega) (fun j hj => drop_cells hc.out (by omega) hB2 j (by omega)) hB2.size (by omega) hB2 (Nat.le_refl _) ?_; intro v4 w4 hown4 hB4; obtain ⟨ro, rc, hv4, hR4⟩ := rd_of_owns hown4; rw [hv4]; clear hv4)
    | (go_at_call 52; refine (letter_at _ _ _ _ _ hR4 (by omega) hbit.out).mono ?_; rintro e w' ⟨rfl, rfl⟩))
  go_ret2
  exact ⟨congrArg (fun n : Nat => Ending.returned (.tuple #[.int .i64 (n : Int), .int .i64 0])) (by simpa using hfin.out), hB.trans (hB4.mono hB.size)⟩

set_option maxHeartbeats 1000000 in
theorem remove_5 (L t : Nat) (w : World) (hL : L < 64) (ht : t ≤ 5) (ht5 : 5 ≤ t) :
    Calls Try.prog 34 #[.int .i64 L, .int .i64 t] w fun e w' => e = .returned (.tuple #[.int .i64 (rem L t : Nat), .int .i64 0]) ∧ Below w.heap.size w w' := by
  have hfin : Hid (num (digs L t) = rem L t) := by
    have h := num_rem L t (by omega) hL
    rw [List.drop_of_length_le (by rw [digs_length]; omega), List.append_nil] at h
    exact h
  have hbit : Hid (∀ x ∈ digs L t, x ≤ 1) := digs_bit L t
  go_enter Try.func34, Try.ntmps34
  go_wp2_with (first
    | (go_at_call 50; refine (below_at _ _ true _ (decide_eq_true ⟨by omega, by omega⟩)).mono ?_; rintro e w' ⟨rfl, rfl⟩)
    | (go_at_call 51; refine (digits_row L 6 _ (by omega) (by omega) (by omega)).mono ?_; rintro e w1 ⟨b, off, cr, rfl, hcr, hcm, hc, hbb, hB⟩)
    | (at_builtin; refine wp_appI w1 _ w1.heap.size w1.heap.size rfl (.tmp 18) (.tmp 21) rfl _ 0 [] rfl ⟨b, off, none⟩ t _ (digs L t) rfl (World.ownsRow_made _ #[] 0 (Nat.le_refl _) (Nat.zero_le _) (by simp)) (digs_length L t) (take_cells hc.out (by omega) _) (by simp) (by omega) ((Below.refl _ _).alloc (Nat.le_refl _) _) (Nat.le_refl _) ?_; intro v2 w2 hown2 hB2; simp only [Nat.zero_add, List.nil_append] at hown2)
    | (at_builtin; have _t := hB2; rcases Decidable.em (cr = t + 1) with hct | hct <;> first | (simp only [if_pos hct]; refine wp_appI w1 _ w1.heap.size w1.heap.size rfl (.tmp 23) (.tmp 27) rfl _ t (digs L t) rfl ⟨b, off, none⟩ 0 _ [] rfl hown2 rfl (fun j hj => absurd hj (by omega)) hB2.size (by omega) hB2 (Nat.le_refl _) ?_; intro v4 w4 hown4 hB4; rw [List.append_nil] at hown4; obtain ⟨ro, rc, hv4, hR4⟩ := rd_of_owns hown4; rw [hv4]; clear hv4) | (simp only [if_neg hct]; refine wp_appI w1 _ w1.heap.size w1.heap.size rfl (.tmp 23) (.tmp 27) rfl _ t (digs L t) rfl ⟨b, off + (t + 1), none⟩ 0 _ [] rfl hown2 rfl (fun j hj => absurd hj (by omega)) hB2.size (by omega) hB2 (Nat.le_refl _) ?_; intro v4 w4 hown4 hB4; rw [List.append_nil] at hown4; obtain ⟨ro, rc, hv4, hR4⟩ := rd_of_owns hown4; rw [hv4]; clear hv4))
    | (go_at_call 52; refine (letter_at _ _ _ _ _ hR4 (by omega) hbit.out).mono ?_; rintro e w' ⟨rfl, rfl⟩))
  all_goals
    go_ret2
    exact ⟨congrArg (fun n : Nat => Ending.returned (.tuple #[.int .i64 (n : Int), .int .i64 0])) (by simpa using hfin.out), hB.trans (hB4.mono hB.size)⟩

theorem insert_in (L t d : Nat) (w : World) (hL : L < 32) (ht : t ≤ 5) (hd : d ≤ 1) :
    Calls Try.prog 32 #[.int .i64 L, .int .i64 t, .int .i64 d] w fun e w' => e = .returned (.tuple #[.int .i64 (ins L t d : Nat), .int .i64 0]) ∧ Below w.heap.size w w' := by
  by_cases h : t < 5
  · exact insert_lt L t d w hL h hd
  · exact insert_5 L t d w hL ht (by omega) hd
theorem remove_in (L t : Nat) (w : World) (hL : L < 64) (ht : t ≤ 5) :
    Calls Try.prog 34 #[.int .i64 L, .int .i64 t] w fun e w' => e = .returned (.tuple #[.int .i64 (rem L t : Nat), .int .i64 0]) ∧ Below w.heap.size w w' := by
  by_cases h : t < 5
  · exact remove_lt L t w hL h
  · exact remove_5 L t w hL ht (by omega)
theorem insert_no (x t d : Int) (w : World) (h : ¬ ((0 ≤ x ∧ x < 32) ∧ (0 ≤ t ∧ t < 6) ∧ (0 ≤ d ∧ d < 2))) :
    Calls Try.prog 32 #[.int .i64 x, .int .i64 t, .int .i64 d] w fun e w' => e = .returned (.tuple #[.int .i64 0, .int .i64 2]) ∧ w = w' := by
  by_cases h1 : 0 ≤ x ∧ x < 32
  · by_cases h2 : 0 ≤ t ∧ t < 6
    · have h3 : ¬ (0 ≤ d ∧ d < 2) := fun h3 => h ⟨h1, h2, h3⟩
      have H1 : Hid (0 ≤ x ∧ x < 32) := h1
      have H2 : Hid (0 ≤ t ∧ t < 6) := h2
      have H3 : Hid (¬ (0 ≤ d ∧ d < 2)) := h3
      clear h h1 h2 h3
      go_enter Try.func32, Try.ntmps32
      go_wp2_with (first
        | (go_at_call_of 50 (Value.int IntKind.i64 x); refine (below_at x 32 true _ (decide_eq_true H1.out)).mono ?_; rintro e w' ⟨rfl, rfl⟩)
        | (go_at_call_of 50 (Value.int IntKind.i64 t); refine (below_at t 6 true _ (decide_eq_true H2.out)).mono ?_; rintro e w' ⟨rfl, rfl⟩)
        | (go_at_call_of 50 (Value.int IntKind.i64 d); refine (below_at d 2 false _ (decide_eq_false H3.out)).mono ?_; rintro e w' ⟨rfl, rfl⟩))
      go_ret2
      exact ⟨rfl, rfl⟩
    · have H1 : Hid (0 ≤ x ∧ x < 32) := h1
      have H2 : Hid (¬ (0 ≤ t ∧ t < 6)) := h2
      clear h h1 h2
      go_enter Try.func32, Try.ntmps32
      go_wp2_with (first
        | (go_at_call_of 50 (Value.int IntKind.i64 x); refine (below_at x 32 true _ (decide_eq_true H1.out)).mono ?_; rintro e w' ⟨rfl, rfl⟩)
        | (go_at_call_of 50 (Value.int IntKind.i64 t); refine (below_at t 6 false _ (decide_eq_false H2.out)).mono ?_; rintro e w' ⟨rfl, rfl⟩))
      go_ret2
      exact ⟨rfl, rfl⟩
  · have H1 : Hid (¬ (0 ≤ x ∧ x < 32)) := h1
    clear h h1
    go_enter Try.func32, Try.ntmps32
    go_wp2_with (first
      | (go_at_call 50; refine (below_at x 32 false _ (decide_eq_false H1.out)).mono ?_; rintro e w' ⟨rfl, rfl⟩))
    go_ret2
    exact ⟨rfl, rfl⟩
theorem remove_no (x t : Int) (w : World) (h : ¬ ((0 ≤ x ∧ x < 64) ∧ (0 ≤ t ∧ t < 6))) :
    Calls Try.prog 34 #[.int .i64 x, .int .i64 t] w fun e w' => e = .returned (.tuple #[.int .i64 0, .int .i64 2]) ∧ w = w' := by
  by_cases h1 : 0 ≤ x ∧ x < 64
  · have h2 : ¬ (0 ≤ t ∧ t < 6) := fun h2 => h ⟨h1, h2⟩
    have H1 : Hid (0 ≤ x ∧ x < 64) := h1
    have H2 : Hid (¬ (0 ≤ t ∧ t < 6)) := h2
    clear h h1 h2
    go_enter Try.func34, Try.ntmps34
    go_wp2_with (first
      | (go_at_call_of 50 (Value.int IntKind.i64 x); refine (below_at x 64 true _ (decide_eq_true H1.out)).mono ?_; rintro e w' ⟨rfl, rfl⟩)
      | (go_at_call_of 50 (Value.int IntKind.i64 t); refine (below_at t 6 false _ (decide_eq_false H2.out)).mono ?_; rintro e w' ⟨rfl, rfl⟩))
    go_ret2
    exact ⟨rfl, rfl⟩
  · have H1 : Hid (¬ (0 ≤ x ∧ x < 64)) := h1
    clear h h1
    go_enter Try.func34, Try.ntmps34
    go_wp2_with (first
      | (go_at_call 50; refine (below_at x 64 false _ (decide_eq_false H1.out)).mono ?_; rintro e w' ⟨rfl, rfl⟩))
    go_ret2
    exact ⟨rfl, rfl⟩
end Go.Proofs.Ytholafecbmhhhaa.Dg
