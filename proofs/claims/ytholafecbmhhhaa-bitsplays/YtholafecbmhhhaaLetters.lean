/- BitsLetters: the walk. -/
import Derived.Test.YtholafecbmhhhaaFixed
import Derived.Test.YtholafecbmhhhaaDigC
namespace Go.Proofs.Ytholafecbmhhhaa.Dg
open Go.RowKit
set_option linter.unusedVariables false

theorem Below.of_eq {B : Nat} {w w' : World} (h : w = w') : Below B w w' := by subst h; exact Below.refl _ _
theorem insert_both (x t d : Int) : ∃ a e : Int, Hid (∀ w, Calls Try.prog 31 #[.int .i64 x, .int .i64 t, .int .i64 d] w fun r w' => r = .returned (.tuple #[.int .i64 a, .int .i64 e]) ∧ Below w.heap.size w w') ∧ Hid (∀ w, Calls Try.prog 32 #[.int .i64 x, .int .i64 t, .int .i64 d] w fun r w' => r = .returned (.tuple #[.int .i64 a, .int .i64 e]) ∧ Below w.heap.size w w') := by
  by_cases h : (0 ≤ x ∧ x < 32) ∧ (0 ≤ t ∧ t < 6) ∧ (0 ≤ d ∧ d < 2)
  · obtain ⟨L, rfl⟩ : ∃ L : Nat, x = L := ⟨x.toNat, by omega⟩
    obtain ⟨T, rfl⟩ : ∃ L : Nat, t = L := ⟨t.toNat, by omega⟩
    obtain ⟨D, rfl⟩ : ∃ L : Nat, d = L := ⟨d.toNat, by omega⟩
    exact ⟨_, _, fun w => binsert_in L T D w (by omega) (by omega) (by omega), fun w => insert_in L T D w (by omega) (by omega) (by omega)⟩
  · exact ⟨0, 2, fun w => (binsert_no x t d w h).mono fun _ _ ⟨a, b⟩ => ⟨a, Below.of_eq b⟩, fun w => (insert_no x t d w h).mono fun _ _ ⟨a, b⟩ => ⟨a, Below.of_eq b⟩⟩
theorem remove_both (x t : Int) : ∃ a e : Int, Hid (∀ w, Calls Try.prog 33 #[.int .i64 x, .int .i64 t] w fun r w' => r = .returned (.tuple #[.int .i64 a, .int .i64 e]) ∧ Below w.heap.size w w') ∧ Hid (∀ w, Calls Try.prog 34 #[.int .i64 x, .int .i64 t] w fun r w' => r = .returned (.tuple #[.int .i64 a, .int .i64 e]) ∧ Below w.heap.size w w') := by
  by_cases h : (0 ≤ x ∧ x < 64) ∧ (0 ≤ t ∧ t < 6)
  · obtain ⟨L, rfl⟩ : ∃ L : Nat, x = L := ⟨x.toNat, by omega⟩
    obtain ⟨T, rfl⟩ : ∃ L : Nat, t = L := ⟨t.toNat, by omega⟩
    exact ⟨_, _, fun w => bremove_in L T w (by omega) (by omega), fun w => remove_in L T w (by omega) (by omega)⟩
  · exact ⟨0, 2, fun w => (bremove_no x t w h).mono fun _ _ ⟨a, b⟩ => ⟨a, Below.of_eq b⟩, fun w => (remove_no x t w h).mono fun _ _ ⟨a, b⟩ => ⟨a, Below.of_eq b⟩⟩
theorem digit_both (x t : Int) (hx : x ≤ 9223372036854775807) : ∃ a : Int, Hid (∀ w, Calls Try.prog 35 #[.int .i64 x, .int .i64 t] w fun r w' => r = .returned (.int .i64 a) ∧ Below w.heap.size w w') ∧ Hid (∀ w, Calls Try.prog 36 #[.int .i64 x, .int .i64 t] w fun r w' => r = .returned (.int .i64 a) ∧ Below w.heap.size w w') := by
  by_cases h : x < 0 ∨ t < 0 ∨ 61 < t
  · exact ⟨0, fun w => (bdigit_none x t w h).mono fun _ _ ⟨a, b⟩ => ⟨a, Below.of_eq b⟩, fun w => (digit_none x t w h).mono fun _ _ ⟨a, b⟩ => ⟨a, Below.of_eq b⟩⟩
  · obtain ⟨L, rfl⟩ : ∃ L : Nat, x = L := ⟨x.toNat, by omega⟩
    obtain ⟨T, rfl⟩ : ∃ L : Nat, t = L := ⟨t.toNat, by omega⟩
    exact ⟨_, fun w => (bdigit_in L T w (by omega) (by omega)).mono fun _ _ ⟨a, b⟩ => ⟨a, Below.of_eq b⟩, fun w => digit_in L T w (by omega) (by omega)⟩
set_option maxHeartbeats 1000000 in
theorem letters_walk (x t d : Int) (w : World) (hx : x ≤ 9223372036854775807) :
    Calls Try.prog 5 #[.int .i64 x, .int .i64 t, .int .i64 d] w fun e w' => e = .returned (.bool true) ∧ Below w.heap.size w w' := by
  obtain ⟨a, e, I1, I2⟩ := insert_both x t d
  obtain ⟨b, f, R1, R2⟩ := remove_both x t
  obtain ⟨c, D1, D2⟩ := digit_both x t hx
  clear hx
  go_enter Try.func5, Try.ntmps5
  go_wp2_with (first
    | (go_at_call 31; refine (I1.out _).mono ?_; rintro e w1 ⟨rfl, hB1⟩)
    | (go_at_call 32; refine (I2.out _).mono ?_; rintro e w2 ⟨rfl, hB2⟩)
    | (go_at_call 33; refine (R1.out _).mono ?_; rintro e w3 ⟨rfl, hB3⟩)
    | (go_at_call 34; refine (R2.out _).mono ?_; rintro e w4 ⟨rfl, hB4⟩)
    | (go_at_call 9; refine (fixed_at _).mono ?_; rintro e w5 ⟨rfl, hB5⟩)
    | (go_at_call 35; refine (D1.out _).mono ?_; rintro e w6 ⟨rfl, hB6⟩)
    | (go_at_call 36; refine (D2.out _).mono ?_; rintro e w7 ⟨rfl, hB7⟩))
  go_ret
  have h2 := hB1.trans (hB2.mono hB1.size)
  have h3 := h2.trans (hB3.mono h2.size)
  have h4 := h3.trans (hB4.mono h3.size)
  have h5 := h4.trans (hB5.mono h4.size)
  have h6 := h5.trans (hB6.mono h5.size)
  exact ⟨by simp, h6.trans (hB7.mono h6.size)⟩
end Go.Proofs.Ytholafecbmhhhaa.Dg
