/- BitsBack: the walk. -/
import Derived.Test.YtholafecbmhhhaaBackMath
import Derived.Test.YtholafecbmhhhaaRowIn
namespace Go.Proofs.Ytholafecbmhhhaa.Dg
open Go.RowKit
set_option linter.unusedVariables false

theorem spread_case (x : Int) (len : Nat) (zs : List Int) (hl : zs.length = len) : ∃ r c : Int, Hid (∀ w ao cap, RdZ w ao len cap zs → Calls Try.prog 37 #[.int .i64 x, .slice ao len cap] w fun e w' => e = .returned (.tuple #[.int .i64 r, .int .i64 c]) ∧ Below w.heap.size w w')
    ∧ ((c = 0 ∧ Hid (∀ w ao cap, RdZ w ao len cap zs → Calls Try.prog 39 #[.int .i64 r, .slice ao len cap] w fun e w' => e = .returned (.tuple #[.int .i64 x, .int .i64 0]) ∧ Below w.heap.size w w')) ∨ (r = 0 ∧ c = 2) ∨ (r = 0 ∧ c = 5)) := by
  by_cases h : Fit zs len ∧ 0 ≤ x ∧ x < ((2 ^ len : Nat) : Int)
  · obtain ⟨hf, h0, hx⟩ := h
    obtain ⟨L, rfl⟩ : ∃ L : Nat, x = L := ⟨x.toNat, by omega⟩
    have hL : L < 2 ^ len := by omega
    by_cases hall : ∀ j, j < len → Free zs j
    · have hok : (∀ j, j < len → Free zs j) → ((num (spr L zs len) : Nat) : Int) = ((num (spr L zs len) : Nat) : Int) ∧ (0 : Int) = 0 := fun _ => ⟨rfl, rfl⟩
      have hno : (∃ j, j < len ∧ ¬ Free zs j) → ((num (spr L zs len) : Nat) : Int) = 0 ∧ (0 : Int) = 5 := fun ⟨j, hj, e⟩ => absurd (hall j hj) e
      obtain ⟨hg, h64⟩ := gather_spread L zs len hl hf hall hL
      refine ⟨_, _, fun w ao cap hR => (bspread_in L _ _ ao len cap zs w hR hL hf hok hno).mono fun _ _ ⟨a, b⟩ => ⟨a, Below.of_eq b⟩, .inl ⟨rfl, fun w ao cap hR => ?_⟩⟩
      have := bgather_in (num (spr L zs len)) ao len cap zs w hR h64 hf
      rw [hg] at this
      exact this.mono fun _ _ ⟨a, b⟩ => ⟨a, Below.of_eq b⟩
    · have hok : (∀ j, j < len → Free zs j) → (0 : Int) = ((num (spr L zs len) : Nat) : Int) ∧ (5 : Int) = 0 := fun h => absurd h hall
      have hno : (∃ j, j < len ∧ ¬ Free zs j) → (0 : Int) = 0 ∧ (5 : Int) = 5 := fun _ => ⟨rfl, rfl⟩
      exact ⟨_, _, fun w ao cap hR => (bspread_in L _ _ ao len cap zs w hR hL hf hok hno).mono fun _ _ ⟨a, b⟩ => ⟨a, Below.of_eq b⟩, .inr (.inr ⟨rfl, rfl⟩)⟩
  · exact ⟨0, 2, fun w ao cap hR => (bspread_no x ao len cap zs w hR h).mono fun _ _ ⟨a, b⟩ => ⟨a, Below.of_eq b⟩, .inr (.inl ⟨rfl, rfl⟩)⟩

set_option maxHeartbeats 2000000 in
theorem back_no (x t d : Int) (ao : Option Addr) (len cap : Nat) (zs : List Int) (w : World) (h : RdZ w ao len cap zs) (hm : len * 8 ≤ 140737488351232) (hi : ¬ ((0 ≤ x ∧ x < 32) ∧ (0 ≤ t ∧ t < 6) ∧ (0 ≤ d ∧ d < 2))) :
    Calls Try.prog 7 #[.int .i64 x, .int .i64 t, .int .i64 d, .slice ao len cap] w fun e w' => e = .returned (.bool true) ∧ Below w.heap.size w w' := by
  have HI : Hid (∀ w, Calls Try.prog 31 #[.int .i64 x, .int .i64 t, .int .i64 d] w fun e w' => e = .returned (.tuple #[.int .i64 0, .int .i64 2]) ∧ w = w') := fun w => binsert_no x t d w hi
  clear hi
  obtain ⟨r, c, S1, hc⟩ := spread_case x len zs h.eqlen
  rcases hc with ⟨rfl, G1⟩ | ⟨rfl, rfl⟩ | ⟨rfl, rfl⟩
  · go_enter Try.func7, Try.ntmps7
    go_wp2_with (first
      | (go_at_call 9; refine (fixed_at _).mono ?_; rintro e w1 ⟨rfl, hB1⟩; have hP1 := h.below (Nat.le_refl _) hB1)
      | (go_at_call 31; refine (HI.out _).mono ?_; rintro e w' ⟨rfl, rfl⟩)
      | (at_builtin; have _t := hW3; refine wp_copyZ w w3 rfl (.tmp 88) (.tmp 89) rfl hW3 rfl ao len cap zs rfl hP3 hm ?_; intro a4 c4 w4 hR4 hB4)
      | (at_builtin; refine wp_copyZ w w1 rfl (.tmp 68) (.tmp 69) rfl hB1 rfl ao len cap zs rfl hP1 hm ?_; intro a2 c2 w2 hR2 hB2)
      | (go_at_call 37; refine (S1.out _ _ _ hR2).mono ?_; rintro e w3 ⟨rfl, hB3⟩; have hW3 := hB2.trans (hB3.mono hB2.size); have hP3 := h.below (Nat.le_refl _) hW3)
      | (go_at_call 39; refine (G1.out _ _ _ hR4).mono ?_; rintro e w5 ⟨rfl, hB5⟩))
    go_ret
    exact ⟨by simp, hB4.trans (hB5.mono hB4.size)⟩
  · go_enter Try.func7, Try.ntmps7
    go_wp2_with (first
      | (go_at_call 9; refine (fixed_at _).mono ?_; rintro e w1 ⟨rfl, hB1⟩; have hP1 := h.below (Nat.le_refl _) hB1)
      | (go_at_call 31; refine (HI.out _).mono ?_; rintro e w' ⟨rfl, rfl⟩)
      | (at_builtin; refine wp_copyZ w w1 rfl (.tmp 68) (.tmp 69) rfl hB1 rfl ao len cap zs rfl hP1 hm ?_; intro a2 c2 w2 hR2 hB2)
      | (go_at_call 37; refine (S1.out _ _ _ hR2).mono ?_; rintro e w3 ⟨rfl, hB3⟩))
    go_ret
    exact ⟨rfl, hB2.trans (hB3.mono hB2.size)⟩
  · go_enter Try.func7, Try.ntmps7
    go_wp2_with (first
      | (go_at_call 9; refine (fixed_at _).mono ?_; rintro e w1 ⟨rfl, hB1⟩; have hP1 := h.below (Nat.le_refl _) hB1)
      | (go_at_call 31; refine (HI.out _).mono ?_; rintro e w' ⟨rfl, rfl⟩)
      | (at_builtin; refine wp_copyZ w w1 rfl (.tmp 68) (.tmp 69) rfl hB1 rfl ao len cap zs rfl hP1 hm ?_; intro a2 c2 w2 hR2 hB2)
      | (go_at_call 37; refine (S1.out _ _ _ hR2).mono ?_; rintro e w3 ⟨rfl, hB3⟩))
    go_ret
    exact ⟨rfl, hB2.trans (hB3.mono hB2.size)⟩
end Go.Proofs.Ytholafecbmhhhaa.Dg
