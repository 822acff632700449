/- The law's own fixed answers. -/
import Derived.Test.YtholafecbmhhhaaCntMath
namespace Go.Proofs.Ytholafecbmhhhaa.Dg
open Go.RowKit
set_option linter.unusedVariables false

theorem below_grown {B : Nat} {a w w' : World} {g : Nat} (h : Below B a w) (hg : w.grownBy w' (some g)) (hB : B ≤ w.heap.size) (hr : B ≤ g) : Below B a w' :=
  h.grown hg hB (fun k e => by cases e; exact hr)
theorem fx1 (w : World) : Calls Try.prog 10 #[.int .i64 70] w fun e w' => ∃ p g, e = .returned (.tuple #[at_p p, .int .i64 0]) ∧ Bs w' p g 70 2 [0, 0] ∧ w.heap.size ≤ p ∧ w.heap.size ≤ g ∧ Below w.heap.size w w' := by
  have := bnew_in 70 w (by omega)
  rwa [show (70 + 63) / 64 = 2 from rfl, show List.replicate 2 0 = [0, 0] from rfl] at this
theorem fx2 (w : World) (p g : Nat) (h : Bs w p g 70 2 [0, 0]) : Calls Try.prog 13 #[at_p p, .int .i64 69] w fun e w' => e = .returned (.int .i64 0) ∧ Bs w' p g 70 2 [0, 32] ∧ w.grownBy w' (some g) := by
  have := put_in p g 70 2 69 [0, 0] w h (by omega)
  rwa [show putC [0, 0] 69 = [0, 32] from by decide +kernel] at this
theorem fx3 (w : World) (p g : Nat) (h : Bs w p g 70 2 [0, 32]) : Calls Try.prog 13 #[at_p p, .int .i64 70] w fun e w' => e = .returned (.int .i64 2) ∧ w = w' := put_out p g 70 2 [0, 32] 70 w h (by omega)
theorem fx4 (w : World) : Calls Try.prog 31 #[.int .i64 5, .int .i64 1, .int .i64 1] w fun e w' => e = .returned (.tuple #[.int .i64 11, .int .i64 0]) ∧ Below w.heap.size w w' := by
  have := binsert_in 5 1 1 w (by omega) (by omega) (by omega)
  rwa [show ins 5 1 1 = 11 from by decide +kernel] at this
theorem fx5 (w : World) (p g : Nat) (h : Bs w p g 70 2 [0, 32]) : Calls Try.prog 22 #[at_p p, .int .i64 69] w fun e w' => e = .returned (.bool true) ∧ ∃ k, w.drewN k = w' := by
  have := bhas_at p g 70 2 [0, 32] 69 w h
  rwa [show (decide ((0 : Int) ≤ 69) && bitAt [0, 32] (69 : Int).toNat) = true from by decide +kernel] at this
theorem fx6 (w : World) (p g : Nat) (h : Bs w p g 70 2 [0, 32]) : Calls Try.prog 42 #[at_p p] w fun e w' => e = .returned (.int .i64 1) ∧ w = w' := by
  have := count_at p g 70 2 [0, 32] w h
  rwa [show (lst (bools [0, 32] 70) 70).length = 1 from by decide +kernel] at this
set_option maxHeartbeats 1000000 in
theorem fixed_at (w : World) :
    Calls Try.prog 9 #[] w fun e w' => e = .returned (.bool true) ∧ Below w.heap.size w w' := by
  go_enter Try.func9, Try.ntmps9
  go_wp2_with (first
    | (go_at_call 10; refine (fx1 _).mono ?_; rintro e w1 ⟨p, g, rfl, hS1, hp, hg, hB1⟩)
    | (go_at_call 13; have _t := hS2; refine (fx3 _ p g hS2).mono ?_; rintro e w' ⟨rfl, rfl⟩)
    | (go_at_call 13; refine (fx2 _ p g hS1).mono ?_; rintro e w2 ⟨rfl, hS2, hG2⟩)
    | (go_at_call 31; refine (fx4 _).mono ?_; rintro e w4 ⟨rfl, hB4⟩; have hS4 := hS2.below (Nat.le_refl _) hB4)
    | (go_at_call 22; refine (fx5 _ p g hS4).mono ?_; rintro e w' ⟨rfl, k5, rfl⟩; have hS5 := hS4.below (Nat.le_refl _) (below_drewN _ w4 k5))
    | (go_at_call 42; refine (fx6 _ p g hS5).mono ?_; rintro e w' ⟨rfl, rfl⟩))
  go_ret
  have h2 := below_grown hB1 hG2 hB1.size hg
  exact ⟨rfl, (h2.trans (hB4.mono h2.size)).trans (below_drewN _ _ _)⟩
end Go.Proofs.Ytholafecbmhhhaa.Dg
