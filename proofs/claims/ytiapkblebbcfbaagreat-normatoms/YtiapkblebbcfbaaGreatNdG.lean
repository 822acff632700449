/- wellMade, check, Check. -/
import Derived.Test.YtiapkblebbcfbaaGreatNdF
import Derived.Test.YtiapkblebbcfbaaGreatNdE
namespace Go.Proofs.YtiapkblebbcfbaaGreat.Gl
open Go.RowKit
set_option linter.unusedVariables false

theorem fitsT_at (o n : Int) (x : ByteArray) (t a : Nat) (w : World) (hs : Sz x.size) :
    Calls Tryz.prog 82 #[.int .i64 o, .agg #[.string x, .int .i64 n, .int .i64 (t : Nat), .int .i64 (a : Nat)]] w fun e w' => e = .returned (.bool (wT nmB o n x a && decide (t = 0))) ∧ Below w.heap.size w w' := by
  by_cases ho : o < 0 ∨ 5 < o
  · exact fitsTo o n x t a w ho
  · rcases (show o = 0 ∨ o = 1 ∨ o = 2 ∨ o = 3 ∨ o = 4 ∨ o = 5 by omega) with rfl | rfl | rfl | rfl | rfl | rfl
    · exact fitsT0 n x t a w
    · exact fitsT1 n x t a w hs
    · exact fitsT2 n x t a w
    · exact fitsT3 n x t a w
    · exact fitsT4 n x t a w
    · exact fitsT5 n x t a w
theorem fitsF_at (o n : Int) (x : ByteArray) (t a : Nat) (w : World) (hs : Sz x.size) :
    Calls Tryz.prog 83 #[.int .i64 o, .agg #[.string x, .int .i64 n, .int .i64 (t : Nat), .int .i64 (a : Nat)]] w fun e w' => e = .returned (.bool (wF nmB o x n t a)) ∧ Below w.heap.size w w' := by
  by_cases ho : o < 0 ∨ 15 < o
  · exact fitsFo o n x t a w ho
  · rcases (show o = 0 ∨ o = 1 ∨ o = 2 ∨ o = 3 ∨ o = 4 ∨ o = 5 ∨ o = 6 ∨ o = 7 ∨ o = 8 ∨ o = 9 ∨ o = 10 ∨ o = 11 ∨ o = 12 ∨ o = 13 ∨ o = 14 ∨ o = 15 by omega) with rfl | rfl | rfl | rfl | rfl | rfl | rfl | rfl | rfl | rfl | rfl | rfl | rfl | rfl | rfl | rfl
    · exact fitsF0 n x t a w
    · exact fitsF1 n x t a w
    · exact fitsF2 n x t a w
    · exact fitsF3 n x t a w
    · exact fitsF4 n x t a w
    · exact fitsF5 n x t a w
    · exact fitsF6 n x t a w
    · exact fitsF7 n x t a w hs
    · exact fitsF8 n x t a w hs
    · exact fitsF9 n x t a w
    · exact fitsF10 n x t a w
    · exact fitsF11 n x t a w
    · exact fitsF12 n x t a w
    · exact fitsF13 n x t a w
    · exact fitsF14 n x t a w
    · exact fitsF15 n x t a w
set_option maxHeartbeats 2000000 in
theorem wellN_at (x : Nd) (w : World) (hs : Sz x.name.size) :
    Calls Tryz.prog 58 #[.agg #[.int .i64 x.dp, .bool x.isT, .int .i64 x.op, .int .i64 x.top, .string x.name, .int .i64 x.num, .int .i64 (x.terms : Nat), .int .i64 (x.args : Nat)]] w fun e w' => e = .returned (.bool (wellN nmB x)) ∧ Below w.heap.size w w' := by
  obtain ⟨dp, isT, op, top, name, num, terms, args⟩ := x
  have TC : Hid (∀ w, Calls Tryz.prog 82 #[.int .i64 top, .agg #[.string name, .int .i64 num, .int .i64 (terms : Nat), .int .i64 (args : Nat)]] w fun e w' => e = .returned (.bool (wT nmB top num name args && decide (terms = 0))) ∧ Below w.heap.size w w') := fun w => fitsT_at _ _ _ _ _ w hs
  have FC : Hid (∀ w, Calls Tryz.prog 83 #[.int .i64 op, .agg #[.string name, .int .i64 num, .int .i64 (terms : Nat), .int .i64 (args : Nat)]] w fun e w' => e = .returned (.bool (wF nmB op name num terms args)) ∧ Below w.heap.size w w') := fun w => fitsF_at _ _ _ _ _ w hs
  cases isT
  · show Calls Tryz.prog _ _ w fun e w' => e = .returned (.bool (wF nmB op name num terms args)) ∧ Below w.heap.size w w'
    generalize wF nmB op name num terms args = r at *
    dsimp only
    go_enter Tryz.func58, Tryz.ntmps58
    go_wp2_with (go_at_call 83; refine (FC.out _).mono ?_; rintro e w2 ⟨rfl, hB2⟩)
    go_ret
    exact ⟨rfl, ba2 hB2⟩
  · show Calls Tryz.prog _ _ w fun e w' => e = .returned (.bool (wT nmB top num name args && decide (terms = 0))) ∧ Below w.heap.size w w'
    generalize (wT nmB top num name args && decide (terms = 0)) = r at *
    dsimp only
    go_enter Tryz.func58, Tryz.ntmps58
    go_wp2_with (go_at_call 82; refine (TC.out _).mono ?_; rintro e w2 ⟨rfl, hB2⟩)
    go_ret
    exact ⟨rfl, ba2 hB2⟩
end Go.Proofs.YtiapkblebbcfbaaGreat.Gl
