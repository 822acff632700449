/- The program's set: what nil sets and sets of unlike sizes answer; the law's own none. -/
import Derived.Test.YtholafecbmhhhaaBitJ
import Derived.Test.YtholafecbmhhhaaBitK
namespace Go.Proofs.Ytholafecbmhhhaa.Dg
open Go.RowKit
set_option linter.unusedVariables false

theorem join_nil1 (v : Value) (hv : v = .pointer none ∨ ∃ a, v = .pointer (some a)) (w : World) :
    Calls Try.prog 16 #[.pointer none, v] w fun e w' => e = .returned (.int .i64 1) ∧ w = w' := by
  have HX := fun w => other_nil1 v hv w
  clear hv
  go_enter Try.func16, Try.ntmps16
  go_wp2_with (go_at_call 45; refine (HX _).mono ?_; rintro e w' ⟨rfl, rfl⟩)
  go_ret
  exact ⟨rfl, rfl⟩
theorem join_nil2 (p : Nat) (w : World) :
    Calls Try.prog 16 #[at_p p, .pointer none] w fun e w' => e = .returned (.int .i64 1) ∧ w = w' := by
  go_enter Try.func16, Try.ntmps16
  go_wp2_with (go_at_call 45; refine (other_nil2 _ _).mono ?_; rintro e w' ⟨rfl, rfl⟩)
  go_ret
  exact ⟨rfl, rfl⟩
theorem join_shape (p g p' g' n m n' m' : Nat) (C D : List Nat) (w : World) (h : Bs w p g n m C) (k : Bs w p' g' n' m' D) (hn : n ≠ n') :
    Calls Try.prog 16 #[at_p p, at_p p'] w fun e w' => e = .returned (.int .i64 3) ∧ w.drewN 1 = w' := by
  have HX : Hid (Calls Try.prog 45 #[at_p p, at_p p'] w fun e w' => e = .returned (.int .i64 3) ∧ w.drewN 1 = w') := other_at p g n m p' g' n' m' C D 3 w h k (by rw [if_neg hn])
  go_enter Try.func16, Try.ntmps16
  go_wp2_with (go_at_call 45; refine HX.out.mono ?_; rintro e w' ⟨rfl, rfl⟩)
  go_ret
  exact ⟨rfl, rfl⟩

theorem meet_nil1 (v : Value) (hv : v = .pointer none ∨ ∃ a, v = .pointer (some a)) (w : World) :
    Calls Try.prog 18 #[.pointer none, v] w fun e w' => e = .returned (.int .i64 1) ∧ w = w' := by
  have HX := fun w => other_nil1 v hv w
  clear hv
  go_enter Try.func18, Try.ntmps18
  go_wp2_with (go_at_call 45; refine (HX _).mono ?_; rintro e w' ⟨rfl, rfl⟩)
  go_ret
  exact ⟨rfl, rfl⟩
theorem meet_nil2 (p : Nat) (w : World) :
    Calls Try.prog 18 #[at_p p, .pointer none] w fun e w' => e = .returned (.int .i64 1) ∧ w = w' := by
  go_enter Try.func18, Try.ntmps18
  go_wp2_with (go_at_call 45; refine (other_nil2 _ _).mono ?_; rintro e w' ⟨rfl, rfl⟩)
  go_ret
  exact ⟨rfl, rfl⟩
theorem meet_shape (p g p' g' n m n' m' : Nat) (C D : List Nat) (w : World) (h : Bs w p g n m C) (k : Bs w p' g' n' m' D) (hn : n ≠ n') :
    Calls Try.prog 18 #[at_p p, at_p p'] w fun e w' => e = .returned (.int .i64 3) ∧ w.drewN 1 = w' := by
  have HX : Hid (Calls Try.prog 45 #[at_p p, at_p p'] w fun e w' => e = .returned (.int .i64 3) ∧ w.drewN 1 = w') := other_at p g n m p' g' n' m' C D 3 w h k (by rw [if_neg hn])
  go_enter Try.func18, Try.ntmps18
  go_wp2_with (go_at_call 45; refine HX.out.mono ?_; rintro e w' ⟨rfl, rfl⟩)
  go_ret
  exact ⟨rfl, rfl⟩

theorem less_nil1 (v : Value) (hv : v = .pointer none ∨ ∃ a, v = .pointer (some a)) (w : World) :
    Calls Try.prog 19 #[.pointer none, v] w fun e w' => e = .returned (.int .i64 1) ∧ w = w' := by
  have HX := fun w => other_nil1 v hv w
  clear hv
  go_enter Try.func19, Try.ntmps19
  go_wp2_with (go_at_call 45; refine (HX _).mono ?_; rintro e w' ⟨rfl, rfl⟩)
  go_ret
  exact ⟨rfl, rfl⟩
theorem less_nil2 (p : Nat) (w : World) :
    Calls Try.prog 19 #[at_p p, .pointer none] w fun e w' => e = .returned (.int .i64 1) ∧ w = w' := by
  go_enter Try.func19, Try.ntmps19
  go_wp2_with (go_at_call 45; refine (other_nil2 _ _).mono ?_; rintro e w' ⟨rfl, rfl⟩)
  go_ret
  exact ⟨rfl, rfl⟩
theorem less_shape (p g p' g' n m n' m' : Nat) (C D : List Nat) (w : World) (h : Bs w p g n m C) (k : Bs w p' g' n' m' D) (hn : n ≠ n') :
    Calls Try.prog 19 #[at_p p, at_p p'] w fun e w' => e = .returned (.int .i64 3) ∧ w.drewN 1 = w' := by
  have HX : Hid (Calls Try.prog 45 #[at_p p, at_p p'] w fun e w' => e = .returned (.int .i64 3) ∧ w.drewN 1 = w') := other_at p g n m p' g' n' m' C D 3 w h k (by rw [if_neg hn])
  go_enter Try.func19, Try.ntmps19
  go_wp2_with (go_at_call 45; refine HX.out.mono ?_; rintro e w' ⟨rfl, rfl⟩)
  go_ret
  exact ⟨rfl, rfl⟩

theorem bsame_nil1 (v : Value) (hv : v = .pointer none ∨ ∃ a, v = .pointer (some a)) (w : World) :
    Calls Try.prog 24 #[.pointer none, v] w fun e w' => e = .returned (.bool false) ∧ w = w' := by
  have HX := fun w => other_nil1 v hv w
  clear hv
  go_enter Try.func24, Try.ntmps24
  go_wp2_with (go_at_call 45; refine (HX _).mono ?_; rintro e w' ⟨rfl, rfl⟩)
  go_ret
  exact ⟨rfl, rfl⟩
theorem bsame_nil2 (p : Nat) (w : World) :
    Calls Try.prog 24 #[at_p p, .pointer none] w fun e w' => e = .returned (.bool false) ∧ w = w' := by
  go_enter Try.func24, Try.ntmps24
  go_wp2_with (go_at_call 45; refine (other_nil2 _ _).mono ?_; rintro e w' ⟨rfl, rfl⟩)
  go_ret
  exact ⟨rfl, rfl⟩
theorem bsame_shape (p g p' g' n m n' m' : Nat) (C D : List Nat) (w : World) (h : Bs w p g n m C) (k : Bs w p' g' n' m' D) (hn : n ≠ n') :
    Calls Try.prog 24 #[at_p p, at_p p'] w fun e w' => e = .returned (.bool false) ∧ w.drewN 1 = w' := by
  have HX : Hid (Calls Try.prog 45 #[at_p p, at_p p'] w fun e w' => e = .returned (.int .i64 3) ∧ w.drewN 1 = w') := other_at p g n m p' g' n' m' C D 3 w h k (by rw [if_neg hn])
  go_enter Try.func24, Try.ntmps24
  go_wp2_with (go_at_call 45; refine HX.out.mono ?_; rintro e w' ⟨rfl, rfl⟩)
  go_ret
  exact ⟨rfl, rfl⟩

set_option maxHeartbeats 2000000 in
theorem none_at (x : Int) (p : Nat) (w : World) :
    Calls Try.prog 28 #[.int .i64 x, at_p p] w fun e w' => e = .returned (.bool true) ∧ Below w.heap.size w w' := by
  have J1 := fun w => join_nil1 (at_p p) (.inr ⟨_, rfl⟩) w
  have M1 := fun w => meet_nil1 (at_p p) (.inr ⟨_, rfl⟩) w
  have L1 := fun w => less_nil1 (at_p p) (.inr ⟨_, rfl⟩) w
  have S1 := fun w => bsame_nil1 (at_p p) (.inr ⟨_, rfl⟩) w
  have S0 := fun w => bsame_nil1 (.pointer none) (.inl rfl) w
  go_enter Try.func28, Try.ntmps28
  go_wp2_with (first
    | (go_at_call 47; refine (size_nil _).mono ?_; rintro e w' ⟨rfl, rfl⟩)
    | (go_at_call 42; refine (count_nil _).mono ?_; rintro e w' ⟨rfl, rfl⟩)
    | (go_at_call 22; refine (has_nil x _).mono ?_; rintro e w' ⟨rfl, k1, rfl⟩; have hB1 := below_drewN w.heap.size w k1)
    | (go_at_call 29; refine (blist_nil _).mono ?_; rintro e w2 ⟨a2, c2, rfl, hB2⟩; have hW2 := hB1.trans (hB2.mono hB1.size))
    | (go_at_call 27; refine (key_nil _).mono ?_; rintro e w' ⟨rfl, rfl⟩)
    | (go_at_call 20; refine (bcopy_nil _).mono ?_; rintro e w' ⟨rfl, rfl⟩)
    | (go_at_call 13; refine (put_nil x _).mono ?_; rintro e w' ⟨rfl, rfl⟩)
    | (go_at_call 15; refine (drop_nil x _).mono ?_; rintro e w' ⟨rfl, rfl⟩)
    | (go_at_call 16; have _t := d16; refine (join_nil2 _ _).mono ?_; rintro e w' ⟨rfl, rfl⟩)
    | (go_at_call 16; refine (J1 _).mono ?_; rintro e w' ⟨rfl, rfl⟩; have d16 : Hid True := trivial)
    | (go_at_call 18; have _t := d18; refine (meet_nil2 _ _).mono ?_; rintro e w' ⟨rfl, rfl⟩)
    | (go_at_call 18; refine (M1 _).mono ?_; rintro e w' ⟨rfl, rfl⟩; have d18 : Hid True := trivial)
    | (go_at_call 19; have _t := d19; refine (less_nil2 _ _).mono ?_; rintro e w' ⟨rfl, rfl⟩)
    | (go_at_call 19; refine (L1 _).mono ?_; rintro e w' ⟨rfl, rfl⟩; have d19 : Hid True := trivial)
    | (go_at_call 24; have _t := d24b; refine (S0 _).mono ?_; rintro e w' ⟨rfl, rfl⟩)
    | (go_at_call 24; have _t := d24a; refine (bsame_nil2 _ _).mono ?_; rintro e w' ⟨rfl, rfl⟩; have d24b : Hid True := trivial)
    | (go_at_call 24; refine (S1 _).mono ?_; rintro e w' ⟨rfl, rfl⟩; have d24a : Hid True := trivial))
  go_ret
  exact ⟨rfl, hW2⟩
end Go.Proofs.Ytholafecbmhhhaa.Dg
