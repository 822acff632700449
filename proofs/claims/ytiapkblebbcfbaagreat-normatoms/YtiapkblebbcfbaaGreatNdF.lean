/- Is a node well made? -/
import Derived.Test.YtiapkblebbcfbaaGreatTrB
import Derived.Test.YtiapkblebbcfbaaGreatGlM
import Derived.Laws.StructEq
namespace Go.Proofs.YtiapkblebbcfbaaGreat.Gl
open Go.RowKit
set_option linter.unusedVariables false

set_option maxHeartbeats 2000000 in
theorem fitsT0 (n : Int) (x : ByteArray) (t a : Nat) (w : World) :
    Calls Tryz.prog 82 #[.int .i64 0, .agg #[.string x, .int .i64 n, .int .i64 (t : Nat), .int .i64 (a : Nat)]] w fun e w' => e = .returned (.bool (wT nmB 0 n x a && decide (t = 0))) ∧ Below w.heap.size w w' := by
  have HW : Hid ((wT nmB 0 n x a && decide (t = 0)) = (decide (0 ≤ n) && (x.toList == []) && decide (a = 0) && decide (t = 0))) := by
    show (wT nmB 0 n x a && decide (t = 0)) = _
    simp [wT]
  go_enter Tryz.func82, Tryz.ntmps82
  go_wp2
  all_goals
    go_ret
    refine ⟨retb ?_, (Below.refl _ _).alloc (Nat.le_refl _) _⟩
    rw [HW.out]
    first
      | rfl
      | (simp [*]; done)
      | (simp [*]; omega)
set_option maxHeartbeats 2000000 in
theorem fitsT1 (n : Int) (x : ByteArray) (t a : Nat) (w : World) (hs : Sz x.size) :
    Calls Tryz.prog 82 #[.int .i64 1, .agg #[.string x, .int .i64 n, .int .i64 (t : Nat), .int .i64 (a : Nat)]] w fun e w' => e = .returned (.bool (wT nmB 1 n x a && decide (t = 0))) ∧ Below w.heap.size w w' := by
  have HW : Hid ((wT nmB 1 n x a && decide (t = 0)) = (decide (n = 0) && nmB x && decide (a = 0) && decide (t = 0))) := by
    show (wT nmB 1 n x a && decide (t = 0)) = _
    simp [wT]
  obtain ⟨b, hb⟩ : ∃ b, nmB x = b := ⟨_, rfl⟩
  have HN := (nmB_iff x)
  rw [hb] at HN
  have RC : Hid (∀ w, Calls Tryz.prog 92 #[.string x] w fun e w' => e = .returned (.bool b) ∧ Below w.heap.size w w') := fun w => name_at x b w hs HN
  have HB : Hid (nmB x = b) := hb
  clear hb HN
  cases b
  · go_enter Tryz.func82, Tryz.ntmps82
    go_wp2_with (go_at_call 92; refine (RC.out _).mono ?_; rintro e w2 ⟨rfl, hB2⟩; have hd := (res_keep hB2).2.2.1; have e0 : w2.cell? ⟨w.heap.size, 0, none⟩ = some (.string x) := hd 0; have e1 : w2.cell? ⟨w.heap.size, 1, none⟩ = some (.int .i64 n) := hd 1; have e2 : w2.cell? ⟨w.heap.size, 2, none⟩ = some (.int .i64 (t : Nat)) := hd 2; have e3 : w2.cell? ⟨w.heap.size, 3, none⟩ = some (.int .i64 (a : Nat)) := hd 3; have hB3 := ba2 hB2; clear hd hB2)
    all_goals
      go_ret
      refine ⟨retb ?_, hB3⟩
      rw [HW.out, HB.out]
      clear RC
      first
        | rfl
        | (simp [*]; done)
        | (simp [*]; omega)
  · go_enter Tryz.func82, Tryz.ntmps82
    go_wp2_with (go_at_call 92; refine (RC.out _).mono ?_; rintro e w2 ⟨rfl, hB2⟩; have hd := (res_keep hB2).2.2.1; have e0 : w2.cell? ⟨w.heap.size, 0, none⟩ = some (.string x) := hd 0; have e1 : w2.cell? ⟨w.heap.size, 1, none⟩ = some (.int .i64 n) := hd 1; have e2 : w2.cell? ⟨w.heap.size, 2, none⟩ = some (.int .i64 (t : Nat)) := hd 2; have e3 : w2.cell? ⟨w.heap.size, 3, none⟩ = some (.int .i64 (a : Nat)) := hd 3; have hB3 := ba2 hB2; clear hd hB2)
    all_goals
      go_ret
      refine ⟨retb ?_, hB3⟩
      rw [HW.out, HB.out]
      clear RC
      first
        | rfl
        | (simp [*]; done)
        | (simp [*]; omega)
set_option maxHeartbeats 2000000 in
theorem fitsT2 (n : Int) (x : ByteArray) (t a : Nat) (w : World) :
    Calls Tryz.prog 82 #[.int .i64 2, .agg #[.string x, .int .i64 n, .int .i64 (t : Nat), .int .i64 (a : Nat)]] w fun e w' => e = .returned (.bool (wT nmB 2 n x a && decide (t = 0))) ∧ Below w.heap.size w w' := by
  have HW : Hid ((wT nmB 2 n x a && decide (t = 0)) = (decide (n = 0) && (x.toList == []) && decide (a = 1) && decide (t = 0))) := by
    show (wT nmB 2 n x a && decide (t = 0)) = _
    simp [wT]
  go_enter Tryz.func82, Tryz.ntmps82
  go_wp2
  all_goals
    go_ret
    refine ⟨retb ?_, (Below.refl _ _).alloc (Nat.le_refl _) _⟩
    rw [HW.out]
    first
      | rfl
      | (simp [*]; done)
      | (simp [*]; omega)
set_option maxHeartbeats 2000000 in
theorem fitsT3 (n : Int) (x : ByteArray) (t a : Nat) (w : World) :
    Calls Tryz.prog 82 #[.int .i64 3, .agg #[.string x, .int .i64 n, .int .i64 (t : Nat), .int .i64 (a : Nat)]] w fun e w' => e = .returned (.bool (wT nmB 3 n x a && decide (t = 0))) ∧ Below w.heap.size w w' := by
  have HW : Hid ((wT nmB 3 n x a && decide (t = 0)) = (decide (n = 0) && (x.toList == []) && decide (a = 2) && decide (t = 0))) := by
    show (wT nmB 3 n x a && decide (t = 0)) = _
    simp [wT]
  go_enter Tryz.func82, Tryz.ntmps82
  go_wp2
  all_goals
    go_ret
    refine ⟨retb ?_, (Below.refl _ _).alloc (Nat.le_refl _) _⟩
    rw [HW.out]
    first
      | rfl
      | (simp [*]; done)
      | (simp [*]; omega)
set_option maxHeartbeats 2000000 in
theorem fitsT4 (n : Int) (x : ByteArray) (t a : Nat) (w : World) :
    Calls Tryz.prog 82 #[.int .i64 4, .agg #[.string x, .int .i64 n, .int .i64 (t : Nat), .int .i64 (a : Nat)]] w fun e w' => e = .returned (.bool (wT nmB 4 n x a && decide (t = 0))) ∧ Below w.heap.size w w' := by
  have HW : Hid ((wT nmB 4 n x a && decide (t = 0)) = (decide (n = 0) && (x.toList == []) && decide (a = 2) && decide (t = 0))) := by
    show (wT nmB 4 n x a && decide (t = 0)) = _
    simp [wT]
  go_enter Tryz.func82, Tryz.ntmps82
  go_wp2
  all_goals
    go_ret
    refine ⟨retb ?_, (Below.refl _ _).alloc (Nat.le_refl _) _⟩
    rw [HW.out]
    first
      | rfl
      | (simp [*]; done)
      | (simp [*]; omega)
set_option maxHeartbeats 2000000 in
theorem fitsT5 (n : Int) (x : ByteArray) (t a : Nat) (w : World) :
    Calls Tryz.prog 82 #[.int .i64 5, .agg #[.string x, .int .i64 n, .int .i64 (t : Nat), .int .i64 (a : Nat)]] w fun e w' => e = .returned (.bool (wT nmB 5 n x a && decide (t = 0))) ∧ Below w.heap.size w w' := by
  have HW : Hid ((wT nmB 5 n x a && decide (t = 0)) = (decide (n = 0) && (x.toList == []) && decide (a = 2) && decide (t = 0))) := by
    show (wT nmB 5 n x a && decide (t = 0)) = _
    simp [wT]
  go_enter Tryz.func82, Tryz.ntmps82
  go_wp2
  all_goals
    go_ret
    refine ⟨retb ?_, (Below.refl _ _).alloc (Nat.le_refl _) _⟩
    rw [HW.out]
    first
      | rfl
      | (simp [*]; done)
      | (simp [*]; omega)
set_option maxHeartbeats 2000000 in
theorem fitsTo (o : Int) (n : Int) (x : ByteArray) (t a : Nat) (w : World) (ho : o < 0 ∨ 5 < o) :
    Calls Tryz.prog 82 #[.int .i64 o, .agg #[.string x, .int .i64 n, .int .i64 (t : Nat), .int .i64 (a : Nat)]] w fun e w' => e = .returned (.bool (wT nmB o n x a && decide (t = 0))) ∧ Below w.heap.size w w' := by
  have HW : Hid ((wT nmB o n x a && decide (t = 0)) = (false)) := by
    show (wT nmB o n x a && decide (t = 0)) = _
    unfold wT; rw [if_neg (by omega), if_neg (by omega), if_neg (by omega), if_neg (by omega)]; rfl
  have q0 : ¬ o = 0 := by omega
  have q1 : ¬ o = 1 := by omega
  have q2 : ¬ o = 2 := by omega
  have q3 : ¬ o = 3 := by omega
  have q4 : ¬ o = 4 := by omega
  have q5 : ¬ o = 5 := by omega
  go_enter Tryz.func82, Tryz.ntmps82
  go_wp2
  all_goals
    go_ret
    refine ⟨retb ?_, (Below.refl _ _).alloc (Nat.le_refl _) _⟩
    rw [HW.out]
set_option maxHeartbeats 2000000 in
theorem fitsF0 (n : Int) (x : ByteArray) (t a : Nat) (w : World) :
    Calls Tryz.prog 83 #[.int .i64 0, .agg #[.string x, .int .i64 n, .int .i64 (t : Nat), .int .i64 (a : Nat)]] w fun e w' => e = .returned (.bool (wF nmB 0 x n t a)) ∧ Below w.heap.size w w' := by
  have HW : Hid ((wF nmB 0 x n t a) = ((x.toList == []) && decide (n = 0) && decide (t = 0) && decide (a = 0))) := by
    show (wF nmB 0 x n t a) = _
    simp [wF]
  go_enter Tryz.func83, Tryz.ntmps83
  go_wp2
  all_goals
    go_ret
    refine ⟨retb ?_, (Below.refl _ _).alloc (Nat.le_refl _) _⟩
    rw [HW.out]
    first
      | rfl
      | (simp [*]; done)
      | (simp [*]; omega)
set_option maxHeartbeats 2000000 in
theorem fitsF1 (n : Int) (x : ByteArray) (t a : Nat) (w : World) :
    Calls Tryz.prog 83 #[.int .i64 1, .agg #[.string x, .int .i64 n, .int .i64 (t : Nat), .int .i64 (a : Nat)]] w fun e w' => e = .returned (.bool (wF nmB 1 x n t a)) ∧ Below w.heap.size w w' := by
  have HW : Hid ((wF nmB 1 x n t a) = ((x.toList == []) && decide (n = 0) && decide (t = 0) && decide (a = 0))) := by
    show (wF nmB 1 x n t a) = _
    simp [wF]
  go_enter Tryz.func83, Tryz.ntmps83
  go_wp2
  all_goals
    go_ret
    refine ⟨retb ?_, (Below.refl _ _).alloc (Nat.le_refl _) _⟩
    rw [HW.out]
    first
      | rfl
      | (simp [*]; done)
      | (simp [*]; omega)
set_option maxHeartbeats 2000000 in
theorem fitsF2 (n : Int) (x : ByteArray) (t a : Nat) (w : World) :
    Calls Tryz.prog 83 #[.int .i64 2, .agg #[.string x, .int .i64 n, .int .i64 (t : Nat), .int .i64 (a : Nat)]] w fun e w' => e = .returned (.bool (wF nmB 2 x n t a)) ∧ Below w.heap.size w w' := by
  have HW : Hid ((wF nmB 2 x n t a) = ((x.toList == []) && decide (n = 0) && decide (t = 0) && decide (a = 1))) := by
    show (wF nmB 2 x n t a) = _
    simp [wF]
  go_enter Tryz.func83, Tryz.ntmps83
  go_wp2
  all_goals
    go_ret
    refine ⟨retb ?_, (Below.refl _ _).alloc (Nat.le_refl _) _⟩
    rw [HW.out]
    first
      | rfl
      | (simp [*]; done)
      | (simp [*]; omega)
set_option maxHeartbeats 2000000 in
theorem fitsF3 (n : Int) (x : ByteArray) (t a : Nat) (w : World) :
    Calls Tryz.prog 83 #[.int .i64 3, .agg #[.string x, .int .i64 n, .int .i64 (t : Nat), .int .i64 (a : Nat)]] w fun e w' => e = .returned (.bool (wF nmB 3 x n t a)) ∧ Below w.heap.size w w' := by
  have HW : Hid ((wF nmB 3 x n t a) = ((x.toList == []) && decide (n = 0) && decide (t = 0) && decide (a = 2))) := by
    show (wF nmB 3 x n t a) = _
    simp [wF]
  go_enter Tryz.func83, Tryz.ntmps83
  go_wp2
  all_goals
    go_ret
    refine ⟨retb ?_, (Below.refl _ _).alloc (Nat.le_refl _) _⟩
    rw [HW.out]
    first
      | rfl
      | (simp [*]; done)
      | (simp [*]; omega)
set_option maxHeartbeats 2000000 in
theorem fitsF4 (n : Int) (x : ByteArray) (t a : Nat) (w : World) :
    Calls Tryz.prog 83 #[.int .i64 4, .agg #[.string x, .int .i64 n, .int .i64 (t : Nat), .int .i64 (a : Nat)]] w fun e w' => e = .returned (.bool (wF nmB 4 x n t a)) ∧ Below w.heap.size w w' := by
  have HW : Hid ((wF nmB 4 x n t a) = ((x.toList == []) && decide (n = 0) && decide (t = 0) && decide (a = 2))) := by
    show (wF nmB 4 x n t a) = _
    simp [wF]
  go_enter Tryz.func83, Tryz.ntmps83
  go_wp2
  all_goals
    go_ret
    refine ⟨retb ?_, (Below.refl _ _).alloc (Nat.le_refl _) _⟩
    rw [HW.out]
    first
      | rfl
      | (simp [*]; done)
      | (simp [*]; omega)
set_option maxHeartbeats 2000000 in
theorem fitsF5 (n : Int) (x : ByteArray) (t a : Nat) (w : World) :
    Calls Tryz.prog 83 #[.int .i64 5, .agg #[.string x, .int .i64 n, .int .i64 (t : Nat), .int .i64 (a : Nat)]] w fun e w' => e = .returned (.bool (wF nmB 5 x n t a)) ∧ Below w.heap.size w w' := by
  have HW : Hid ((wF nmB 5 x n t a) = ((x.toList == []) && decide (n = 0) && decide (t = 0) && decide (a = 2))) := by
    show (wF nmB 5 x n t a) = _
    simp [wF]
  go_enter Tryz.func83, Tryz.ntmps83
  go_wp2
  all_goals
    go_ret
    refine ⟨retb ?_, (Below.refl _ _).alloc (Nat.le_refl _) _⟩
    rw [HW.out]
    first
      | rfl
      | (simp [*]; done)
      | (simp [*]; omega)
set_option maxHeartbeats 2000000 in
theorem fitsF6 (n : Int) (x : ByteArray) (t a : Nat) (w : World) :
    Calls Tryz.prog 83 #[.int .i64 6, .agg #[.string x, .int .i64 n, .int .i64 (t : Nat), .int .i64 (a : Nat)]] w fun e w' => e = .returned (.bool (wF nmB 6 x n t a)) ∧ Below w.heap.size w w' := by
  have HW : Hid ((wF nmB 6 x n t a) = ((x.toList == []) && decide (n = 0) && decide (t = 0) && decide (a = 2))) := by
    show (wF nmB 6 x n t a) = _
    simp [wF]
  go_enter Tryz.func83, Tryz.ntmps83
  go_wp2
  all_goals
    go_ret
    refine ⟨retb ?_, (Below.refl _ _).alloc (Nat.le_refl _) _⟩
    rw [HW.out]
    first
      | rfl
      | (simp [*]; done)
      | (simp [*]; omega)
set_option maxHeartbeats 2000000 in
theorem fitsF7 (n : Int) (x : ByteArray) (t a : Nat) (w : World) (hs : Sz x.size) :
    Calls Tryz.prog 83 #[.int .i64 7, .agg #[.string x, .int .i64 n, .int .i64 (t : Nat), .int .i64 (a : Nat)]] w fun e w' => e = .returned (.bool (wF nmB 7 x n t a)) ∧ Below w.heap.size w w' := by
  have HW : Hid ((wF nmB 7 x n t a) = (nmB x && decide (n = 0) && decide (t = 0) && decide (a = 1))) := by
    show (wF nmB 7 x n t a) = _
    simp [wF]
  obtain ⟨b, hb⟩ : ∃ b, nmB x = b := ⟨_, rfl⟩
  have HN := (nmB_iff x)
  rw [hb] at HN
  have RC : Hid (∀ w, Calls Tryz.prog 92 #[.string x] w fun e w' => e = .returned (.bool b) ∧ Below w.heap.size w w') := fun w => name_at x b w hs HN
  have HB : Hid (nmB x = b) := hb
  clear hb HN
  cases b
  · go_enter Tryz.func83, Tryz.ntmps83
    go_wp2_with (go_at_call 92; refine (RC.out _).mono ?_; rintro e w2 ⟨rfl, hB2⟩; have hd := (res_keep hB2).2.2.1; have e0 : w2.cell? ⟨w.heap.size, 0, none⟩ = some (.string x) := hd 0; have e1 : w2.cell? ⟨w.heap.size, 1, none⟩ = some (.int .i64 n) := hd 1; have e2 : w2.cell? ⟨w.heap.size, 2, none⟩ = some (.int .i64 (t : Nat)) := hd 2; have e3 : w2.cell? ⟨w.heap.size, 3, none⟩ = some (.int .i64 (a : Nat)) := hd 3; have hB3 := ba2 hB2; clear hd hB2)
    all_goals
      go_ret
      refine ⟨retb ?_, hB3⟩
      rw [HW.out, HB.out]
      clear RC
      first
        | rfl
        | (simp [*]; done)
        | (simp [*]; omega)
  · go_enter Tryz.func83, Tryz.ntmps83
    go_wp2_with (go_at_call 92; refine (RC.out _).mono ?_; rintro e w2 ⟨rfl, hB2⟩; have hd := (res_keep hB2).2.2.1; have e0 : w2.cell? ⟨w.heap.size, 0, none⟩ = some (.string x) := hd 0; have e1 : w2.cell? ⟨w.heap.size, 1, none⟩ = some (.int .i64 n) := hd 1; have e2 : w2.cell? ⟨w.heap.size, 2, none⟩ = some (.int .i64 (t : Nat)) := hd 2; have e3 : w2.cell? ⟨w.heap.size, 3, none⟩ = some (.int .i64 (a : Nat)) := hd 3; have hB3 := ba2 hB2; clear hd hB2)
    all_goals
      go_ret
      refine ⟨retb ?_, hB3⟩
      rw [HW.out, HB.out]
      clear RC
      first
        | rfl
        | (simp [*]; done)
        | (simp [*]; omega)
set_option maxHeartbeats 2000000 in
theorem fitsF8 (n : Int) (x : ByteArray) (t a : Nat) (w : World) (hs : Sz x.size) :
    Calls Tryz.prog 83 #[.int .i64 8, .agg #[.string x, .int .i64 n, .int .i64 (t : Nat), .int .i64 (a : Nat)]] w fun e w' => e = .returned (.bool (wF nmB 8 x n t a)) ∧ Below w.heap.size w w' := by
  have HW : Hid ((wF nmB 8 x n t a) = (nmB x && decide (n = 0) && decide (t = 0) && decide (a = 1))) := by
    show (wF nmB 8 x n t a) = _
    simp [wF]
  obtain ⟨b, hb⟩ : ∃ b, nmB x = b := ⟨_, rfl⟩
  have HN := (nmB_iff x)
  rw [hb] at HN
  have RC : Hid (∀ w, Calls Tryz.prog 92 #[.string x] w fun e w' => e = .returned (.bool b) ∧ Below w.heap.size w w') := fun w => name_at x b w hs HN
  have HB : Hid (nmB x = b) := hb
  clear hb HN
  cases b
  · go_enter Tryz.func83, Tryz.ntmps83
    go_wp2_with (go_at_call 92; refine (RC.out _).mono ?_; rintro e w2 ⟨rfl, hB2⟩; have hd := (res_keep hB2).2.2.1; have e0 : w2.cell? ⟨w.heap.size, 0, none⟩ = some (.string x) := hd 0; have e1 : w2.cell? ⟨w.heap.size, 1, none⟩ = some (.int .i64 n) := hd 1; have e2 : w2.cell? ⟨w.heap.size, 2, none⟩ = some (.int .i64 (t : Nat)) := hd 2; have e3 : w2.cell? ⟨w.heap.size, 3, none⟩ = some (.int .i64 (a : Nat)) := hd 3; have hB3 := ba2 hB2; clear hd hB2)
    all_goals
      go_ret
      refine ⟨retb ?_, hB3⟩
      rw [HW.out, HB.out]
      clear RC
      first
        | rfl
        | (simp [*]; done)
        | (simp [*]; omega)
  · go_enter Tryz.func83, Tryz.ntmps83
    go_wp2_with (go_at_call 92; refine (RC.out _).mono ?_; rintro e w2 ⟨rfl, hB2⟩; have hd := (res_keep hB2).2.2.1; have e0 : w2.cell? ⟨w.heap.size, 0, none⟩ = some (.string x) := hd 0; have e1 : w2.cell? ⟨w.heap.size, 1, none⟩ = some (.int .i64 n) := hd 1; have e2 : w2.cell? ⟨w.heap.size, 2, none⟩ = some (.int .i64 (t : Nat)) := hd 2; have e3 : w2.cell? ⟨w.heap.size, 3, none⟩ = some (.int .i64 (a : Nat)) := hd 3; have hB3 := ba2 hB2; clear hd hB2)
    all_goals
      go_ret
      refine ⟨retb ?_, hB3⟩
      rw [HW.out, HB.out]
      clear RC
      first
        | rfl
        | (simp [*]; done)
        | (simp [*]; omega)
set_option maxHeartbeats 2000000 in
theorem fitsF9 (n : Int) (x : ByteArray) (t a : Nat) (w : World) :
    Calls Tryz.prog 83 #[.int .i64 9, .agg #[.string x, .int .i64 n, .int .i64 (t : Nat), .int .i64 (a : Nat)]] w fun e w' => e = .returned (.bool (wF nmB 9 x n t a)) ∧ Below w.heap.size w w' := by
  have HW : Hid ((wF nmB 9 x n t a) = ((x.toList == []) && decide (n = 0) && decide (t = 2) && decide (a = 0))) := by
    show (wF nmB 9 x n t a) = _
    simp [wF]
  go_enter Tryz.func83, Tryz.ntmps83
  go_wp2
  all_goals
    go_ret
    refine ⟨retb ?_, (Below.refl _ _).alloc (Nat.le_refl _) _⟩
    rw [HW.out]
    first
      | rfl
      | (simp [*]; done)
      | (simp [*]; omega)
set_option maxHeartbeats 2000000 in
theorem fitsF10 (n : Int) (x : ByteArray) (t a : Nat) (w : World) :
    Calls Tryz.prog 83 #[.int .i64 10, .agg #[.string x, .int .i64 n, .int .i64 (t : Nat), .int .i64 (a : Nat)]] w fun e w' => e = .returned (.bool (wF nmB 10 x n t a)) ∧ Below w.heap.size w w' := by
  have HW : Hid ((wF nmB 10 x n t a) = ((x.toList == []) && decide (n = 0) && decide (t = 2) && decide (a = 0))) := by
    show (wF nmB 10 x n t a) = _
    simp [wF]
  go_enter Tryz.func83, Tryz.ntmps83
  go_wp2
  all_goals
    go_ret
    refine ⟨retb ?_, (Below.refl _ _).alloc (Nat.le_refl _) _⟩
    rw [HW.out]
    first
      | rfl
      | (simp [*]; done)
      | (simp [*]; omega)
set_option maxHeartbeats 2000000 in
theorem fitsF11 (n : Int) (x : ByteArray) (t a : Nat) (w : World) :
    Calls Tryz.prog 83 #[.int .i64 11, .agg #[.string x, .int .i64 n, .int .i64 (t : Nat), .int .i64 (a : Nat)]] w fun e w' => e = .returned (.bool (wF nmB 11 x n t a)) ∧ Below w.heap.size w w' := by
  have HW : Hid ((wF nmB 11 x n t a) = ((x.toList == []) && decide (n = 0) && decide (t = 2) && decide (a = 0))) := by
    show (wF nmB 11 x n t a) = _
    simp [wF]
  go_enter Tryz.func83, Tryz.ntmps83
  go_wp2
  all_goals
    go_ret
    refine ⟨retb ?_, (Below.refl _ _).alloc (Nat.le_refl _) _⟩
    rw [HW.out]
    first
      | rfl
      | (simp [*]; done)
      | (simp [*]; omega)
set_option maxHeartbeats 2000000 in
theorem fitsF12 (n : Int) (x : ByteArray) (t a : Nat) (w : World) :
    Calls Tryz.prog 83 #[.int .i64 12, .agg #[.string x, .int .i64 n, .int .i64 (t : Nat), .int .i64 (a : Nat)]] w fun e w' => e = .returned (.bool (wF nmB 12 x n t a)) ∧ Below w.heap.size w w' := by
  have HW : Hid ((wF nmB 12 x n t a) = ((x.toList == []) && decide (n = 0) && decide (t = 2) && decide (a = 0))) := by
    show (wF nmB 12 x n t a) = _
    simp [wF]
  go_enter Tryz.func83, Tryz.ntmps83
  go_wp2
  all_goals
    go_ret
    refine ⟨retb ?_, (Below.refl _ _).alloc (Nat.le_refl _) _⟩
    rw [HW.out]
    first
      | rfl
      | (simp [*]; done)
      | (simp [*]; omega)
set_option maxHeartbeats 2000000 in
theorem fitsF13 (n : Int) (x : ByteArray) (t a : Nat) (w : World) :
    Calls Tryz.prog 83 #[.int .i64 13, .agg #[.string x, .int .i64 n, .int .i64 (t : Nat), .int .i64 (a : Nat)]] w fun e w' => e = .returned (.bool (wF nmB 13 x n t a)) ∧ Below w.heap.size w w' := by
  have HW : Hid ((wF nmB 13 x n t a) = ((x.toList == []) && decide (n = 0) && decide (t = 2) && decide (a = 0))) := by
    show (wF nmB 13 x n t a) = _
    simp [wF]
  go_enter Tryz.func83, Tryz.ntmps83
  go_wp2
  all_goals
    go_ret
    refine ⟨retb ?_, (Below.refl _ _).alloc (Nat.le_refl _) _⟩
    rw [HW.out]
    first
      | rfl
      | (simp [*]; done)
      | (simp [*]; omega)
set_option maxHeartbeats 2000000 in
theorem fitsF14 (n : Int) (x : ByteArray) (t a : Nat) (w : World) :
    Calls Tryz.prog 83 #[.int .i64 14, .agg #[.string x, .int .i64 n, .int .i64 (t : Nat), .int .i64 (a : Nat)]] w fun e w' => e = .returned (.bool (wF nmB 14 x n t a)) ∧ Below w.heap.size w w' := by
  have HW : Hid ((wF nmB 14 x n t a) = ((x.toList == []) && decide (n = 0) && decide (t = 2) && decide (a = 0))) := by
    show (wF nmB 14 x n t a) = _
    simp [wF]
  go_enter Tryz.func83, Tryz.ntmps83
  go_wp2
  all_goals
    go_ret
    refine ⟨retb ?_, (Below.refl _ _).alloc (Nat.le_refl _) _⟩
    rw [HW.out]
    first
      | rfl
      | (simp [*]; done)
      | (simp [*]; omega)
set_option maxHeartbeats 2000000 in
theorem fitsF15 (n : Int) (x : ByteArray) (t a : Nat) (w : World) :
    Calls Tryz.prog 83 #[.int .i64 15, .agg #[.string x, .int .i64 n, .int .i64 (t : Nat), .int .i64 (a : Nat)]] w fun e w' => e = .returned (.bool (wF nmB 15 x n t a)) ∧ Below w.heap.size w w' := by
  have HW : Hid ((wF nmB 15 x n t a) = ((x.toList == []) && decide (1 ≤ n) && decide (t = 2) && decide (a = 0))) := by
    show (wF nmB 15 x n t a) = _
    simp [wF]
  go_enter Tryz.func83, Tryz.ntmps83
  go_wp2
  all_goals
    go_ret
    refine ⟨retb ?_, (Below.refl _ _).alloc (Nat.le_refl _) _⟩
    rw [HW.out]
    first
      | rfl
      | (simp [*]; done)
      | (simp [*]; omega)
set_option maxHeartbeats 2000000 in
theorem fitsFo (o : Int) (n : Int) (x : ByteArray) (t a : Nat) (w : World) (ho : o < 0 ∨ 15 < o) :
    Calls Tryz.prog 83 #[.int .i64 o, .agg #[.string x, .int .i64 n, .int .i64 (t : Nat), .int .i64 (a : Nat)]] w fun e w' => e = .returned (.bool (wF nmB o x n t a)) ∧ Below w.heap.size w w' := by
  have HW : Hid ((wF nmB o x n t a) = (false)) := by
    show (wF nmB o x n t a) = _
    unfold wF; rw [if_neg (by omega), if_neg (by omega), if_neg (by omega)]
  have q0 : ¬ o = 0 := by omega
  have q1 : ¬ o = 1 := by omega
  have q2 : ¬ o = 2 := by omega
  have q3 : ¬ o = 3 := by omega
  have q4 : ¬ o = 4 := by omega
  have q5 : ¬ o = 5 := by omega
  have q6 : ¬ o = 6 := by omega
  have q7 : ¬ o = 7 := by omega
  have q8 : ¬ o = 8 := by omega
  have q9 : ¬ o = 9 := by omega
  have q10 : ¬ o = 10 := by omega
  have q11 : ¬ o = 11 := by omega
  have q12 : ¬ o = 12 := by omega
  have q13 : ¬ o = 13 := by omega
  have q14 : ¬ o = 14 := by omega
  have q15 : ¬ o = 15 := by omega
  go_enter Tryz.func83, Tryz.ntmps83
  go_wp2
  all_goals
    go_ret
    refine ⟨retb ?_, (Below.refl _ _).alloc (Nat.le_refl _) _⟩
    rw [HW.out]
end Go.Proofs.YtiapkblebbcfbaaGreat.Gl
