/- Is a node well made? -/
import Derived.Test.YtncgmnijgdfenaaGreatDoorTrB
import Derived.Test.YtncgmnijgdfenaaGreatDoorGlK
import Derived.Laws.StructEq
import Derived.Test.YtncgmnijgdfenaaGreatDoorTrA
namespace Go.Proofs.YtncgmnijgdfenaaGreatDoor.Gl
open Go.RowKit
set_option linter.unusedVariables false

set_option maxHeartbeats 2000000 in
theorem fitsT0 (n : Int) (x : ByteArray) (t a : Nat) (w : World) :
    Calls Tryz.prog 66 #[.int .i64 0, .agg #[.string x, .int .i64 n, .int .i64 (t : Nat), .int .i64 (a : Nat)]] w fun e w' => e = .returned (.bool (wT nmB 0 n x a && decide (t = 0))) ∧ Below w.heap.size w w' := by
  have HW : Hid ((wT nmB 0 n x a && decide (t = 0)) = (decide (0 ≤ n) && (x.toList == []) && decide (a = 0) && decide (t = 0))) := by
    show (wT nmB 0 n x a && decide (t = 0)) = _
    simp [wT]
  go_enter Tryz.func66, Tryz.ntmps66
  go_wp2
  all_goals
    go_ret
    refine ⟨retb ?_, (Below.refl _ _).alloc (Nat.le_refl _) _⟩
    rw [HW.out]
    first
      | rfl
      | (simp [*]; done)
      | (simp [*]; omega)
set_option maxHeartbeats 2000000 in
theorem fitsT1 (n : Int) (x : ByteArray) (t a : Nat) (w : World) (hs : Sz x.size) :
    Calls Tryz.prog 66 #[.int .i64 1, .agg #[.string x, .int .i64 n, .int .i64 (t : Nat), .int .i64 (a : Nat)]] w fun e w' => e = .returned (.bool (wT nmB 1 n x a && decide (t = 0))) ∧ Below w.heap.size w w' := by
  have HW : Hid ((wT nmB 1 n x a && decide (t = 0)) = (decide (n = 0) && nmB x && decide (a = 0) && decide (t = 0))) := by
    show (wT nmB 1 n x a && decide (t = 0)) = _
    simp [wT]
  obtain ⟨b, hb⟩ : ∃ b, nmB x = b := ⟨_, rfl⟩
  have HN := (nmB_iff x)
  rw [hb] at HN
  have RC : Hid (∀ w, Calls Tryz.prog 86 #[.string x] w fun e w' => e = .returned (.bool b) ∧ Below w.heap.size w w') := fun w => name_at x b w hs HN
  have HB : Hid (nmB x = b) := hb
  clear hb HN
  cases b
  · go_enter Tryz.func66, Tryz.ntmps66
    go_wp2_with (go_at_call 86; refine (RC.out _).mono ?_; rintro e w2 ⟨rfl, hB2⟩; have hd := (res_keep hB2).2.2.1; have e0 : w2.cell? ⟨w.heap.size, 0, none⟩ = some (.string x) := hd 0; have e1 : w2.cell? ⟨w.heap.size, 1, none⟩ = some (.int .i64 n) := hd 1; have e2 : w2.cell? ⟨w.heap.size, 2, none⟩ = some (.int .i64 (t : Nat)) := hd 2; have e3 : w2.cell? ⟨w.heap.size, 3, none⟩ = some (.int .i64 (a : Nat)) := hd 3; have hB3 := ba2 hB2; clear hd hB2)
    all_goals
      go_ret
      refine ⟨retb ?_, hB3⟩
      rw [HW.out, HB.out]
      clear RC
      first
        | rfl
        | (simp [*]; done)
        | (simp [*]; omega)
  · go_enter Tryz.func66, Tryz.ntmps66
    go_wp2_with (go_at_call 86; refine (RC.out _).mono ?_; rintro e w2 ⟨rfl, hB2⟩; have hd := (res_keep hB2).2.2.1; have e0 : w2.cell? ⟨w.heap.size, 0, none⟩ = some (.string x) := hd 0; have e1 : w2.cell? ⟨w.heap.size, 1, none⟩ = some (.int .i64 n) := hd 1; have e2 : w2.cell? ⟨w.heap.size, 2, none⟩ = some (.int .i64 (t : Nat)) := hd 2; have e3 : w2.cell? ⟨w.heap.size, 3, none⟩ = some (.int .i64 (a : Nat)) := hd 3; have hB3 := ba2 hB2; clear hd hB2)
    all_goals
      go_ret
      refine ⟨retb ?_, hB3⟩
      rw [HW.out, HB.out]
      clear RC
      first
        | rfl
        | (simp [*]; done)
        | (simp [*]; omega)
set_option maxHeartbeats 2000000 in
theorem fitsT2 (n : Int) (x : ByteArray) (t a : Nat) (w : World) :
    Calls Tryz.prog 66 #[.int .i64 2, .agg #[.string x, .int .i64 n, .int .i64 (t : Nat), .int .i64 (a : Nat)]] w fun e w' => e = .returned (.bool (wT nmB 2 n x a && decide (t = 0))) ∧ Below w.heap.size w w' := by
  have HW : Hid ((wT nmB 2 n x a && decide (t = 0)) = (decide (n = 0) && (x.toList == []) && decide (a = 1) && decide (t = 0))) := by
    show (wT nmB 2 n x a && decide (t = 0)) = _
    simp [wT]
  go_enter Tryz.func66, Tryz.ntmps66
  go_wp2
  all_goals
    go_ret
    refine ⟨retb ?_, (Below.refl _ _).alloc (Nat.le_refl _) _⟩
    rw [HW.out]
    first
      | rfl
      | (simp [*]; done)
      | (simp [*]; omega)
set_option maxHeartbeats 2000000 in
theorem fitsT3 (n : Int) (x : ByteArray) (t a : Nat) (w : World) :
    Calls Tryz.prog 66 #[.int .i64 3, .agg #[.string x, .int .i64 n, .int .i64 (t : Nat), .int .i64 (a : Nat)]] w fun e w' => e = .returned (.bool (wT nmB 3 n x a && decide (t = 0))) ∧ Below w.heap.size w w' := by
  have HW : Hid ((wT nmB 3 n x a && decide (t = 0)) = (decide (n = 0) && (x.toList == []) && decide (a = 2) && decide (t = 0))) := by
    show (wT nmB 3 n x a && decide (t = 0)) = _
    simp [wT]
  go_enter Tryz.func66, Tryz.ntmps66
  go_wp2
  all_goals
    go_ret
    refine ⟨retb ?_, (Below.refl _ _).alloc (Nat.le_refl _) _⟩
    rw [HW.out]
    first
      | rfl
      | (simp [*]; done)
      | (simp [*]; omega)
set_option maxHeartbeats 2000000 in
theorem fitsT4 (n : Int) (x : ByteArray) (t a : Nat) (w : World) :
    Calls Tryz.prog 66 #[.int .i64 4, .agg #[.string x, .int .i64 n, .int .i64 (t : Nat), .int .i64 (a : Nat)]] w fun e w' => e = .returned (.bool (wT nmB 4 n x a && decide (t = 0))) ∧ Below w.heap.size w w' := by
  have HW : Hid ((wT nmB 4 n x a && decide (t = 0)) = (decide (n = 0) && (x.toList == []) && decide (a = 2) && decide (t = 0))) := by
    show (wT nmB 4 n x a && decide (t = 0)) = _
    simp [wT]
  go_enter Tryz.func66, Tryz.ntmps66
  go_wp2
  all_goals
    go_ret
    refine ⟨retb ?_, (Below.refl _ _).alloc (Nat.le_refl _) _⟩
    rw [HW.out]
    first
      | rfl
      | (simp [*]; done)
      | (simp [*]; omega)
set_option maxHeartbeats 2000000 in
theorem fitsT5 (n : Int) (x : ByteArray) (t a : Nat) (w : World) :
    Calls Tryz.prog 66 #[.int .i64 5, .agg #[.string x, .int .i64 n, .int .i64 (t : Nat), .int .i64 (a : Nat)]] w fun e w' => e = .returned (.bool (wT nmB 5 n x a && decide (t = 0))) ∧ Below w.heap.size w w' := by
  have HW : Hid ((wT nmB 5 n x a && decide (t = 0)) = (decide (n = 0) && (x.toList == []) && decide (a = 2) && decide (t = 0))) := by
    show (wT nmB 5 n x a && decide (t = 0)) = _
    simp [wT]
  go_enter Tryz.func66, Tryz.ntmps66
  go_wp2
  all_goals
    go_ret
    refine ⟨retb ?_, (Below.refl _ _).alloc (Nat.le_refl _) _⟩
    rw [HW.out]
    first
      | rfl
      | (simp [*]; done)
      | (simp [*]; omega)
set_option maxHeartbeats 2000000 in
theorem fitsTo (o : Int) (n : Int) (x : ByteArray) (t a : Nat) (w : World) (ho : o < 0 ∨ 5 < o) :
    Calls Tryz.prog 66 #[.int .i64 o, .agg #[.string x, .int .i64 n, .int .i64 (t : Nat), .int .i64 (a : Nat)]] w fun e w' => e = .returned (.bool (wT nmB o n x a && decide (t = 0))) ∧ Below w.heap.size w w' := by
  have HW : Hid ((wT nmB o n x a && decide (t = 0)) = (false)) := by
    show (wT nmB o n x a && decide (t = 0)) = _
    unfold wT; rw [if_neg (by omega), if_neg (by omega), if_neg (by omega), if_neg (by omega)]; rfl
  have q0 : ¬ o = 0 := by omega
  have q1 : ¬ o = 1 := by omega
  have q2 : ¬ o = 2 := by omega
  have q3 : ¬ o = 3 := by omega
  have q4 : ¬ o = 4 := by omega
  have q5 : ¬ o = 5 := by omega
  go_enter Tryz.func66, Tryz.ntmps66
  go_wp2
  all_goals
    go_ret
    refine ⟨retb ?_, (Below.refl _ _).alloc (Nat.le_refl _) _⟩
    rw [HW.out]
set_option maxHeartbeats 2000000 in
theorem fitsF0 (n : Int) (x : ByteArray) (t a : Nat) (w : World) :
    Calls Tryz.prog 67 #[.int .i64 0, .agg #[.string x, .int .i64 n, .int .i64 (t : Nat), .int .i64 (a : Nat)]] w fun e w' => e = .returned (.bool (wF nmB 0 x n t a)) ∧ Below w.heap.size w w' := by
  have HW : Hid ((wF nmB 0 x n t a) = ((x.toList == []) && decide (n = 0) && decide (t = 0) && decide (a = 0))) := by
    show (wF nmB 0 x n t a) = _
    simp [wF]
  go_enter Tryz.func67, Tryz.ntmps67
  go_wp2
  all_goals
    go_ret
    refine ⟨retb ?_, (Below.refl _ _).alloc (Nat.le_refl _) _⟩
    rw [HW.out]
    first
      | rfl
      | (simp [*]; done)
      | (simp [*]; omega)
set_option maxHeartbeats 2000000 in
theorem fitsF1 (n : Int) (x : ByteArray) (t a : Nat) (w : World) :
    Calls Tryz.prog 67 #[.int .i64 1, .agg #[.string x, .int .i64 n, .int .i64 (t : Nat), .int .i64 (a : Nat)]] w fun e w' => e = .returned (.bool (wF nmB 1 x n t a)) ∧ Below w.heap.size w w' := by
  have HW : Hid ((wF nmB 1 x n t a) = ((x.toList == []) && decide (n = 0) && decide (t = 0) && decide (a = 0))) := by
    show (wF nmB 1 x n t a) = _
    simp [wF]
  go_enter Tryz.func67, Tryz.ntmps67
  go_wp2
  all_goals
    go_ret
    refine ⟨retb ?_, (Below.refl _ _).alloc (Nat.le_refl _) _⟩
    rw [HW.out]
    first
      | rfl
      | (simp [*]; done)
      | (simp [*]; omega)
set_option maxHeartbeats 2000000 in
theorem fitsF2 (n : Int) (x : ByteArray) (t a : Nat) (w : World) :
    Calls Tryz.prog 67 #[.int .i64 2, .agg #[.string x, .int .i64 n, .int .i64 (t : Nat), .int .i64 (a : Nat)]] w fun e w' => e = .returned (.bool (wF nmB 2 x n t a)) ∧ Below w.heap.size w w' := by
  have HW : Hid ((wF nmB 2 x n t a) = ((x.toList == []) && decide (n = 0) && decide (t = 0) && decide (a = 1))) := by
    show (wF nmB 2 x n t a) = _
    simp [wF]
  go_enter Tryz.func67, Tryz.ntmps67
  go_wp2
  all_goals
    go_ret
    refine ⟨retb ?_, (Below.refl _ _).alloc (Nat.le_refl _) _⟩
    rw [HW.out]
    first
      | rfl
      | (simp [*]; done)
      | (simp [*]; omega)
set_option maxHeartbeats 2000000 in
theorem fitsF3 (n : Int) (x : ByteArray) (t a : Nat) (w : World) :
    Calls Tryz.prog 67 #[.int .i64 3, .agg #[.string x, .int .i64 n, .int .i64 (t : Nat), .int .i64 (a : Nat)]] w fun e w' => e = .returned (.bool (wF nmB 3 x n t a)) ∧ Below w.heap.size w w' := by
  have HW : Hid ((wF nmB 3 x n t a) = ((x.toList == []) && decide (n = 0) && decide (t = 0) && decide (a = 2))) := by
    show (wF nmB 3 x n t a) = _
    simp [wF]
  go_enter Tryz.func67, Tryz.ntmps67
  go_wp2
  all_goals
    go_ret
    refine ⟨retb ?_, (Below.refl _ _).alloc (Nat.le_refl _) _⟩
    rw [HW.out]
    first
      | rfl
      | (simp [*]; done)
      | (simp [*]; omega)
set_option maxHeartbeats 2000000 in
theorem fitsF4 (n : Int) (x : ByteArray) (t a : Nat) (w : World) :
    Calls Tryz.prog 67 #[.int .i64 4, .agg #[.string x, .int .i64 n, .int .i64 (t : Nat), .int .i64 (a : Nat)]] w fun e w' => e = .returned (.bool (wF nmB 4 x n t a)) ∧ Below w.heap.size w w' := by
  have HW : Hid ((wF nmB 4 x n t a) = ((x.toList == []) && decide (n = 0) && decide (t = 0) && decide (a = 2))) := by
    show (wF nmB 4 x n t a) = _
    simp [wF]
  go_enter Tryz.func67, Tryz.ntmps67
  go_wp2
  all_goals
    go_ret
    refine ⟨retb ?_, (Below.refl _ _).alloc (Nat.le_refl _) _⟩
    rw [HW.out]
    first
      | rfl
      | (simp [*]; done)
      | (simp [*]; omega)
set_option maxHeartbeats 2000000 in
theorem fitsF5 (n : Int) (x : ByteArray) (t a : Nat) (w : World) :
    Calls Tryz.prog 67 #[.int .i64 5, .agg #[.string x, .int .i64 n, .int .i64 (t : Nat), .int .i64 (a : Nat)]] w fun e w' => e = .returned (.bool (wF nmB 5 x n t a)) ∧ Below w.heap.size w w' := by
  have HW : Hid ((wF nmB 5 x n t a) = ((x.toList == []) && decide (n = 0) && decide (t = 0) && decide (a = 2))) := by
    show (wF nmB 5 x n t a) = _
    simp [wF]
  go_enter Tryz.func67, Tryz.ntmps67
  go_wp2
  all_goals
    go_ret
    refine ⟨retb ?_, (Below.refl _ _).alloc (Nat.le_refl _) _⟩
    rw [HW.out]
    first
      | rfl
      | (simp [*]; done)
      | (simp [*]; omega)
set_option maxHeartbeats 2000000 in
theorem fitsF6 (n : Int) (x : ByteArray) (t a : Nat) (w : World) :
    Calls Tryz.prog 67 #[.int .i64 6, .agg #[.string x, .int .i64 n, .int .i64 (t : Nat), .int .i64 (a : Nat)]] w fun e w' => e = .returned (.bool (wF nmB 6 x n t a)) ∧ Below w.heap.size w w' := by
  have HW : Hid ((wF nmB 6 x n t a) = ((x.toList == []) && decide (n = 0) && decide (t = 0) && decide (a = 2))) := by
    show (wF nmB 6 x n t a) = _
    simp [wF]
  go_enter Tryz.func67, Tryz.ntmps67
  go_wp2
  all_goals
    go_ret
    refine ⟨retb ?_, (Below.refl _ _).alloc (Nat.le_refl _) _⟩
    rw [HW.out]
    first
      | rfl
      | (simp [*]; done)
      | (simp [*]; omega)
set_option maxHeartbeats 2000000 in
theorem fitsF7 (n : Int) (x : ByteArray) (t a : Nat) (w : World) (hs : Sz x.size) :
    Calls Tryz.prog 67 #[.int .i64 7, .agg #[.string x, .int .i64 n, .int .i64 (t : Nat), .int .i64 (a : Nat)]] w fun e w' => e = .returned (.bool (wF nmB 7 x n t a)) ∧ Below w.heap.size w w' := by
  have HW : Hid ((wF nmB 7 x n t a) = (nmB x && decide (n = 0) && decide (t = 0) && decide (a = 1))) := by
    show (wF nmB 7 x n t a) = _
    simp [wF]
  obtain ⟨b, hb⟩ : ∃ b, nmB x = b := ⟨_, rfl⟩
  have HN := (nmB_iff x)
  rw [hb] at HN
  have RC : Hid (∀ w, Calls Tryz.prog 86 #[.string x] w fun e w' => e = .returned (.bool b) ∧ Below w.heap.size w w') := fun w => name_at x b w hs HN
  have HB : Hid (nmB x = b) := hb
  clear hb HN
  cases b
  · go_enter Tryz.func67, Tryz.ntmps67
    go_wp2_with (go_at_call 86; refine (RC.out _).mono ?_; rintro e w2 ⟨rfl, hB2⟩; have hd := (res_keep hB2).2.2.1; have e0 : w2.cell? ⟨w.heap.size, 0, none⟩ = some (.string x) := hd 0; have e1 : w2.cell? ⟨w.heap.size, 1, none⟩ = some (.int .i64 n) := hd 1; have e2 : w2.cell? ⟨w.heap.size, 2, none⟩ = some (.int .i64 (t : Nat)) := hd 2; have e3 : w2.cell? ⟨w.heap.size, 3, none⟩ = some (.int .i64 (a : Nat)) := hd 3; have hB3 := ba2 hB2; clear hd hB2)
    all_goals
      go_ret
      refine ⟨retb ?_, hB3⟩
      rw [HW.out, HB.out]
      clear RC
      first
        | rfl
        | (simp [*]; done)
        | (simp [*]; omega)
  · go_enter Tryz.func67, Tryz.ntmps67
    go_wp2_with (go_at_call 86; refine (RC.out _).mono ?_; rintro e w2 ⟨rfl, hB2⟩; have hd := (res_keep hB2).2.2.1; have e0 : w2.cell? ⟨w.heap.size, 0, none⟩ = some (.string x) := hd 0; have e1 : w2.cell? ⟨w.heap.size, 1, none⟩ = some (.int .i64 n) := hd 1; have e2 : w2.cell? ⟨w.heap.size, 2, none⟩ = some (.int .i64 (t : Nat)) := hd 2; have e3 : w2.cell? ⟨w.heap.size, 3, none⟩ = some (.int .i64 (a : Nat)) := hd 3; have hB3 := ba2 hB2; clear hd hB2)
    all_goals
      go_ret
      refine ⟨retb ?_, hB3⟩
      rw [HW.out, HB.out]
      clear RC
      first
        | rfl
        | (simp [*]; done)
        | (simp [*]; omega)
set_option maxHeartbeats 2000000 in
theorem fitsF8 (n : Int) (x : ByteArray) (t a : Nat) (w : World) (hs : Sz x.size) :
    Calls Tryz.prog 67 #[.int .i64 8, .agg #[.string x, .int .i64 n, .int .i64 (t : Nat), .int .i64 (a : Nat)]] w fun e w' => e = .returned (.bool (wF nmB 8 x n t a)) ∧ Below w.heap.size w w' := by
  have HW : Hid ((wF nmB 8 x n t a) = (nmB x && decide (n = 0) && decide (t = 0) && decide (a = 1))) := by
    show (wF nmB 8 x n t a) = _
    simp [wF]
  obtain ⟨b, hb⟩ : ∃ b, nmB x = b := ⟨_, rfl⟩
  have HN := (nmB_iff x)
  rw [hb] at HN
  have RC : Hid (∀ w, Calls Tryz.prog 86 #[.string x] w fun e w' => e = .returned (.bool b) ∧ Below w.heap.size w w') := fun w => name_at x b w hs HN
  have HB : Hid (nmB x = b) := hb
  clear hb HN
  cases b
  · go_enter Tryz.func67, Tryz.ntmps67
    go_wp2_with (go_at_call 86; refine (RC.out _).mono ?_; rintro e w2 ⟨rfl, hB2⟩; have hd := (res_keep hB2).2.2.1; have e0 : w2.cell? ⟨w.heap.size, 0, none⟩ = some (.string x) := hd 0; have e1 : w2.cell? ⟨w.heap.size, 1, none⟩ = some (.int .i64 n) := hd 1; have e2 : w2.cell? ⟨w.heap.size, 2, none⟩ = some (.int .i64 (t : Nat)) := hd 2; have e3 : w2.cell? ⟨w.heap.size, 3, none⟩ = some (.int .i64 (a : Nat)) := hd 3; have hB3 := ba2 hB2; clear hd hB2)
    all_goals
      go_ret
      refine ⟨retb ?_, hB3⟩
      rw [HW.out, HB.out]
      clear RC
      first
        | rfl
        | (simp [*]; done)
        | (simp [*]; omega)
  · go_enter Tryz.func67, Tryz.ntmps67
    go_wp2_with (go_at_call 86; refine (RC.out _).mono ?_; rintro e w2 ⟨rfl, hB2⟩; have hd := (res_keep hB2).2.2.1; have e0 : w2.cell? ⟨w.heap.size, 0, none⟩ = some (.string x) := hd 0; have e1 : w2.cell? ⟨w.heap.size, 1, none⟩ = some (.int .i64 n) := hd 1; have e2 : w2.cell? ⟨w.heap.size, 2, none⟩ = some (.int .i64 (t : Nat)) := hd 2; have e3 : w2.cell? ⟨w.heap.size, 3, none⟩ = some (.int .i64 (a : Nat)) := hd 3; have hB3 := ba2 hB2; clear hd hB2)
    all_goals
      go_ret
      refine ⟨retb ?_, hB3⟩
      rw [HW.out, HB.out]
      clear RC
      first
        | rfl
        | (simp [*]; done)
        | (simp [*]; omega)
set_option maxHeartbeats 2000000 in
theorem fitsF9 (n : Int) (x : ByteArray) (t a : Nat) (w : World) :
    Calls Tryz.prog 67 #[.int .i64 9, .agg #[.string x, .int .i64 n, .int .i64 (t : Nat), .int .i64 (a : Nat)]] w fun e w' => e = .returned (.bool (wF nmB 9 x n t a)) ∧ Below w.heap.size w w' := by
  have HW : Hid ((wF nmB 9 x n t a) = ((x.toList == []) && decide (n = 0) && decide (t = 2) && decide (a = 0))) := by
    show (wF nmB 9 x n t a) = _
    simp [wF]
  go_enter Tryz.func67, Tryz.ntmps67
  go_wp2
  all_goals
    go_ret
    refine ⟨retb ?_, (Below.refl _ _).alloc (Nat.le_refl _) _⟩
    rw [HW.out]
    first
      | rfl
      | (simp [*]; done)
      | (simp [*]; omega)
set_option maxHeartbeats 2000000 in
theorem fitsF10 (n : Int) (x : ByteArray) (t a : Nat) (w : World) :
    Calls Tryz.prog 67 #[.int .i64 10, .agg #[.string x, .int .i64 n, .int .i64 (t : Nat), .int .i64 (a : Nat)]] w fun e w' => e = .returned (.bool (wF nmB 10 x n t a)) ∧ Below w.heap.size w w' := by
  have HW : Hid ((wF nmB 10 x n t a) = ((x.toList == []) && decide (n = 0) && decide (t = 2) && decide (a = 0))) := by
    show (wF nmB 10 x n t a) = _
    simp [wF]
  go_enter Tryz.func67, Tryz.ntmps67
  go_wp2
  all_goals
    go_ret
    refine ⟨retb ?_, (Below.refl _ _).alloc (Nat.le_refl _) _⟩
    rw [HW.out]
    first
      | rfl
      | (simp [*]; done)
      | (simp [*]; omega)
set_option maxHeartbeats 2000000 in
theorem fitsF11 (n : Int) (x : ByteArray) (t a : Nat) (w : World) :
    Calls Tryz.prog 67 #[.int .i64 11, .agg #[.string x, .int .i64 n, .int .i64 (t : Nat), .int .i64 (a : Nat)]] w fun e w' => e = .returned (.bool (wF nmB 11 x n t a)) ∧ Below w.heap.size w w' := by
  have HW : Hid ((wF nmB 11 x n t a) = ((x.toList == []) && decide (n = 0) && decide (t = 2) && decide (a = 0))) := by
    show (wF nmB 11 x n t a) = _
    simp [wF]
  go_enter Tryz.func67, Tryz.ntmps67
  go_wp2
  all_goals
    go_ret
    refine ⟨retb ?_, (Below.refl _ _).alloc (Nat.le_refl _) _⟩
    rw [HW.out]
    first
      | rfl
      | (simp [*]; done)
      | (simp [*]; omega)
set_option maxHeartbeats 2000000 in
theorem fitsF12 (n : Int) (x : ByteArray) (t a : Nat) (w : World) :
    Calls Tryz.prog 67 #[.int .i64 12, .agg #[.string x, .int .i64 n, .int .i64 (t : Nat), .int .i64 (a : Nat)]] w fun e w' => e = .returned (.bool (wF nmB 12 x n t a)) ∧ Below w.heap.size w w' := by
  have HW : Hid ((wF nmB 12 x n t a) = ((x.toList == []) && decide (n = 0) && decide (t = 2) && decide (a = 0))) := by
    show (wF nmB 12 x n t a) = _
    simp [wF]
  go_enter Tryz.func67, Tryz.ntmps67
  go_wp2
  all_goals
    go_ret
    refine ⟨retb ?_, (Below.refl _ _).alloc (Nat.le_refl _) _⟩
    rw [HW.out]
    first
      | rfl
      | (simp [*]; done)
      | (simp [*]; omega)
set_option maxHeartbeats 2000000 in
theorem fitsF13 (n : Int) (x : ByteArray) (t a : Nat) (w : World) :
    Calls Tryz.prog 67 #[.int .i64 13, .agg #[.string x, .int .i64 n, .int .i64 (t : Nat), .int .i64 (a : Nat)]] w fun e w' => e = .returned (.bool (wF nmB 13 x n t a)) ∧ Below w.heap.size w w' := by
  have HW : Hid ((wF nmB 13 x n t a) = ((x.toList == []) && decide (n = 0) && decide (t = 2) && decide (a = 0))) := by
    show (wF nmB 13 x n t a) = _
    simp [wF]
  go_enter Tryz.func67, Tryz.ntmps67
  go_wp2
  all_goals
    go_ret
    refine ⟨retb ?_, (Below.refl _ _).alloc (Nat.le_refl _) _⟩
    rw [HW.out]
    first
      | rfl
      | (simp [*]; done)
      | (simp [*]; omega)
set_option maxHeartbeats 2000000 in
theorem fitsF14 (n : Int) (x : ByteArray) (t a : Nat) (w : World) :
    Calls Tryz.prog 67 #[.int .i64 14, .agg #[.string x, .int .i64 n, .int .i64 (t : Nat), .int .i64 (a : Nat)]] w fun e w' => e = .returned (.bool (wF nmB 14 x n t a)) ∧ Below w.heap.size w w' := by
  have HW : Hid ((wF nmB 14 x n t a) = ((x.toList == []) && decide (n = 0) && decide (t = 2) && decide (a = 0))) := by
    show (wF nmB 14 x n t a) = _
    simp [wF]
  go_enter Tryz.func67, Tryz.ntmps67
  go_wp2
  all_goals
    go_ret
    refine ⟨retb ?_, (Below.refl _ _).alloc (Nat.le_refl _) _⟩
    rw [HW.out]
    first
      | rfl
      | (simp [*]; done)
      | (simp [*]; omega)
set_option maxHeartbeats 2000000 in
theorem fitsF15 (n : Int) (x : ByteArray) (t a : Nat) (w : World) :
    Calls Tryz.prog 67 #[.int .i64 15, .agg #[.string x, .int .i64 n, .int .i64 (t : Nat), .int .i64 (a : Nat)]] w fun e w' => e = .returned (.bool (wF nmB 15 x n t a)) ∧ Below w.heap.size w w' := by
  have HW : Hid ((wF nmB 15 x n t a) = ((x.toList == []) && decide (1 ≤ n) && decide (t = 2) && decide (a = 0))) := by
    show (wF nmB 15 x n t a) = _
    simp [wF]
  go_enter Tryz.func67, Tryz.ntmps67
  go_wp2
  all_goals
    go_ret
    refine ⟨retb ?_, (Below.refl _ _).alloc (Nat.le_refl _) _⟩
    rw [HW.out]
    first
      | rfl
      | (simp [*]; done)
      | (simp [*]; omega)
set_option maxHeartbeats 2000000 in
theorem fitsFo (o : Int) (n : Int) (x : ByteArray) (t a : Nat) (w : World) (ho : o < 0 ∨ 15 < o) :
    Calls Tryz.prog 67 #[.int .i64 o, .agg #[.string x, .int .i64 n, .int .i64 (t : Nat), .int .i64 (a : Nat)]] w fun e w' => e = .returned (.bool (wF nmB o x n t a)) ∧ Below w.heap.size w w' := by
  have HW : Hid ((wF nmB o x n t a) = (false)) := by
    show (wF nmB o x n t a) = _
    unfold wF; rw [if_neg (by omega), if_neg (by omega), if_neg (by omega)]
  have q0 : ¬ o = 0 := by omega
  have q1 : ¬ o = 1 := by omega
  have q2 : ¬ o = 2 := by omega
  have q3 : ¬ o = 3 := by omega
  have q4 : ¬ o = 4 := by omega
  have q5 : ¬ o = 5 := by omega
  have q6 : ¬ o = 6 := by omega
  have q7 : ¬ o = 7 := by omega
  have q8 : ¬ o = 8 := by omega
  have q9 : ¬ o = 9 := by omega
  have q10 : ¬ o = 10 := by omega
  have q11 : ¬ o = 11 := by omega
  have q12 : ¬ o = 12 := by omega
  have q13 : ¬ o = 13 := by omega
  have q14 : ¬ o = 14 := by omega
  have q15 : ¬ o = 15 := by omega
  go_enter Tryz.func67, Tryz.ntmps67
  go_wp2
  all_goals
    go_ret
    refine ⟨retb ?_, (Below.refl _ _).alloc (Nat.le_refl _) _⟩
    rw [HW.out]
end Go.Proofs.YtncgmnijgdfenaaGreatDoor.Gl
/- The nodes of a tree, each ahead of its parts: plain mathematics. -/
namespace Go.Proofs.YtncgmnijgdfenaaGreatDoor.Gl
set_option linter.unusedVariables false

structure Nd where
  dp : Int
  isT : Bool
  op : Int
  top : Int
  name : ByteArray
  num : Int
  terms : Nat
  args : Nat
/- one deeper -/
def dn (d : Int) : Int := RowKit.wrap64 (d + 1)
theorem dn_nat (k : Nat) (h : k ≤ 1000) : dn (k : Int) = ((k + 1 : Nat) : Int) := by
  unfold dn RowKit.wrap64
  omega
def headT (d : Int) : Tm → Nd | .mk o n x a => ⟨d, true, 0, o, x, n, 0, a.length⟩
def headF (d : Int) : Fm → Nd | .mk o x m t a => ⟨d, false, o, 0, x, m, t.length, a.length⟩
mutual
def ndT : Tm → Int → List Nd | .mk o n x a, d => headT d (.mk o n x a) :: ndTL a (dn d)
def ndTL : List Tm → Int → List Nd | [], _ => [] | t :: r, d => ndT t d ++ ndTL r d
end
mutual
def ndF : Fm → Int → List Nd | .mk o x m t a, d => headF d (.mk o x m t a) :: (ndTL t (dn d) ++ ndFL a (dn d))
def ndFL : List Fm → Int → List Nd | [], _ => [] | f :: r, d => ndF f d ++ ndFL r d
end
theorem ndTL_append (l r : List Tm) (d : Int) : ndTL (l ++ r) d = ndTL l d ++ ndTL r d := by
  induction l with
  | nil => simp [ndTL]
  | cons t l ih => simp [ndTL, ih]
theorem ndFL_append (l r : List Fm) (d : Int) : ndFL (l ++ r) d = ndFL l d ++ ndFL r d := by
  induction l with
  | nil => simp [ndFL]
  | cons t l ih => simp [ndFL, ih]
theorem ndTL_take {a : List Tm} {k : Nat} (h : k < a.length) (d : Int) : ndTL (a.take (k + 1)) d = ndTL (a.take k) d ++ ndT a[k] d := by
  rw [List.take_succ_eq_append_getElem h, ndTL_append]
  simp [ndTL]
theorem ndFL_take {a : List Fm} {k : Nat} (h : k < a.length) (d : Int) : ndFL (a.take (k + 1)) d = ndFL (a.take k) d ++ ndF a[k] d := by
  rw [List.take_succ_eq_append_getElem h, ndFL_append]
  simp [ndFL]
theorem ndTL_split {a : List Tm} {k : Nat} (h : k < a.length) (d : Int) : ndTL a d = ndTL (a.take k) d ++ ndT a[k] d ++ ndTL (a.drop (k + 1)) d := by
  rw [← ndTL_take h, ← ndTL_append, List.take_append_drop]
theorem ndFL_split {a : List Fm} {k : Nat} (h : k < a.length) (d : Int) : ndFL a d = ndFL (a.take k) d ++ ndF a[k] d ++ ndFL (a.drop (k + 1)) d := by
  rw [← ndFL_take h, ← ndFL_append, List.take_append_drop]
/- how many -/
theorem ndTL_len {a : List Tm} (ih : ∀ t ∈ a, ∀ d, (ndT t d).length = t.size) (d : Int) : (ndTL a d).length = Tm.sizeL a := by
  induction a with
  | nil => rfl
  | cons t r ihr =>
    rw [ndTL, Tm.sizeL, List.length_append, ih t (List.mem_cons_self ..), ihr (fun u hu => ih u (List.mem_cons_of_mem _ hu))]
theorem ndT_len : ∀ t d, (ndT t d).length = Tm.size t := by
  refine Tm.ind (fun o n x a ih d => ?_)
  rw [ndT, Tm.size, List.length_cons, ndTL_len ih]
theorem ndFL_len {a : List Fm} (ih : ∀ t ∈ a, ∀ d, (ndF t d).length = t.size) (d : Int) : (ndFL a d).length = Fm.sizeL a := by
  induction a with
  | nil => rfl
  | cons t r ihr =>
    rw [ndFL, Fm.sizeL, List.length_append, ih t (List.mem_cons_self ..), ihr (fun u hu => ih u (List.mem_cons_of_mem _ hu))]
theorem ndF_len : ∀ f d, (ndF f d).length = Fm.size f := by
  refine Fm.ind (fun o x m t a ih d => ?_)
  rw [ndF, Fm.size, List.length_cons, List.length_append, ndFL_len ih, ndTL_len (fun u _ => ndT_len u)]
/- the meter over the nodes -/
def wellN (nm : ByteArray → Bool) (x : Nd) : Bool := if x.isT = true then wT nm x.top x.num x.name x.args && decide (x.terms = 0) else wF nm x.op x.name x.num x.terms x.args
def stp (nm : ByteArray → Bool) (s : St) (x : Nd) : St := if s.e = 0 then s.node x.dp.toNat (wellN nm x) else s
theorem stp_err {nm : ByteArray → Bool} {s : St} (h : s.e ≠ 0) (l : List Nd) : l.foldl (stp nm) s = s := by
  induction l with
  | nil => rfl
  | cons x r ih => rw [List.foldl_cons, stp, if_neg h, ih]
theorem node_deep {dp : Nat} {g : Bool} {s : St} (h : (s.node dp g).e = 0) : dp ≤ 40 ∧ s.n + 1 ≤ 500 ∧ g = true := by
  unfold St.node at h
  simp only at h
  split at h
  · omega
  · split at h
    · omega
    · split at h
      · exact ⟨by omega, by omega, by assumption⟩
      · omega
theorem fold_TL {nm : ByteArray → Bool} {a : List Tm} (ih : ∀ t ∈ a, ∀ (dp : Nat) (s : St), s.e = 0 → dp ≤ 41 → (ndT t dp).foldl (stp nm) s = meterT nm t dp s) (dp : Nat) (hd : dp ≤ 41) : ∀ s : St, (ndTL a dp).foldl (stp nm) s = meterTL nm a dp s := by
  induction a with
  | nil => intro s; rw [ndTL, meterTL]; rfl
  | cons t r ihr =>
    intro s
    rw [ndTL, meterTL, List.foldl_append]
    by_cases h : s.e = 0
    · rw [if_pos h, ih t (List.mem_cons_self ..) dp s h hd, ihr (fun u hu => ih u (List.mem_cons_of_mem _ hu))]
    · rw [if_neg h, stp_err h, stp_err h]
theorem fold_T (nm : ByteArray → Bool) : ∀ t (dp : Nat) (s : St), s.e = 0 → dp ≤ 41 → (ndT t dp).foldl (stp nm) s = meterT nm t dp s := by
  refine Tm.ind (fun o n x a ih dp s h hd => ?_)
  rw [ndT, meterT, List.foldl_cons, stp, if_pos h]
  have e1 : wellN nm (headT dp (.mk o n x a)) = wellT nm (.mk o n x a) := by
    simp [wellN, headT, wellT]
  have e2 : (headT (dp : Int) (.mk o n x a)).dp.toNat = dp := by simp [headT]
  rw [e1, e2]
  by_cases h1 : (s.node dp (wellT nm (.mk o n x a))).e = 0
  · have := (node_deep h1).1
    rw [dn_nat dp (by omega)]
    exact fold_TL ih (dp + 1) (by omega) _
  · rw [stp_err h1, meterTL_err _ _ _ _ h1]
theorem fold_FL {nm : ByteArray → Bool} {a : List Fm} (ih : ∀ t ∈ a, ∀ (dp : Nat) (s : St), s.e = 0 → dp ≤ 41 → (ndF t dp).foldl (stp nm) s = meterF nm t dp s) (dp : Nat) (hd : dp ≤ 41) : ∀ s : St, (ndFL a dp).foldl (stp nm) s = meterFL nm a dp s := by
  induction a with
  | nil => intro s; rw [ndFL, meterFL]; rfl
  | cons t r ihr =>
    intro s
    rw [ndFL, meterFL, List.foldl_append]
    by_cases h : s.e = 0
    · rw [if_pos h, ih t (List.mem_cons_self ..) dp s h hd, ihr (fun u hu => ih u (List.mem_cons_of_mem _ hu))]
    · rw [if_neg h, stp_err h, stp_err h]
theorem fold_F (nm : ByteArray → Bool) : ∀ f (dp : Nat) (s : St), s.e = 0 → dp ≤ 41 → (ndF f dp).foldl (stp nm) s = meterF nm f dp s := by
  refine Fm.ind (fun o x m t a ih dp s h hd => ?_)
  rw [ndF, meterF, List.foldl_cons, stp, if_pos h]
  have e1 : wellN nm (headF dp (.mk o x m t a)) = wellF nm (.mk o x m t a) := by
    simp [wellN, headF, wellF]
  have e2 : (headF (dp : Int) (.mk o x m t a)).dp.toNat = dp := by simp [headF]
  rw [e1, e2, List.foldl_append]
  by_cases h1 : (s.node dp (wellF nm (.mk o x m t a))).e = 0
  · have := (node_deep h1).1
    rw [dn_nat dp (by omega), fold_TL (fun u _ => fold_T nm u) (dp + 1) (by omega), fold_FL ih (dp + 1) (by omega)]
  · rw [stp_err h1, stp_err h1, meterTL_err _ _ _ _ h1, meterFL_err _ _ _ _ h1]
/- the count -/
theorem stp_n {nm : ByteArray → Bool} {s : St} {x : Nd} (h : (stp nm s x).e = 0) : s.e = 0 ∧ (stp nm s x).n = s.n + 1 := by
  unfold stp at h ⊢
  by_cases h0 : s.e = 0
  · rw [if_pos h0]; exact ⟨h0, rfl⟩
  · rw [if_neg h0] at h; exact absurd h h0
abbrev run0 (nm : ByteArray → Bool) (l : List Nd) : St := l.foldl (stp nm) ⟨0, 0, 0⟩
theorem run_n {nm : ByteArray → Bool} (l : List Nd) (h : (run0 nm l).e = 0) : (run0 nm l).n = l.length ∧ l.length ≤ 500 := by
  have key : ∀ (l : List Nd) (s : St), s.n ≤ 500 → (l.foldl (stp nm) s).e = 0 → (l.foldl (stp nm) s).n = s.n + l.length ∧ s.n + l.length ≤ 500 := by
    intro l
    induction l with
    | nil => intro s hs h; exact ⟨rfl, hs⟩
    | cons x r ih =>
      intro s hs h
      rw [List.foldl_cons] at h ⊢
      have he : (stp nm s x).e = 0 := Decidable.byContradiction (fun hc => by rw [stp_err hc] at h; exact hc h)
      obtain ⟨h0, h1⟩ := stp_n he
      have h2 : (stp nm s x).n ≤ 500 := by
        unfold stp at he ⊢
        rw [if_pos h0] at he ⊢
        exact (node_deep he).2.1
      obtain ⟨a1, a2⟩ := ih _ h2 h
      rw [a1, h1, List.length_cons]
      rw [h1] at a2
      omega
  have := key l ⟨0, 0, 0⟩ (by simp) h
  simpa using this
theorem run_snoc (nm : ByteArray → Bool) (l : List Nd) (x : Nd) : run0 nm (l ++ [x]) = stp nm (run0 nm l) x := by simp [run0, List.foldl_append]
theorem run_pre {nm : ByteArray → Bool} {p l : List Nd} (h : p <+: l) (he : (run0 nm p).e ≠ 0) : run0 nm l = run0 nm p := by
  obtain ⟨r, rfl⟩ := h
  unfold run0
  rw [List.foldl_append, stp_err he]
theorem chk_run (nm : ByteArray → Bool) (f : Fm) : chk nm f = (run0 nm (ndF f 1)).e := by
  unfold chk run0
  rw [show (1 : Int) = ((1 : Nat) : Int) from rfl, fold_F nm f 1 ⟨0, 0, 0⟩ rfl (by omega)]
/- what one more node says -/
theorem run_many {nm : ByteArray → Bool} {l : List Nd} {x : Nd} (h : (run0 nm l).e = 0) (h1 : 500 < l.length + 1) : (run0 nm (l ++ [x])).e = 73 := by
  rw [run_snoc, stp, if_pos h]; unfold St.node; rw [(run_n l h).1]; simp only; rw [if_pos h1]
theorem run_deep {nm : ByteArray → Bool} {l : List Nd} {x : Nd} (h : (run0 nm l).e = 0) (h1 : ¬ 500 < l.length + 1) (h2 : 40 < x.dp) : (run0 nm (l ++ [x])).e = 72 := by
  rw [run_snoc, stp, if_pos h]; unfold St.node; rw [(run_n l h).1]; simp only; rw [if_neg h1, if_pos (by omega)]
theorem run_bad {nm : ByteArray → Bool} {l : List Nd} {x : Nd} (h : (run0 nm l).e = 0) (h1 : ¬ 500 < l.length + 1) (h2 : ¬ 40 < x.dp) (h3 : wellN nm x = false) : (run0 nm (l ++ [x])).e = 3 := by
  rw [run_snoc, stp, if_pos h]; unfold St.node; rw [(run_n l h).1]; simp only; rw [if_neg h1, if_neg (by omega), h3]; rfl
theorem run_ok {nm : ByteArray → Bool} {l : List Nd} {x : Nd} (h : (run0 nm l).e = 0) (h1 : ¬ 500 < l.length + 1) (h2 : ¬ 40 < x.dp) (h3 : wellN nm x = true) : (run0 nm (l ++ [x])).e = 0 := by
  rw [run_snoc, stp, if_pos h]; unfold St.node; rw [(run_n l h).1]; simp only; rw [if_neg h1, if_neg (by omega), h3]; exact h
end Go.Proofs.YtncgmnijgdfenaaGreatDoor.Gl
