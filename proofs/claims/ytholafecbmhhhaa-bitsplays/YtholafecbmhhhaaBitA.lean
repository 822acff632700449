/- The program's letters: Digit, isTrack, isLetter, below, Insert, Remove. -/
import Derived.Test.YtholafecbmhhhaaDigE
import Derived.Deep.QuietTactic
import Derived.BigQuiet
namespace Go.Proofs.Ytholafecbmhhhaa.Dg
open Go.RowKit
set_option linter.unusedVariables false

theorem isTrack_at (x : Int) (r : Bool) (w : World) (h : decide (0 ≤ x ∧ x < 6) = r) :
    Calls Try.prog 48 #[.int .i64 x] w fun e w' => e = .returned (.bool r) ∧ w = w' := by
  subst h
  by_cases h1 : 0 ≤ x
  · by_cases h2 : x < 6
    · rw [decide_eq_true ⟨h1, h2⟩]
      go_enter Try.func48, Try.ntmps48
      go_wp2
      go_ret
      exact ⟨rfl, rfl⟩
    · rw [decide_eq_false (fun h => h2 h.2)]
      go_enter Try.func48, Try.ntmps48
      go_wp2
      go_ret
      exact ⟨rfl, rfl⟩
  · rw [decide_eq_false (fun h => h1 h.1)]
    go_enter Try.func48, Try.ntmps48
    go_wp2
    go_ret
    exact ⟨rfl, rfl⟩
theorem isLetter_at (x : Int) (r : Bool) (w : World) (h : decide (0 ≤ x ∧ x < 64) = r) :
    Calls Try.prog 53 #[.int .i64 x] w fun e w' => e = .returned (.bool r) ∧ w = w' := by
  subst h
  by_cases h1 : 0 ≤ x
  · by_cases h2 : x < 64
    · rw [decide_eq_true ⟨h1, h2⟩]
      go_enter Try.func53, Try.ntmps53
      go_wp2
      go_ret
      exact ⟨rfl, rfl⟩
    · rw [decide_eq_false (fun h => h2 h.2)]
      go_enter Try.func53, Try.ntmps53
      go_wp2
      go_ret
      exact ⟨rfl, rfl⟩
  · rw [decide_eq_false (fun h => h1 h.1)]
    go_enter Try.func53, Try.ntmps53
    go_wp2
    go_ret
    exact ⟨rfl, rfl⟩

theorem bdigit_none (x t : Int) (w : World) (h : x < 0 ∨ t < 0 ∨ 61 < t) :
    Calls Try.prog 35 #[.int .i64 x, .int .i64 t] w fun e w' => e = .returned (.int .i64 0) ∧ w = w' := by
  by_cases h1 : x < 0
  · go_enter Try.func35, Try.ntmps35
    go_wp2
    go_ret
    exact ⟨rfl, rfl⟩
  · by_cases h2 : t < 0
    · go_enter Try.func35, Try.ntmps35
      go_wp2
      go_ret
      exact ⟨rfl, rfl⟩
    · have h3 : 61 < t := by omega
      go_enter Try.func35, Try.ntmps35
      go_wp2
      go_ret
      exact ⟨rfl, rfl⟩
theorem and_one_i64 (M : Nat) (h : M ≤ 9223372036854775807) : bits .and .i64 (M : Int) 1 = ((M % 2 : Nat) : Int) := by
  show IntKind.i64.wrap ((BitVec.ofInt 64 (M : Int) &&& BitVec.ofInt 64 ((1 : Nat) : Int)).toNat : Int) = _
  rw [BitVec.toNat_and, ofInt_u64 M (by omega), ofInt_u64 1 (by omega), Nat.and_one_is_mod, IntKind.wrap_i64]
  omega
theorem i64_and_nat (a b : Nat) (ha : a < 9223372036854775808) (hb : b < 9223372036854775808) : bits .and .i64 (a : Int) (b : Int) = ((a &&& b : Nat) : Int) := by
  have hx : a &&& b < 2 ^ 63 := Nat.and_lt_two_pow _ (by omega)
  show IntKind.i64.wrap ((BitVec.ofInt 64 (a : Int) &&& BitVec.ofInt 64 (b : Int)).toNat : Int) = _
  rw [BitVec.toNat_and, ofInt_u64 a (by omega), ofInt_u64 b (by omega), IntKind.wrap_i64]
  omega
theorem i64_or_nat (a b : Nat) (ha : a < 9223372036854775808) (hb : b < 9223372036854775808) : bits .or .i64 (a : Int) (b : Int) = ((a ||| b : Nat) : Int) := by
  have hx : a ||| b < 2 ^ 63 := Nat.or_lt_two_pow (by omega) (by omega)
  show IntKind.i64.wrap ((BitVec.ofInt 64 (a : Int) ||| BitVec.ofInt 64 (b : Int)).toNat : Int) = _
  rw [BitVec.toNat_or, ofInt_u64 a (by omega), ofInt_u64 b (by omega), IntKind.wrap_i64]
  omega
theorem ret1 {a c : Int} (h : a = c) : Ending.returned (.int .i64 a) = .returned (.int .i64 c) := by rw [h]
theorem div_pow_nat (L t : Nat) : (L : Int) / 2 ^ t = ((L / 2 ^ t : Nat) : Int) := by simp
theorem bdigit_in (L t : Nat) (w : World) (hL : L ≤ 9223372036854775807) (ht : t ≤ 61) :
    Calls Try.prog 35 #[.int .i64 L, .int .i64 t] w fun e w' => e = .returned (.int .i64 ((L / 2 ^ t % 2 : Nat) : Int)) ∧ w = w' := by
  have hle : L / 2 ^ t ≤ 9223372036854775807 := Nat.le_trans (Nat.div_le_self _ _) hL
  have HF : Hid (bits .and .i64 ((L : Int) / 2 ^ t) 1 = ((L / 2 ^ t % 2 : Nat) : Int)) := by
    show _ = _
    rw [div_pow_nat]; exact and_one_i64 _ hle
  clear hle
  go_enter Try.func35, Try.ntmps35
  go_wp2
  go_ret
  exact ⟨ret1 HF.out, rfl⟩
theorem below_all : ∀ L : Fin 64, ∀ t : Fin 6, L.val &&& (2 ^ t.val - 1) = L.val % 2 ^ t.val := by decide +kernel
theorem bbelow_at (L t : Nat) (w : World) (hL : L < 64) (ht : t < 6) :
    Calls Try.prog 49 #[.int .i64 L, .int .i64 t] w fun e w' => e = .returned (.int .i64 ((L % 2 ^ t : Nat) : Int)) ∧ w = w' := by
  have hp : 2 ^ t ≤ 2 ^ 5 := Nat.pow_le_pow_right (by omega) (by omega)
  have hp1 : 0 < 2 ^ t := Nat.pow_pos (by omega)
  have HF : Hid (bits .and .i64 (L : Int) (wrap64 (wrap64 (2 ^ t) - 1)) = ((L % 2 ^ t : Nat) : Int)) := by
    show _ = _
    rw [show ((2 : Int) ^ t) = ((2 ^ t : Nat) : Int) from by simp]
    rw [show wrap64 (wrap64 ((2 ^ t : Nat) : Int) - 1) = ((2 ^ t - 1 : Nat) : Int) from by unfold wrap64; omega]
    rw [i64_and_nat _ _ (by omega) (by omega)]
    exact congrArg Nat.cast (below_all ⟨L, hL⟩ ⟨t, ht⟩)
  clear hp hp1
  go_enter Try.func49, Try.ntmps49
  go_wp2
  go_ret
  exact ⟨ret1 HF.out, rfl⟩
theorem quiet_same {P : Program} {f : FuncId} {args : Array Value} {w : World} {n : Nat} {v : Value}
    (h : Calls P f args (w.drewN n) fun e w' => e = .returned v ∧ w.drewN n = w') : Calls P f args (w.drewN n) fun e w'' => e = .returned v ∧ ∃ m, w'' = w.drewN m :=
  h.mono fun _ _ ⟨he, hm⟩ => ⟨he, n, hm.symm⟩
theorem below_drewN (B : Nat) (w : World) (n : Nat) : Below B w (w.drewN n) := by
  induction n with
  | zero => exact Below.refl _ _
  | succ n ih => exact ih.drew
theorem ins_all : ∀ L : Fin 32, ∀ t : Fin 6, ∀ d : Fin 2, bits .or .i64 (bits .or .i64 (wrap64 ((L.val : Int) / 2 ^ t.val * 2 ^ (t.val + 1))) (wrap64 ((d.val : Int) * 2 ^ t.val))) ((L.val : Int) % 2 ^ t.val) = ((ins L.val t.val d.val : Nat) : Int) := by decide +kernel
theorem rem_all : ∀ L : Fin 64, ∀ t : Fin 6, bits .or .i64 (wrap64 ((L.val : Int) / 2 ^ (t.val + 1) * 2 ^ t.val)) ((L.val : Int) % 2 ^ t.val) = ((rem L.val t.val : Nat) : Int) := by decide +kernel
theorem binsert_in (L t d : Nat) (w : World) (hL : L < 32) (ht : t ≤ 5) (hd : d ≤ 1) :
    Calls Try.prog 31 #[.int .i64 L, .int .i64 t, .int .i64 d] w fun e w' => e = .returned (.tuple #[.int .i64 (ins L t d : Nat), .int .i64 0]) ∧ Below w.heap.size w w' := by
  have h1 : (0 : Int) ≤ (t : Int) + 1 := by omega
  have h2 : IntKind.i64.wrap ((t : Int) + 1) = (t : Int) + 1 := by rw [IntKind.wrap_i64]; omega
  have h3 : ((t : Int) + 1).toNat = t + 1 := by omega
  go_enter Try.func31, Try.ntmps31
  go_wp2_with (go_at_call 48; refine (isTrack_at _ true _ (decide_eq_true ⟨by omega, by omega⟩)).mono ?_; rintro e w' ⟨rfl, rfl⟩)
  go_quiet ((go_at_call 49; exact quiet_same (bbelow_at L t _ (by omega) (by omega))))
  go_wp2
  go_ret2
  exact ⟨ret2 (ins_all ⟨L, hL⟩ ⟨t, by omega⟩ ⟨d, by omega⟩) rfl, below_drewN _ _ _⟩
theorem bremove_in (L t : Nat) (w : World) (hL : L < 64) (ht : t ≤ 5) :
    Calls Try.prog 33 #[.int .i64 L, .int .i64 t] w fun e w' => e = .returned (.tuple #[.int .i64 (rem L t : Nat), .int .i64 0]) ∧ Below w.heap.size w w' := by
  have h1 : (0 : Int) ≤ (t : Int) + 1 := by omega
  have h2 : IntKind.i64.wrap ((t : Int) + 1) = (t : Int) + 1 := by rw [IntKind.wrap_i64]; omega
  have h3 : ((t : Int) + 1).toNat = t + 1 := by omega
  go_enter Try.func33, Try.ntmps33
  go_wp2_with (first
    | (go_at_call 53; refine (isLetter_at _ true _ (decide_eq_true ⟨by omega, by omega⟩)).mono ?_; rintro e w' ⟨rfl, rfl⟩)
    | (go_at_call 48; refine (isTrack_at _ true _ (decide_eq_true ⟨by omega, by omega⟩)).mono ?_; rintro e w' ⟨rfl, rfl⟩))
  go_quiet ((go_at_call 49; exact quiet_same (bbelow_at L t _ (by omega) (by omega))))
  go_wp2
  go_ret2
  exact ⟨ret2 (rem_all ⟨L, hL⟩ ⟨t, by omega⟩) rfl, below_drewN _ _ _⟩

theorem binsert_no (x t d : Int) (w : World) (h : ¬ ((0 ≤ x ∧ x < 32) ∧ (0 ≤ t ∧ t < 6) ∧ (0 ≤ d ∧ d < 2))) :
    Calls Try.prog 31 #[.int .i64 x, .int .i64 t, .int .i64 d] w fun e w' => e = .returned (.tuple #[.int .i64 0, .int .i64 2]) ∧ w = w' := by
  by_cases h1 : 0 ≤ x ∧ x < 32
  · obtain ⟨h1, h1'⟩ := h1
    by_cases h2 : 0 ≤ t ∧ t < 6
    · have H2 : Hid (0 ≤ t ∧ t < 6) := h2
      by_cases h3 : d < 0
      · clear h h2
        go_enter Try.func31, Try.ntmps31
        go_wp2_with (go_at_call 48; refine (isTrack_at _ true _ (decide_eq_true H2.out)).mono ?_; rintro e w' ⟨rfl, rfl⟩)
        go_ret2
        exact ⟨rfl, rfl⟩
      · have h4 : 1 < d := by omega
        clear h h2
        go_enter Try.func31, Try.ntmps31
        go_wp2_with (go_at_call 48; refine (isTrack_at _ true _ (decide_eq_true H2.out)).mono ?_; rintro e w' ⟨rfl, rfl⟩)
        go_ret2
        exact ⟨rfl, rfl⟩
    · have H2 : Hid (¬ (0 ≤ t ∧ t < 6)) := h2
      clear h h2
      go_enter Try.func31, Try.ntmps31
      go_wp2_with (go_at_call 48; refine (isTrack_at _ false _ (decide_eq_false H2.out)).mono ?_; rintro e w' ⟨rfl, rfl⟩)
      go_ret2
      exact ⟨rfl, rfl⟩
  · by_cases h2 : x < 0
    · clear h h1
      go_enter Try.func31, Try.ntmps31
      go_wp2
      go_ret2
      exact ⟨rfl, rfl⟩
    · have h3 : 32 ≤ x := by omega
      clear h h1
      go_enter Try.func31, Try.ntmps31
      go_wp2
      go_ret2
      exact ⟨rfl, rfl⟩
theorem bremove_no (x t : Int) (w : World) (h : ¬ ((0 ≤ x ∧ x < 64) ∧ (0 ≤ t ∧ t < 6))) :
    Calls Try.prog 33 #[.int .i64 x, .int .i64 t] w fun e w' => e = .returned (.tuple #[.int .i64 0, .int .i64 2]) ∧ w = w' := by
  by_cases h1 : 0 ≤ x ∧ x < 64
  · have h2 : ¬ (0 ≤ t ∧ t < 6) := fun h2 => h ⟨h1, h2⟩
    have H1 : Hid (0 ≤ x ∧ x < 64) := h1
    have H2 : Hid (¬ (0 ≤ t ∧ t < 6)) := h2
    clear h h1 h2
    go_enter Try.func33, Try.ntmps33
    go_wp2_with (first
      | (go_at_call 53; refine (isLetter_at _ true _ (decide_eq_true H1.out)).mono ?_; rintro e w' ⟨rfl, rfl⟩)
      | (go_at_call 48; refine (isTrack_at _ false _ (decide_eq_false H2.out)).mono ?_; rintro e w' ⟨rfl, rfl⟩))
    go_ret2
    exact ⟨rfl, rfl⟩
  · have H1 : Hid (¬ (0 ≤ x ∧ x < 64)) := h1
    clear h h1
    go_enter Try.func33, Try.ntmps33
    go_wp2_with (go_at_call 53; refine (isLetter_at _ false _ (decide_eq_false H1.out)).mono ?_; rintro e w' ⟨rfl, rfl⟩)
    go_ret2
    exact ⟨rfl, rfl⟩
end Go.Proofs.Ytholafecbmhhhaa.Dg
