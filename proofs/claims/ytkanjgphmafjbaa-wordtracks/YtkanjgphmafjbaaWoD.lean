/- Layer 3: the document's Length, Digits, Longest, Value, Number. -/
import Derived.Test.YtkanjgphmafjbaaWoC
import Derived.Test.YtkanjgphmafjbaaFloor
namespace Go.Proofs.Ytkanjgphmafjbaa.Wo
open Go.RowKit
open Go.Proofs.Ytkanjgphmafjbaa.Wd (Mg nOf eOf ref_floor of_b plus_b fits_in)
set_option linter.unusedVariables false

theorem half_at (a : Int) (w : World) (l : -9223372036854775808 ≤ a) (u : a ≤ 9223372036854775807) :
    Calls Try.prog 35 #[.int .i64 a, .int .i64 2] w fun e w' => e = .returned (.tuple #[.int .i64 (a / 2), .int .i64 0]) ∧ Below w.heap.size w w' := by
  have h := ref_floor a 2 w l u (by omega) (by omega) (by omega)
  have e : a.fdiv 2 = a / 2 := Int.fdiv_eq_ediv_of_nonneg a (by omega)
  rw [e, show nOf (a / 2) = a / 2 from if_pos (by omega), show eOf (a / 2) = 0 from if_pos (by omega)] at h
  exact h
theorem mag_pos (x : Int) (h : ¬ x = 0) (h' : ¬ x = -1) : mag (x / 2) < mag x := by
  rw [mag_half]
  have : mag x ≠ 0 := by unfold mag; split <;> omega
  omega
set_option maxHeartbeats 1000000 in
theorem rlength_at (v : Int) (w : World) (l : -9223372036854775808 ≤ v) (u : v ≤ 9223372036854775807) :
    Calls Try.prog 12 #[.int .i64 v] w fun e w' => e = .returned (.int .i64 (ln v : Nat)) ∧ Below w.heap.size w w' := by
  have h64 := ln_64 v l u
  go_enter Try.func12, Try.ntmps12
  go_wp2
  go_loopw [0, 3] (fun x n wr => ∃ (y : Int) (m : Nat), x = .int .i64 y ∧ n = .int .i64 m ∧ -9223372036854775808 ≤ y ∧ y ≤ 9223372036854775807 ∧ m ≤ 64 ∧ Hid (m + ln y = ln v + 1) ∧ Below w.heap.size w wr) (fun x _ _ => mag (intOf x))
  case atStart => exact ⟨v, 1, rfl, rfl, l, u, by omega, by show 1 + ln v = ln v + 1; omega, Below.refl _ _⟩
  case round =>
    obtain ⟨y, m, rfl, rfl, hl, hu, hm, hinv, hB⟩ := hrel
    by_cases h0 : y = 0
    · have HE : Hid ((m : Int) = (ln v : Nat)) := by have := hinv.out; rw [h0, ln_zero] at this; show (m : Int) = _; omega
      subst h0
      go_wp2
      go_ret
      exact ⟨ret1 HE.out, hB⟩
    · by_cases h1 : y = -1
      · have HE : Hid ((m : Int) = (ln v : Nat)) := by have := hinv.out; rw [h1, ln_neg] at this; show (m : Int) = _; omega
        subst h1
        clear h0
        go_wp2
        go_ret
        exact ⟨ret1 HE.out, hB⟩
      · have h0' : (y != 0) = true := by simpa using h0
        have h1' : (y != -1) = true := by simpa using h1
        have hinv' : Hid (m + 1 + ln (y / 2) = ln v + 1) := by
          have := hinv.out
          rw [ln_half y h0 h1] at this
          show _ = _
          omega
        have hm' : m + 1 ≤ 64 := by have := hinv'.out; have := ln_pos (y / 2); omega
        have HM : Hid (mag (y / 2) < mag y) := mag_pos y h0 h1
        go_wp2_with (go_at_call 35; refine (half_at y _ hl hu).mono ?_; rintro e w2 ⟨rfl, hB2⟩)
        go_roundw
        case rel => exact ⟨y / 2, m + 1, by go_num, by go_num, by omega, by omega, hm', hinv', hB.trans (hB2.mono hB.size)⟩
        case measure => exact HM.out
theorem rem_two (x : Int) : (x.tmod 2 < 0 → x % 2 = 1) ∧ (¬ x.tmod 2 < 0 → x.tmod 2 = x % 2) ∧ -1 ≤ x.tmod 2 ∧ x.tmod 2 ≤ 1 := by
  have h1 := Int.tmod_add_mul_tdiv x 2
  have h2 : -2 < x.tmod 2 := by have := Int.lt_tmod_of_pos x (show (0 : Int) < 2 by omega); omega
  have h3 : x.tmod 2 < 2 := Int.tmod_lt_of_pos x (by omega)
  omega
theorem div_bd (v : Int) (k : Nat) (l : -9223372036854775808 ≤ v) (u : v ≤ 9223372036854775807) : -9223372036854775808 ≤ v / 2 ^ k ∧ v / 2 ^ k ≤ 9223372036854775807 := by
  induction k with
  | zero => simp; omega
  | succ k ih => rw [div_succ']; omega
set_option maxHeartbeats 1000000 in
theorem rdigits_at (v : Int) (n : Nat) (w : World) (l : -9223372036854775808 ≤ v) (u : v ≤ 9223372036854775807) (hn : n ≤ 64) :
    Calls Try.prog 16 #[.int .i64 v, .int .i64 n] w fun e w' => ∃ r, e = .returned r ∧ w'.ownsRow w.heap.size 3 1 r n (cellsZ (dgs v n)) ∧ Below w.heap.size w w' := by
  go_enter Try.func16, Try.ntmps16
  go_wp2
  go_loopw [0, 5, 6] (fun x o i wr => ∃ k : Nat, k ≤ n ∧ i = .int .i64 k ∧ x = .int .i64 (v / 2 ^ k) ∧ wr.ownsRow w.heap.size 3 1 o k (cellsZ (dgs v k)) ∧ Below w.heap.size w wr) (fun _ _ i _ => n - (intOf i).toNat)
  case atStart => exact ⟨0, Nat.zero_le _, rfl, by simp, World.ownsRow_nil _ _ _ _, Below.refl _ _⟩
  case round =>
    obtain ⟨k, hk, rfl, rfl, hown, hnx⟩ := hrel
    obtain ⟨hl, hu⟩ := div_bd v k l u
    have HD : Hid (dgs v (k + 1) = dgs v k ++ [v / 2 ^ k % 2]) := dgs_snoc v k
    have HH : Hid (v / 2 ^ (k + 1) = v / 2 ^ k / 2) := div_succ' v k
    generalize hM : v / 2 ^ k = M at *
    clear hM
    by_cases hlt : k < n
    · obtain ⟨r1, r2, r3, r4⟩ := rem_two M
      by_cases hr : M.tmod 2 < 0
      · have HE : Hid (M % 2 = 1) := r1 hr
        clear r1 r2
        go_wp2_with (first
          | (at_builtin; refine wp_pushZ w _ w.heap.size w.heap.size rfl (.tmp 19) (.tmp 21) rfl _ k (dgs v k) rfl wr.heap.size 1 rfl (hown.alloc _) (cell_new1 _ _ _) (size_new1 hnx.size _) (by omega) (hnx.alloc hnx.size _) (Nat.le_refl _) ?_; intro v' w1 hown' hnx')
          | (go_at_call 35; refine (half_at M _ hl hu).mono ?_; rintro e w2 ⟨rfl, hB2⟩))
        go_roundw
        case rel =>
          go_light
          exact ⟨k + 1, by omega, by go_num, by rw [HH.out], by rw [HD.out, HE.out]; exact owns_below hown' hB2, hnx'.trans (hB2.mono hnx'.size)⟩
        case measure => simp [intOf]; omega
      · have HE : Hid (M.tmod 2 = M % 2) := r2 hr
        clear r1 r2
        generalize hY : M.tmod 2 = Y at *
        have HY : Hid (M.tmod 2 = Y) := hY
        go_wp2_with (first
          | (at_builtin; refine wp_pushZ w _ w.heap.size w.heap.size rfl (.tmp 19) (.tmp 21) rfl _ k (dgs v k) rfl wr.heap.size Y rfl (hown.alloc _) (cell_new1 _ _ _) (size_new1 hnx.size _) (by omega) (hnx.alloc hnx.size _) (Nat.le_refl _) ?_; intro v' w1 hown' hnx')
          | (go_at_call 35; refine (half_at M _ hl hu).mono ?_; rintro e w2 ⟨rfl, hB2⟩))
        go_roundw
        case rel =>
          go_light
          exact ⟨k + 1, by omega, by go_num, by rw [HH.out], by rw [HD.out, ← HE.out]; exact owns_below hown' hB2, hnx'.trans (hB2.mono hnx'.size)⟩
        case measure => simp [intOf]; omega
    · obtain rfl : k = n := by omega
      go_wp2
      go_ret
      exact ⟨_, rfl, hown, hnx⟩
set_option maxHeartbeats 1000000 in
theorem rlongest_at (ao : Option Addr) (len cap : Nat) (vs : List Int) (w : World) (h : RdZ w ao len cap vs) (hv : In64 vs) :
    Calls Try.prog 21 #[.slice ao len cap] w fun e w' => e = .returned (.int .i64 (lg vs : Nat)) ∧ Below w.heap.size w w' := by
  have hcap := h.lecap
  have hmax := h.lemax
  have HL : Hid (vs.length = len) := h.eqlen
  go_enter Try.func21, Try.ntmps21
  go_wp2
  go_loopw [3, 4] (fun n i wr => ∃ k : Nat, k ≤ len ∧ i = .int .i64 k ∧ n = .int .i64 (lg (vs.take k) : Nat) ∧ Below w.heap.size w wr) (fun _ i _ => len - (intOf i).toNat)
  case atStart => exact ⟨0, Nat.zero_le _, rfl, rfl, Below.refl _ _⟩
  case round =>
    obtain ⟨k, hk, rfl, rfl, hB⟩ := hrel
    by_cases hlt : k < len
    · obtain ⟨b, off, rfl, hc⟩ := (h.below (Nat.le_refl _) hB).cell k hlt
      have hg := lg_take vs k (by rw [HL.out]; exact hlt)
      have HG : Hid (lg (vs.take (k + 1)) = max (lg (vs.take k)) (ln (vs.getD k 0))) := hg
      have h64 := lg_64 _ (hv.take k)
      obtain ⟨hl, hu⟩ := hv.get (i := k) (by rw [HL.out]; exact hlt)
      have hln := ln_64 _ hl hu
      clear hg
      generalize hy : vs.getD k 0 = y at *
      generalize hx : lg (vs.take k) = x at *
      clear hy hx
      go_wp2_with (go_at_call 12; refine (rlength_at y _ hl hu).mono ?_; rintro e w2 ⟨rfl, hB2⟩)
      go_roundw
      case rel => exact ⟨k + 1, by omega, by go_num, congrArg (Value.int .i64) (by rw [HG.out]; omega), hB.trans (hB2.mono hB.size)⟩
      case measure => simp [intOf]; omega
    · obtain rfl : k = len := by omega
      go_wp2
      go_ret
      exact ⟨ret1 (by rw [List.take_of_length_le (by rw [HL.out]; exact Nat.le_refl _)]), hB⟩
end Go.Proofs.Ytkanjgphmafjbaa.Wo
