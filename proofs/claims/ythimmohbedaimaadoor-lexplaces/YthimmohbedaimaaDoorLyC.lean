/- longestSign. -/
import Derived.Test.YthimmohbedaimaaDoorLyB
namespace Go.Proofs.YthimmohbedaimaaDoor.Gl
open Go.RowKit
set_option linter.unusedVariables false

theorem ix_at (i : Nat) (hi : i < 18) : ∃ x : ByteArray, allSigns[i]? = some x ∧ ∀ w, (Instr.index 56 (.agg sgnArr) (.int .i64 ((i : Nat) : Int))).run Tryd.prog w = .ok (.string x) w := by
  match i, hi with
  | 0, _ => exact ⟨_, rfl, fun w => by kernel_rfl⟩
  | 1, _ => exact ⟨_, rfl, fun w => by kernel_rfl⟩
  | 2, _ => exact ⟨_, rfl, fun w => by kernel_rfl⟩
  | 3, _ => exact ⟨_, rfl, fun w => by kernel_rfl⟩
  | 4, _ => exact ⟨_, rfl, fun w => by kernel_rfl⟩
  | 5, _ => exact ⟨_, rfl, fun w => by kernel_rfl⟩
  | 6, _ => exact ⟨_, rfl, fun w => by kernel_rfl⟩
  | 7, _ => exact ⟨_, rfl, fun w => by kernel_rfl⟩
  | 8, _ => exact ⟨_, rfl, fun w => by kernel_rfl⟩
  | 9, _ => exact ⟨_, rfl, fun w => by kernel_rfl⟩
  | 10, _ => exact ⟨_, rfl, fun w => by kernel_rfl⟩
  | 11, _ => exact ⟨_, rfl, fun w => by kernel_rfl⟩
  | 12, _ => exact ⟨_, rfl, fun w => by kernel_rfl⟩
  | 13, _ => exact ⟨_, rfl, fun w => by kernel_rfl⟩
  | 14, _ => exact ⟨_, rfl, fun w => by kernel_rfl⟩
  | 15, _ => exact ⟨_, rfl, fun w => by kernel_rfl⟩
  | 16, _ => exact ⟨_, rfl, fun w => by kernel_rfl⟩
  | 17, _ => exact ⟨_, rfl, fun w => by kernel_rfl⟩
  | n + 18, h => exact absurd h (by omega)
theorem drop_sign {k : Nat} {x : ByteArray} (h : allSigns[k]? = some x) : allSigns.drop k = x :: allSigns.drop (k + 1) := by
  obtain ⟨hk, rfl⟩ := List.getElem?_eq_some_iff.1 h
  exact List.drop_eq_getElem_cons hk
theorem sgn_size : sgnArr.size = 18 := rfl
set_option maxHeartbeats 2000000 in
theorem longest_at (u : ByteArray) (w : World) (hS : Sg w) (hu : u.size ≤ 9223372036854775807) :
    Calls Tryd.prog 26 #[.string u] w fun e w' => e = .returned (.string (sgn u 0)) ∧ w = w' := by
  have HP : Hid (∀ (x : ByteArray) w, Calls Tryd.prog 17 #[.string u, .string x] w fun e w' => e = .returned (.bool (fits u 0 x)) ∧ w = w') := fun x w => hasprefix_at u x w hu
  obtain ⟨tt, fr, hg⟩ := hS.signs
  have IX : Hid (∀ i : Nat, i < 18 → ∃ x : ByteArray, allSigns[i]? = some x ∧ ∀ w, (Instr.index 56 (.agg sgnArr) (.int .i64 ((i : Nat) : Int))).run Tryd.prog w = .ok (.string x) w) := ix_at
  have hsz : (Tryd.prog.info? 56).map (·.size) = some sgnArr.size := by kernel_rfl
  generalize sgnArr = A at hg IX hsz
  have H0 : Hid (longest u 0 (allSigns.drop 0) emp = sgn u 0) := rfl
  clear hS
  go_enter Tryd.func26, Tryd.ntmps26
  go_wp2_with (refine wpList_load_row rfl 56 _ rfl 0 rfl tt A fr _ hg Tryd.underlying56 rfl hsz ?_)
  go_loopw [3, 7] (fun b i wr => ∃ (k : Nat) (x : ByteArray), k ≤ 18 ∧ b = .string x ∧ i = .int .i64 k ∧ wr = w ∧ Hid (longest u 0 (allSigns.drop k) x = sgn u 0)) (fun _ i _ => 18 - (intOf i).toNat)
  case atStart => exact ⟨0, emp, by omega, rfl, rfl, rfl, H0⟩
  case round =>
    obtain ⟨k, b, hk, rfl, rfl, rfl, HL⟩ := hrel
    by_cases hlt : k < 18
    · obtain ⟨x, hx, hix⟩ := IX.out k hlt
      have HLx : Hid (longest u 0 (allSigns.drop (k + 1)) (if (fits u 0 x && decide (b.size < x.size)) = true then x else b) = sgn u 0) := by
        have := HL.out
        rw [drop_sign hx] at this
        exact this
      have P0 : Hid (∀ w, Calls Tryd.prog 17 #[.string u, .string x] w fun e w' => e = .returned (.bool (fits u 0 x)) ∧ w = w') := HP.out x
      have hlt' : (k : Int) < 18 := by omega
      clear HP HL hx IX H0 hg
      by_cases hgt : b.size < x.size
      · cases hf : fits u 0 x with
        | true =>
          rw [hf] at P0
          have HN : Hid (longest u 0 (allSigns.drop (k + 1)) x = sgn u 0) := by
            have := HLx.out
            rwa [hf, decide_eq_true hgt, if_pos (by decide)] at this
          clear HLx hf
          go_wp2_with (go_at_call 17; refine (P0.out _).mono ?_; rintro e w2 ⟨rfl, rfl⟩)
          go_roundw
          case rel => exact ⟨k + 1, x, by omega, rfl, by go_num, trivial, HN⟩
          case measure => simp [intOf]; omega
        | false =>
          rw [hf] at P0
          have HN : Hid (longest u 0 (allSigns.drop (k + 1)) b = sgn u 0) := by
            have := HLx.out
            rwa [hf, if_neg (by simp)] at this
          clear HLx hf
          go_wp2_with (go_at_call 17; refine (P0.out _).mono ?_; rintro e w2 ⟨rfl, rfl⟩)
          go_roundw
          case rel => exact ⟨k + 1, b, by omega, rfl, by go_num, trivial, HN⟩
          case measure => simp [intOf]; omega
      · have hgt' : decide (b.size < x.size) = false := decide_eq_false hgt
        have HN : Hid (longest u 0 (allSigns.drop (k + 1)) b = sgn u 0) := by
          have := HLx.out
          rwa [hgt', Bool.and_false, if_neg (by decide)] at this
        clear HLx P0
        go_wp2
        go_roundw
        case rel => exact ⟨k + 1, b, by omega, rfl, by go_num, trivial, HN⟩
        case measure => simp [intOf]; omega
    · have HE : Hid (b = sgn u 0) := by
        have := HL.out
        rw [show k = 18 by omega] at this
        exact this
      have hlt' : decide ((k : Int) < 18) = false := decide_eq_false (by omega)
      clear HL IX HP H0 hg
      go_wp2
      go_ret
      exact ⟨congrArg (fun x => Ending.returned (.string x)) HE.out, rfl⟩
end Go.Proofs.YthimmohbedaimaaDoor.Gl
