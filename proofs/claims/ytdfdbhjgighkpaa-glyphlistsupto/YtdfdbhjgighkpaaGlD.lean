/- The document's Chars, Good, Name. -/
import Derived.Test.YtdfdbhjgighkpaaGlC
namespace Go.Proofs.Ytdfdbhjgighkpaa.Gl
open Go.RowKit
set_option linter.unusedVariables false

theorem rd_bd (s : ByteArray) (i : Nat) (hi : i < s.size) : 1 ≤ (rdS s i).2.1 ∧ i + (rdS s i).2.1 ≤ s.size ∧ (rdS s i).2.1 ≤ 4 := by
  have hb := bt_lt s i
  by_cases h1 : bt s i < 128
  · rw [rd_one s i h1]; dsimp only; omega
  · by_cases h2 : (128 ≤ bt s i ∧ bt s i < 194) ∨ 245 ≤ bt s i
    · rw [rd_bad0 s i h2]; dsimp only; omega
    · by_cases h3 : bt s i < 224
      · rw [rd_two s i (by omega)]
        split
        · rename_i hc; have := hc.1; dsimp only; omega
        · (dsimp only; omega)
      · by_cases h4 : bt s i < 240
        · rw [rd_three s i (by omega)]
          split
          · rename_i hc; have := hc.1; dsimp only; omega
          · (dsimp only; omega)
        · rw [rd_four s i (by omega)]
          split
          · rename_i hc; have := hc.1; dsimp only; omega
          · (dsimp only; omega)
/-- where character number n begins -/
def pos (s : ByteArray) : Nat → Nat
  | 0 => 0
  | n + 1 => pos s n + (rdS s (pos s n)).2.1
theorem pos_zero (s : ByteArray) : pos s 0 = 0 := rfl
theorem pos_succ (s : ByteArray) (n : Nat) : pos s (n + 1) = pos s n + (rdS s (pos s n)).2.1 := rfl
theorem pos_ge (s : ByteArray) (n : Nat) (h : ∀ k, k < n → pos s k < s.size) : n ≤ pos s n ∧ pos s n ≤ s.size := by
  induction n with
  | zero => rw [pos_zero]; omega
  | succ n ih =>
    have h1 := ih (fun k hk => h k (by omega))
    have h2 := rd_bd s (pos s n) (h n (by omega))
    rw [pos_succ]; omega
/-- the text has n characters -/
def IsCnt (s : ByteArray) (n : Nat) : Prop := pos s n = s.size ∧ ∀ k, k < n → pos s k < s.size
theorem cnt_or (s : ByteArray) (n : Nat) : (∃ m, m ≤ n ∧ IsCnt s m) ∨ ∀ k, k ≤ n → pos s k < s.size := by
  induction n with
  | zero =>
    by_cases h : 0 < s.size
    · right; intro k hk; obtain rfl : k = 0 := by omega
      rw [pos_zero]; exact h
    · left; exact ⟨0, Nat.le_refl _, by rw [pos_zero]; omega, fun k hk => by omega⟩
  | succ n ih =>
    rcases ih with ⟨m, hm, hc⟩ | h
    · left; exact ⟨m, by omega, hc⟩
    · by_cases h1 : pos s (n + 1) < s.size
      · right
        intro k hk
        rcases Nat.lt_or_eq_of_le hk with hk | rfl
        · exact h k (by omega)
        · exact h1
      · left
        refine ⟨n + 1, Nat.le_refl _, ?_, fun k hk => h k (by omega)⟩
        have := (pos_ge s (n + 1) (fun k hk => h k (by omega))).2
        omega
theorem cnt_is (s : ByteArray) : ∃ n, IsCnt s n := by
  rcases cnt_or s s.size with ⟨m, _, h⟩ | h
  · exact ⟨m, h⟩
  · have h1 := (pos_ge s s.size (fun k hk => h k (by omega))).1
    have h2 := h s.size (Nat.le_refl _)
    omega
theorem cnt_lt {s : ByteArray} {n m : Nat} (h : IsCnt s n) (hm : ∀ k, k < m → pos s k < s.size) : m ≤ n := by
  by_cases hc : m ≤ n
  · exact hc
  · have := hm n (by omega)
    have := h.1
    omega
theorem cnt_one {s : ByteArray} {n m : Nat} (h : IsCnt s n) (k : IsCnt s m) : n = m := Nat.le_antisymm (cnt_lt k h.2) (cnt_lt h k.2)
set_option maxHeartbeats 1000000 in
theorem rchars_at (s : ByteArray) (n : Nat) (w : World) (hs : s.size ≤ 9223372036854775807) (hn : IsCnt s n) :
    Calls Try.prog 25 #[.string s] w fun e w' => e = .returned (.int .i64 n) ∧ w = w' := by
  have HN : Hid (IsCnt s n) := hn
  clear hn
  go_enter Try.func25, Try.ntmps25
  go_wp2
  go_loop [3, 4] (fun m i => ∃ k : Nat, m = .int .i64 k ∧ i = .int .i64 (pos s k : Nat) ∧ Hid (∀ j, j < k → pos s j < s.size)) (fun _ i => s.size - (intOf i).toNat)
  case atStart => exact ⟨0, rfl, rfl, fun j hj => absurd hj (by omega)⟩
  case round =>
    obtain ⟨k, rfl, rfl, hall⟩ := hrel
    have hge := pos_ge s k hall.out
    obtain ⟨hg1, hg2⟩ := hge
    by_cases hlt : pos s k < s.size
    · have hb := rd_bd s (pos s k) hlt
      obtain ⟨hb1, hb2, hb3⟩ := hb
      have HS : Hid (pos s (k + 1) = pos s k + (rdS s (pos s k)).2.1) := pos_succ s k
      have RD : Hid (Reads s (pos s k) w) := read_at s (pos s k) w hs hlt
      have HA : Hid (∀ j, j < k + 1 → pos s j < s.size) := fun j hj => by
        rcases Nat.lt_succ_iff_lt_or_eq.1 hj with hj | rfl
        · exact hall.out j hj
        · exact hlt
      generalize hp : pos s k = p at *
      clear hp
      generalize hr : rdS s p = R at *
      obtain ⟨r, wd, ok⟩ := R
      simp only at hb1 hb2 hb3 HS
      have RD' : Hid (Calls Try.prog 38 #[.string s, .int .i64 p] w fun e w' => e = .returned (.tuple #[.int .i64 (r : Nat), .int .i64 (wd : Nat), .bool ok]) ∧ w = w') := by
        have := RD.out
        unfold Reads at this
        rw [hr] at this
        exact this
      clear RD hr
      go_wp2_with (go_at_call 38; refine RD'.out.mono ?_; rintro e w' ⟨rfl, rfl⟩)
      go_round
      case rel => exact ⟨k + 1, by go_num, congrArg (Value.int .i64) (by rw [HS.out]; omega), HA⟩
      case measure => simp [intOf]; omega
    · have HE : Hid ((k : Int) = (n : Int)) := by
        have := cnt_one HN.out ⟨by omega, hall.out⟩
        show _ = _
        omega
      go_wp2
      go_ret
      exact ⟨ret1 HE.out, rfl⟩
end Go.Proofs.Ytdfdbhjgighkpaa.Gl
