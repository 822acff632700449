/- Is a list a row? Its half; the first cube in which a letter is. -/
import Derived.Test.YthkabeaecfiinaaRwB
namespace Go.Proofs.Ythkabeaecfiinaa.Ro
open Go.RowKit
set_option linter.unusedVariables false

theorem nonneg_snoc {zs : List Int} {j : Nat} {m y : Int} (h : 0 ≤ m ↔ ∀ a, a < j → 0 ≤ zs.getD a 0) (hy : zs.getD j 0 = y) : 0 ≤ (if y < m then y else m) ↔ ∀ a, a < j + 1 → 0 ≤ zs.getD a 0 := by
  have hr : (∀ a, a < j + 1 → 0 ≤ zs.getD a 0) ↔ (∀ a, a < j → 0 ≤ zs.getD a 0) ∧ 0 ≤ y := by
    constructor
    · intro g; exact ⟨fun a ha => g a (by omega), by rw [← hy]; exact g j (by omega)⟩
    · rintro ⟨g1, g2⟩ a ha
      rcases Nat.lt_succ_iff_lt_or_eq.1 ha with ha | rfl
      · exact g1 a ha
      · rw [hy]; exact g2
  rw [hr, ← h]
  split <;> omega
theorem mem_getD {zs : List Int} {n : Nat} (h : zs.length = n) : (∀ a, a < n → 0 ≤ zs.getD a 0) ↔ ∀ z ∈ zs, 0 ≤ z := by
  constructor
  · intro g z hz
    obtain ⟨i, hi, rfl⟩ := List.getElem_of_mem hz
    have := g i (by omega)
    rwa [getD_of hi] at this
  · intro g a ha
    rw [getD_of (by omega)]
    exact g _ (List.getElem_mem _)
set_option maxHeartbeats 1000000 in
theorem min_at (ao : Option Addr) (n c : Nat) (zs : List Int) (w : World) (h : RdZ w ao n c zs) (hn : 0 < n) :
    Calls Try.prog 25 #[.slice ao n c] w fun e w' => ∃ z : Int, e = .returned (.int .i64 z) ∧ (0 ≤ z ↔ ∀ z ∈ zs, 0 ≤ z) ∧ w = w' := by
  have hcn := h.lecap
  have hcx := h.lemax
  have HL : Hid (zs.length = n) := h.eqlen
  have HC : Hid (∀ j, j < n → ∃ b off, ao = some ⟨b, off, none⟩ ∧ w.cell? ⟨b, off + j, none⟩ = some (.int .i64 (zs.getD j 0))) := h.cell
  obtain ⟨g, o, rfl, hb⟩ := h.cell 0 hn
  clear h
  have hb0 : w.cell? ⟨g, o, none⟩ = some (.int .i64 (zs.getD 0 0)) := hb
  have HZ0 : Hid (0 ≤ zs.getD 0 0 ↔ ∀ a, a < 1 → 0 ≤ zs.getD a 0) := ⟨fun g a ha => by rw [show a = 0 by omega]; exact g, fun g => g 0 (by omega)⟩
  generalize zs.getD 0 0 = z0 at *
  go_enter Try.func25, Try.ntmps25
  go_wp2
  go_loopw [3, 4] (fun m i wr => ∃ (j : Nat) (z : Int), 1 ≤ j ∧ j ≤ n ∧ i = .int .i64 j ∧ m = .int .i64 z ∧ Hid (0 ≤ z ↔ ∀ a, a < j → 0 ≤ zs.getD a 0) ∧ w = wr) (fun _ i _ => n - (intOf i).toNat)
  case atStart => exact ⟨1, z0, by omega, by omega, rfl, rfl, HZ0, rfl⟩
  case round =>
    obtain ⟨j, z, hj1, hj, rfl, rfl, HZ, rfl⟩ := hrel
    by_cases hlt : j < n
    · obtain ⟨b, off, e, hc⟩ := HC.out j hlt
      simp only [Option.some.injEq, Addr.mk.injEq, and_true] at e
      obtain ⟨rfl, rfl⟩ := e
      obtain ⟨y, hy⟩ : ∃ y, zs.getD j 0 = y := ⟨_, rfl⟩
      rw [hy] at hc
      have HY : Hid (zs.getD j 0 = y) := hy
      clear hy
      go_wp2
      go_roundw
      case rel => exact ⟨j + 1, _, by omega, by omega, by go_num, rfl, nonneg_snoc HZ.out HY.out, trivial⟩
      case measure => simp [intOf]; omega
    · obtain rfl : j = n := by omega
      go_wp2
      go_ret
      exact ⟨z, rfl, HZ.out.trans (mem_getD HL.out), rfl⟩
theorem pw_and : ∀ n : Nat, n < 65 → 0 < n → (bits .and .i64 (n : Int) ((n : Int) - 1) = 0 ↔ n = 1 ∨ n = 2 ∨ n = 4 ∨ n = 8 ∨ n = 16 ∨ n = 32 ∨ n = 64) := by decide +kernel
theorem pw_of {n : Nat} (h : n = 1 ∨ n = 2 ∨ n = 4 ∨ n = 8 ∨ n = 16 ∨ n = 32 ∨ n = 64) : ∃ k, k ≤ 6 ∧ n = 2 ^ k := by
  rcases h with rfl | rfl | rfl | rfl | rfl | rfl | rfl
  · exact ⟨0, by decide, rfl⟩
  · exact ⟨1, by decide, rfl⟩
  · exact ⟨2, by decide, rfl⟩
  · exact ⟨3, by decide, rfl⟩
  · exact ⟨4, by decide, rfl⟩
  · exact ⟨5, by decide, rfl⟩
  · exact ⟨6, by decide, rfl⟩
theorem of_pw {n k : Nat} (hk : k ≤ 6) (h : n = 2 ^ k) : n = 1 ∨ n = 2 ∨ n = 4 ∨ n = 8 ∨ n = 16 ∨ n = 32 ∨ n = 64 := by
  rcases (show k = 0 ∨ k = 1 ∨ k = 2 ∨ k = 3 ∨ k = 4 ∨ k = 5 ∨ k = 6 by omega) with rfl | rfl | rfl | rfl | rfl | rfl | rfl <;> simp at h <;> omega
theorem pow_le {k : Nat} (hk : k ≤ 6) : 0 < 2 ^ k ∧ 2 ^ k ≤ 64 := ⟨Nat.pow_pos (by omega), Nat.pow_le_pow_right (n := 2) (by omega) hk⟩
set_option maxHeartbeats 1000000 in
theorem isRow_at (ao : Option Addr) (n c : Nat) (zs : List Int) (r : Bool) (w : World) (h : RdZ w ao n c zs) (hr : r = true ↔ ∃ k, IsRow zs k) :
    Calls Try.prog 20 #[.slice ao n c] w fun e w' => e = .returned (.bool r) ∧ w = w' := by
  have hcn := h.lecap
  have hcx := h.lemax
  have hl := h.eqlen
  by_cases hp : n = 1 ∨ n = 2 ∨ n = 4 ∨ n = 8 ∨ n = 16 ∨ n = 32 ∨ n = 64
  · obtain ⟨k, hk, hnk⟩ := pw_of hp
    have hn0 : 0 < n ∧ n < 65 := by omega
    have HB : (bits .and .i64 (n : Int) ((n : Int) - 1) != 0) = false := by rw [(pw_and n hn0.2 hn0.1).2 hp]; rfl
    have HN0 : ((n : Int) == 0) = false := beq_false_of_ne (by omega)
    have H64 : ¬ (64 < (n : Int)) := by omega
    have HM : Hid (Calls Try.prog 25 #[.slice ao n c] w fun e w' => ∃ z : Int, e = .returned (.int .i64 z) ∧ (0 ≤ z ↔ ∀ z ∈ zs, 0 ≤ z) ∧ w = w') := min_at ao n c zs w h hn0.1
    have HR : Hid (r = true ↔ ∀ z ∈ zs, 0 ≤ z) := hr.trans ⟨fun ⟨_, _, _, g⟩ => g, fun g => ⟨k, hk, by rw [hl, hnk], g⟩⟩
    clear hp hnk hr hl h
    go_enter Try.func20, Try.ntmps20
    go_wp2_with (go_at_call 25; refine HM.out.mono ?_; rintro e w1 ⟨z, rfl, hz, rfl⟩; have HZ : Hid (r = true ↔ 0 ≤ z) := HR.out.trans hz.symm; clear hz)
    go_ret
    refine ⟨retb ?_, rfl⟩
    rw [Bool.eq_iff_iff, HZ.out]
    simp
    done
  · have hr' : r = false := by
      cases r with
      | false => rfl
      | true =>
        obtain ⟨k, hk, hlk, _⟩ := hr.1 rfl
        exact absurd (of_pw hk (by omega)) hp
    subst hr'
    have HB : 0 < n → n < 65 → (bits .and .i64 (n : Int) ((n : Int) - 1) != 0) = true := fun g1 g2 => bne_iff_ne.2 fun e => hp ((pw_and n g2 g1).1 e)
    clear hp hr h
    rcases Nat.eq_zero_or_pos n with h0 | h0
    · subst h0
      go_enter Try.func20, Try.ntmps20
      go_wp2
      go_ret
      exact ⟨rfl, rfl⟩
    · by_cases h64 : n < 65
      · have HB' := HB h0 h64
        clear HB
        go_enter Try.func20, Try.ntmps20
        go_wp2
        go_ret
        exact ⟨rfl, rfl⟩
      · have HN0 : ((n : Int) == 0) = false := beq_false_of_ne (by omega)
        clear HB
        go_enter Try.func20, Try.ntmps20
        go_wp2
        go_ret
        exact ⟨rfl, rfl⟩
set_option maxHeartbeats 1000000 in
theorem tracks_at (n : Nat) (w : World) (hn : n ≤ 9223372036854775807) :
    Calls Try.prog 27 #[.int .i64 n] w fun e w' => ∃ z : Int, e = .returned (.int .i64 z) ∧ (0 ≤ z ↔ ∃ k, k ≤ 6 ∧ n = 2 ^ k) ∧ w = w' := by
  have HK : Hid ((∃ k, k ≤ 6 ∧ n = 2 ^ k) ↔ n = 1 ∨ n = 2 ∨ n = 4 ∨ n = 8 ∨ n = 16 ∨ n = 32 ∨ n = 64) := ⟨fun ⟨k, hk, e⟩ => of_pw hk e, pw_of⟩
  go_enter Try.func27, Try.ntmps27
  go_wp2
  go_loopw [3, 4] (fun p i wr => ∃ k : Nat, k ≤ 7 ∧ p = .int .i64 ((2 ^ k : Nat) : Int) ∧ i = .int .i64 (k : Nat) ∧ Hid (∀ j, j < k → n ≠ 2 ^ j) ∧ w = wr) (fun _ i _ => 7 - (intOf i).toNat)
  case atStart => exact ⟨0, by omega, rfl, rfl, fun j hj => absurd hj (by omega), rfl⟩
  case round =>
    obtain ⟨k, hk, rfl, rfl, hall, rfl⟩ := hrel
    have hP : Hid (2 ^ (k + 1) = 2 ^ k + 2 ^ k) := pow_dbl k
    have hp7 : 0 < 2 ^ k ∧ 2 ^ k ≤ 128 := ⟨Nat.pow_pos (by omega), Nat.pow_le_pow_right (n := 2) (j := 7) (by omega) hk⟩
    have HQ : Hid (∃ q, 2 ^ k = q) := ⟨_, rfl⟩
    obtain ⟨q, hq⟩ := HQ.out
    have HQ2 : Hid (2 ^ k = q) := hq
    rw [hq] at hp7
    rw [hq]
    clear hq HQ
    by_cases hlt : k < 7
    · by_cases he : n = q
      · subst he
        go_wp2
        go_ret
        exact ⟨k, rfl, ⟨fun _ => ⟨k, by omega, HQ2.out.symm⟩, fun _ => by omega⟩, rfl⟩
      · have he' : ¬ (q : Int) = (n : Int) := by omega
        go_wp2
        go_roundw
        case rel => exact ⟨k + 1, by omega, by rw [hP.out, HQ2.out]; go_num, by go_num, fun j hj => by
          rcases Nat.lt_succ_iff_lt_or_eq.1 hj with h1 | rfl
          · exact hall.out j h1
          · rw [HQ2.out]; exact he, trivial⟩
        case measure => simp [intOf]; omega
    · obtain rfl : k = 7 := by omega
      go_wp2
      go_ret
      exact ⟨_, rfl, ⟨fun g => absurd g (by omega), fun ⟨j, hj, e⟩ => absurd e (hall.out j (by omega))⟩, rfl⟩
set_option maxHeartbeats 1000000 in
theorem rrow_at (ao : Option Addr) (n c : Nat) (zs : List Int) (r : Bool) (w : World) (h : RdZ w ao n c zs) (hr : r = true ↔ ∃ k, IsRow zs k) :
    Calls Try.prog 22 #[.slice ao n c] w fun e w' => e = .returned (.bool r) ∧ w = w' := by
  have hcn := h.lecap
  have hcx := h.lemax
  have HT : Hid (Calls Try.prog 27 #[.int .i64 n] w fun e w' => ∃ z : Int, e = .returned (.int .i64 z) ∧ (0 ≤ z ↔ ∃ k, k ≤ 6 ∧ n = 2 ^ k) ∧ w = w') := tracks_at n w (by omega)
  have HL : Hid (zs.length = n) := h.eqlen
  by_cases hp : ∃ k, k ≤ 6 ∧ n = 2 ^ k
  · have HP : Hid (∃ k, k ≤ 6 ∧ n = 2 ^ k) := hp
    have HR : Hid (r = true ↔ ∀ z ∈ zs, 0 ≤ z) := hr.trans ⟨fun ⟨_, _, _, g⟩ => g, fun g => by obtain ⟨k, hk, e⟩ := hp; exact ⟨k, hk, by rw [h.eqlen, e], g⟩⟩
    clear hp hr
    go_enter Try.func22, Try.ntmps22
    go_wp2_with (go_at_call 27; refine HT.out.mono ?_; rintro e w1 ⟨z, rfl, hz, rfl⟩; have hz0 : ¬ z < 0 := by have := hz.2 HP.out; omega)
    go_loopw [3] (fun i wr => ∃ j : Nat, j ≤ n ∧ i = .int .i64 j ∧ Hid (∀ a, a < j → 0 ≤ zs.getD a 0) ∧ w = wr) (fun i _ => n - (intOf i).toNat)
    case atStart => exact ⟨0, by omega, rfl, fun j hj => absurd hj (by omega), rfl⟩
    case round =>
      obtain ⟨j, hj, rfl, hall, rfl⟩ := hrel
      by_cases hlt : j < n
      · obtain ⟨b, off, rfl, hc⟩ := h.cell j hlt
        obtain ⟨y, hy⟩ : ∃ y, zs.getD j 0 = y := ⟨_, rfl⟩
        rw [hy] at hc
        have HY : Hid (zs.getD j 0 = y) := hy
        clear hy
        by_cases hneg : y < 0
        · have HE : Hid (r = false) := by
            cases r with
            | false => rfl
            | true =>
              have := (mem_getD HL.out).2 (HR.out.1 rfl) j hlt
              rw [HY.out] at this
              omega
          go_wp2
          go_ret
          exact ⟨retb HE.out.symm, rfl⟩
        · go_wp2
          go_roundw
          case rel => exact ⟨j + 1, by omega, by go_num, fun a ha => by
            rcases Nat.lt_succ_iff_lt_or_eq.1 ha with h1 | rfl
            · exact hall.out a h1
            · rw [HY.out]; omega, trivial⟩
          case measure => simp [intOf]; omega
      · obtain rfl : j = n := by omega
        have HE : Hid (r = true) := HR.out.2 ((mem_getD HL.out).1 hall.out)
        go_wp2
        go_ret
        exact ⟨retb HE.out.symm, rfl⟩
  · have HE : Hid (r = false) := by
      cases r with
      | false => rfl
      | true => obtain ⟨k, hk, hlk, _⟩ := hr.1 rfl; exact absurd ⟨k, hk, by rw [← h.eqlen, hlk]⟩ hp
    have HP : Hid (¬ ∃ k, k ≤ 6 ∧ n = 2 ^ k) := hp
    clear hp hr
    go_enter Try.func22, Try.ntmps22
    go_wp2_with (go_at_call 27; refine HT.out.mono ?_; rintro e w1 ⟨z, rfl, hz, rfl⟩; have hz0 : z < 0 := Int.not_le.1 (mt hz.1 HP.out))
    go_ret
    exact ⟨retb HE.out.symm, rfl⟩
end Go.Proofs.Ythkabeaecfiinaa.Ro
