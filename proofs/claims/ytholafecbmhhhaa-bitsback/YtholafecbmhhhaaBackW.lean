/- BitsBack: the walk where a digit is inserted. -/
import Derived.Test.YtholafecbmhhhaaBack
namespace Go.Proofs.Ytholafecbmhhhaa.Dg
open Go.RowKit
set_option linter.unusedVariables false

set_option maxHeartbeats 4000000 in
theorem back_in (L t d : Nat) (ao : Option Addr) (len cap : Nat) (zs : List Int) (w : World) (h : RdZ w ao len cap zs) (hm : len * 8 ≤ 140737488351232) (hL : L < 32) (ht : t < 6) (hd : d < 2) :
    Calls Try.prog 7 #[.int .i64 L, .int .i64 t, .int .i64 d, .slice ao len cap] w fun e w' => e = .returned (.bool true) ∧ Below w.heap.size w w' := by
  obtain ⟨hA, hrem, hdig, hall⟩ := back_all ⟨L, hL⟩ ⟨t, ht⟩ ⟨d, hd⟩
  simp only at hA hrem hdig hall
  have HI : Hid (∀ w, Calls Try.prog 31 #[.int .i64 L, .int .i64 t, .int .i64 d] w fun e w' => e = .returned (.tuple #[.int .i64 (ins L t d : Nat), .int .i64 0]) ∧ Below w.heap.size w w') := fun w => binsert_in L t d w hL (by omega) (by omega)
  have HR : Hid (∀ w, Calls Try.prog 33 #[.int .i64 (ins L t d : Nat), .int .i64 t] w fun e w' => e = .returned (.tuple #[.int .i64 L, .int .i64 0]) ∧ Below w.heap.size w w') := fun w => by
    have := bremove_in (ins L t d) t w hA (by omega)
    rwa [hrem] at this
  have HD : Hid (∀ w, Calls Try.prog 35 #[.int .i64 (ins L t d : Nat), .int .i64 t] w fun e w' => e = .returned (.int .i64 d) ∧ w = w') := fun w => by
    have := bdigit_in (ins L t d) t w (by omega) (by omega)
    rwa [hdig] at this
  have HA : Hid (∀ k, k < 6 → (k < t → ins L t d / 2 ^ k % 2 = L / 2 ^ k % 2) ∧ (t ≤ k → ins L t d / 2 ^ (k + 1) % 2 = L / 2 ^ k % 2)) := fun k hk => hall ⟨k, hk⟩
  clear hall hrem hdig
  generalize ins L t d = A at HI HR HD HA hA
  obtain ⟨r, c, S1, hc⟩ := spread_case L len zs h.eqlen
  go_enter Try.func7, Try.ntmps7
  go_wp2_with (first
    | (go_at_call 9; refine (fixed_at _).mono ?_; rintro e w1 ⟨rfl, hB1⟩)
    | (go_at_call 31; refine (HI.out _).mono ?_; rintro e w2 ⟨rfl, hB2⟩; have hW2 := hB1.trans (hB2.mono hB1.size))
    | (go_at_call 33; refine (HR.out _).mono ?_; rintro e w3 ⟨rfl, hB3⟩; have hW3 := hW2.trans (hB3.mono hW2.size); have hP3 := h.below (Nat.le_refl _) hW3)
    | (go_at_call 35; refine (HD.out _).mono ?_; rintro e w' ⟨rfl, rfl⟩))
  go_loop [49] (fun i => ∃ k : Nat, k ≤ 6 ∧ i = .int .i64 k) (fun i => 6 - (intOf i).toNat)
  case atStart => exact ⟨0, by omega, rfl⟩
  case round =>
    obtain ⟨k, hk, rfl⟩ := hrel
    by_cases hlt : k < 6
    · by_cases htk : t ≤ k
      · have he := (HA.out k hlt).2 htk
        have D1 := fun w => bdigit_in A (k + 1) w (by omega) (by omega)
        have D2 := fun w => bdigit_in L k w (by omega) (by omega)
        rw [he] at D1
        generalize L / 2 ^ k % 2 = q at D1 D2
        rw [show ((k + 1 : Nat) : Int) = (k : Int) + 1 from by omega] at D1
        have E1 : Hid (∀ w, Calls Try.prog 35 #[.int .i64 A, .int .i64 ((k : Int) + 1)] w fun e w' => e = .returned (.int .i64 q) ∧ w = w') := D1
        have E2 : Hid (∀ w, Calls Try.prog 35 #[.int .i64 L, .int .i64 k] w fun e w' => e = .returned (.int .i64 q) ∧ w = w') := D2
        clear D1 D2 he
        go_wp2_with (first
          | (go_at_call 35; have _t := d1; refine (E2.out _).mono ?_; rintro e w' ⟨rfl, rfl⟩)
          | (go_at_call 35; refine (E1.out _).mono ?_; rintro e w' ⟨rfl, rfl⟩; have d1 : Hid True := trivial))
        go_round
        case rel => exact ⟨k + 1, by omega, by go_num⟩
        case measure => simp [intOf]; omega
      · have he := (HA.out k hlt).1 (by omega)
        have D1 := fun w => bdigit_in A k w (by omega) (by omega)
        have D2 := fun w => bdigit_in L k w (by omega) (by omega)
        rw [he] at D1
        generalize L / 2 ^ k % 2 = q at D1 D2
        have E1 : Hid (∀ w, Calls Try.prog 35 #[.int .i64 A, .int .i64 k] w fun e w' => e = .returned (.int .i64 q) ∧ w = w') := D1
        have E2 : Hid (∀ w, Calls Try.prog 35 #[.int .i64 L, .int .i64 k] w fun e w' => e = .returned (.int .i64 q) ∧ w = w') := D2
        clear D1 D2 he
        go_wp2_with (first
          | (go_at_call 35; have _t := d1; refine (E2.out _).mono ?_; rintro e w' ⟨rfl, rfl⟩)
          | (go_at_call 35; refine (E1.out _).mono ?_; rintro e w' ⟨rfl, rfl⟩; have d1 : Hid True := trivial))
        go_round
        case rel => exact ⟨k + 1, by omega, by go_num⟩
        case measure => simp [intOf]; omega
    · obtain rfl : k = 6 := by omega
      rcases hc with ⟨rfl, G1⟩ | ⟨rfl, rfl⟩ | ⟨rfl, rfl⟩
      · go_wp2_with (first
          | (at_builtin; have _t := hW5; refine wp_copyZ w w5 rfl (.tmp 88) (.tmp 89) rfl hW5 rfl ao len cap zs rfl hP5 hm ?_; intro a6 c6 w6 hR6 hB6)
          | (at_builtin; refine wp_copyZ w w3 rfl (.tmp 68) (.tmp 69) rfl hW3 rfl ao len cap zs rfl hP3 hm ?_; intro a4 c4 w4 hR4 hB4)
          | (go_at_call 37; refine (S1.out _ _ _ hR4).mono ?_; rintro e w5 ⟨rfl, hB5⟩; have hW5 := hB4.trans (hB5.mono hB4.size); have hP5 := h.below (Nat.le_refl _) hW5)
          | (go_at_call 39; refine (G1.out _ _ _ hR6).mono ?_; rintro e w7 ⟨rfl, hB7⟩))
        go_ret
        exact ⟨by simp, hB6.trans (hB7.mono hB6.size)⟩
      · go_wp2_with (first
          | (at_builtin; refine wp_copyZ w w3 rfl (.tmp 68) (.tmp 69) rfl hW3 rfl ao len cap zs rfl hP3 hm ?_; intro a4 c4 w4 hR4 hB4)
          | (go_at_call 37; refine (S1.out _ _ _ hR4).mono ?_; rintro e w5 ⟨rfl, hB5⟩))
        go_ret
        exact ⟨rfl, hB4.trans (hB5.mono hB4.size)⟩
      · go_wp2_with (first
          | (at_builtin; refine wp_copyZ w w3 rfl (.tmp 68) (.tmp 69) rfl hW3 rfl ao len cap zs rfl hP3 hm ?_; intro a4 c4 w4 hR4 hB4)
          | (go_at_call 37; refine (S1.out _ _ _ hR4).mono ?_; rintro e w5 ⟨rfl, hB5⟩))
        go_ret
        exact ⟨rfl, hB4.trans (hB5.mono hB4.size)⟩
theorem back_walk (x t d : Int) (ao : Option Addr) (len cap : Nat) (zs : List Int) (w : World) (h : RdZ w ao len cap zs) (hm : len * 8 ≤ 140737488351232) :
    Calls Try.prog 7 #[.int .i64 x, .int .i64 t, .int .i64 d, .slice ao len cap] w fun e w' => e = .returned (.bool true) ∧ Below w.heap.size w w' := by
  by_cases hi : (0 ≤ x ∧ x < 32) ∧ (0 ≤ t ∧ t < 6) ∧ (0 ≤ d ∧ d < 2)
  · obtain ⟨L, rfl⟩ : ∃ L : Nat, x = L := ⟨x.toNat, by omega⟩
    obtain ⟨T, rfl⟩ : ∃ L : Nat, t = L := ⟨t.toNat, by omega⟩
    obtain ⟨D, rfl⟩ : ∃ L : Nat, d = L := ⟨d.toNat, by omega⟩
    exact back_in L T D ao len cap zs w h hm (by omega) (by omega) (by omega)
  · exact back_no x t d ao len cap zs w h hm hi
end Go.Proofs.Ytholafecbmhhhaa.Dg
