/- The document's Read. -/
import Derived.Test.YtabfhdmcljdjhaaGreatDoorGlB
import Derived.Test.YtabfhdmcljdjhaaGreatDoorGlMath
namespace Go.Proofs.YtabfhdmcljdjhaaGreatDoor.Gl
open Go.RowKit
set_option linter.unusedVariables false

theorem acc_le (s : ByteArray) (i x0 j : Nat) (h : x0 < 32) : accB s i x0 j < 32 * 128 ^ j := by
  induction j with
  | zero => rw [acc_zero]; omega
  | succ j ih =>
    have := bt_lt s (i + (j + 1))
    have hp : 0 < 128 ^ j := Nat.pow_pos (by omega)
    rw [acc_succ, Nat.pow_succ]
    omega
theorem acc_small (s : ByteArray) (i x0 j : Nat) (h : x0 < 32) (hj : j ≤ 3) : accB s i x0 j ≤ 100000000 := by
  have h1 := acc_le s i x0 j h
  have h2 : 128 ^ j ≤ 128 ^ 3 := Nat.pow_le_pow_right (by omega) hj
  omega
theorem ret3 {s : ByteArray} {i a b : Nat} {c : Bool} {x y : Int} {z : Bool} (h : rdS s i = (a, b, c)) (hx : x = a) (hy : y = b) (hz : z = c) : Ending.returned (.tuple #[.int .i64 x, .int .i64 y, .bool z]) = .returned (.tuple #[.int .i64 ((rdS s i).1 : Nat), .int .i64 ((rdS s i).2.1 : Nat), .bool (rdS s i).2.2]) := by
  rw [h, hx, hy, hz]
abbrev Reads (s : ByteArray) (i : Nat) (w : World) : Prop := Calls Tryz.prog 59 #[.string s, .int .i64 i] w fun e w' => e = .returned (.tuple #[.int .i64 ((rdS s i).1 : Nat), .int .i64 ((rdS s i).2.1 : Nat), .bool (rdS s i).2.2]) ∧ w = w'
set_option maxRecDepth 100000 in
theorem read_one (s : ByteArray) (i : Nat) (w : World) (hs : s.size ≤ 9223372036854775807) (hi : i < s.size) (h : s[i].toNat < 128) : Reads s i w := by
  have HE : Hid (rdS s i = (s[i].toNat, 1, true)) := by
    have := rd_one s i (by rw [bt_of s i hi]; exact h)
    rwa [bt_of s i hi] at this
  go_enter Tryz.func59, Tryz.ntmps59
  go_wp2
  all_goals go_ret3
  all_goals exact ⟨ret3 HE.out rfl rfl rfl, rfl⟩
set_option maxRecDepth 100000 in
theorem read_bad (s : ByteArray) (i : Nat) (w : World) (hs : s.size ≤ 9223372036854775807) (hi : i < s.size) (h : (128 ≤ s[i].toNat ∧ s[i].toNat < 194) ∨ 245 ≤ s[i].toNat) : Reads s i w := by
  have HE : Hid (rdS s i = (65533, 1, false)) := rd_bad0 s i (by rw [bt_of s i hi]; exact h)
  rcases h with ⟨h1, h2⟩ | h1
  · go_enter Tryz.func59, Tryz.ntmps59
    go_wp2
    all_goals go_ret3
    all_goals exact ⟨ret3 HE.out rfl rfl rfl, rfl⟩
  · have h2 : s[i].toNat < 256 := s[i].toNat_lt
    go_enter Tryz.func59, Tryz.ntmps59
    go_wp2
    all_goals go_ret3
    all_goals exact ⟨ret3 HE.out rfl rfl rfl, rfl⟩
set_option maxRecDepth 100000 in
set_option maxHeartbeats 2000000 in
theorem read_two (s : ByteArray) (i : Nat) (w : World) (hs : s.size ≤ 9223372036854775807) (hi : i < s.size) (h1 : 194 ≤ s[i].toNat) (h2 : s[i].toNat < 224) : Reads s i w := by
  have hr := rd_two s i (by rw [bt_of s i hi]; exact ⟨h1, h2⟩)
  rw [bt_of s i hi] at hr
  obtain ⟨x0, hx0⟩ : ∃ x0, s[i].toNat - 192 = x0 := ⟨_, rfl⟩
  rw [hx0] at hr
  have HR : Hid _ := hr
  have hx1 : x0 < 32 := by omega
  have HX : Hid ((s[i].toNat : Int) - 192 = (x0 : Int)) := by show _ = _; omega
  have hxe := HX.out
  clear hr hx0
  by_cases hz : 2 ≤ s.size - i
  · have d0 : decide ((s[i].toNat : Int) < 128) = false := decide_eq_false (by omega)
    have d1 : decide ((194 : Int) ≤ (s[i].toNat : Int)) = true := decide_eq_true (by omega)
    have d2 : decide ((s[i].toNat : Int) < 224) = true := decide_eq_true (by omega)
    have d3 : decide ((s.size : Int) - (i : Int) < 2) = false := decide_eq_false (by omega)
    go_enter Tryz.func59, Tryz.ntmps59
    go_wp2
    clear hxe
    go_loop [7, 10] (fun x n => ∃ j : Nat, j + 1 ≤ 2 ∧ n = .int .i64 ((j : Int) + 1) ∧ x = .int .i64 (accB s i x0 j : Nat) ∧ Hid (∀ k, k < j → 128 ≤ bt s (i + (k + 1)) ∧ bt s (i + (k + 1)) < 192)) (fun _ n => 2 + 1 - (intOf n).toNat)
    case atStart => exact ⟨0, by omega, rfl, by first | rfl | (rw [HX.out]; rfl), fun k hk => absurd hk (by omega)⟩
    case round =>
      obtain ⟨j, hj, rfl, rfl, hall⟩ := hrel
      have hA := acc_small s i x0 j hx1 (by omega)
      by_cases hlt : j + 1 < 2
      · have hij : i + (j + 1) < s.size := by omega
        have hy := bt_of s (i + (j + 1)) hij
        have HY : Hid (bt s (i + (j + 1)) = s[i + (j + 1)].toNat) := hy
        have HA : Hid (accB s i x0 (j + 1) = accB s i x0 j * 64 + (s[i + (j + 1)].toNat - 128)) := by show _ = _; rw [acc_succ, hy]
        have e1 : ((i : Int) + ((j : Int) + 1)).toNat = i + (j + 1) := by omega
        have hcb : s[i + (j + 1)].toNat < 256 := s[i + (j + 1)].toNat_lt
        clear hy
        generalize hq : accB s i x0 j = q at *
        clear hq
        by_cases hc : 128 ≤ s[i + (j + 1)].toNat ∧ s[i + (j + 1)].toNat < 192
        · obtain ⟨hc1, hc2⟩ := hc
          go_wp2
          go_round
          case rel =>
            refine ⟨j + 1, by omega, by go_num, congrArg (Value.int .i64) (by rw [HA.out]; omega), fun k hk => ?_⟩
            rcases Nat.lt_succ_iff_lt_or_eq.1 hk with hk | rfl
            · exact hall.out k hk
            · rw [HY.out]; omega
          case measure => simp [intOf]; omega
        · have HE : Hid (rdS s i = (65533, 1, false)) := by
            show _ = _
            rw [HR.out, if_neg (fun h => hc (by have := h.2.1 j (by omega); rwa [HY.out] at this))]
          by_cases hc1 : s[i + (j + 1)].toNat < 128
          all_goals try (have hc2 : 191 < s[i + (j + 1)].toNat := by omega)
          all_goals
            clear hc
            go_wp2
            all_goals go_ret3
            all_goals exact ⟨ret3 HE.out rfl rfl rfl, rfl⟩
      · obtain rfl : j = 1 := by omega
        generalize hq : accB s i x0 1 = q at *
        by_cases hv : 128 ≤ q ∧ q ≤ 1114111 ∧ ¬ (55296 ≤ q ∧ q ≤ 57343)
        · have HE : Hid (rdS s i = (q, 2, true)) := by
            show _ = _
            rw [HR.out, if_pos ⟨by omega, hall.out, hv⟩]
          obtain ⟨v1, v2, v3⟩ := hv
          clear hq
          by_cases hv4 : q < 55296
          all_goals try (have hv5 : 57343 < q := by omega)
          all_goals
            clear v3
            go_wp2
            all_goals go_ret3
            all_goals exact ⟨ret3 HE.out rfl rfl rfl, rfl⟩
        · have HE : Hid (rdS s i = (65533, 1, false)) := by
            show _ = _
            rw [HR.out, if_neg (fun h => hv h.2.2)]
          clear hq
          by_cases v1 : q < 128
          · clear hv
            go_wp2
            all_goals go_ret3
            all_goals exact ⟨ret3 HE.out rfl rfl rfl, rfl⟩
          · by_cases v2 : 1114111 < q
            · clear hv
              go_wp2
              all_goals go_ret3
              all_goals exact ⟨ret3 HE.out rfl rfl rfl, rfl⟩
            · have v3 : 55296 ≤ q := by omega
              have v4 : q ≤ 57343 := by omega
              clear hv
              go_wp2
              all_goals go_ret3
              all_goals exact ⟨ret3 HE.out rfl rfl rfl, rfl⟩
  · have HE : Hid (rdS s i = (65533, 1, false)) := by
      show _ = _
      rw [HR.out, if_neg (fun h => hz (by have := h.1; omega))]
    go_enter Tryz.func59, Tryz.ntmps59
    go_wp2
    all_goals go_ret3
    all_goals exact ⟨ret3 HE.out rfl rfl rfl, rfl⟩
set_option maxRecDepth 100000 in
set_option maxHeartbeats 2000000 in
theorem read_three (s : ByteArray) (i : Nat) (w : World) (hs : s.size ≤ 9223372036854775807) (hi : i < s.size) (h1 : 224 ≤ s[i].toNat) (h2 : s[i].toNat < 240) : Reads s i w := by
  have hr := rd_three s i (by rw [bt_of s i hi]; exact ⟨h1, h2⟩)
  rw [bt_of s i hi] at hr
  obtain ⟨x0, hx0⟩ : ∃ x0, s[i].toNat - 224 = x0 := ⟨_, rfl⟩
  rw [hx0] at hr
  have HR : Hid _ := hr
  have hx1 : x0 < 32 := by omega
  have HX : Hid ((s[i].toNat : Int) - 224 = (x0 : Int)) := by show _ = _; omega
  have hxe := HX.out
  clear hr hx0
  by_cases hz : 3 ≤ s.size - i
  · have d0 : decide ((s[i].toNat : Int) < 128) = false := decide_eq_false (by omega)
    have d1 : decide ((194 : Int) ≤ (s[i].toNat : Int)) = true := decide_eq_true (by omega)
    have d2 : decide ((s[i].toNat : Int) < 224) = false := decide_eq_false (by omega)
    have d3 : decide ((224 : Int) ≤ (s[i].toNat : Int)) = true := decide_eq_true (by omega)
    have d4 : decide ((s[i].toNat : Int) < 240) = true := decide_eq_true (by omega)
    have d5 : decide ((s.size : Int) - (i : Int) < 3) = false := decide_eq_false (by omega)
    go_enter Tryz.func59, Tryz.ntmps59
    go_wp2
    clear hxe
    go_loop [7, 10] (fun x n => ∃ j : Nat, j + 1 ≤ 3 ∧ n = .int .i64 ((j : Int) + 1) ∧ x = .int .i64 (accB s i x0 j : Nat) ∧ Hid (∀ k, k < j → 128 ≤ bt s (i + (k + 1)) ∧ bt s (i + (k + 1)) < 192)) (fun _ n => 3 + 1 - (intOf n).toNat)
    case atStart => exact ⟨0, by omega, rfl, by first | rfl | (rw [HX.out]; rfl), fun k hk => absurd hk (by omega)⟩
    case round =>
      obtain ⟨j, hj, rfl, rfl, hall⟩ := hrel
      have hA := acc_small s i x0 j hx1 (by omega)
      by_cases hlt : j + 1 < 3
      · have hij : i + (j + 1) < s.size := by omega
        have hy := bt_of s (i + (j + 1)) hij
        have HY : Hid (bt s (i + (j + 1)) = s[i + (j + 1)].toNat) := hy
        have HA : Hid (accB s i x0 (j + 1) = accB s i x0 j * 64 + (s[i + (j + 1)].toNat - 128)) := by show _ = _; rw [acc_succ, hy]
        have e1 : ((i : Int) + ((j : Int) + 1)).toNat = i + (j + 1) := by omega
        have hcb : s[i + (j + 1)].toNat < 256 := s[i + (j + 1)].toNat_lt
        clear hy
        generalize hq : accB s i x0 j = q at *
        clear hq
        by_cases hc : 128 ≤ s[i + (j + 1)].toNat ∧ s[i + (j + 1)].toNat < 192
        · obtain ⟨hc1, hc2⟩ := hc
          go_wp2
          go_round
          case rel =>
            refine ⟨j + 1, by omega, by go_num, congrArg (Value.int .i64) (by rw [HA.out]; omega), fun k hk => ?_⟩
            rcases Nat.lt_succ_iff_lt_or_eq.1 hk with hk | rfl
            · exact hall.out k hk
            · rw [HY.out]; omega
          case measure => simp [intOf]; omega
        · have HE : Hid (rdS s i = (65533, 1, false)) := by
            show _ = _
            rw [HR.out, if_neg (fun h => hc (by have := h.2.1 j (by omega); rwa [HY.out] at this))]
          by_cases hc1 : s[i + (j + 1)].toNat < 128
          all_goals try (have hc2 : 191 < s[i + (j + 1)].toNat := by omega)
          all_goals
            clear hc
            go_wp2
            all_goals go_ret3
            all_goals exact ⟨ret3 HE.out rfl rfl rfl, rfl⟩
      · obtain rfl : j = 2 := by omega
        generalize hq : accB s i x0 2 = q at *
        by_cases hv : 2048 ≤ q ∧ q ≤ 1114111 ∧ ¬ (55296 ≤ q ∧ q ≤ 57343)
        · have HE : Hid (rdS s i = (q, 3, true)) := by
            show _ = _
            rw [HR.out, if_pos ⟨by omega, hall.out, hv⟩]
          obtain ⟨v1, v2, v3⟩ := hv
          clear hq
          by_cases hv4 : q < 55296
          all_goals try (have hv5 : 57343 < q := by omega)
          all_goals
            clear v3
            go_wp2
            all_goals go_ret3
            all_goals exact ⟨ret3 HE.out rfl rfl rfl, rfl⟩
        · have HE : Hid (rdS s i = (65533, 1, false)) := by
            show _ = _
            rw [HR.out, if_neg (fun h => hv h.2.2)]
          clear hq
          by_cases v1 : q < 2048
          · clear hv
            go_wp2
            all_goals go_ret3
            all_goals exact ⟨ret3 HE.out rfl rfl rfl, rfl⟩
          · by_cases v2 : 1114111 < q
            · clear hv
              go_wp2
              all_goals go_ret3
              all_goals exact ⟨ret3 HE.out rfl rfl rfl, rfl⟩
            · have v3 : 55296 ≤ q := by omega
              have v4 : q ≤ 57343 := by omega
              clear hv
              go_wp2
              all_goals go_ret3
              all_goals exact ⟨ret3 HE.out rfl rfl rfl, rfl⟩
  · have HE : Hid (rdS s i = (65533, 1, false)) := by
      show _ = _
      rw [HR.out, if_neg (fun h => hz (by have := h.1; omega))]
    go_enter Tryz.func59, Tryz.ntmps59
    go_wp2
    all_goals go_ret3
    all_goals exact ⟨ret3 HE.out rfl rfl rfl, rfl⟩
set_option maxRecDepth 100000 in
set_option maxHeartbeats 2000000 in
theorem read_four (s : ByteArray) (i : Nat) (w : World) (hs : s.size ≤ 9223372036854775807) (hi : i < s.size) (h1 : 240 ≤ s[i].toNat) (h2 : s[i].toNat < 245) : Reads s i w := by
  have hr := rd_four s i (by rw [bt_of s i hi]; exact ⟨h1, h2⟩)
  rw [bt_of s i hi] at hr
  obtain ⟨x0, hx0⟩ : ∃ x0, s[i].toNat - 240 = x0 := ⟨_, rfl⟩
  rw [hx0] at hr
  have HR : Hid _ := hr
  have hx1 : x0 < 32 := by omega
  have HX : Hid ((s[i].toNat : Int) - 240 = (x0 : Int)) := by show _ = _; omega
  have hxe := HX.out
  clear hr hx0
  by_cases hz : 4 ≤ s.size - i
  · have d0 : decide ((s[i].toNat : Int) < 128) = false := decide_eq_false (by omega)
    have d1 : decide ((194 : Int) ≤ (s[i].toNat : Int)) = true := decide_eq_true (by omega)
    have d2 : decide ((s[i].toNat : Int) < 224) = false := decide_eq_false (by omega)
    have d3 : decide ((224 : Int) ≤ (s[i].toNat : Int)) = true := decide_eq_true (by omega)
    have d4 : decide ((s[i].toNat : Int) < 240) = false := decide_eq_false (by omega)
    have d5 : decide ((240 : Int) ≤ (s[i].toNat : Int)) = true := decide_eq_true (by omega)
    have d6 : decide ((s[i].toNat : Int) < 245) = true := decide_eq_true (by omega)
    have d7 : decide ((s.size : Int) - (i : Int) < 4) = false := decide_eq_false (by omega)
    go_enter Tryz.func59, Tryz.ntmps59
    go_wp2
    clear hxe
    go_loop [7, 10] (fun x n => ∃ j : Nat, j + 1 ≤ 4 ∧ n = .int .i64 ((j : Int) + 1) ∧ x = .int .i64 (accB s i x0 j : Nat) ∧ Hid (∀ k, k < j → 128 ≤ bt s (i + (k + 1)) ∧ bt s (i + (k + 1)) < 192)) (fun _ n => 4 + 1 - (intOf n).toNat)
    case atStart => exact ⟨0, by omega, rfl, by first | rfl | (rw [HX.out]; rfl), fun k hk => absurd hk (by omega)⟩
    case round =>
      obtain ⟨j, hj, rfl, rfl, hall⟩ := hrel
      have hA := acc_small s i x0 j hx1 (by omega)
      by_cases hlt : j + 1 < 4
      · have hij : i + (j + 1) < s.size := by omega
        have hy := bt_of s (i + (j + 1)) hij
        have HY : Hid (bt s (i + (j + 1)) = s[i + (j + 1)].toNat) := hy
        have HA : Hid (accB s i x0 (j + 1) = accB s i x0 j * 64 + (s[i + (j + 1)].toNat - 128)) := by show _ = _; rw [acc_succ, hy]
        have e1 : ((i : Int) + ((j : Int) + 1)).toNat = i + (j + 1) := by omega
        have hcb : s[i + (j + 1)].toNat < 256 := s[i + (j + 1)].toNat_lt
        clear hy
        generalize hq : accB s i x0 j = q at *
        clear hq
        by_cases hc : 128 ≤ s[i + (j + 1)].toNat ∧ s[i + (j + 1)].toNat < 192
        · obtain ⟨hc1, hc2⟩ := hc
          go_wp2
          go_round
          case rel =>
            refine ⟨j + 1, by omega, by go_num, congrArg (Value.int .i64) (by rw [HA.out]; omega), fun k hk => ?_⟩
            rcases Nat.lt_succ_iff_lt_or_eq.1 hk with hk | rfl
            · exact hall.out k hk
            · rw [HY.out]; omega
          case measure => simp [intOf]; omega
        · have HE : Hid (rdS s i = (65533, 1, false)) := by
            show _ = _
            rw [HR.out, if_neg (fun h => hc (by have := h.2.1 j (by omega); rwa [HY.out] at this))]
          by_cases hc1 : s[i + (j + 1)].toNat < 128
          all_goals try (have hc2 : 191 < s[i + (j + 1)].toNat := by omega)
          all_goals
            clear hc
            go_wp2
            all_goals go_ret3
            all_goals exact ⟨ret3 HE.out rfl rfl rfl, rfl⟩
      · obtain rfl : j = 3 := by omega
        generalize hq : accB s i x0 3 = q at *
        by_cases hv : 65536 ≤ q ∧ q ≤ 1114111 ∧ ¬ (55296 ≤ q ∧ q ≤ 57343)
        · have HE : Hid (rdS s i = (q, 4, true)) := by
            show _ = _
            rw [HR.out, if_pos ⟨by omega, hall.out, hv⟩]
          obtain ⟨v1, v2, v3⟩ := hv
          clear hq
          by_cases hv4 : q < 55296
          all_goals try (have hv5 : 57343 < q := by omega)
          all_goals
            clear v3
            go_wp2
            all_goals go_ret3
            all_goals exact ⟨ret3 HE.out rfl rfl rfl, rfl⟩
        · have HE : Hid (rdS s i = (65533, 1, false)) := by
            show _ = _
            rw [HR.out, if_neg (fun h => hv h.2.2)]
          clear hq
          by_cases v1 : q < 65536
          · clear hv
            go_wp2
            all_goals go_ret3
            all_goals exact ⟨ret3 HE.out rfl rfl rfl, rfl⟩
          · by_cases v2 : 1114111 < q
            · clear hv
              go_wp2
              all_goals go_ret3
              all_goals exact ⟨ret3 HE.out rfl rfl rfl, rfl⟩
            · have v3 : 55296 ≤ q := by omega
              have v4 : q ≤ 57343 := by omega
              clear hv
              go_wp2
              all_goals go_ret3
              all_goals exact ⟨ret3 HE.out rfl rfl rfl, rfl⟩
  · have HE : Hid (rdS s i = (65533, 1, false)) := by
      show _ = _
      rw [HR.out, if_neg (fun h => hz (by have := h.1; omega))]
    go_enter Tryz.func59, Tryz.ntmps59
    go_wp2
    all_goals go_ret3
    all_goals exact ⟨ret3 HE.out rfl rfl rfl, rfl⟩
theorem read_at (s : ByteArray) (i : Nat) (w : World) (hs : s.size ≤ 9223372036854775807) (hi : i < s.size) : Reads s i w := by
  have hb : s[i].toNat < 256 := s[i].toNat_lt
  by_cases h1 : s[i].toNat < 128
  · exact read_one s i w hs hi h1
  · by_cases h2 : s[i].toNat < 194 ∨ 245 ≤ s[i].toNat
    · exact read_bad s i w hs hi (by omega)
    · by_cases h3 : s[i].toNat < 224
      · exact read_two s i w hs hi (by omega) h3
      · by_cases h4 : s[i].toNat < 240
        · exact read_three s i w hs hi (by omega) h4
        · exact read_four s i w hs hi (by omega) (by omega)
end Go.Proofs.YtabfhdmcljdjhaaGreatDoor.Gl
/- The document's Chars, Good, Name. -/
namespace Go.Proofs.YtabfhdmcljdjhaaGreatDoor.Gl
open Go.RowKit
set_option linter.unusedVariables false

theorem rd_bd (s : ByteArray) (i : Nat) (hi : i < s.size) : 1 ≤ (rdS s i).2.1 ∧ i + (rdS s i).2.1 ≤ s.size ∧ (rdS s i).2.1 ≤ 4 := by
  have hb := bt_lt s i
  by_cases h1 : bt s i < 128
  · rw [rd_one s i h1]; dsimp only; omega
  · by_cases h2 : (128 ≤ bt s i ∧ bt s i < 194) ∨ 245 ≤ bt s i
    · rw [rd_bad0 s i h2]; dsimp only; omega
    · by_cases h3 : bt s i < 224
      · rw [rd_two s i (by omega)]
        split
        · rename_i hc; have := hc.1; dsimp only; omega
        · (dsimp only; omega)
      · by_cases h4 : bt s i < 240
        · rw [rd_three s i (by omega)]
          split
          · rename_i hc; have := hc.1; dsimp only; omega
          · (dsimp only; omega)
        · rw [rd_four s i (by omega)]
          split
          · rename_i hc; have := hc.1; dsimp only; omega
          · (dsimp only; omega)
/-- where character number n begins -/
def pos (s : ByteArray) : Nat → Nat
  | 0 => 0
  | n + 1 => pos s n + (rdS s (pos s n)).2.1
theorem pos_zero (s : ByteArray) : pos s 0 = 0 := rfl
theorem pos_succ (s : ByteArray) (n : Nat) : pos s (n + 1) = pos s n + (rdS s (pos s n)).2.1 := rfl
theorem pos_ge (s : ByteArray) (n : Nat) (h : ∀ k, k < n → pos s k < s.size) : n ≤ pos s n ∧ pos s n ≤ s.size := by
  induction n with
  | zero => rw [pos_zero]; omega
  | succ n ih =>
    have h1 := ih (fun k hk => h k (by omega))
    have h2 := rd_bd s (pos s n) (h n (by omega))
    rw [pos_succ]; omega
/-- the text has n characters -/
def IsCnt (s : ByteArray) (n : Nat) : Prop := pos s n = s.size ∧ ∀ k, k < n → pos s k < s.size
theorem cnt_or (s : ByteArray) (n : Nat) : (∃ m, m ≤ n ∧ IsCnt s m) ∨ ∀ k, k ≤ n → pos s k < s.size := by
  induction n with
  | zero =>
    by_cases h : 0 < s.size
    · right; intro k hk; obtain rfl : k = 0 := by omega
      rw [pos_zero]; exact h
    · left; exact ⟨0, Nat.le_refl _, by rw [pos_zero]; omega, fun k hk => by omega⟩
  | succ n ih =>
    rcases ih with ⟨m, hm, hc⟩ | h
    · left; exact ⟨m, by omega, hc⟩
    · by_cases h1 : pos s (n + 1) < s.size
      · right
        intro k hk
        rcases Nat.lt_or_eq_of_le hk with hk | rfl
        · exact h k (by omega)
        · exact h1
      · left
        refine ⟨n + 1, Nat.le_refl _, ?_, fun k hk => h k (by omega)⟩
        have := (pos_ge s (n + 1) (fun k hk => h k (by omega))).2
        omega
theorem cnt_is (s : ByteArray) : ∃ n, IsCnt s n := by
  rcases cnt_or s s.size with ⟨m, _, h⟩ | h
  · exact ⟨m, h⟩
  · have h1 := (pos_ge s s.size (fun k hk => h k (by omega))).1
    have h2 := h s.size (Nat.le_refl _)
    omega
theorem cnt_lt {s : ByteArray} {n m : Nat} (h : IsCnt s n) (hm : ∀ k, k < m → pos s k < s.size) : m ≤ n := by
  by_cases hc : m ≤ n
  · exact hc
  · have := hm n (by omega)
    have := h.1
    omega
theorem cnt_one {s : ByteArray} {n m : Nat} (h : IsCnt s n) (k : IsCnt s m) : n = m := Nat.le_antisymm (cnt_lt k h.2) (cnt_lt h k.2)
set_option maxHeartbeats 1000000 in
theorem rchars_at (s : ByteArray) (n : Nat) (w : World) (hs : s.size ≤ 9223372036854775807) (hn : IsCnt s n) :
    Calls Tryz.prog 63 #[.string s] w fun e w' => e = .returned (.int .i64 n) ∧ w = w' := by
  have HN : Hid (IsCnt s n) := hn
  clear hn
  go_enter Tryz.func63, Tryz.ntmps63
  go_wp2
  go_loop [3, 4] (fun m i => ∃ k : Nat, m = .int .i64 k ∧ i = .int .i64 (pos s k : Nat) ∧ Hid (∀ j, j < k → pos s j < s.size)) (fun _ i => s.size - (intOf i).toNat)
  case atStart => exact ⟨0, rfl, rfl, fun j hj => absurd hj (by omega)⟩
  case round =>
    obtain ⟨k, rfl, rfl, hall⟩ := hrel
    have hge := pos_ge s k hall.out
    obtain ⟨hg1, hg2⟩ := hge
    by_cases hlt : pos s k < s.size
    · have hb := rd_bd s (pos s k) hlt
      obtain ⟨hb1, hb2, hb3⟩ := hb
      have HS : Hid (pos s (k + 1) = pos s k + (rdS s (pos s k)).2.1) := pos_succ s k
      have RD : Hid (Reads s (pos s k) w) := read_at s (pos s k) w hs hlt
      have HA : Hid (∀ j, j < k + 1 → pos s j < s.size) := fun j hj => by
        rcases Nat.lt_succ_iff_lt_or_eq.1 hj with hj | rfl
        · exact hall.out j hj
        · exact hlt
      generalize hp : pos s k = p at *
      clear hp
      generalize hr : rdS s p = R at *
      obtain ⟨r, wd, ok⟩ := R
      simp only at hb1 hb2 hb3 HS
      have RD' : Hid (Calls Tryz.prog 59 #[.string s, .int .i64 p] w fun e w' => e = .returned (.tuple #[.int .i64 (r : Nat), .int .i64 (wd : Nat), .bool ok]) ∧ w = w') := by
        have := RD.out
        unfold Reads at this
        rw [hr] at this
        exact this
      clear RD hr
      go_wp2_with (go_at_call 59; refine RD'.out.mono ?_; rintro e w' ⟨rfl, rfl⟩)
      go_round
      case rel => exact ⟨k + 1, by go_num, congrArg (Value.int .i64) (by rw [HS.out]; omega), HA⟩
      case measure => simp [intOf]; omega
    · have HE : Hid ((k : Int) = (n : Int)) := by
        have := cnt_one HN.out ⟨by omega, hall.out⟩
        show _ = _
        omega
      go_wp2
      go_ret
      exact ⟨ret1 HE.out, rfl⟩
end Go.Proofs.YtabfhdmcljdjhaaGreatDoor.Gl
/- The document's Good, Name. -/
namespace Go.Proofs.YtabfhdmcljdjhaaGreatDoor.Gl
open Go.RowKit
set_option linter.unusedVariables false

theorem read_is (s : ByteArray) (p r wd : Nat) (ok : Bool) (w : World) (hs : s.size ≤ 9223372036854775807) (hp : p < s.size) (h : rdS s p = (r, wd, ok)) :
    Calls Tryz.prog 59 #[.string s, .int .i64 p] w fun e w' => e = .returned (.tuple #[.int .i64 (r : Nat), .int .i64 (wd : Nat), .bool ok]) ∧ w = w' := by
  have := read_at s p w hs hp
  unfold Reads at this
  rw [h] at this
  exact this
/-- characters 0 .. k - 1 are characters -/
def Oks (s : ByteArray) (k : Nat) : Prop := ∀ j, j < k → pos s j < s.size ∧ (rdS s (pos s j)).2.2 = true
theorem Oks.lt {s : ByteArray} {k : Nat} (h : Oks s k) : ∀ j, j < k → pos s j < s.size := fun j hj => (h j hj).1
/-- the first wrong byte, or the end -/
def IsGood (s : ByteArray) (g : Nat) : Prop := ∃ k, pos s k = g ∧ Oks s k ∧ (g = s.size ∨ (g < s.size ∧ (rdS s g).2.2 = false))
theorem good_one {s : ByteArray} {g h : Nat} (a : IsGood s g) (b : IsGood s h) : g = h := by
  obtain ⟨k, rfl, ok, e⟩ := a
  obtain ⟨m, rfl, om, f⟩ := b
  rcases Nat.lt_trichotomy k m with hlt | rfl | hlt
  · have := om k hlt
    rcases e with e | ⟨_, e⟩
    · omega
    · rw [e] at this; cases this.2
  · rfl
  · have := ok m hlt
    rcases f with f | ⟨_, f⟩
    · omega
    · rw [f] at this; cases this.2
/-- characters 0 .. k - 1 may stand in a name, the first one at its beginning -/
def Nms (s : ByteArray) (k : Nat) : Prop := ∀ j, j < k → pos s j < s.size ∧ (rdS s (pos s j)).2.2 = true ∧ reB ((rdS s (pos s j)).1 : Nat) = true ∧ (j = 0 → stB ((rdS s (pos s j)).1 : Nat) = true)
theorem Nms.lt {s : ByteArray} {k : Nat} (h : Nms s k) : ∀ j, j < k → pos s j < s.size := fun j hj => (h j hj).1
def IsName (s : ByteArray) : Prop := (∃ n, IsCnt s n ∧ 1 ≤ n ∧ n ≤ 16 ∧ Nms s n) ∧ rsB s = false
theorem name_no {s : ByteArray} {k : Nat} (hk : pos s k < s.size) (hall : ∀ j, j < k → pos s j < s.size) (h : ¬ ((rdS s (pos s k)).2.2 = true ∧ reB ((rdS s (pos s k)).1 : Nat) = true ∧ (k = 0 → stB ((rdS s (pos s k)).1 : Nat) = true))) : ¬ IsName s := by
  rintro ⟨⟨n, hn, _, _, hm⟩, _⟩
  have hkn : k + 1 ≤ n := cnt_lt hn (fun j hj => by
    rcases Nat.lt_succ_iff_lt_or_eq.1 hj with hj | rfl
    · exact hall j hj
    · exact hk)
  have := hm k (by omega)
  exact h this.2
theorem reB_of {r : Int} (h : stB r = true) : reB r = true := by unfold reB; rw [h]; rfl
set_option maxHeartbeats 2000000 in
theorem rname_at (s : ByteArray) (b : Bool) (w : World) (hs : s.size ≤ 9223372036854775807) (hb : b = true ↔ IsName s) :
    Calls Tryz.prog 76 #[.string s] w fun e w' => e = .returned (.bool b) ∧ Below w.heap.size w w' := by
  have HB : Hid (b = true ↔ IsName s) := hb
  clear hb
  go_enter Tryz.func76, Tryz.ntmps76
  go_wp2
  go_loopw [3, 4] (fun m i wr => ∃ k : Nat, m = .int .i64 k ∧ i = .int .i64 (pos s k : Nat) ∧ Hid (Nms s k) ∧ Below w.heap.size w wr) (fun _ i _ => s.size - (intOf i).toNat)
  case atStart => exact ⟨0, rfl, rfl, fun j hj => absurd hj (by omega), Below.refl _ _⟩
  case round =>
    obtain ⟨k, rfl, rfl, hall, hB⟩ := hrel
    obtain ⟨hg1, hg2⟩ := pos_ge s k hall.out.lt
    by_cases hlt : pos s k < s.size
    · obtain ⟨hb1, hb2, hb3⟩ := rd_bd s (pos s k) hlt
      have HS : Hid (pos s (k + 1) = pos s k + (rdS s (pos s k)).2.1) := pos_succ s k
      have HNO : Hid (¬ ((rdS s (pos s k)).2.2 = true ∧ reB ((rdS s (pos s k)).1 : Nat) = true ∧ (k = 0 → stB ((rdS s (pos s k)).1 : Nat) = true)) → b = false) := fun h => by
        cases b with
        | false => rfl
        | true => exact absurd (HB.out.1 rfl) (name_no hlt hall.out.lt h)
      have HYES : Hid ((rdS s (pos s k)).2.2 = true ∧ reB ((rdS s (pos s k)).1 : Nat) = true ∧ (k = 0 → stB ((rdS s (pos s k)).1 : Nat) = true) → Nms s (k + 1)) := fun h j hj => by
        rcases Nat.lt_succ_iff_lt_or_eq.1 hj with hj | rfl
        · exact hall.out j hj
        · exact ⟨hlt, h⟩
      obtain ⟨⟨r, wd, ok⟩, hr⟩ : ∃ R, rdS s (pos s k) = R := ⟨_, rfl⟩
      have RD : Hid (∀ w, Calls Tryz.prog 59 #[.string s, .int .i64 (pos s k : Nat)] w fun e w' => e = .returned (.tuple #[.int .i64 (r : Nat), .int .i64 (wd : Nat), .bool ok]) ∧ w = w') := fun w => read_is s (pos s k) r wd ok w hs hlt hr
      rw [hr] at hb1 hb2 HS HNO HYES
      dsimp only at hb1 hb2 HS HNO HYES
      clear hb3 hr
      generalize hp : pos s k = p at *
      clear hp
      cases hok : ok with
      | false =>
        subst hok
        have HE : Hid (b = false) := HNO.out (fun h => by cases h.1)
        go_wp2_with (go_at_call 59; refine (RD.out _).mono ?_; rintro e w' ⟨rfl, rfl⟩)
        go_ret
        exact ⟨retb HE.out.symm, hB⟩
      | true =>
        subst hok
        have RS : ∀ c, reB (r : Nat) = c → Hid (∀ w, Calls Tryz.prog 91 #[.int .i64 (r : Nat)] w fun e w' => e = .returned (.bool c) ∧ Below w.heap.size w w') := fun c h w => by rw [← h]; exact rrest_at r w
        have SS : ∀ c, stB (r : Nat) = c → Hid (∀ w, Calls Tryz.prog 60 #[.int .i64 (r : Nat)] w fun e w' => e = .returned (.bool c) ∧ Below w.heap.size w w') := fun c h w => by rw [← h]; exact rstart_at r w
        rcases Nat.eq_zero_or_pos k with hk | hk
        · subst hk
          cases hst : stB (r : Nat) with
          | false =>
            have HE : Hid (b = false) := HNO.out (fun h => by have := h.2.2 rfl; rw [hst] at this; cases this)
            have S0 := SS _ hst
            clear SS RS hst HNO HYES
            go_wp2_with (first
              | (go_at_call 59; refine (RD.out _).mono ?_; rintro e w' ⟨rfl, rfl⟩)
              | (go_at_call 60; refine (S0.out _).mono ?_; rintro e w1 ⟨rfl, hB1⟩))
            go_ret
            exact ⟨retb HE.out.symm, hB.trans (hB1.mono hB.size)⟩
          | true =>
            have HY : Hid (Nms s (0 + 1)) := HYES.out ⟨rfl, reB_of hst, fun _ => hst⟩
            have S0 := SS _ hst
            have R0 := RS _ (reB_of hst)
            clear SS RS hst HNO HYES
            go_wp2_with (first
              | (go_at_call 59; refine (RD.out _).mono ?_; rintro e w' ⟨rfl, rfl⟩)
              | (go_at_call 60; refine (S0.out _).mono ?_; rintro e w1 ⟨rfl, hB1⟩)
              | (go_at_call 91; refine (R0.out _).mono ?_; rintro e w2 ⟨rfl, hB2⟩))
            go_roundw
            case rel => exact ⟨0 + 1, by go_num, congrArg (Value.int .i64) (by rw [HS.out]; omega), HY, (hB.trans (hB1.mono hB.size)).trans (hB2.mono (Nat.le_trans hB.size hB1.size))⟩
            case measure => simp [intOf]; omega
        · have hk0 : ((k : Int) == 0) = false := by simp; omega
          cases hre : reB (r : Nat) with
          | false =>
            have HE : Hid (b = false) := HNO.out (fun h => by have := h.2.1; rw [hre] at this; cases this)
            have R0 := RS _ hre
            clear SS RS hre HNO HYES
            go_wp2_with (first
              | (go_at_call 59; refine (RD.out _).mono ?_; rintro e w' ⟨rfl, rfl⟩)
              | (go_at_call 91; refine (R0.out _).mono ?_; rintro e w2 ⟨rfl, hB2⟩))
            go_ret
            exact ⟨retb HE.out.symm, hB.trans (hB2.mono hB.size)⟩
          | true =>
            have HY : Hid (Nms s (k + 1)) := HYES.out ⟨rfl, hre, fun h => by omega⟩
            have R0 := RS _ hre
            clear SS RS hre HNO HYES
            go_wp2_with (first
              | (go_at_call 59; refine (RD.out _).mono ?_; rintro e w' ⟨rfl, rfl⟩)
              | (go_at_call 91; refine (R0.out _).mono ?_; rintro e w2 ⟨rfl, hB2⟩))
            go_roundw
            case rel => exact ⟨k + 1, by go_num, congrArg (Value.int .i64) (by rw [HS.out]; omega), HY, hB.trans (hB2.mono hB.size)⟩
            case measure => simp [intOf]; omega
    · have HC : Hid (IsCnt s k) := ⟨by omega, hall.out.lt⟩
      have HP : Hid (b = true ↔ (1 ≤ k ∧ k ≤ 16) ∧ rsB s = false) := by
        show _ ↔ _
        rw [HB.out]
        constructor
        · rintro ⟨⟨n, hn, h1, h2, _⟩, h3⟩
          have := cnt_one hn HC.out
          exact ⟨by omega, h3⟩
        · rintro ⟨⟨h1, h2⟩, h3⟩
          exact ⟨⟨k, HC.out, h1, h2, hall.out⟩, h3⟩
      by_cases hk : 1 ≤ k ∧ k ≤ 16
      · obtain ⟨hk1, hk2⟩ := hk
        have RV : ∀ c, rsB s = c → Hid (∀ w, Calls Tryz.prog 62 #[.string s] w fun e w' => e = .returned (.bool c) ∧ Below w.heap.size w w') := fun c h w => by rw [← h]; exact rreserved_at s w
        cases hrs : rsB s with
        | false =>
          have HE : Hid (b = true) := HP.out.2 ⟨⟨hk1, hk2⟩, hrs⟩
          have R0 := RV _ hrs
          clear RV hrs
          go_wp2_with (go_at_call 62; refine (R0.out _).mono ?_; rintro e w2 ⟨rfl, hB2⟩)
          go_ret
          exact ⟨retb HE.out.symm, hB.trans (hB2.mono hB.size)⟩
        | true =>
          have HE : Hid (b = false) := by
            cases b with
            | false => rfl
            | true => have := (HP.out.1 rfl).2; rw [hrs] at this; cases this
          have R0 := RV _ hrs
          clear RV hrs
          go_wp2_with (go_at_call 62; refine (R0.out _).mono ?_; rintro e w2 ⟨rfl, hB2⟩)
          go_ret
          exact ⟨retb HE.out.symm, hB.trans (hB2.mono hB.size)⟩
      · have HE : Hid (b = false) := by
          cases b with
          | false => rfl
          | true => exact absurd (HP.out.1 rfl).1 hk
        by_cases hk1 : k < 1
        all_goals try (have hk2 : 16 < k := by omega)
        all_goals
          clear hk
          go_wp2
          go_ret
          exact ⟨retb HE.out.symm, hB⟩
end Go.Proofs.YtabfhdmcljdjhaaGreatDoor.Gl
