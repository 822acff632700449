/- The document's Read. -/
import Derived.Test.YtdfdbhjgighkpaaGlB
import Derived.Test.YtdfdbhjgighkpaaGlMath
namespace Go.Proofs.Ytdfdbhjgighkpaa.Gl
open Go.RowKit
set_option linter.unusedVariables false

theorem acc_le (s : ByteArray) (i x0 j : Nat) (h : x0 < 32) : accB s i x0 j < 32 * 128 ^ j := by
  induction j with
  | zero => rw [acc_zero]; omega
  | succ j ih =>
    have := bt_lt s (i + (j + 1))
    have hp : 0 < 128 ^ j := Nat.pow_pos (by omega)
    rw [acc_succ, Nat.pow_succ]
    omega
theorem acc_small (s : ByteArray) (i x0 j : Nat) (h : x0 < 32) (hj : j ≤ 3) : accB s i x0 j ≤ 100000000 := by
  have h1 := acc_le s i x0 j h
  have h2 : 128 ^ j ≤ 128 ^ 3 := Nat.pow_le_pow_right (by omega) hj
  omega
theorem ret3 {s : ByteArray} {i a b : Nat} {c : Bool} {x y : Int} {z : Bool} (h : rdS s i = (a, b, c)) (hx : x = a) (hy : y = b) (hz : z = c) : Ending.returned (.tuple #[.int .i64 x, .int .i64 y, .bool z]) = .returned (.tuple #[.int .i64 ((rdS s i).1 : Nat), .int .i64 ((rdS s i).2.1 : Nat), .bool (rdS s i).2.2]) := by
  rw [h, hx, hy, hz]
abbrev Reads (s : ByteArray) (i : Nat) (w : World) : Prop := Calls Try.prog 38 #[.string s, .int .i64 i] w fun e w' => e = .returned (.tuple #[.int .i64 ((rdS s i).1 : Nat), .int .i64 ((rdS s i).2.1 : Nat), .bool (rdS s i).2.2]) ∧ w = w'
set_option maxRecDepth 100000 in
theorem read_one (s : ByteArray) (i : Nat) (w : World) (hs : s.size ≤ 9223372036854775807) (hi : i < s.size) (h : s[i].toNat < 128) : Reads s i w := by
  have HE : Hid (rdS s i = (s[i].toNat, 1, true)) := by
    have := rd_one s i (by rw [bt_of s i hi]; exact h)
    rwa [bt_of s i hi] at this
  go_enter Try.func38, Try.ntmps38
  go_wp2
  all_goals go_ret3
  all_goals exact ⟨ret3 HE.out rfl rfl rfl, rfl⟩
set_option maxRecDepth 100000 in
theorem read_bad (s : ByteArray) (i : Nat) (w : World) (hs : s.size ≤ 9223372036854775807) (hi : i < s.size) (h : (128 ≤ s[i].toNat ∧ s[i].toNat < 194) ∨ 245 ≤ s[i].toNat) : Reads s i w := by
  have HE : Hid (rdS s i = (65533, 1, false)) := rd_bad0 s i (by rw [bt_of s i hi]; exact h)
  rcases h with ⟨h1, h2⟩ | h1
  · go_enter Try.func38, Try.ntmps38
    go_wp2
    all_goals go_ret3
    all_goals exact ⟨ret3 HE.out rfl rfl rfl, rfl⟩
  · have h2 : s[i].toNat < 256 := s[i].toNat_lt
    go_enter Try.func38, Try.ntmps38
    go_wp2
    all_goals go_ret3
    all_goals exact ⟨ret3 HE.out rfl rfl rfl, rfl⟩
set_option maxRecDepth 100000 in
set_option maxHeartbeats 2000000 in
theorem read_two (s : ByteArray) (i : Nat) (w : World) (hs : s.size ≤ 9223372036854775807) (hi : i < s.size) (h1 : 194 ≤ s[i].toNat) (h2 : s[i].toNat < 224) : Reads s i w := by
  have hr := rd_two s i (by rw [bt_of s i hi]; exact ⟨h1, h2⟩)
  rw [bt_of s i hi] at hr
  obtain ⟨x0, hx0⟩ : ∃ x0, s[i].toNat - 192 = x0 := ⟨_, rfl⟩
  rw [hx0] at hr
  have HR : Hid _ := hr
  have hx1 : x0 < 32 := by omega
  have HX : Hid ((s[i].toNat : Int) - 192 = (x0 : Int)) := by show _ = _; omega
  have hxe := HX.out
  clear hr hx0
  by_cases hz : 2 ≤ s.size - i
  · have d0 : decide ((s[i].toNat : Int) < 128) = false := decide_eq_false (by omega)
    have d1 : decide ((194 : Int) ≤ (s[i].toNat : Int)) = true := decide_eq_true (by omega)
    have d2 : decide ((s[i].toNat : Int) < 224) = true := decide_eq_true (by omega)
    have d3 : decide ((s.size : Int) - (i : Int) < 2) = false := decide_eq_false (by omega)
    go_enter Try.func38, Try.ntmps38
    go_wp2
    clear hxe
    go_loop [7, 10] (fun x n => ∃ j : Nat, j + 1 ≤ 2 ∧ n = .int .i64 ((j : Int) + 1) ∧ x = .int .i64 (accB s i x0 j : Nat) ∧ Hid (∀ k, k < j → 128 ≤ bt s (i + (k + 1)) ∧ bt s (i + (k + 1)) < 192)) (fun _ n => 2 + 1 - (intOf n).toNat)
    case atStart => exact ⟨0, by omega, rfl, by first | rfl | (rw [HX.out]; rfl), fun k hk => absurd hk (by omega)⟩
    case round =>
      obtain ⟨j, hj, rfl, rfl, hall⟩ := hrel
      have hA := acc_small s i x0 j hx1 (by omega)
      by_cases hlt : j + 1 < 2
      · have hij : i + (j + 1) < s.size := by omega
        have hy := bt_of s (i + (j + 1)) hij
        have HY : Hid (bt s (i + (j + 1)) = s[i + (j + 1)].toNat) := hy
        have HA : Hid (accB s i x0 (j + 1) = accB s i x0 j * 64 + (s[i + (j + 1)].toNat - 128)) := by show _ = _; rw [acc_succ, hy]
        have e1 : ((i : Int) + ((j : Int) + 1)).toNat = i + (j + 1) := by omega
        have hcb : s[i + (j + 1)].toNat < 256 := s[i + (j + 1)].toNat_lt
        clear hy
        generalize hq : accB s i x0 j = q at *
        clear hq
        by_cases hc : 128 ≤ s[i + (j + 1)].toNat ∧ s[i + (j + 1)].toNat < 192
        · obtain ⟨hc1, hc2⟩ := hc
          go_wp2
          go_round
          case rel =>
            refine ⟨j + 1, by omega, by go_num, congrArg (Value.int .i64) (by rw [HA.out]; omega), fun k hk => ?_⟩
            rcases Nat.lt_succ_iff_lt_or_eq.1 hk with hk | rfl
            · exact hall.out k hk
            · rw [HY.out]; omega
          case measure => simp [intOf]; omega
        · have HE : Hid (rdS s i = (65533, 1, false)) := by
            show _ = _
            rw [HR.out, if_neg (fun h => hc (by have := h.2.1 j (by omega); rwa [HY.out] at this))]
          by_cases hc1 : s[i + (j + 1)].toNat < 128
          all_goals try (have hc2 : 191 < s[i + (j + 1)].toNat := by omega)
          all_goals
            clear hc
            go_wp2
            all_goals go_ret3
            all_goals exact ⟨ret3 HE.out rfl rfl rfl, rfl⟩
      · obtain rfl : j = 1 := by omega
        generalize hq : accB s i x0 1 = q at *
        by_cases hv : 128 ≤ q ∧ q ≤ 1114111 ∧ ¬ (55296 ≤ q ∧ q ≤ 57343)
        · have HE : Hid (rdS s i = (q, 2, true)) := by
            show _ = _
            rw [HR.out, if_pos ⟨by omega, hall.out, hv⟩]
          obtain ⟨v1, v2, v3⟩ := hv
          clear hq
          by_cases hv4 : q < 55296
          all_goals try (have hv5 : 57343 < q := by omega)
          all_goals
            clear v3
            go_wp2
            all_goals go_ret3
            all_goals exact ⟨ret3 HE.out rfl rfl rfl, rfl⟩
        · have HE : Hid (rdS s i = (65533, 1, false)) := by
            show _ = _
            rw [HR.out, if_neg (fun h => hv h.2.2)]
          clear hq
          by_cases v1 : q < 128
          · clear hv
            go_wp2
            all_goals go_ret3
            all_goals exact ⟨ret3 HE.out rfl rfl rfl, rfl⟩
          · by_cases v2 : 1114111 < q
            · clear hv
              go_wp2
              all_goals go_ret3
              all_goals exact ⟨ret3 HE.out rfl rfl rfl, rfl⟩
            · have v3 : 55296 ≤ q := by omega
              have v4 : q ≤ 57343 := by omega
              clear hv
              go_wp2
              all_goals go_ret3
              all_goals exact ⟨ret3 HE.out rfl rfl rfl, rfl⟩
  · have HE : Hid (rdS s i = (65533, 1, false)) := by
      show _ = _
      rw [HR.out, if_neg (fun h => hz (by have := h.1; omega))]
    go_enter Try.func38, Try.ntmps38
    go_wp2
    all_goals go_ret3
    all_goals exact ⟨ret3 HE.out rfl rfl rfl, rfl⟩
set_option maxRecDepth 100000 in
set_option maxHeartbeats 2000000 in
theorem read_three (s : ByteArray) (i : Nat) (w : World) (hs : s.size ≤ 9223372036854775807) (hi : i < s.size) (h1 : 224 ≤ s[i].toNat) (h2 : s[i].toNat < 240) : Reads s i w := by
  have hr := rd_three s i (by rw [bt_of s i hi]; exact ⟨h1, h2⟩)
  rw [bt_of s i hi] at hr
  obtain ⟨x0, hx0⟩ : ∃ x0, s[i].toNat - 224 = x0 := ⟨_, rfl⟩
  rw [hx0] at hr
  have HR : Hid _ := hr
  have hx1 : x0 < 32 := by omega
  have HX : Hid ((s[i].toNat : Int) - 224 = (x0 : Int)) := by show _ = _; omega
  have hxe := HX.out
  clear hr hx0
  by_cases hz : 3 ≤ s.size - i
  · have d0 : decide ((s[i].toNat : Int) < 128) = false := decide_eq_false (by omega)
    have d1 : decide ((194 : Int) ≤ (s[i].toNat : Int)) = true := decide_eq_true (by omega)
    have d2 : decide ((s[i].toNat : Int) < 224) = false := decide_eq_false (by omega)
    have d3 : decide ((224 : Int) ≤ (s[i].toNat : Int)) = true := decide_eq_true (by omega)
    have d4 : decide ((s[i].toNat : Int) < 240) = true := decide_eq_true (by omega)
    have d5 : decide ((s.size : Int) - (i : Int) < 3) = false := decide_eq_false (by omega)
    go_enter Try.func38, Try.ntmps38
    go_wp2
    clear hxe
    go_loop [7, 10] (fun x n => ∃ j : Nat, j + 1 ≤ 3 ∧ n = .int .i64 ((j : Int) + 1) ∧ x = .int .i64 (accB s i x0 j : Nat) ∧ Hid (∀ k, k < j → 128 ≤ bt s (i + (k + 1)) ∧ bt s (i + (k + 1)) < 192)) (fun _ n => 3 + 1 - (intOf n).toNat)
    case atStart => exact ⟨0, by omega, rfl, by first | rfl | (rw [HX.out]; rfl), fun k hk => absurd hk (by omega)⟩
    case round =>
      obtain ⟨j, hj, rfl, rfl, hall⟩ := hrel
      have hA := acc_small s i x0 j hx1 (by omega)
      by_cases hlt : j + 1 < 3
      · have hij : i + (j + 1) < s.size := by omega
        have hy := bt_of s (i + (j + 1)) hij
        have HY : Hid (bt s (i + (j + 1)) = s[i + (j + 1)].toNat) := hy
        have HA : Hid (accB s i x0 (j + 1) = accB s i x0 j * 64 + (s[i + (j + 1)].toNat - 128)) := by show _ = _; rw [acc_succ, hy]
        have e1 : ((i : Int) + ((j : Int) + 1)).toNat = i + (j + 1) := by omega
        have hcb : s[i + (j + 1)].toNat < 256 := s[i + (j + 1)].toNat_lt
        clear hy
        generalize hq : accB s i x0 j = q at *
        clear hq
        by_cases hc : 128 ≤ s[i + (j + 1)].toNat ∧ s[i + (j + 1)].toNat < 192
        · obtain ⟨hc1, hc2⟩ := hc
          go_wp2
          go_round
          case rel =>
            refine ⟨j + 1, by omega, by go_num, congrArg (Value.int .i64) (by rw [HA.out]; omega), fun k hk => ?_⟩
            rcases Nat.lt_succ_iff_lt_or_eq.1 hk with hk | rfl
            · exact hall.out k hk
            · rw [HY.out]; omega
          case measure => simp [intOf]; omega
        · have HE : Hid (rdS s i = (65533, 1, false)) := by
            show _ = _
            rw [HR.out, if_neg (fun h => hc (by have := h.2.1 j (by omega); rwa [HY.out] at this))]
          by_cases hc1 : s[i + (j + 1)].toNat < 128
          all_goals try (have hc2 : 191 < s[i + (j + 1)].toNat := by omega)
          all_goals
            clear hc
            go_wp2
            all_goals go_ret3
            all_goals exact ⟨ret3 HE.out rfl rfl rfl, rfl⟩
      · obtain rfl : j = 2 := by omega
        generalize hq : accB s i x0 2 = q at *
        by_cases hv : 2048 ≤ q ∧ q ≤ 1114111 ∧ ¬ (55296 ≤ q ∧ q ≤ 57343)
        · have HE : Hid (rdS s i = (q, 3, true)) := by
            show _ = _
            rw [HR.out, if_pos ⟨by omega, hall.out, hv⟩]
          obtain ⟨v1, v2, v3⟩ := hv
          clear hq
          by_cases hv4 : q < 55296
          all_goals try (have hv5 : 57343 < q := by omega)
          all_goals
            clear v3
            go_wp2
            all_goals go_ret3
            all_goals exact ⟨ret3 HE.out rfl rfl rfl, rfl⟩
        · have HE : Hid (rdS s i = (65533, 1, false)) := by
            show _ = _
            rw [HR.out, if_neg (fun h => hv h.2.2)]
          clear hq
          by_cases v1 : q < 2048
          · clear hv
            go_wp2
            all_goals go_ret3
            all_goals exact ⟨ret3 HE.out rfl rfl rfl, rfl⟩
          · by_cases v2 : 1114111 < q
            · clear hv
              go_wp2
              all_goals go_ret3
              all_goals exact ⟨ret3 HE.out rfl rfl rfl, rfl⟩
            · have v3 : 55296 ≤ q := by omega
              have v4 : q ≤ 57343 := by omega
              clear hv
              go_wp2
              all_goals go_ret3
              all_goals exact ⟨ret3 HE.out rfl rfl rfl, rfl⟩
  · have HE : Hid (rdS s i = (65533, 1, false)) := by
      show _ = _
      rw [HR.out, if_neg (fun h => hz (by have := h.1; omega))]
    go_enter Try.func38, Try.ntmps38
    go_wp2
    all_goals go_ret3
    all_goals exact ⟨ret3 HE.out rfl rfl rfl, rfl⟩
set_option maxRecDepth 100000 in
set_option maxHeartbeats 2000000 in
theorem read_four (s : ByteArray) (i : Nat) (w : World) (hs : s.size ≤ 9223372036854775807) (hi : i < s.size) (h1 : 240 ≤ s[i].toNat) (h2 : s[i].toNat < 245) : Reads s i w := by
  have hr := rd_four s i (by rw [bt_of s i hi]; exact ⟨h1, h2⟩)
  rw [bt_of s i hi] at hr
  obtain ⟨x0, hx0⟩ : ∃ x0, s[i].toNat - 240 = x0 := ⟨_, rfl⟩
  rw [hx0] at hr
  have HR : Hid _ := hr
  have hx1 : x0 < 32 := by omega
  have HX : Hid ((s[i].toNat : Int) - 240 = (x0 : Int)) := by show _ = _; omega
  have hxe := HX.out
  clear hr hx0
  by_cases hz : 4 ≤ s.size - i
  · have d0 : decide ((s[i].toNat : Int) < 128) = false := decide_eq_false (by omega)
    have d1 : decide ((194 : Int) ≤ (s[i].toNat : Int)) = true := decide_eq_true (by omega)
    have d2 : decide ((s[i].toNat : Int) < 224) = false := decide_eq_false (by omega)
    have d3 : decide ((224 : Int) ≤ (s[i].toNat : Int)) = true := decide_eq_true (by omega)
    have d4 : decide ((s[i].toNat : Int) < 240) = false := decide_eq_false (by omega)
    have d5 : decide ((240 : Int) ≤ (s[i].toNat : Int)) = true := decide_eq_true (by omega)
    have d6 : decide ((s[i].toNat : Int) < 245) = true := decide_eq_true (by omega)
    have d7 : decide ((s.size : Int) - (i : Int) < 4) = false := decide_eq_false (by omega)
    go_enter Try.func38, Try.ntmps38
    go_wp2
    clear hxe
    go_loop [7, 10] (fun x n => ∃ j : Nat, j + 1 ≤ 4 ∧ n = .int .i64 ((j : Int) + 1) ∧ x = .int .i64 (accB s i x0 j : Nat) ∧ Hid (∀ k, k < j → 128 ≤ bt s (i + (k + 1)) ∧ bt s (i + (k + 1)) < 192)) (fun _ n => 4 + 1 - (intOf n).toNat)
    case atStart => exact ⟨0, by omega, rfl, by first | rfl | (rw [HX.out]; rfl), fun k hk => absurd hk (by omega)⟩
    case round =>
      obtain ⟨j, hj, rfl, rfl, hall⟩ := hrel
      have hA := acc_small s i x0 j hx1 (by omega)
      by_cases hlt : j + 1 < 4
      · have hij : i + (j + 1) < s.size := by omega
        have hy := bt_of s (i + (j + 1)) hij
        have HY : Hid (bt s (i + (j + 1)) = s[i + (j + 1)].toNat) := hy
        have HA : Hid (accB s i x0 (j + 1) = accB s i x0 j * 64 + (s[i + (j + 1)].toNat - 128)) := by show _ = _; rw [acc_succ, hy]
        have e1 : ((i : Int) + ((j : Int) + 1)).toNat = i + (j + 1) := by omega
        have hcb : s[i + (j + 1)].toNat < 256 := s[i + (j + 1)].toNat_lt
        clear hy
        generalize hq : accB s i x0 j = q at *
        clear hq
        by_cases hc : 128 ≤ s[i + (j + 1)].toNat ∧ s[i + (j + 1)].toNat < 192
        · obtain ⟨hc1, hc2⟩ := hc
          go_wp2
          go_round
          case rel =>
            refine ⟨j + 1, by omega, by go_num, congrArg (Value.int .i64) (by rw [HA.out]; omega), fun k hk => ?_⟩
            rcases Nat.lt_succ_iff_lt_or_eq.1 hk with hk | rfl
            · exact hall.out k hk
            · rw [HY.out]; omega
          case measure => simp [intOf]; omega
        · have HE : Hid (rdS s i = (65533, 1, false)) := by
            show _ = _
            rw [HR.out, if_neg (fun h => hc (by have := h.2.1 j (by omega); rwa [HY.out] at this))]
          by_cases hc1 : s[i + (j + 1)].toNat < 128
          all_goals try (have hc2 : 191 < s[i + (j + 1)].toNat := by omega)
          all_goals
            clear hc
            go_wp2
            all_goals go_ret3
            all_goals exact ⟨ret3 HE.out rfl rfl rfl, rfl⟩
      · obtain rfl : j = 3 := by omega
        generalize hq : accB s i x0 3 = q at *
        by_cases hv : 65536 ≤ q ∧ q ≤ 1114111 ∧ ¬ (55296 ≤ q ∧ q ≤ 57343)
        · have HE : Hid (rdS s i = (q, 4, true)) := by
            show _ = _
            rw [HR.out, if_pos ⟨by omega, hall.out, hv⟩]
          obtain ⟨v1, v2, v3⟩ := hv
          clear hq
          by_cases hv4 : q < 55296
          all_goals try (have hv5 : 57343 < q := by omega)
          all_goals
            clear v3
            go_wp2
            all_goals go_ret3
            all_goals exact ⟨ret3 HE.out rfl rfl rfl, rfl⟩
        · have HE : Hid (rdS s i = (65533, 1, false)) := by
            show _ = _
            rw [HR.out, if_neg (fun h => hv h.2.2)]
          clear hq
          by_cases v1 : q < 65536
          · clear hv
            go_wp2
            all_goals go_ret3
            all_goals exact ⟨ret3 HE.out rfl rfl rfl, rfl⟩
          · by_cases v2 : 1114111 < q
            · clear hv
              go_wp2
              all_goals go_ret3
              all_goals exact ⟨ret3 HE.out rfl rfl rfl, rfl⟩
            · have v3 : 55296 ≤ q := by omega
              have v4 : q ≤ 57343 := by omega
              clear hv
              go_wp2
              all_goals go_ret3
              all_goals exact ⟨ret3 HE.out rfl rfl rfl, rfl⟩
  · have HE : Hid (rdS s i = (65533, 1, false)) := by
      show _ = _
      rw [HR.out, if_neg (fun h => hz (by have := h.1; omega))]
    go_enter Try.func38, Try.ntmps38
    go_wp2
    all_goals go_ret3
    all_goals exact ⟨ret3 HE.out rfl rfl rfl, rfl⟩
theorem read_at (s : ByteArray) (i : Nat) (w : World) (hs : s.size ≤ 9223372036854775807) (hi : i < s.size) : Reads s i w := by
  have hb : s[i].toNat < 256 := s[i].toNat_lt
  by_cases h1 : s[i].toNat < 128
  · exact read_one s i w hs hi h1
  · by_cases h2 : s[i].toNat < 194 ∨ 245 ≤ s[i].toNat
    · exact read_bad s i w hs hi (by omega)
    · by_cases h3 : s[i].toNat < 224
      · exact read_two s i w hs hi (by omega) h3
      · by_cases h4 : s[i].toNat < 240
        · exact read_three s i w hs hi (by omega) h4
        · exact read_four s i w hs hi (by omega) (by omega)
end Go.Proofs.Ytdfdbhjgighkpaa.Gl
