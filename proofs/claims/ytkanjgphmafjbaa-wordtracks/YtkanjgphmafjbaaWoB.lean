/- Layer 3: Longest, Encode, Shortest; what the law fixes. -/
import Derived.Test.YtkanjgphmafjbaaWoA
namespace Go.Proofs.Ytkanjgphmafjbaa.Wo
open Go.RowKit
set_option linter.unusedVariables false

set_option maxHeartbeats 1000000 in
theorem longest_at (ao : Option Addr) (len cap : Nat) (vs : List Int) (w : World) (h : RdZ w ao len cap vs) (hv : In64 vs) :
    Calls Try.prog 19 #[.slice ao len cap] w fun e w' => e = .returned (.int .i64 (lg vs : Nat)) ∧ w = w' := by
  have hcap := h.lecap
  have hmax := h.lemax
  have HL : Hid (vs.length = len) := h.eqlen
  go_enter Try.func19, Try.ntmps19
  go_wp2
  go_loop [3, 8] (fun n i => ∃ k : Nat, k ≤ len ∧ i = .int .i64 k ∧ n = .int .i64 (lg (vs.take k) : Nat)) (fun _ i => len - (intOf i).toNat)
  case atStart => exact ⟨0, Nat.zero_le _, rfl, rfl⟩
  case round =>
    obtain ⟨k, hk, rfl, rfl⟩ := hrel
    by_cases hlt : k < len
    · obtain ⟨b, off, rfl, hc⟩ := h.cell k hlt
      have hg := lg_take vs k (by rw [HL.out]; exact hlt)
      have HG : Hid (lg (vs.take (k + 1)) = max (lg (vs.take k)) (ln (vs.getD k 0))) := hg
      have h64 := lg_64 _ (hv.take k)
      obtain ⟨hl, hu⟩ := hv.get (i := k) (by rw [HL.out]; exact hlt)
      have hln := ln_64 _ hl hu
      clear hg
      generalize hy : vs.getD k 0 = y at *
      generalize hx : lg (vs.take k) = x at *
      clear hy hx
      go_wp2_with (go_at_call 14; refine (length_at y _ hl hu).mono ?_; rintro e w' ⟨rfl, rfl⟩)
      go_round
      case rel => exact ⟨k + 1, by omega, by go_num, congrArg (Value.int .i64) (by rw [HG.out]; omega)⟩
      case measure => simp [intOf]; omega
    · obtain rfl : k = len := by omega
      go_wp2
      go_ret
      exact ⟨ret1 (by rw [List.take_of_length_le (by rw [HL.out]; exact Nat.le_refl _)]), rfl⟩

theorem or_all : ∀ A : Fin 64, ∀ k : Fin 6, ∀ d : Fin 2, A.val < 2 ^ k.val → bits .or .i64 (A.val : Int) (wrap64 ((d.val : Int) * 2 ^ k.val)) = (A.val : Int) + (d.val : Int) * 2 ^ k.val := by decide +kernel
theorem or_at (A d : Int) (k : Nat) (h0 : 0 ≤ A) (h1 : A < 2 ^ k) (hk : k < 6) (d0 : 0 ≤ d) (d1 : d ≤ 1) : bits .or .i64 A (wrap64 (d * 2 ^ k)) = A + d * 2 ^ k := by
  obtain ⟨a, rfl⟩ : ∃ a : Nat, A = a := ⟨A.toNat, by omega⟩
  obtain ⟨e, rfl⟩ : ∃ a : Nat, d = a := ⟨d.toNat, by omega⟩
  have h2 : a < 2 ^ k := by
    have : ((2 ^ k : Nat) : Int) = 2 ^ k := by simp
    omega
  have h3 : 2 ^ k ≤ 2 ^ 5 := Nat.pow_le_pow_right (by omega) (by omega)
  exact or_all ⟨a, by omega⟩ ⟨k, hk⟩ ⟨e, by omega⟩ h2
set_option maxHeartbeats 1000000 in
theorem letterAt_at (ao : Option Addr) (len cap : Nat) (vs : List Int) (i : Nat) (w : World) (h : RdZ w ao len cap vs) (h6 : len ≤ 6) (hi : i < 64) :
    Calls Try.prog 37 #[.slice ao len cap, .int .i64 i] w fun e w' => e = .returned (.int .i64 (lt vs i)) ∧ w = w' := by
  have hcap := h.lecap
  have hmax := h.lemax
  have HL : Hid (vs.length = len) := h.eqlen
  go_enter Try.func37, Try.ntmps37
  go_wp2
  go_loop [5, 10] (fun n j => ∃ k : Nat, k ≤ len ∧ j = .int .i64 k ∧ n = .int .i64 (lt (vs.take k) i)) (fun _ j => len - (intOf j).toNat)
  case atStart => exact ⟨0, Nat.zero_le _, rfl, rfl⟩
  case round =>
    obtain ⟨k, hk, rfl, rfl⟩ := hrel
    by_cases hlt : k < len
    · obtain ⟨b, off, rfl, hc⟩ := h.cell k hlt
      have hbd := lt_bd (vs.take k) i
      rw [List.length_take, HL.out, Nat.min_eq_left (by omega)] at hbd
      have hd := dgt_bd (vs.getD k 0) i
      have HG : Hid (bits .or .i64 (lt (vs.take k) i) (wrap64 (dgt (vs.getD k 0) i * 2 ^ k)) = lt (vs.take (k + 1)) i) := by
        show _ = _
        rw [or_at _ _ _ hbd.1 hbd.2 (by omega) hd.1 hd.2, lt_take _ _ _ (by rw [HL.out]; exact hlt)]
      clear hbd hd
      generalize hy : vs.getD k 0 = y at *
      generalize hx : lt (vs.take k) i = x at *
      generalize hz : lt (vs.take (k + 1)) i = z at *
      clear hy hx
      have HZ : Hid (lt (vs.take (k + 1)) i = z) := hz
      clear hz
      go_wp2_with (go_at_call 30; refine (digitOf_at y i _ hi).mono ?_; rintro e w' ⟨rfl, rfl⟩)
      go_round
      case rel => exact ⟨k + 1, by omega, by go_num, congrArg (Value.int .i64) (by rw [HZ.out, ← HG.out])⟩
      case measure => simp [intOf]; omega
    · obtain rfl : k = len := by omega
      go_wp2
      go_ret
      exact ⟨ret1 (by rw [List.take_of_length_le (by rw [HL.out]; exact Nat.le_refl _)]), rfl⟩

set_option maxHeartbeats 1000000 in
theorem encode_in (ao : Option Addr) (len cap : Nat) (vs : List Int) (n : Nat) (w : World) (h : RdZ w ao len cap vs) (hv : In64 vs) (h6 : len ≤ 6) (hn : lg vs ≤ n) (hn' : n ≤ 64) :
    Calls Try.prog 17 #[.slice ao len cap, .int .i64 n] w fun e w' => ∃ g, e = .returned (.tuple #[.slice (some ⟨g, 0, none⟩) n n, .int .i64 0]) ∧ w'.ownsRow w.heap.size 3 1 (.slice (some ⟨g, 0, none⟩) n n) n (cellsZ (enc vs n)) ∧ Below w.heap.size w w' := by
  obtain ⟨ii, hi, hi0, hi1, hi2⟩ := info_parts Try.infoInt
  have hcap := h.lecap
  have hmax := h.lemax
  go_enter Try.func17, Try.ntmps17
  go_wp2_with (first
    | (go_at_call 19; refine (longest_at _ _ _ vs _ h hv).mono ?_; rintro e w' ⟨rfl, rfl⟩)
    | (at_make; refine wpList_make_full _ rfl _ _ 22 rfl w.heap.size 3 ii (.int .i64 0) 1 Try.underlying22 hi hi0 hi1 _ _ _ _ n rfl rfl rfl rfl (by rw [hi2]; omega) (by unfold maxLen; omega) (Nat.le_refl _) ?_; intro w2 hown2 hg2; rw [made_zeros] at hown2))
  have hB2 : Below w.heap.size w w2 := (Below.refl _ _).grown hg2 (Nat.le_refl _) (fun k h => by cases h)
  go_loopw [23] (fun i wr => ∃ k : Nat, k ≤ n ∧ i = .int .i64 k ∧ wr.ownsRow w.heap.size 3 1 (.slice (some ⟨w.heap.size, 0, none⟩) n n) n (cellsZ (front (enc vs n) (List.replicate n 0) k)) ∧ Below w.heap.size w wr) (fun i _ => n - (intOf i).toNat)
  case atStart => exact ⟨0, Nat.zero_le _, rfl, by rw [front_zero]; exact hown2, hB2⟩
  case round =>
    clear hg2 hown2 hB2
    obtain ⟨k, hk, rfl, hO, hB⟩ := hrel
    by_cases hlt : k < n
    · have hoc := ownsZ_cell hO k hlt
      have hof := hO.frozenAt k
      have hO2 := (hO.stored k (.int .i64 (lt vs k))).1
      rw [cells_set, ← enc_get vs n k hlt, front_set _ _ _ (by rw [enc_length, List.length_replicate]) (by rw [enc_length]; exact hlt), enc_get vs n k hlt] at hO2
      have HO : Hid _ := hO2
      have hB2 := hB.setCell (p := ⟨w.heap.size, k, none⟩) (Nat.le_refl _) (.int .i64 (lt vs k))
      clear hO2
      go_wp2_with (go_at_call 37; refine (letterAt_at _ _ _ vs k _ (h.below (Nat.le_refl _) hB) h6 (by omega)).mono ?_; rintro e w' ⟨rfl, rfl⟩)
      go_roundw
      case rel =>
        go_light
        exact ⟨k + 1, by omega, by go_num, HO.out, hB2⟩
      case measure => simp [intOf]; omega
    · obtain rfl : k = n := by omega
      rw [front_all _ _ k (enc_length _ _) (by rw [List.length_replicate])] at hO
      go_wp2
      go_ret2
      exact ⟨_, rfl, hO, hB⟩
theorem encode_tracks (ao : Option Addr) (len cap : Nat) (n : Int) (w : World) (h6 : 6 < len) (hm : len ≤ 9223372036854775807) :
    Calls Try.prog 17 #[.slice ao len cap, .int .i64 n] w fun e w' => e = .returned (.tuple #[.slice none 0 0, .int .i64 150]) ∧ w = w' := by
  go_enter Try.func17, Try.ntmps17
  go_wp2
  go_ret2
  exact ⟨rfl, rfl⟩
theorem encode_range (ao : Option Addr) (len cap : Nat) (vs : List Int) (n : Int) (w : World) (h : RdZ w ao len cap vs) (hv : In64 vs) (h6 : len ≤ 6) (hn : n < lg vs ∨ 64 < n) :
    Calls Try.prog 17 #[.slice ao len cap, .int .i64 n] w fun e w' => e = .returned (.tuple #[.slice none 0 0, .int .i64 2]) ∧ w = w' := by
  by_cases h1 : n < lg vs
  · clear hn
    go_enter Try.func17, Try.ntmps17
    go_wp2_with (go_at_call 19; refine (longest_at _ _ _ vs _ h hv).mono ?_; rintro e w' ⟨rfl, rfl⟩)
    go_ret2
    exact ⟨rfl, rfl⟩
  · have h2 : 64 < n := by omega
    clear hn
    go_enter Try.func17, Try.ntmps17
    go_wp2_with (go_at_call 19; refine (longest_at _ _ _ vs _ h hv).mono ?_; rintro e w' ⟨rfl, rfl⟩)
    go_ret2
    exact ⟨rfl, rfl⟩
theorem shortest_in (ao : Option Addr) (len cap : Nat) (vs : List Int) (w : World) (h : RdZ w ao len cap vs) (hv : In64 vs) (h6 : len ≤ 6) :
    Calls Try.prog 20 #[.slice ao len cap] w fun e w' => ∃ g, e = .returned (.tuple #[.slice (some ⟨g, 0, none⟩) (lg vs) (lg vs), .int .i64 0]) ∧ w'.ownsRow w.heap.size 3 1 (.slice (some ⟨g, 0, none⟩) (lg vs) (lg vs)) (lg vs) (cellsZ (enc vs (lg vs))) ∧ Below w.heap.size w w' := by
  have h64 := lg_64 vs hv
  go_enter Try.func20, Try.ntmps20
  go_wp2_with (first
    | (go_at_call 19; refine (longest_at _ _ _ vs _ h hv).mono ?_; rintro e w' ⟨rfl, rfl⟩)
    | (go_at_call 17; refine (encode_in _ _ _ vs (lg vs) _ h hv h6 (Nat.le_refl _) h64).mono ?_; rintro e w2 ⟨g, rfl, hO, hB⟩))
  go_ret2
  exact ⟨g, rfl, hO, hB⟩
theorem shortest_no (ao : Option Addr) (len cap : Nat) (vs : List Int) (w : World) (h : RdZ w ao len cap vs) (hv : In64 vs) (h6 : 6 < len) :
    Calls Try.prog 20 #[.slice ao len cap] w fun e w' => e = .returned (.tuple #[.slice none 0 0, .int .i64 150]) ∧ w = w' := by
  have hm : len ≤ 9223372036854775807 := Nat.le_trans h.lecap h.lemax
  go_enter Try.func20, Try.ntmps20
  go_wp2_with (first
    | (go_at_call 19; refine (longest_at _ _ _ vs _ h hv).mono ?_; rintro e w' ⟨rfl, rfl⟩)
    | (go_at_call 17; refine (encode_tracks _ _ _ _ _ h6 hm).mono ?_; rintro e w' ⟨rfl, rfl⟩))
  go_ret2
  exact ⟨rfl, rfl⟩

theorem rdz_two (W : World) (a b : Int) (t : TypeId) : RdZ (W.alloc (.cells #[.int .i64 a, .int .i64 b] t)) (some ⟨W.heap.size, 0, none⟩) 2 2 [a, b] := by
  refine ⟨rfl, Nat.le_refl _, by omega, (fun h => nomatch h), (fun i hi => ⟨W.heap.size, 0, rfl, ?_⟩)⟩
  rw [Nat.zero_add]
  match i, hi with
  | 0, _ => simp
  | 1, _ => simp
theorem rdz_three (W : World) (a b c : Int) (t : TypeId) : RdZ (W.alloc (.cells #[.int .i64 a, .int .i64 b, .int .i64 c] t)) (some ⟨W.heap.size, 0, none⟩) 3 3 [a, b, c] := by
  refine ⟨rfl, Nat.le_refl _, by omega, (fun h => nomatch h), (fun i hi => ⟨W.heap.size, 0, rfl, ?_⟩)⟩
  rw [Nat.zero_add]
  match i, hi with
  | 0, _ => simp
  | 1, _ => simp
  | 2, _ => simp
theorem fx_short (w : World) (t : TypeId) : Calls Try.prog 20 #[.slice (some ⟨w.heap.size, 0, none⟩) 2 2] (w.alloc (.cells #[.int .i64 1, .int .i64 (-3)] t)) fun e w' => ∃ g, e = .returned (.tuple #[.slice (some ⟨g, 0, none⟩) 3 3, .int .i64 0]) ∧ RdZ w' (some ⟨g, 0, none⟩) 3 3 [3, 0, 2] ∧ Below w.heap.size w w' := by
  have h := shortest_in _ 2 2 [1, -3] _ (rdz_two w 1 (-3) t) (by intro v hv; simp at hv; omega) (by omega)
  rw [show lg [1, -3] = 3 from by decide +kernel, show enc [1, -3] 3 = [3, 0, 2] from by decide +kernel] at h
  refine h.mono ?_
  rintro e w' ⟨g, rfl, hO, hB⟩
  obtain ⟨ro, cr, hv, hR⟩ := rdz_of_owns hO
  obtain ⟨rfl, _, rfl⟩ := Value.slice.inj hv
  exact ⟨g, rfl, hR, ((Below.refl _ _).alloc (Nat.le_refl _) _).trans (hB.mono (by simp))⟩
theorem fx_len (w : World) : Calls Try.prog 14 #[.int .i64 (-2)] w fun e w' => e = .returned (.int .i64 2) ∧ w = w' := by
  have h := length_at (-2) w (by omega) (by omega)
  rwa [show ln (-2) = 2 from by decide +kernel] at h
set_option maxHeartbeats 1000000 in
theorem fixed_at (w : World) :
    Calls Try.prog 13 #[] w fun e w' => e = .returned (.bool true) ∧ Below w.heap.size w w' := by
  go_enter Try.func13, Try.ntmps13
  go_wp2_with (first
    | (go_at_call 20; refine (fx_short w _).mono ?_; rintro e w1 ⟨g, rfl, hR, hB1⟩; have hN1 := (Below.refl w1.heap.size w1).alloc (Nat.le_refl _) (.cells #[.int .i64 3, .int .i64 0, .int .i64 2] 3))
    | (go_at_call 15; refine (same_at _ _ _ _ _ _ [3, 0, 2] [3, 0, 2] true _ (hR.below (Nat.le_refl _) hN1) (rdz_three w1 3 0 2 3) ⟨fun _ => rfl, fun _ => rfl⟩).mono ?_; rintro e w2 ⟨rfl, hB2⟩)
    | (go_at_call 14; refine (fx_len _).mono ?_; rintro e w3 ⟨rfl, rfl⟩))
  go_ret
  have h2 := hB1.trans (hN1.mono hB1.size)
  exact ⟨rfl, h2.trans (hB2.mono h2.size)⟩
end Go.Proofs.Ytkanjgphmafjbaa.Wo
