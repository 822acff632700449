/- The program's set: Has, Count, List. -/
import Derived.Test.YtholafecbmhhhaaBitD
namespace Go.Proofs.Ytholafecbmhhhaa.Dg
open Go.RowKit
set_option linter.unusedVariables false

theorem and_bit (X r : Nat) : (X &&& 2 ^ r = 0) ↔ X.testBit r = false := by
  have hp := Nat.two_pow_pos r
  rw [nat_bit, Nat.testBit_eq_decide_div_mod_eq]
  have h2 : X / 2 ^ r % 2 = 0 ∨ X / 2 ^ r % 2 = 1 := by omega
  rcases h2 with h | h
  · rw [h]; simp
  · rw [h]; simp
theorem retB {a c : Bool} (h : a = c) : Ending.returned (.bool a) = .returned (.bool c) := by rw [h]
set_option maxHeartbeats 1000000 in
theorem has_raw (p g n m i q r : Nat) (C : List Nat) (w : World) (h : Bs w p g n m C) (hi : i < n) (hq : i / 64 = q) (hr : i % 64 = r) :
    Calls Try.prog 22 #[at_p p, .int .i64 i] w fun e w' => e = .returned (.bool ((C.getD q 0).testBit r)) ∧ ∃ k, w.drewN k = w' := by
  have hs := h.sz
  have hc := h.at_c
  have hn := h.small
  have hm := h.len
  have hqm : q < m := by omega
  have hx := h.cell q hqm
  have hlt := h.clt q
  have hp : 2 ^ r < 2 ^ 64 := Nat.pow_lt_pow_right (by omega) (by omega)
  have HO : Hid (bits .and .u64 ((C.getD q 0 : Nat) : Int) ((2 ^ r : Nat) : Int) = ((C.getD q 0 &&& 2 ^ r : Nat) : Int)) := u64_and_nat _ _ hlt hp
  have HT : Hid ((C.getD q 0 &&& 2 ^ r = 0) ↔ (C.getD q 0).testBit r = false) := and_bit _ _
  have hm64 : m ≤ 64 := by omega
  have hdiv : (i : Int) / 64 = (q : Int) := by omega
  have hwq : IntKind.i64.wrap (q : Int) = (q : Int) := by rw [IntKind.wrap_i64]; omega
  have HC := fun w => bitOf_at i w (by omega)
  rw [hr] at HC
  have HB : Hid (∀ k, Calls Try.prog 43 #[at_p p, .int .i64 i] (w.drewN k) fun e w' => e = .returned (.int .i64 0) ∧ w.drewN k = w') := fun k => by
    have := refuse_at p g n m C i (w.drewN k) (h.below (Nat.le_refl _) (below_drewN _ _ _))
    rwa [if_pos ⟨by omega, by omega⟩] at this
  have HC' : Hid (∀ k, Calls Try.prog 44 #[.int .i64 i] (w.drewN k) fun e w' => e = .returned (.int .u64 ((2 ^ r : Nat) : Int)) ∧ w.drewN k = w') := fun k => HC _
  generalize (C.getD q 0).testBit r = b at HT ⊢
  generalize C.getD q 0 = X at hx HO hlt HT
  generalize 2 ^ r = Y at HC HC' HO hp HT
  clear hm hq hr HC
  go_enter Try.func22, Try.ntmps22
  go_wp2
  go_quiet ((first | (go_at_call 43; exact quiet_same (HB.out _)) | (go_at_call 44; exact quiet_same (HC'.out _))))
  go_wp2
  go_ret
  refine ⟨retB ?_, _, rfl⟩
  rw [HO.out]
  cases b with
  | true =>
    have : X &&& Y ≠ 0 := fun e => by have := HT.out.1 e; cases this
    simp only [bne_iff_ne, ne_eq]
    omega
  | false => rw [HT.out.2 rfl]; rfl
theorem has_out (p g n m : Nat) (C : List Nat) (x : Int) (w : World) (h : Bs w p g n m C) (hx : ¬ (0 ≤ x ∧ x < n)) :
    Calls Try.prog 22 #[at_p p, .int .i64 x] w fun e w' => e = .returned (.bool false) ∧ ∃ k, w.drewN k = w' := by
  have HB : Hid (∀ k, Calls Try.prog 43 #[at_p p, .int .i64 x] (w.drewN k) fun e w' => e = .returned (.int .i64 2) ∧ w.drewN k = w') := fun k => by
    have := refuse_at p g n m C x (w.drewN k) (h.below (Nat.le_refl _) (below_drewN _ _ _))
    rwa [if_neg hx] at this
  clear hx
  go_enter Try.func22, Try.ntmps22
  go_wp2
  go_quiet ((first | (go_at_call 43; exact quiet_same (HB.out _)) | (go_at_call 44; fail)))
  go_wp2
  go_ret
  exact ⟨rfl, _, rfl⟩
theorem has_nil (x : Int) (w : World) :
    Calls Try.prog 22 #[.pointer none, .int .i64 x] w fun e w' => e = .returned (.bool false) ∧ ∃ k, w.drewN k = w' := by
  go_enter Try.func22, Try.ntmps22
  go_wp2
  go_quiet ((first | (go_at_call 43; exact quiet_same (refuse_nil x _)) | (go_at_call 44; fail)))
  go_wp2
  go_ret
  exact ⟨rfl, _, rfl⟩
theorem bhas_at (p g n m : Nat) (C : List Nat) (x : Int) (w : World) (h : Bs w p g n m C) :
    Calls Try.prog 22 #[at_p p, .int .i64 x] w fun e w' => e = .returned (.bool (decide (0 ≤ x) && bitAt C x.toNat)) ∧ ∃ k, w.drewN k = w' := by
  by_cases hx : 0 ≤ x ∧ x < n
  · obtain ⟨i, rfl⟩ : ∃ i : Nat, x = i := ⟨x.toNat, by omega⟩
    refine (has_raw p g n m i _ _ C w h (by omega) rfl rfl).mono ?_
    rintro e w' ⟨rfl, h2⟩
    exact ⟨retB (by rw [decide_eq_true hx.1]; rfl), h2⟩
  · refine (has_out p g n m C x w h hx).mono ?_
    rintro e w' ⟨rfl, h2⟩
    refine ⟨retB ?_, h2⟩
    by_cases h0 : 0 ≤ x
    · rw [h.hi x.toNat (by omega), Bool.and_false]
    · rw [decide_eq_false h0]; rfl

/-- how many are in the first k cells -/
def cnt (C : List Nat) : Nat → Nat
  | 0 => 0
  | k + 1 => cnt C k + ones 64 (C.getD k 0)
theorem cnt_le (C : List Nat) (k : Nat) : cnt C k ≤ 64 * k := by
  induction k with
  | zero => exact Nat.le_refl _
  | succ k ih => have := ones_le 64 (C.getD k 0); rw [cnt]; omega
set_option maxHeartbeats 1000000 in
theorem count_raw (p g n m : Nat) (C : List Nat) (w : World) (h : Bs w p g n m C) :
    Calls Try.prog 42 #[at_p p] w fun e w' => e = .returned (.int .i64 ((cnt C m : Nat) : Int)) ∧ w = w' := by
  have hc := h.at_c
  have hn := h.small
  have hm64 : m ≤ 64 := by have := h.len; omega
  go_enter Try.func42, Try.ntmps42
  go_wp2
  go_loop [3, 13] (fun c i => ∃ k : Nat, k ≤ m ∧ i = .int .i64 k ∧ c = .int .i64 ((cnt C k : Nat) : Int)) (fun _ i => m - (intOf i).toNat)
  case atStart => exact ⟨0, Nat.zero_le _, rfl, rfl⟩
  case round =>
    obtain ⟨k, hk, rfl, rfl⟩ := hrel
    by_cases hlt : k < m
    · have hx := h.cell k hlt
      have hcl := h.clt k
      have hcn := cnt_le C k
      have HS : Hid (cnt C (k + 1) = cnt C k + ones 64 (C.getD k 0)) := rfl
      have ho := ones_le 64 (C.getD k 0)
      have HC := fun w => ones_at (C.getD k 0) w hcl
      generalize ones 64 (C.getD k 0) = o at HS ho HC
      generalize C.getD k 0 = X at hx HC hcl
      generalize cnt C k = c at hcn HS ⊢
      go_wp2_with (go_at_call 57; refine (HC _).mono ?_; rintro e w' ⟨rfl, rfl⟩)
      go_round
      case rel => exact ⟨k + 1, by omega, by go_num, by rw [HS.out]; go_num⟩
      case measure => simp [intOf]; omega
    · obtain rfl : k = m := by omega
      go_wp2
      go_ret
      exact ⟨rfl, rfl⟩
theorem count_nil (w : World) :
    Calls Try.prog 42 #[.pointer none] w fun e w' => e = .returned (.int .i64 0) ∧ w = w' := by
  go_enter Try.func42, Try.ntmps42
  go_wp2
  go_ret
  exact ⟨rfl, rfl⟩

/-- the bools of the set -/
def bools (C : List Nat) (n : Nat) : List Bool := (List.range n).map (bitAt C)
theorem bools_length (C : List Nat) (n : Nat) : (bools C n).length = n := by simp [bools]
theorem bools_getD (C : List Nat) (n i : Nat) (hi : i < n) : (bools C n).getD i false = bitAt C i := by
  rw [bools, List.getD_eq_getElem?_getD, List.getElem?_map, List.getElem?_range hi]; rfl
set_option maxHeartbeats 1000000 in
theorem blist_at (p g n m : Nat) (C : List Nat) (w : World) (h : Bs w p g n m C) :
    Calls Try.prog 29 #[at_p p] w fun e w' => ∃ v, e = .returned v ∧ w'.ownsRow w.heap.size 3 1 v (lst (bools C n) n).length (cellsI (lst (bools C n) n)) ∧ Below w.heap.size w w' := by
  have hn := h.small
  go_enter Try.func29, Try.ntmps29
  go_wp2_with (go_at_call 47; refine (size_at p g n m C _ (h.below (Nat.le_refl _) ((Below.refl _ _).alloc (Nat.le_refl _) _))).mono ?_; rintro e w' ⟨rfl, rfl⟩)
  go_loopw [3, 8] (fun v i wr => ∃ k : Nat, k ≤ n ∧ i = .int .i64 k ∧ wr.ownsRow w.heap.size 3 1 v (lst (bools C n) k).length (cellsI (lst (bools C n) k)) ∧ Below w.heap.size w wr) (fun _ i _ => n - (intOf i).toNat)
  case atStart => exact ⟨0, Nat.zero_le _, rfl, World.ownsRow_made _ #[] 0 (Nat.le_refl _) (Nat.zero_le _) (by simp), (Below.refl _ _).alloc (Nat.le_refl _) _⟩
  case round =>
    obtain ⟨k, hk, rfl, hown, hnx⟩ := hrel
    by_cases hlt : k < n
    · have hB : Bs wr p g n m C := h.below (Nat.le_refl _) hnx
      have hll := lst_length (bools C n) k
      have HC := bhas_at p g n m C k wr hB
      rw [decide_eq_true (show (0 : Int) ≤ (k : Int) by omega), Bool.true_and, Int.toNat_natCast, ← bools_getD C n k hlt] at HC
      cases hin : (bools C n).getD k false with
      | true =>
        rw [hin] at HC
        have HS : Hid (lst (bools C n) (k + 1) = lst (bools C n) k ++ [k]) := by show _ = _; rw [lst, if_pos hin]
        clear hin
        obtain ⟨O, hO⟩ : ∃ O, lst (bools C n) k = O := ⟨_, rfl⟩
        rw [hO] at hown HS hll
        clear hO
        go_wp2_with (first
          | (go_at_call 22; refine HC.mono ?_; rintro e w' ⟨rfl, kk, rfl⟩; have hnk := hnx.trans (below_drewN _ wr kk); have hok := owns_frame (w' := wr.drewN kk) hown (fun g _ => (below_drewN (g + 1) wr kk).block g (Nat.lt_succ_self g)))
          | (at_builtin; refine wp_pushI w _ w.heap.size w.heap.size rfl (.tmp 14) (.tmp 16) rfl _ O.length O rfl (wr.drewN kk).heap.size k _ rfl (hok.alloc _) (cell_new1 _ _ _) rfl (size_new1 hnk.size _) (by omega) (hnk.alloc hnk.size _) (Nat.le_refl _) ?_; intro v' w2 hown' hnx'))
        go_roundw
        case rel =>
          go_light
          exact ⟨k + 1, by omega, by go_num, by rw [HS.out, List.length_append]; exact hown', hnx'⟩
        case measure => simp [intOf]; omega
      | false =>
        rw [hin] at HC
        have HS : Hid (lst (bools C n) (k + 1) = lst (bools C n) k) := by show _ = _; rw [lst, hin]; rfl
        clear hin
        go_wp2_with (go_at_call 22; refine HC.mono ?_; rintro e w' ⟨rfl, kk, rfl⟩; have hnk := hnx.trans (below_drewN _ wr kk); have hok := owns_frame (w' := wr.drewN kk) hown (fun g _ => (below_drewN (g + 1) wr kk).block g (Nat.lt_succ_self g)))
        go_roundw
        case rel => exact ⟨k + 1, by omega, by go_num, by rw [HS.out]; exact hok, hnk⟩
        case measure => simp [intOf]; omega
    · obtain rfl : k = n := by omega
      go_wp2
      go_ret
      exact ⟨_, rfl, hown, hnx⟩
theorem blist_nil (w : World) :
    Calls Try.prog 29 #[.pointer none] w fun e w' => ∃ a c, e = .returned (.slice a 0 c) ∧ Below w.heap.size w w' := by
  go_enter Try.func29, Try.ntmps29
  go_wp2_with (go_at_call 47; refine (size_nil _).mono ?_; rintro e w' ⟨rfl, rfl⟩)
  go_loop [3, 8] (fun v i => v = .slice (some ⟨w.heap.size, 0, none⟩) 0 0 ∧ i = .int .i64 0) (fun _ _ => 0)
  case atStart => exact ⟨rfl, rfl⟩
  case round =>
    obtain ⟨rfl, rfl⟩ := hrel
    go_wp2
    go_ret
    exact ⟨⟨some ⟨w.heap.size, 0, none⟩, 0, rfl⟩, (Below.refl _ _).alloc (Nat.le_refl _) _⟩
end Go.Proofs.Ytholafecbmhhhaa.Dg
