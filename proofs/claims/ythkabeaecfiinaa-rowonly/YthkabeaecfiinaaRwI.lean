/- Unpack, both ways. -/
import Derived.Test.YthkabeaecfiinaaRwH
namespace Go.Proofs.Ythkabeaecfiinaa.Ro
open Go.RowKit
set_option linter.unusedVariables false

theorem unpack_far (v : Value) (t : Int) (w : World) (ht : t < 0 ∨ 6 < t) :
    Calls Try.prog 14 #[v, .int .i64 t] w fun e w' => e = .returned (.tuple #[.slice none 0 0, .int .i64 150]) ∧ w = w' := by
  rcases ht with h | h
  · go_enter Try.func14, Try.ntmps14
    go_wp2
    go_ret2
    exact ⟨rfl, rfl⟩
  · have h' : ¬ t < 0 := by omega
    go_enter Try.func14, Try.ntmps14
    go_wp2
    go_ret2
    exact ⟨rfl, rfl⟩
theorem runpack_far (v : Value) (t : Int) (w : World) (ht : t < 0 ∨ 6 < t) :
    Calls Try.prog 15 #[v, .int .i64 t] w fun e w' => e = .returned (.tuple #[.slice none 0 0, .int .i64 150]) ∧ w = w' := by
  rcases ht with h | h
  · go_enter Try.func15, Try.ntmps15
    go_wp2
    go_ret2
    exact ⟨rfl, rfl⟩
  · have h' : ¬ t < 0 := by omega
    go_enter Try.func15, Try.ntmps15
    go_wp2
    go_ret2
    exact ⟨rfl, rfl⟩
/-- the cubes are of no row -/
def NoUnp (cs : List Cb) (k : Nat) : Prop := ¬ ∃ zs, Unp cs k zs
/-- zs with its first k numbers those of us -/
def front (us zs : List Int) (k : Nat) : List Int := us.take k ++ zs.drop k
theorem front_set (us zs : List Int) (k : Nat) (h : us.length = zs.length) (hk : k < us.length) : (front us zs k).set k (us.getD k 0) = front us zs (k + 1) := by
  unfold front
  rw [List.set_append_right _ _ (by rw [List.length_take]; omega), List.length_take, Nat.min_eq_left (by omega), Nat.sub_self, List.drop_eq_getElem_cons (show k < zs.length by omega), List.set_cons_zero, List.take_succ_eq_append_getElem hk, getD_of hk, List.append_assoc, List.singleton_append]
theorem front_zero (us zs : List Int) : front us zs 0 = zs := by simp [front]
theorem front_all (us zs : List Int) (n : Nat) (h : us.length = n) (h' : zs.length = n) : front us zs n = us := by
  unfold front; rw [List.take_of_length_le (by omega), List.drop_of_length_le (by omega), List.append_nil]
theorem look_iff {cs : List Cb} {k : Nat} (hk : k ≤ 6) {zs : List Int} (h : Unp cs k zs) (j : Nat) (hj : j < 2 ^ k) : look cs (j : Nat) ≠ none := by
  rw [h.some hk j hj]; intro e; cases e
set_option maxHeartbeats 2000000 in
theorem unpack_any (ao : Option Addr) (n c k : Nat) (cs : List Cb) (w : World) (h : RdC w ao n c cs) (hk : k ≤ 6) :
    Calls Try.prog 14 #[.slice ao n c, .int .i64 (k : Nat)] w fun e w' => (∃ (zs : List Int) (a' : Option Addr) (c' : Nat), Unp cs k zs ∧ e = .returned (.tuple #[.slice a' (2 ^ k) c', .int .i64 0]) ∧ w'.ownsRow w.heap.size 3 1 (.slice a' (2 ^ k) c') (2 ^ k) (cellsZ zs) ∧ Below w.heap.size w w') ∨
      (NoUnp cs k ∧ e = .returned (.tuple #[.slice none 0 0, .int .i64 3]) ∧ Below w.heap.size w w') := by
  obtain ⟨ii, hi, hi0, hi1, hi2⟩ := info_parts Try.infoInt
  have hcn := h.lecap
  have hcx := h.lemax
  have k0 : ¬ ((k : Int) < 0) := by omega
  have k6 : ¬ (6 < (k : Int)) := by omega
  have hp := pow_le hk
  have HUL : Hid ((rowOf cs k).length = 2 ^ k) := rowOf_len cs k
  have HUG : Hid (∀ l, l < 2 ^ k → (rowOf cs k).getD l 0 = (look cs (l : Nat)).getD 0) := fun l hl => rowOf_get cs k l hl
  have HLK : Hid ((∃ zs, Unp cs k zs) → ∀ j, j < 2 ^ k → look cs (j : Nat) ≠ none) := fun ⟨zs, hz⟩ j hj => look_iff hk hz j hj
  have HLE : Hid ((∃ zs, Unp cs k zs) → n ≤ 2 ^ k) := fun ⟨zs, hz⟩ => by rw [← h.eqlen]; exact hz.le
  have HRW : Hid (∀ zs, Unp cs k zs → zs = rowOf cs k) := fun zs hz => hz.row hk
  have HUN : Hid ((∃ k', IsRow (rowOf cs k) k') → cb0 k (rowOf cs k) = cs → Unp cs k (rowOf cs k)) := fun ⟨_, _, _, g⟩ e => ⟨rowOf_len cs k, g, e⟩
  have HIR : Hid ((∃ k', IsRow (rowOf cs k) k') → IsRow (rowOf cs k) k) := fun ⟨_, _, _, g⟩ => ⟨hk, rowOf_len cs k, g⟩
  have HNR : Hid ((∃ zs, Unp cs k zs) → (∃ k', IsRow (rowOf cs k) k')) := fun ⟨zs, hz⟩ => ⟨k, hk, rowOf_len cs k, by rw [← hz.row hk]; exact hz.pos⟩
  have HCU : Hid ((∃ zs, Unp cs k zs) → cb0 k (rowOf cs k) = cs) := fun ⟨zs, hz⟩ => by rw [← hz.row hk]; exact hz.cubes
  have hw : wrap64 ((2 : Int) ^ k) = ((2 ^ k : Nat) : Int) := by
    have e : ((2 : Int) ^ k) = ((2 ^ k : Nat) : Int) := by simp
    rw [e]
    have := hp.2
    unfold wrap64; omega
  obtain ⟨us, hus⟩ : ∃ us, rowOf cs k = us := ⟨_, rfl⟩
  obtain ⟨N, hN⟩ : ∃ N, 2 ^ k = N := ⟨_, rfl⟩
  rw [hus] at HUL HUG HRW HUN HIR HNR HCU
  rw [hN] at HUL HUG HLK HLE hw hp ⊢
  clear hN hus
  have hcap : N * ii.bytes ≤ 1000000 := by rw [hi2]; omega
  by_cases hn : n ≤ N
  · go_enter Try.func14, Try.ntmps14
    go_wp2_with (at_make; refine wpList_make_full _ rfl _ _ 22 rfl w.heap.size 3 ii (.int .i64 0) 1 Try.underlying22 hi hi0 hi1 _ _ _ _ N rfl rfl hw hw (by rw [hi2]; omega) (by unfold maxLen; omega) (Nat.le_refl _) ?_; intro w2 hown2 hg2; rw [made_zeros] at hown2; have hB2 := (Below.refl w.heap.size w).grown hg2 (Nat.le_refl _) (fun k h => by cases h); clear hg2)
    go_loopw [28] (fun i wr => ∃ j : Nat, j ≤ N ∧ i = .int .i64 j ∧ Hid (∀ a, a < j → look cs (a : Nat) ≠ none) ∧ wr.ownsRow w.heap.size 3 1 (.slice (some ⟨w.heap.size, 0, none⟩) N N) N (cellsZ (front us (List.replicate N 0) j)) ∧ Below w.heap.size w wr) (fun i _ => N - (intOf i).toNat)
    case atStart => exact ⟨0, Nat.zero_le _, rfl, fun a ha => absurd ha (by omega), by rw [front_zero]; exact hown2, hB2⟩
    case round =>
      clear hown2 hB2
      obtain ⟨j, hj, rfl, hall, hown, hnx⟩ := hrel
      by_cases hlt : j < N
      · have HA : Hid (Calls Try.prog 16 #[.slice ao n c, .int .i64 (j : Nat)] wr fun e w' => e = .returned (.tuple #[.int .i64 ((look cs (j : Nat)).getD 0), .bool (look cs (j : Nat)).isSome]) ∧ Below wr.heap.size wr w') := at_at ao n c cs j wr (h.below (Nat.le_refl _) hnx)
        have hsz : w.heap.size ≤ wr.heap.size := hnx.size
        cases hq : look cs (j : Nat) with
        | none =>
          have HE : Hid (¬ ∃ zs, Unp cs k zs) := fun e => HLK.out e j hlt hq
          rw [hq] at HA
          have HA' : Hid (Calls Try.prog 16 #[.slice ao n c, .int .i64 (j : Nat)] wr fun e w' => e = .returned (.tuple #[.int .i64 0, .bool false]) ∧ Below wr.heap.size wr w') := HA
          clear HA hq
          go_wp2_with (go_at_call 16; refine HA'.out.mono ?_; rintro e w3 ⟨rfl, hB3⟩)
          go_ret2
          exact .inr ⟨HE.out, rfl, bt2 hnx hB3⟩
        | some q =>
          have HQ : Hid (us.getD j 0 = q) := by show _ = _; rw [HUG.out j hlt, hq]; rfl
          have HS : Hid (look cs (j : Nat) = some q) := hq
          rw [hq] at HA
          have HA' : Hid (Calls Try.prog 16 #[.slice ao n c, .int .i64 (j : Nat)] wr fun e w' => e = .returned (.tuple #[.int .i64 q, .bool true]) ∧ Below wr.heap.size wr w') := HA
          clear HA hq
          go_wp2_with (go_at_call 16; refine HA'.out.mono ?_; rintro e w3 ⟨rfl, hB3⟩; have hO3 := own_keep hown hB3; have hf3 := hO3.frozenAt j; have hc3 := ownsZ_cell hO3 j hlt; have hO4 := (hO3.stored j (.int .i64 q)).1; have hnx3 := bt2 hnx hB3)
          go_roundw
          case rel =>
            refine ⟨j + 1, by omega, by go_num, fun a ha => ?_, ?_, hnx3.setCell (p := ⟨w.heap.size, j, none⟩) (Nat.le_refl _) _⟩
            · rcases Nat.lt_succ_iff_lt_or_eq.1 ha with ha | rfl
              · exact hall.out a ha
              · rw [HS.out]; intro e; cases e
            · rw [cells_set, ← HQ.out, front_set us _ j (by rw [HUL.out, List.length_replicate]) (by rw [HUL.out]; exact hlt)] at hO4
              rw [HQ.out] at hO4
              exact hO4
          case measure => simp [intOf]; omega
      · obtain rfl : j = N := by omega
        rw [front_all us _ j HUL.out (by rw [List.length_replicate])] at hown
        have hR := rdz_of_owns hown
        obtain ⟨ro, cr, e1, hR⟩ := hR
        obtain ⟨rfl, -, rfl⟩ := Value.slice.inj e1
        by_cases hr : ∃ k', IsRow us k'
        · have HR : Hid (IsRow us k) := HIR.out hr
          by_cases he : cb0 k us = cs
          · have HE : Hid (cb0 k us = cs) := he
            have HU : Hid (Unp cs k us) := HUN.out hr he
            clear hr he
            go_wp2_with (first
              | (go_at_call 9; refine (pack_yes _ _ _ k us _ hR HR.out).mono ?_; rintro e w3 ⟨v3, rfl, hO3, hB3⟩; obtain ⟨a3, c3, rfl, hR3⟩ := rdc_of_owns hO3; have hW3 := bt2 hnx hB3; have hown3 := own_keep hown hB3)
              | (go_at_call 24; refine (eqc_at _ _ _ _ _ _ _ cs true _ hR3 (h.below (Nat.le_refl _) hW3) ⟨fun _ => HE.out, fun _ => rfl⟩).mono ?_; rintro e w4 ⟨rfl, hB4⟩))
            go_ret2
            exact .inl ⟨us, _, _, HU.out, rfl, own_keep hown3 hB4, bt2 hW3 hB4⟩
          · have HE : Hid (¬ cb0 k us = cs) := he
            have HU : Hid (¬ ∃ zs, Unp cs k zs) := fun e => he (HCU.out e)
            clear hr he
            go_wp2_with (first
              | (go_at_call 9; refine (pack_yes _ _ _ k us _ hR HR.out).mono ?_; rintro e w3 ⟨v3, rfl, hO3, hB3⟩; obtain ⟨a3, c3, rfl, hR3⟩ := rdc_of_owns hO3; have hW3 := bt2 hnx hB3)
              | (go_at_call 24; refine (eqc_at _ _ _ _ _ _ _ cs false _ hR3 (h.below (Nat.le_refl _) hW3) ⟨fun e => (by cases e), fun e => absurd e HE.out⟩).mono ?_; rintro e w4 ⟨rfl, hB4⟩))
            go_ret2
            exact .inr ⟨HU.out, rfl, bt2 hW3 hB4⟩
        · have HU : Hid (¬ ∃ zs, Unp cs k zs) := fun e => hr (HNR.out e)
          have HR : Hid (¬ ∃ k', IsRow us k') := hr
          clear hr
          go_wp2_with (go_at_call 9; refine (pack_no _ _ _ us _ hR HR.out).mono ?_; rintro e w3 ⟨v3, rfl, hO3, hB3⟩)
          go_ret2
          exact .inr ⟨HU.out, rfl, bt2 hnx hB3⟩
  · have HE : Hid (¬ ∃ zs, Unp cs k zs) := fun e => hn (HLE.out e)
    have hn' : (N : Int) < (n : Int) := by omega
    go_enter Try.func14, Try.ntmps14
    go_wp2_with (at_make; refine wpList_make_full _ rfl _ _ 22 rfl w.heap.size 3 ii (.int .i64 0) 1 Try.underlying22 hi hi0 hi1 _ _ _ _ N rfl rfl hw hw (by rw [hi2]; omega) (by unfold maxLen; omega) (Nat.le_refl _) ?_; intro w2 hown2 hg2; have hB2 := (Below.refl w.heap.size w).grown hg2 (Nat.le_refl _) (fun k h => by cases h); clear hg2)
    go_ret2
    exact .inr ⟨HE.out, rfl, hB2⟩
set_option maxHeartbeats 2000000 in
theorem runpack_any (ao : Option Addr) (n c k : Nat) (cs : List Cb) (w : World) (h : RdC w ao n c cs) (hk : k ≤ 6) :
    Calls Try.prog 15 #[.slice ao n c, .int .i64 (k : Nat)] w fun e w' => (∃ (zs : List Int) (a' : Option Addr) (c' : Nat), Unp cs k zs ∧ e = .returned (.tuple #[.slice a' (2 ^ k) c', .int .i64 0]) ∧ w'.ownsRow w.heap.size 3 1 (.slice a' (2 ^ k) c') (2 ^ k) (cellsZ zs) ∧ Below w.heap.size w w') ∨
      (NoUnp cs k ∧ e = .returned (.tuple #[.slice none 0 0, .int .i64 3]) ∧ Below w.heap.size w w') := by
  have hcn := h.lecap
  have hcx := h.lemax
  have HCL : Hid (cs.length = n) := h.eqlen
  have k0 : ¬ ((k : Int) < 0) := by omega
  have k6 : ¬ (6 < (k : Int)) := by omega
  have hp := pow_le hk
  have HUL : Hid ((rowOf cs k).length = 2 ^ k) := rowOf_len cs k
  have HUG : Hid (∀ l, l < 2 ^ k → (rowOf cs k).getD l 0 = (look cs (l : Nat)).getD 0) := fun l hl => rowOf_get cs k l hl
  have HLK : Hid ((∃ zs, Unp cs k zs) → ∀ j, j < 2 ^ k → look cs (j : Nat) ≠ none) := fun ⟨zs, hz⟩ j hj => look_iff hk hz j hj
  have HLE : Hid ((∃ zs, Unp cs k zs) → n ≤ 2 ^ k) := fun ⟨zs, hz⟩ => by rw [← h.eqlen]; exact hz.le
  have HUN : Hid ((∀ z ∈ rowOf cs k, 0 ≤ z) → cb0 k (rowOf cs k) = cs → Unp cs k (rowOf cs k)) := fun g e => ⟨rowOf_len cs k, g, e⟩
  have HNN : Hid ((∃ zs, Unp cs k zs) → ∀ z ∈ rowOf cs k, 0 ≤ z) := fun ⟨zs, hz⟩ => by rw [← hz.row hk]; exact hz.pos
  have HCU : Hid ((∃ zs, Unp cs k zs) → cb0 k (rowOf cs k) = cs) := fun ⟨zs, hz⟩ => by rw [← hz.row hk]; exact hz.cubes
  have HCB : Hid (∀ ao' c' w, RdZ w ao' (2 ^ k) c' (rowOf cs k) → Calls Try.prog 23 #[.slice ao' (2 ^ k) c', .int .i64 0, .int .i64 0] w fun e w' => ∃ v, e = .returned v ∧ w'.ownsRow w.heap.size 35 3 v (cb0 k (rowOf cs k)).length (cellsC (cb0 k (rowOf cs k))) ∧ Below w.heap.size w w') :=
    fun ao' c' w hz => by have := rcubes_at k ao' (2 ^ k) c' (rowOf cs k) 0 0 w rfl hk (by omega) (by omega) hz; rw [cb_zero] at this; exact this
  have HCM : Hid ((cb0 k (rowOf cs k)).length ≤ 64) := Nat.le_trans (cb0_len k _ (rowOf_len cs k)) hp.2
  have HP2 : Hid (∀ i, i < k → 2 ^ (i + 1) = 2 ^ i * 2 ∧ 2 ^ i ≤ 64) := fun i hi => ⟨Nat.pow_succ .., Nat.pow_le_pow_right (n := 2) (j := 6) (by omega) (by omega)⟩
  obtain ⟨us, hus⟩ : ∃ us, rowOf cs k = us := ⟨_, rfl⟩
  obtain ⟨N, hN⟩ : ∃ N, 2 ^ k = N := ⟨_, rfl⟩
  have HN : Hid (2 ^ k = N) := hN
  rw [hus] at HUL HUG HUN HNN HCU HCB HCM
  rw [hN] at HUL HUG HLK HLE hp HCB ⊢
  obtain ⟨D, hD⟩ : ∃ D, cb0 k us = D := ⟨_, rfl⟩
  rw [hD] at HUN HCU HCB HCM
  clear hN hus hD
  go_enter Try.func15, Try.ntmps15
  go_wp2
  go_loopw [6, 7] (fun p i wr => ∃ j : Nat, j ≤ k ∧ i = .int .i64 j ∧ p = .int .i64 ((2 ^ j : Nat) : Int) ∧ w = wr) (fun _ i _ => k - (intOf i).toNat)
  case atStart => exact ⟨0, Nat.zero_le _, rfl, rfl, rfl⟩
  case round =>
    obtain ⟨j, hj, rfl, rfl, rfl⟩ := hrel
    by_cases hlt : j < k
    · obtain ⟨e1, e2⟩ := HP2.out j hlt
      have HE : Hid (2 ^ (j + 1) = 2 ^ j * 2) := e1
      obtain ⟨q, hq⟩ : ∃ q, 2 ^ j = q := ⟨_, rfl⟩
      rw [hq] at e2
      have HQ : Hid (2 ^ j = q) := hq
      rw [hq]
      clear e1 hq
      go_wp2
      go_roundw
      case rel => exact ⟨j + 1, by omega, by go_num, by rw [HE.out, HQ.out]; go_num, trivial⟩
      case measure => simp [intOf]; omega
    · obtain rfl : j = k := by omega
      rw [HN.out]
      by_cases hn : n ≤ N
      · have hn1 : ¬ ((N : Int) < (n : Int)) := by omega
        go_wp2
        go_loopw [8, 9] (fun o i wr => ∃ a : Nat, a ≤ N ∧ i = .int .i64 a ∧ Hid (∀ b, b < a → look cs (b : Nat) ≠ none ∧ 0 ≤ us.getD b 0) ∧ wr.ownsRow w.heap.size 3 1 o a (cellsZ (us.take a)) ∧ Below w.heap.size w wr) (fun _ i _ => N - (intOf i).toNat)
        case atStart => exact ⟨0, Nat.zero_le _, rfl, fun a ha => absurd ha (by omega), by simp; exact World.ownsRow_nil _ _ _ _, Below.refl _ _⟩
        case round =>
          obtain ⟨a, ha, rfl, hall, hown, hnx⟩ := hrel
          by_cases hla : a < N
          · have HA : Hid (Calls Try.prog 17 #[.slice ao n c, .int .i64 (a : Nat)] wr fun e w' => e = .returned (.tuple #[.int .i64 ((look cs (a : Nat)).getD 0), .bool (look cs (a : Nat)).isSome]) ∧ Below wr.heap.size wr w') := rat_at ao n c cs a wr (h.below (Nat.le_refl _) hnx)
            have hsz : w.heap.size ≤ wr.heap.size := hnx.size
            cases hq : look cs (a : Nat) with
            | none =>
              have HE : Hid (¬ ∃ zs, Unp cs j zs) := fun e => HLK.out e a hla hq
              rw [hq] at HA
              have HA' : Hid (Calls Try.prog 17 #[.slice ao n c, .int .i64 (a : Nat)] wr fun e w' => e = .returned (.tuple #[.int .i64 0, .bool false]) ∧ Below wr.heap.size wr w') := HA
              clear HA hq
              go_wp2_with (go_at_call 17; refine HA'.out.mono ?_; rintro e w3 ⟨rfl, hB3⟩)
              go_ret2
              exact .inr ⟨HE.out, rfl, bt2 hnx hB3⟩
            | some q =>
              have HQ : Hid (us.getD a 0 = q) := by show _ = _; rw [HUG.out a hla, hq]; rfl
              have HS : Hid (look cs (a : Nat) = some q) := hq
              rw [hq] at HA
              have HA' : Hid (Calls Try.prog 17 #[.slice ao n c, .int .i64 (a : Nat)] wr fun e w' => e = .returned (.tuple #[.int .i64 q, .bool true]) ∧ Below wr.heap.size wr w') := HA
              clear HA hq
              by_cases hneg : q < 0
              · have HE : Hid (¬ ∃ zs, Unp cs j zs) := fun e => by
                  have := (mem_getD HUL.out).2 (HNN.out e) a hla
                  rw [HQ.out] at this
                  omega
                go_wp2_with (go_at_call 17; refine HA'.out.mono ?_; rintro e w3 ⟨rfl, hB3⟩)
                go_ret2
                exact .inr ⟨HE.out, rfl, bt2 hnx hB3⟩
              · have HT : Hid (us.take (a + 1) = us.take a ++ [q]) := by
                  show _ = _
                  rw [take_snoc us a (by rw [HUL.out]; exact hla), HQ.out]
                go_wp2_with (first
                  | (go_at_call 17; refine HA'.out.mono ?_; rintro e w3 ⟨rfl, hB3⟩; have hO3 := own_keep hown hB3; have hnx3 := bt2 hnx hB3)
                  | (at_builtin; refine wp_pushZ w _ w.heap.size w.heap.size rfl (.tmp 48) (.tmp 50) rfl _ a (us.take a) rfl w3.heap.size q rfl (hO3.alloc _) (cell_new1 _ _ _) (size_new1 hnx3.size _) (by omega) (hnx3.alloc hnx3.size _) (Nat.le_refl _) ?_; intro v' w4 hown' hnx'))
                go_roundw
                case rel =>
                  refine ⟨a + 1, by omega, by go_num, fun b hb => ?_, by rw [HT.out]; exact hown', hnx'⟩
                  rcases Nat.lt_succ_iff_lt_or_eq.1 hb with hb | rfl
                  · exact hall.out b hb
                  · exact ⟨by rw [HS.out]; exact fun e => (by cases e), by rw [HQ.out]; omega⟩
                case measure => simp [intOf]; omega
          · obtain rfl : a = N := by omega
            have HPos : Hid (∀ z ∈ us, 0 ≤ z) := (mem_getD HUL.out).1 (fun b hb => (hall.out b hb).2)
            rw [List.take_of_length_le (by rw [HUL.out]; omega)] at hown
            obtain ⟨ro, cr, rfl, hR⟩ := rdz_of_owns hown
            by_cases hlD : D.length = n
            · go_wp2_with (go_at_call 23; refine (HCB.out _ _ _ hR).mono ?_; rintro e w3 ⟨v3, rfl, hO3, hB3⟩; obtain ⟨a3, c3, rfl, hR3⟩ := rdc_of_owns hO3; have hW3 := bt2 hnx hB3; have hown3 := own_keep hown hB3; have hC3 := h.below (Nat.le_refl _) hW3; have hd3 := hR3.lecap; have hx3 := hR3.lemax)
              go_loopw [13] (fun i wr2 => ∃ b : Nat, b ≤ n ∧ i = .int .i64 b ∧ Hid (∀ d, d < b → D.getD d default = cs.getD d default) ∧ Below w3.heap.size w3 wr2) (fun i _ => n - (intOf i).toNat)
              case atStart => exact ⟨0, Nat.zero_le _, rfl, fun d hd => absurd hd (by omega), Below.refl _ _⟩
              case round =>
                obtain ⟨b, hb, rfl, hal2, hnx2⟩ := hrel
                by_cases hlb : b < n
                · obtain ⟨g, o, rfl, hg, b0, b1, b2⟩ := (hR3.below (Nat.le_refl _) hnx2).cell b (by omega)
                  obtain ⟨g', o', rfl, hg', c0, c1, c2⟩ := (hC3.below (Nat.le_refl _) hnx2).cell b hlb
                  have hnd := fun q => below_drewn hnx2 q
                  by_cases he : D.getD b default = cs.getD b default
                  · have HE : Hid (D.getD b default = cs.getD b default) := he
                    rw [he] at b0 b1 b2
                    clear he
                    generalize cs.getD b default = x at b0 b1 b2 c0 c1 c2
                    obtain ⟨xm, xb, xt⟩ := x
                    dsimp only at b0 b1 b2 c0 c1 c2
                    have hbD : (b : Int) < (D.length : Int) := by omega
                    go_wp2
                    go_quiet (fail)
                    go_wp2
                    go_roundw
                    case rel =>
                      refine ⟨b + 1, by omega, by go_num, fun d hd => ?_, hnd _⟩
                      rcases Nat.lt_succ_iff_lt_or_eq.1 hd with hd | rfl
                      · exact hal2.out d hd
                      · exact HE.out
                    case measure => simp [intOf]; omega
                  · have HU : Hid (¬ ∃ zs, Unp cs j zs) := fun e => he (by rw [HCU.out e])
                    generalize D.getD b default = x at b0 b1 b2 he
                    generalize cs.getD b default = y at c0 c1 c2 he
                    obtain ⟨xm, xb, xt⟩ := x
                    obtain ⟨ym, yb, yt⟩ := y
                    dsimp only at b0 b1 b2 c0 c1 c2
                    have hbD : (b : Int) < (D.length : Int) := by omega
                    have hend := fun q => bt2 hW3 (hnd q)
                    by_cases h0 : xm = ym
                    · subst h0
                      by_cases h1 : xb = yb
                      · subst h1
                        have h2 : ¬ xt = yt := fun e => he (by rw [e])
                        have h2' : (xt == yt) = false := beq_false_of_ne h2
                        go_wp2
                        go_quiet (fail)
                        go_wp2
                        go_ret2
                        exact .inr ⟨HU.out, rfl, hend _⟩
                      · have h2' : (xb == yb) = false := beq_false_of_ne h1
                        go_wp2
                        go_quiet (fail)
                        go_wp2
                        go_ret2
                        exact .inr ⟨HU.out, rfl, hend _⟩
                    · have h2' : (xm == ym) = false := beq_false_of_ne h0
                      go_wp2
                      go_quiet (fail)
                      go_wp2
                      go_ret2
                      exact .inr ⟨HU.out, rfl, hend _⟩
                · obtain rfl : b = n := by omega
                  have HU : Hid (Unp cs j us) := HUN.out HPos.out (listC_ext hlD HCL.out hal2.out)
                  go_wp2
                  go_ret2
                  exact .inl ⟨us, _, _, HU.out, rfl, own_keep hown3 hnx2, bt2 hW3 hnx2⟩
            · have HU : Hid (¬ ∃ zs, Unp cs j zs) := fun e => hlD (by rw [HCU.out e]; exact HCL.out)
              have hlD' : ¬ ((D.length : Int) = (n : Int)) := by omega
              go_wp2_with (go_at_call 23; refine (HCB.out _ _ _ hR).mono ?_; rintro e w3 ⟨v3, rfl, hO3, hB3⟩; obtain ⟨a3, c3, rfl, hR3⟩ := rdc_of_owns hO3; have hW3 := bt2 hnx hB3)
              go_ret2
              exact .inr ⟨HU.out, rfl, hW3⟩
      · have HE : Hid (¬ ∃ zs, Unp cs j zs) := fun e => hn (HLE.out e)
        have hn' : (N : Int) < (n : Int) := by omega
        go_wp2
        go_ret2
        exact .inr ⟨HE.out, rfl, Below.refl _ _⟩
end Go.Proofs.Ythkabeaecfiinaa.Ro
