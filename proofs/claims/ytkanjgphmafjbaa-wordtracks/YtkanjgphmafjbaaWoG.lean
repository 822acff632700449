/- The document's Encode; WordEncodes: the walk. -/
import Derived.Test.YtkanjgphmafjbaaWoF
namespace Go.Proofs.Ytkanjgphmafjbaa.Wo
open Go.RowKit
set_option linter.unusedVariables false

theorem owns_mono {w : World} {base base' : Nat} {e : TypeId} {v : Value} {n : Nat} {xs : List Value} (h : w.ownsRow base e 1 v n xs) (hb : base' ≤ base) : w.ownsRow base' e 1 v n xs := by
  refine ⟨h.1, ?_⟩
  rcases h.2 with hn | ⟨g, cap, cur, rfl, hbg, rest⟩
  · exact .inl hn
  · exact .inr ⟨g, cap, cur, rfl, by omega, rest⟩
theorem enc_none (n : Nat) : enc [] n = List.replicate n 0 := by
  refine list_eq n (enc_length _ _) (by simp) (fun j hj => ?_)
  rw [enc_get _ _ _ hj, getD_of (by simpa using hj), List.getElem_replicate]
  rfl
theorem front_get (us zs : List Int) (k : Nat) (h : us.length = zs.length) (hk : k < us.length) : (front us zs k).getD k 0 = zs.getD k 0 := by
  unfold front
  rw [List.getD_eq_getElem?_getD, List.getElem?_append_right (by rw [List.length_take]; omega), List.length_take, Nat.min_eq_left (by omega), Nat.sub_self, List.getElem?_drop, Nat.add_zero, List.getD_eq_getElem?_getD]
set_option maxHeartbeats 4000000 in
theorem rencode_in (ao : Option Addr) (len cap : Nat) (vs : List Int) (n : Nat) (w : World) (h : RdZ w ao len cap vs) (hv : In64 vs) (h6 : len ≤ 6) (hn : lg vs ≤ n) (hn' : n ≤ 64) :
    Calls Try.prog 18 #[.slice ao len cap, .int .i64 n] w fun e w' => ∃ g, e = .returned (.tuple #[.slice (some ⟨g, 0, none⟩) n n, .int .i64 0]) ∧ w'.ownsRow w.heap.size 3 1 (.slice (some ⟨g, 0, none⟩) n n) n (cellsZ (enc vs n)) ∧ Below w.heap.size w w' := by
  obtain ⟨ii, hi, hi0, hi1, hi2⟩ := info_parts Try.infoInt
  have hcap := h.lecap
  have hmax := h.lemax
  have HL : Hid (vs.length = len) := h.eqlen
  go_enter Try.func18, Try.ntmps18
  go_wp2_with (first
    | (go_at_call 21; refine (rlongest_at _ _ _ vs _ h hv).mono ?_; rintro e w1 ⟨rfl, hB1⟩)
    | (at_make; refine wpList_make_full _ rfl _ _ 22 rfl w1.heap.size 3 ii (.int .i64 0) 1 Try.underlying22 hi hi0 hi1 _ _ _ _ n rfl rfl rfl rfl (by rw [hi2]; omega) (by unfold maxLen; omega) (Nat.le_refl _) ?_; intro w2 hown2 hg2; rw [made_zeros, ← enc_none] at hown2))
  have hB2 : Below w1.heap.size w1 w2 := (Below.refl _ _).grown hg2 (Nat.le_refl _) (fun k h => by cases h)
  have hs1 := hB1.size
  go_loopw [7, 8] (fun p t wr => ∃ k : Nat, k ≤ len ∧ t = .int .i64 k ∧ p = .int .i64 (2 ^ k) ∧ wr.ownsRow w1.heap.size 3 1 (.slice (some ⟨w1.heap.size, 0, none⟩) n n) n (cellsZ (enc (vs.take k) n)) ∧ Below w1.heap.size w1 wr) (fun _ t _ => len - (intOf t).toNat)
  case atStart => exact ⟨0, Nat.zero_le _, rfl, rfl, hown2, hB2⟩
  case round =>
    clear hg2 hown2 hB2
    obtain ⟨k, hk, rfl, rfl, hO, hB⟩ := hrel
    have hlt1 : w1.heap.size < wr.heap.size := (hO.lt w1.heap.size rfl).2
    by_cases hlt : k < len
    · obtain ⟨b, off, rfl, hc⟩ := ((h.below (Nat.le_refl _) hB1).below (Nat.le_refl _) hB).cell k hlt
      obtain ⟨hl, hu⟩ := hv.get (i := k) (by rw [HL.out]; exact hlt)
      have HT : Hid (∀ i, lt (vs.take (k + 1)) i = lt (vs.take k) i + dgt (vs.getD k 0) i * 2 ^ k) := fun i => lt_take vs k i (by rw [HL.out]; exact hlt)
      have HS : Hid ((2 : Int) ^ (k + 1) = 2 * 2 ^ k) := pow2_succ k
      have hp1 : (1 : Int) ≤ 2 ^ k := by have := pow2_pos k; omega
      have hp2 : (2 : Int) ^ k ≤ 32 := by
        have : 2 ^ k ≤ 2 ^ 5 := Nat.pow_le_pow_right (by omega) (by omega)
        have e : ((2 ^ k : Nat) : Int) = 2 ^ k := by simp
        omega
      have HB : Hid (∀ i, 0 ≤ lt (vs.take k) i ∧ lt (vs.take k) i < 2 ^ k) := by
        intro i
        have := lt_bd (vs.take k) i
        rwa [List.length_take, HL.out, Nat.min_eq_left (by omega)] at this
      generalize hy : vs.getD k 0 = y at *
      generalize hp : (2 : Int) ^ k = P at *
      clear hy
      go_wp2_with (go_at_call 16; refine (rdigits_at y n _ hl hu hn').mono ?_; rintro e w3 ⟨r3, rfl, hO3, hB3⟩)
      obtain ⟨a3, c3, rfl, hR3⟩ := rdz_of_owns hO3
      obtain ⟨G, hG⟩ : ∃ G, wr.heap.size = G := ⟨_, rfl⟩
      have hB3' := hB.trans (hB3.mono hB.size)
      have hO3' := owns_below hO hB3
      rw [hG] at hO3 hlt1
      clear hG
      clear hO hB hc hB3
      go_loopw [10] (fun i ws => ∃ j : Nat, j ≤ n ∧ i = .int .i64 j ∧ ws.ownsRow w1.heap.size 3 1 (.slice (some ⟨w1.heap.size, 0, none⟩) n n) n (cellsZ (front (enc (vs.take (k + 1)) n) (enc (vs.take k) n) j)) ∧ ws.ownsRow G 3 1 (.slice a3 n c3) n (cellsZ (dgs y n)) ∧ Below w1.heap.size w1 ws) (fun i _ => n - (intOf i).toNat)
      case atStart => exact ⟨0, Nat.zero_le _, rfl, by rw [front_zero]; exact hO3', hO3, hB3'⟩
      case round =>
        clear hO3' hB3' hO3 hR3
        obtain ⟨j, hj, rfl, hO, hD, hB⟩ := hrel
        by_cases hjl : j < n
        · obtain ⟨a4, c4, hve, hR4⟩ := rdz_of_owns hD
          obtain ⟨rfl, _, rfl⟩ := Value.slice.inj hve
          have hc3 := hR4.lecap
          have hm3 := hR4.lemax
          obtain ⟨g3, o3, rfl, hdc⟩ := hR4.cell j hjl
          rw [dgs_get y n j hjl] at hdc
          have hg3 : G ≤ g3 := (hD.lt g3 rfl).1
          have hoc := ownsZ_cell hO j hjl
          rw [front_get _ _ _ (by rw [enc_length, enc_length]) (by rw [enc_length]; exact hjl), enc_get _ _ _ hjl] at hoc
          have hof := hO.frozenAt j
          have HZ : Hid (lt (vs.take (k + 1)) j = lt (vs.take k) j + P * dgt y j) := by show _ = _; rw [HT.out, Int.mul_comm]
          have hO2 := (hO.stored j (.int .i64 (lt (vs.take (k + 1)) j))).1
          rw [cells_set, ← enc_get (vs.take (k + 1)) n j hjl, front_set _ _ _ (by rw [enc_length, enc_length]) (by rw [enc_length]; exact hjl), enc_get (vs.take (k + 1)) n j hjl, HZ.out] at hO2
          have hD2 := ownsRow_setCell_other hD (a := ⟨w1.heap.size, j, none⟩) (by simp only [Value.ownBlock, ne_eq, Option.some.injEq]; omega) (.int .i64 (lt (vs.take k) j + P * dgt y j))
          have hB2 := hB.setCell (p := ⟨w1.heap.size, j, none⟩) (Nat.le_refl _) (.int .i64 (lt (vs.take k) j + P * dgt y j))
          obtain ⟨hx0, hx1⟩ := HB.out j
          have hd := dgt_bd y j
          have HO2 : Hid _ := hO2
          have HD2 : Hid _ := hD2
          have HB2 : Hid _ := hB2
          clear hO2 hD2 hB2 HZ hve
          generalize hxx : lt (vs.take k) j = x at *
          clear hxx
          rcases (show dgt y j = 0 ∨ dgt y j = 1 by omega) with hdd | hdd
          · rw [hdd] at hdc HO2 HD2 HB2
            rw [show x + P * 0 = x from by omega] at HO2 HD2 HB2
            clear hdd hd
            go_wp2
            go_region
            all_goals go_wp2
            all_goals go_roundw
            case rel =>
              go_light
              exact ⟨j + 1, by omega, by go_num, World.ownsRow.drew HO2.out, World.ownsRow.drew HD2.out, HB2.out.drew⟩
            case measure => simp [intOf]; omega
          · rw [hdd] at hdc HO2 HD2 HB2
            rw [show x + P * 1 = x + P from by omega] at HO2 HD2 HB2
            clear hdd hd
            go_wp2
            go_region
            all_goals go_wp2
            all_goals go_roundw
            case rel =>
              go_light
              exact ⟨j + 1, by omega, by go_num, World.ownsRow.drew HO2.out, World.ownsRow.drew HD2.out, HB2.out.drew⟩
            case measure => simp [intOf]; omega
        · obtain rfl : j = n := by omega
          rw [front_all _ _ j (enc_length _ _) (enc_length _ _)] at hO
          go_wp2
          go_roundw
          case rel =>
            go_light
            exact ⟨k + 1, by omega, by go_num, congrArg (Value.int .i64) (by rw [HS.out]; omega), hO, hB⟩
          case measure => simp [intOf]; omega
    · obtain rfl : k = len := by omega
      rw [List.take_of_length_le (by rw [HL.out]; exact Nat.le_refl _)] at hO
      go_wp2
      go_ret2
      exact ⟨_, rfl, owns_mono hO hs1, hB1.trans (hB.mono hs1)⟩
theorem rencode_tracks (ao : Option Addr) (len cap : Nat) (n : Int) (w : World) (h6 : 6 < len) (hm : len ≤ 9223372036854775807) :
    Calls Try.prog 18 #[.slice ao len cap, .int .i64 n] w fun e w' => e = .returned (.tuple #[.slice none 0 0, .int .i64 150]) ∧ w = w' := by
  go_enter Try.func18, Try.ntmps18
  go_wp2
  go_ret2
  exact ⟨rfl, rfl⟩
theorem rencode_range (ao : Option Addr) (len cap : Nat) (vs : List Int) (n : Int) (w : World) (h : RdZ w ao len cap vs) (hv : In64 vs) (h6 : len ≤ 6) (hn : n < lg vs ∨ 64 < n) :
    Calls Try.prog 18 #[.slice ao len cap, .int .i64 n] w fun e w' => e = .returned (.tuple #[.slice none 0 0, .int .i64 2]) ∧ Below w.heap.size w w' := by
  by_cases h1 : n < lg vs
  · clear hn
    go_enter Try.func18, Try.ntmps18
    go_wp2_with (go_at_call 21; refine (rlongest_at _ _ _ vs _ h hv).mono ?_; rintro e w1 ⟨rfl, hB1⟩)
    go_ret2
    exact ⟨rfl, hB1⟩
  · have h2 : 64 < n := by omega
    clear hn
    go_enter Try.func18, Try.ntmps18
    go_wp2_with (go_at_call 21; refine (rlongest_at _ _ _ vs _ h hv).mono ?_; rintro e w1 ⟨rfl, hB1⟩)
    go_ret2
    exact ⟨rfl, hB1⟩
/-- a call that answers the list L and the number er -/
abbrev Gives (f : FuncId) (args : Array Value) (L : List Int) (m : Nat) (er : Int) (w : World) : Prop :=
  Calls Try.prog f args w fun e w' => ∃ a c, e = .returned (.tuple #[.slice a m c, .int .i64 er]) ∧ RdZ w' a m c L ∧ Below w.heap.size w w'
theorem gives_nil {f : FuncId} {args : Array Value} {er : Int} {w : World} (h : Calls Try.prog f args w fun e w' => e = .returned (.tuple #[.slice none 0 0, .int .i64 er]) ∧ Below w.heap.size w w') : Gives f args [] 0 er w :=
  h.mono fun _ w' ⟨a, b⟩ => ⟨none, 0, a, rdz_nil w', b⟩
theorem gives_row {f : FuncId} {args : Array Value} {n : Nat} {L : List Int} {w : World} (h : Calls Try.prog f args w fun e w' => ∃ g, e = .returned (.tuple #[.slice (some ⟨g, 0, none⟩) n n, .int .i64 0]) ∧ w'.ownsRow w.heap.size 3 1 (.slice (some ⟨g, 0, none⟩) n n) n (cellsZ L) ∧ Below w.heap.size w w') : Gives f args L n 0 w :=
  h.mono fun _ w' ⟨g, a, b, c⟩ => ⟨_, _, a, rdz_of_owns' b, c⟩
theorem same_world {f : FuncId} {args : Array Value} {v : Value} {w : World} (h : Calls Try.prog f args w fun e w' => e = .returned v ∧ w = w') : Calls Try.prog f args w fun e w' => e = .returned v ∧ Below w.heap.size w w' :=
  h.mono fun _ _ ⟨a, b⟩ => ⟨a, of_eq b⟩
theorem encode_both (vs : List Int) (len : Nat) (n : Int) (hv : In64 vs) : ∃ L m er, Hid (∀ w ao cap, RdZ w ao len cap vs → Gives 17 #[.slice ao len cap, .int .i64 n] L m er w) ∧ Hid (∀ w ao cap, RdZ w ao len cap vs → Gives 18 #[.slice ao len cap, .int .i64 n] L m er w) := by
  by_cases h6 : len ≤ 6
  · by_cases hn : n < lg vs ∨ 64 < n
    · exact ⟨[], 0, 2, fun w ao cap h => gives_nil (same_world (encode_range ao len cap vs n w h hv h6 hn)), fun w ao cap h => gives_nil (rencode_range ao len cap vs n w h hv h6 hn)⟩
    · obtain ⟨N, rfl⟩ : ∃ N : Nat, n = N := ⟨n.toNat, by omega⟩
      exact ⟨_, _, 0, fun w ao cap h => gives_row (encode_in ao len cap vs N w h hv h6 (by omega) (by omega)), fun w ao cap h => gives_row (rencode_in ao len cap vs N w h hv h6 (by omega) (by omega))⟩
  · exact ⟨[], 0, 150, fun w ao cap h => gives_nil (same_world (encode_tracks ao len cap n w (by omega) (Nat.le_trans h.lecap h.lemax))), fun w ao cap h => gives_nil (same_world (rencode_tracks ao len cap n w (by omega) (Nat.le_trans h.lecap h.lemax)))⟩
theorem shortest_both (vs : List Int) (len : Nat) (hv : In64 vs) : ∃ L m er, Hid (∀ w ao cap, RdZ w ao len cap vs → Gives 20 #[.slice ao len cap] L m er w) ∧ Hid (∀ w ao cap, RdZ w ao len cap vs → Gives 18 #[.slice ao len cap, .int .i64 (lg vs : Nat)] L m er w) := by
  by_cases h6 : len ≤ 6
  · exact ⟨_, _, 0, fun w ao cap h => gives_row (shortest_in ao len cap vs w h hv h6), fun w ao cap h => gives_row (rencode_in ao len cap vs (lg vs) w h hv h6 (Nat.le_refl _) (lg_64 vs hv))⟩
  · exact ⟨[], 0, 150, fun w ao cap h => gives_nil (same_world (shortest_no ao len cap vs w h hv (by omega))), fun w ao cap h => gives_nil (same_world (rencode_tracks ao len cap _ w (by omega) (Nat.le_trans h.lecap h.lemax)))⟩
set_option maxHeartbeats 2000000 in
theorem encodes_walk (ao : Option Addr) (len cap : Nat) (vs : List Int) (n : Int) (w : World) (h : RdZ w ao len cap vs) (hm : len * 8 ≤ 140737488351232) (hv : In64 vs) :
    Calls Try.prog 4 #[.slice ao len cap, .int .i64 n] w fun e w' => e = .returned (.bool true) ∧ Below w.heap.size w w' := by
  obtain ⟨L, m, er, E1, E2⟩ := encode_both vs len n hv
  obtain ⟨L', m', er', S1, S2⟩ := shortest_both vs len hv
  go_enter Try.func4, Try.ntmps4
  go_wp2_with (first
    | (at_builtin; refine wp_copyQ w w rfl (.tmp 15) (.tmp 16) rfl (Below.refl _ _) rfl ao len cap vs rfl h hm ?_; intro a1 c1 w1 hM1 hW1 hO1; clear hO1)
    | (go_at_call 17; refine (E1.out _ _ _ hM1).mono ?_; rintro e w2 ⟨a2, c2, rfl, hA2, hB2⟩; have hW2 := hW1.trans (hB2.mono hW1.size); have hM2 := hM1.below (Nat.le_refl _) hB2; have hP2 := h.below (Nat.le_refl _) hW2)
    | (go_at_call 18; have _t := hP6; refine (S2.out _ _ _ hP6).mono ?_; rintro e w7 ⟨a7, c7, rfl, hA7, hB7⟩; have hW7 := hW6.trans (hB7.mono hW6.size); have q2 := k2.below (Nat.le_refl _) hB7; have q3 := k3.below (Nat.le_refl _) hB7; have q5 := k5.below (Nat.le_refl _) hB7; have qM := kM.below (Nat.le_refl _) hB7)
    | (go_at_call 18; refine (E2.out _ _ _ hP2).mono ?_; rintro e w3 ⟨a3, c3, rfl, hA3, hB3⟩; have hW3 := hW2.trans (hB3.mono hW2.size); have hM3 := hM2.below (Nat.le_refl _) hB3; have i2 := hA2.below (Nat.le_refl _) hB3)
    | (go_at_call 19; refine (longest_at _ _ _ vs _ hM3 hv).mono ?_; rintro e w' ⟨rfl, rfl⟩)
    | (go_at_call 20; refine (S1.out _ _ _ hM3).mono ?_; rintro e w5 ⟨a5, c5, rfl, hA5, hB5⟩; have hW5 := hW3.trans (hB5.mono hW3.size); have j2 := i2.below (Nat.le_refl _) hB5; have j3 := hA3.below (Nat.le_refl _) hB5; have jM := hM3.below (Nat.le_refl _) hB5; have hP5 := h.below (Nat.le_refl _) hW5)
    | (go_at_call 21; have _t := q2; refine (rlongest_at _ _ _ vs _ hPb hv).mono ?_; rintro e wb2 ⟨rfl, hBb2⟩; have hWc := hWb.trans (hBb2.mono hWb.size); have s5 := r5.below (Nat.le_refl _) hBb2; have s7 := r7.below (Nat.le_refl _) hBb2; have sM := rM.below (Nat.le_refl _) hBb2)
    | (go_at_call 21; refine (rlongest_at _ _ _ vs _ hP5 hv).mono ?_; rintro e w6 ⟨rfl, hB6⟩; have hW6 := hW5.trans (hB6.mono hW5.size); have k2 := j2.below (Nat.le_refl _) hB6; have k3 := j3.below (Nat.le_refl _) hB6; have k5 := hA5.below (Nat.le_refl _) hB6; have kM := jM.below (Nat.le_refl _) hB6; have hP6 := h.below (Nat.le_refl _) hW6)
    | (go_at_call 13; refine (fixed_at _).mono ?_; rintro e wa ⟨rfl, hBa⟩; have hWa := hW7.trans (hBa.mono hW7.size); have p2 := q2.below (Nat.le_refl _) hBa; have p3 := q3.below (Nat.le_refl _) hBa; have p5 := q5.below (Nat.le_refl _) hBa; have p7 := hA7.below (Nat.le_refl _) hBa; have pM := qM.below (Nat.le_refl _) hBa)
    | (go_at_call 15; have _t := s5; refine (same_at _ _ _ _ _ _ L' L' true _ s5 s7 ⟨fun _ => rfl, fun _ => rfl⟩).mono ?_; rintro e wd ⟨rfl, hBd⟩; have hWd := hWc.trans (hBd.mono hWc.size); have tM := sM.below (Nat.le_refl _) hBd; have hPd := h.below (Nat.le_refl _) hWd)
    | (go_at_call 15; refine (same_at _ _ _ _ _ _ L L true _ p2 p3 ⟨fun _ => rfl, fun _ => rfl⟩).mono ?_; rintro e wb ⟨rfl, hBb⟩; have hWb := hWa.trans (hBb.mono hWa.size); have r5 := p5.below (Nat.le_refl _) hBb; have r7 := p7.below (Nat.le_refl _) hBb; have rM := pM.below (Nat.le_refl _) hBb; have hPb := h.below (Nat.le_refl _) hWb)
    | (go_at_call 22; refine (tuples_at _ _ _ _ _ _ vs vs true _ tM hPd ⟨fun _ => rfl, fun _ => rfl⟩).mono ?_; rintro e we ⟨rfl, hBe⟩; have hWe := hWd.trans (hBe.mono hWd.size)))
  go_ret
  exact ⟨by simp, hWe⟩
end Go.Proofs.Ytkanjgphmafjbaa.Wo
