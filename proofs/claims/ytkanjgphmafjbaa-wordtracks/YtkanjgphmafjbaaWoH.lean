/- Layer 3: Decode. -/
import Derived.Test.YtkanjgphmafjbaaWoG
namespace Go.Proofs.Ytkanjgphmafjbaa.Wo
open Go.RowKit
set_option linter.unusedVariables false

theorem bdigit_at (a : Int) (t : Nat) (w : World) (ha : 0 ≤ a) (ha' : a ≤ 9223372036854775807) (ht : t ≤ 61) :
    Calls Try.prog 29 #[.int .i64 a, .int .i64 t] w fun e w' => e = .returned (.int .i64 (a / 2 ^ t % 2)) ∧ w = w' := by
  go_enter Try.func29, Try.ntmps29
  go_wp2
  go_ret
  exact ⟨ret1 (and_one _), rfl⟩
/-- why a word has no tuple over so many tracks; 0: it has one -/
def ref3 (zs : List Int) (k er : Int) : Prop := (¬ (0 ≤ k ∧ k ≤ 6) → er = 150) ∧ ((0 ≤ k ∧ k ≤ 6) → zs = [] → er = 3) ∧ ((0 ≤ k ∧ k ≤ 6) → 64 < zs.length → er = 31) ∧ ((0 ≤ k ∧ k ≤ 6) → zs ≠ [] → zs.length ≤ 64 → ¬ Letters zs k.toNat → er = 30) ∧ ((0 ≤ k ∧ k ≤ 6) → zs ≠ [] → zs.length ≤ 64 → Letters zs k.toNat → er = 0)
theorem letters_of {zs : List Int} {len k : Nat} (h : zs.length = len) (hall : ∀ j, j < len → 0 ≤ zs.getD j 0 ∧ zs.getD j 0 < 2 ^ k) : Letters zs k := by
  intro z hz
  obtain ⟨i, hi, rfl⟩ := List.getElem_of_mem hz
  have := hall i (by omega)
  rwa [getD_of hi] at this
theorem letters_get {zs : List Int} {k : Nat} (h : Letters zs k) {i : Nat} (hi : i < zs.length) : 0 ≤ zs.getD i 0 ∧ zs.getD i 0 < 2 ^ k := by
  rw [getD_of hi]; exact h _ (List.getElem_mem hi)
theorem pow_small {k : Nat} (hk : k ≤ 6) : (1 : Int) ≤ 2 ^ k ∧ (2 : Int) ^ k ≤ 64 := by
  have h1 := pow2_pos k
  have : 2 ^ k ≤ 2 ^ 6 := Nat.pow_le_pow_right (by omega) hk
  have e : ((2 ^ k : Nat) : Int) = 2 ^ k := by simp
  omega
set_option maxHeartbeats 1000000 in
theorem refuse_at (ao : Option Addr) (len cap : Nat) (zs : List Int) (k er : Int) (w : World) (h : RdZ w ao len cap zs) (hr : ref3 zs k er) :
    Calls Try.prog 38 #[.slice ao len cap, .int .i64 k] w fun e w' => e = .returned (.int .i64 er) ∧ w = w' := by
  have hcap := h.lecap
  have hmax := h.lemax
  have HL : Hid (zs.length = len) := h.eqlen
  have HR : Hid (ref3 zs k er) := hr
  clear hr
  by_cases hk0 : k < 0
  · have HE : Hid (er = 150) := HR.out.1 (by omega)
    go_enter Try.func38, Try.ntmps38
    go_wp2
    go_ret
    exact ⟨ret1 HE.out.symm, rfl⟩
  · by_cases hk6 : 6 < k
    · have HE : Hid (er = 150) := HR.out.1 (by omega)
      go_enter Try.func38, Try.ntmps38
      go_wp2
      go_ret
      exact ⟨ret1 HE.out.symm, rfl⟩
    · obtain ⟨K, rfl⟩ : ∃ K : Nat, k = K := ⟨k.toNat, by omega⟩
      have hK : K ≤ 6 := by omega
      have HR2 : Hid (ref3 zs (K : Int) er) := HR.out
      clear HR hk0 hk6
      by_cases h0 : len = 0
      · subst h0
        have HE : Hid (er = 3) := HR2.out.2.1 ⟨by omega, by omega⟩ (List.length_eq_zero_iff.1 HL.out)
        go_enter Try.func38, Try.ntmps38
        go_wp2
        go_ret
        exact ⟨ret1 HE.out.symm, rfl⟩
      · have h0' : ((len : Int) == 0) = false := by simp; omega
        have HNE : Hid (zs ≠ []) := List.length_pos_iff.1 (by rw [HL.out]; omega)
        by_cases h64 : 64 < len
        · have HE : Hid (er = 31) := HR2.out.2.2.1 ⟨by omega, by omega⟩ (by rw [HL.out]; exact h64)
          clear h0
          go_enter Try.func38, Try.ntmps38
          go_wp2
          go_ret
          exact ⟨ret1 HE.out.symm, rfl⟩
        · obtain ⟨hp1, hp2⟩ := pow_small hK
          obtain ⟨P, hP⟩ : ∃ P : Int, (2 : Int) ^ K = P := ⟨_, rfl⟩
          have HP : Hid ((2 : Int) ^ K = P) := hP
          have hpw : wrap64 ((2 : Int) ^ K) = P := by rw [hP]; rw [hP] at hp1 hp2; unfold wrap64; omega
          rw [hP] at hp1 hp2
          clear hP h0
          go_enter Try.func38, Try.ntmps38
          go_wp2
          go_loop [24] (fun i => ∃ j : Nat, j ≤ len ∧ i = .int .i64 j ∧ Hid (∀ a, a < j → 0 ≤ zs.getD a 0 ∧ zs.getD a 0 < 2 ^ K)) (fun i => len - (intOf i).toNat)
          case atStart => exact ⟨0, Nat.zero_le _, rfl, fun j hj => absurd hj (by omega)⟩
          case round =>
            obtain ⟨j, hj, rfl, hall⟩ := hrel
            by_cases hlt : j < len
            · obtain ⟨b, off, rfl, hc⟩ := h.cell j hlt
              by_cases hx0 : zs.getD j 0 < 0
              · have HE : Hid (er = 30) := HR2.out.2.2.2.1 ⟨by omega, by omega⟩ HNE.out (by rw [HL.out]; omega) (fun hl => by
                  have := letters_get hl (i := j) (by rw [HL.out]; exact hlt)
                  omega)
                generalize hxx : zs.getD j 0 = x at *
                clear hxx
                go_wp2
                go_ret
                exact ⟨ret1 HE.out.symm, rfl⟩
              · by_cases hx1 : P ≤ zs.getD j 0
                · have HE : Hid (er = 30) := HR2.out.2.2.2.1 ⟨by omega, by omega⟩ HNE.out (by rw [HL.out]; omega) (fun hl => by
                    have := letters_get hl (i := j) (by rw [HL.out]; exact hlt)
                    rw [Int.toNat_natCast, HP.out] at this
                    omega)
                  generalize hxx : zs.getD j 0 = x at *
                  clear hxx
                  go_wp2
                  go_ret
                  exact ⟨ret1 HE.out.symm, rfl⟩
                · have HX : Hid (0 ≤ zs.getD j 0 ∧ zs.getD j 0 < 2 ^ K) := ⟨by omega, by rw [HP.out]; omega⟩
                  generalize hxx : zs.getD j 0 = x at *
                  have HXX : Hid (zs.getD j 0 = x) := hxx
                  clear hxx
                  go_wp2
                  go_round
                  case rel =>
                    refine ⟨j + 1, by omega, by go_num, fun a ha => ?_⟩
                    rcases Nat.lt_succ_iff_lt_or_eq.1 ha with ha | rfl
                    · exact hall.out a ha
                    · rw [HXX.out]; exact HX.out
                  case measure => simp [intOf]; omega
            · obtain rfl : j = len := by omega
              have HE : Hid (er = 0) := HR2.out.2.2.2.2 ⟨by omega, by omega⟩ HNE.out (by rw [HL.out]; omega) (by rw [Int.toNat_natCast]; exact letters_of HL.out hall.out)
              go_wp2
              go_ret
              exact ⟨ret1 HE.out.symm, rfl⟩
set_option maxHeartbeats 1000000 in
theorem track_at (ao : Option Addr) (n cap : Nat) (zs : List Int) (t K : Nat) (w : World) (h : RdZ w ao n cap zs) (hl : Letters zs K) (hK : K ≤ 6) (hn' : n ≤ 64) (ht : t < K) :
    Calls Try.prog 39 #[.slice ao n cap, .int .i64 t] w fun e w' => ∃ g, e = .returned (.slice (some ⟨g, 0, none⟩) n n) ∧ w'.ownsRow w.heap.size 3 1 (.slice (some ⟨g, 0, none⟩) n n) n (cellsZ (trk zs t)) ∧ Below w.heap.size w w' := by
  obtain ⟨ii, hi, hi0, hi1, hi2⟩ := info_parts Try.infoInt
  have hcap := h.lecap
  have hmax := h.lemax
  have HL : Hid (zs.length = n) := h.eqlen
  go_enter Try.func39, Try.ntmps39
  go_wp2_with (at_make; refine wpList_make_full _ rfl _ _ 22 rfl w.heap.size 3 ii (.int .i64 0) 1 Try.underlying22 hi hi0 hi1 _ _ _ _ n rfl rfl rfl rfl (by rw [hi2]; omega) (by unfold maxLen; omega) (Nat.le_refl _) ?_; intro w2 hown2 hg2; rw [made_zeros] at hown2)
  have hB2 : Below w.heap.size w w2 := (Below.refl _ _).grown hg2 (Nat.le_refl _) (fun k h => by cases h)
  go_loopw [13] (fun i wr => ∃ k : Nat, k ≤ n ∧ i = .int .i64 k ∧ wr.ownsRow w.heap.size 3 1 (.slice (some ⟨w.heap.size, 0, none⟩) n n) n (cellsZ (front (trk zs t) (List.replicate n 0) k)) ∧ Below w.heap.size w wr) (fun i _ => n - (intOf i).toNat)
  case atStart => exact ⟨0, Nat.zero_le _, rfl, by rw [front_zero]; exact hown2, hB2⟩
  case round =>
    clear hg2 hown2 hB2
    obtain ⟨k, hk, rfl, hO, hB⟩ := hrel
    by_cases hlt : k < n
    · obtain ⟨b, off, rfl, hc⟩ := (h.below (Nat.le_refl _) hB).cell k hlt
      have hoc := ownsZ_cell hO k hlt
      have hof := hO.frozenAt k
      have hx := letters_get hl (i := k) (by rw [HL.out]; exact hlt)
      have hx2 := pow_small hK
      have hO2 := (hO.stored k (.int .i64 (zs.getD k 0 / 2 ^ t % 2))).1
      rw [cells_set, ← trk_get zs t k (by rw [HL.out]; exact hlt), front_set _ _ _ (by rw [trk_length, HL.out, List.length_replicate]) (by rw [trk_length, HL.out]; exact hlt), trk_get zs t k (by rw [HL.out]; exact hlt)] at hO2
      have HO : Hid _ := hO2
      have hB2 := hB.setCell (p := ⟨w.heap.size, k, none⟩) (Nat.le_refl _) (.int .i64 (zs.getD k 0 / 2 ^ t % 2))
      obtain ⟨hx0, hx1⟩ : 0 ≤ zs.getD k 0 ∧ zs.getD k 0 < 64 := by omega
      clear hO2 hx hx2
      generalize hxx : zs.getD k 0 = x at *
      clear hxx
      go_wp2_with (go_at_call 29; refine (bdigit_at x t _ hx0 (by omega) (by omega)).mono ?_; rintro e w' ⟨rfl, rfl⟩)
      go_roundw
      case rel =>
        go_light
        exact ⟨k + 1, by omega, by go_num, HO.out, hB2⟩
      case measure => simp [intOf]; omega
    · obtain rfl : k = n := by omega
      rw [front_all _ _ k (by rw [trk_length, HL.out]) (by rw [List.length_replicate])] at hO
      go_wp2
      go_ret
      exact ⟨_, rfl, hO, hB⟩
set_option maxHeartbeats 2000000 in
theorem decode_in (ao : Option Addr) (len cap : Nat) (zs : List Int) (K : Nat) (w : World) (h : RdZ w ao len cap zs) (hK : K ≤ 6) (h0 : 0 < len) (h64 : len ≤ 64) (hl : Letters zs K) :
    Calls Try.prog 23 #[.slice ao len cap, .int .i64 K] w fun e w' => ∃ g, e = .returned (.tuple #[.slice (some ⟨g, 0, none⟩) K K, .int .i64 0]) ∧ w'.ownsRow w.heap.size 2 1 (.slice (some ⟨g, 0, none⟩) K K) K (cellsZ (dec zs K)) ∧ Below w.heap.size w w' := by
  obtain ⟨ii, hi, hi0, hi1, hi2⟩ := info_parts Try.infoI64
  have hcap := h.lecap
  have hmax := h.lemax
  have HL : Hid (zs.length = len) := h.eqlen
  have HNE : Hid (zs ≠ []) := List.length_pos_iff.1 (by rw [HL.out]; omega)
  have HR : Hid (ref3 zs (K : Int) 0) := ⟨fun h => by omega, fun _ h => absurd h HNE.out, fun _ h => by rw [HL.out] at h; omega, fun _ _ _ h => absurd hl (by rw [Int.toNat_natCast] at h; exact h), fun _ _ _ _ => rfl⟩
  go_enter Try.func23, Try.ntmps23
  go_wp2_with (first
    | (go_at_call 38; refine (refuse_at _ _ _ zs (K : Int) 0 _ h HR.out).mono ?_; rintro e w' ⟨rfl, rfl⟩)
    | (at_make; refine wpList_make_full _ rfl _ _ 35 rfl w.heap.size 2 ii (.int .i64 0) 1 Try.underlying35 hi hi0 hi1 _ _ _ _ K rfl rfl rfl rfl (by rw [hi2]; omega) (by unfold maxLen; omega) (Nat.le_refl _) ?_; intro w2 hown2 hg2; rw [made_zeros] at hown2))
  have hB2 : Below w.heap.size w w2 := (Below.refl _ _).grown hg2 (Nat.le_refl _) (fun k h => by cases h)
  go_loopw [21] (fun i wr => ∃ k : Nat, k ≤ K ∧ i = .int .i64 k ∧ wr.ownsRow w.heap.size 2 1 (.slice (some ⟨w.heap.size, 0, none⟩) K K) K (cellsZ (front (dec zs K) (List.replicate K 0) k)) ∧ Below w.heap.size w wr) (fun i _ => K - (intOf i).toNat)
  case atStart => exact ⟨0, Nat.zero_le _, rfl, by rw [front_zero]; exact hown2, hB2⟩
  case round =>
    clear hg2 hown2 hB2
    obtain ⟨k, hk, rfl, hO, hB⟩ := hrel
    by_cases hlt : k < K
    · have hP := h.below (Nat.le_refl _) hB
      have HTL : Hid ((trk zs k).length = len) := by show _ = _; rw [trk_length, HL.out]
      have hltw : w.heap.size < wr.heap.size := (hO.lt w.heap.size rfl).2
      go_wp2_with (first
        | (go_at_call 39; refine (track_at _ _ _ zs k K _ hP hl hK h64 hlt).mono ?_; rintro e w3 ⟨g3, rfl, hO3, hB3⟩; have hR3 := rdz_of_owns' hO3; have hO4 := owns_below hO hB3; have hB4 := hB.trans (hB3.mono hB.size); have hoc := ownsZ_cell hO4 k hlt; have hof := hO4.frozenAt k)
        | (go_at_call 10; refine (number_in _ _ _ (trk zs k) _ hR3 (trk_bin zs k) h0 h64).mono ?_; rintro e w' ⟨rfl, rfl⟩))
      have hO2 := (hO4.stored k (.int .i64 (tc (trk zs k)))).1
      rw [cells_set, ← dec_get zs K k hlt, front_set _ _ _ (by rw [dec_length, List.length_replicate]) (by rw [dec_length]; exact hlt), dec_get zs K k hlt] at hO2
      have hB5 := hB4.setCell (p := ⟨w.heap.size, k, none⟩) (Nat.le_refl _) (.int .i64 (tc (trk zs k)))
      go_roundw
      case rel =>
        go_light
        exact ⟨k + 1, by omega, by go_num, hO2, hB5⟩
      case measure => simp [intOf]; omega
    · obtain rfl : k = K := by omega
      rw [front_all _ _ k (dec_length _ _) (by rw [List.length_replicate])] at hO
      go_wp2
      go_ret2
      exact ⟨_, rfl, hO, hB⟩
theorem decode_no (ao : Option Addr) (len cap : Nat) (zs : List Int) (k er : Int) (w : World) (h : RdZ w ao len cap zs) (hr : ref3 zs k er) (he : ¬ er = 0) :
    Calls Try.prog 23 #[.slice ao len cap, .int .i64 k] w fun e w' => e = .returned (.tuple #[.slice none 0 0, .int .i64 er]) ∧ w = w' := by
  have HR : Hid (ref3 zs k er) := hr
  have he' : (er != 0) = true := by simpa using he
  clear hr
  go_enter Try.func23, Try.ntmps23
  go_wp2_with (go_at_call 38; refine (refuse_at _ _ _ zs k er _ h HR.out).mono ?_; rintro e w' ⟨rfl, rfl⟩)
  go_ret2
  exact ⟨rfl, rfl⟩
end Go.Proofs.Ytkanjgphmafjbaa.Wo
