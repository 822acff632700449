/- Layer 3: the document's Decode; WordDecodes: the walk. -/
import Derived.Test.YtkanjgphmafjbaaWoI
namespace Go.Proofs.Ytkanjgphmafjbaa.Wo
open Go.RowKit
set_option linter.unusedVariables false

set_option maxHeartbeats 4000000 in
theorem rdecode_big (ao : Option Addr) (len cap : Nat) (zs : List Int) (K : Nat) (er : Int) (L : List Int) (m : Nat) (w : World) (h : RdZ w ao len cap zs) (hK : K ≤ 6) (h0 : 0 < len) (h64 : len ≤ 64) (hr : ref3 zs (K : Int) er) (g1 : er = 0 → L = dec zs K ∧ m = K) (g2 : ¬ er = 0 → L = [] ∧ m = 0) :
    Gives 24 #[.slice ao len cap, .int .i64 K] L m er w := by
  have hcap := h.lecap
  have hmax := h.lemax
  have HL : Hid (zs.length = len) := h.eqlen
  have HR2 : Hid (ref3 zs (K : Int) er) := hr
  have G1 : Hid (er = 0 → L = dec zs K ∧ m = K) := g1
  have G2 : Hid (¬ er = 0 → L = [] ∧ m = 0) := g2
  have HNE : Hid (zs ≠ []) := List.length_pos_iff.1 (by rw [HL.out]; omega)
  have h0' : ((len : Int) == 0) = false := by simp; omega
  obtain ⟨hp1, hp2⟩ := pow_small hK
  obtain ⟨P, hP⟩ : ∃ P : Int, (2 : Int) ^ K = P := ⟨_, rfl⟩
  have HP : Hid ((2 : Int) ^ K = P) := hP
  have PW : Hid (∀ w, Calls Try.prog 40 #[.int .i64 K] w fun e w' => e = .returned (.int .i64 P) ∧ w = w') := fun w => by rw [← HP.out]; exact power_at K w hK
  rw [hP] at hp1 hp2
  clear hP hr g1 g2
  go_enter Try.func24, Try.ntmps24
  go_wp2
  go_loopw [6] (fun i wr => ∃ j : Nat, j ≤ len ∧ i = .int .i64 j ∧ Hid (∀ a, a < j → 0 ≤ zs.getD a 0 ∧ zs.getD a 0 < 2 ^ K) ∧ Below w.heap.size w wr) (fun i _ => len - (intOf i).toNat)
  case atStart => exact ⟨0, Nat.zero_le _, rfl, fun j hj => absurd hj (by omega), Below.refl _ _⟩
  case round =>
    obtain ⟨j, hj, rfl, hall, hB⟩ := hrel
    by_cases hlt : j < len
    · obtain ⟨b, off, rfl, hc⟩ := (h.below (Nat.le_refl _) hB).cell j hlt
      by_cases hx0 : zs.getD j 0 < 0
      · have HE : Hid (er = 30) := HR2.out.2.2.2.1 ⟨by omega, by omega⟩ HNE.out (by rw [HL.out]; omega) (fun hl => by
          have := letters_get hl (i := j) (by rw [HL.out]; exact hlt)
          omega)
        have HM : Hid (L = [] ∧ m = 0) := G2.out (by rw [HE.out]; omega)
        generalize hxx : zs.getD j 0 = x at *
        clear hxx
        have hd : decide (x < 0) = true := decide_eq_true hx0
        go_wp2
        go_quiet (fail)
        go_wp2
        go_ret2
        refine ⟨none, 0, ?_, by rw [HM.out.1, HM.out.2]; exact rdz_nil _, hB.trans (below_drewN _ _ _)⟩
        rw [HE.out, HM.out.2]; rfl
      · by_cases hx1 : P ≤ zs.getD j 0
        · have HE : Hid (er = 30) := HR2.out.2.2.2.1 ⟨by omega, by omega⟩ HNE.out (by rw [HL.out]; omega) (fun hl => by
            have := letters_get hl (i := j) (by rw [HL.out]; exact hlt)
            rw [Int.toNat_natCast, HP.out] at this
            omega)
          have HM : Hid (L = [] ∧ m = 0) := G2.out (by rw [HE.out]; omega)
          generalize hxx : zs.getD j 0 = x at *
          clear hxx
          have hd : decide (x < 0) = false := decide_eq_false hx0
          go_wp2
          go_quiet ((go_at_call 40; exact quiet_same (PW.out _)))
          go_wp2
          go_ret2
          refine ⟨none, 0, ?_, by rw [HM.out.1, HM.out.2]; exact rdz_nil _, hB.trans (below_drewN _ _ _)⟩
          rw [HE.out, HM.out.2]; rfl
        · have HX : Hid (0 ≤ zs.getD j 0 ∧ zs.getD j 0 < 2 ^ K) := ⟨by omega, by rw [HP.out]; omega⟩
          generalize hxx : zs.getD j 0 = x at *
          have HXX : Hid (zs.getD j 0 = x) := hxx
          clear hxx
          have hd : decide (x < 0) = false := decide_eq_false hx0
          go_wp2
          go_quiet ((go_at_call 40; exact quiet_same (PW.out _)))
          go_wp2
          go_roundw
          case rel =>
            refine ⟨j + 1, by omega, by go_num, fun a ha => ?_, hB.trans (below_drewN _ _ _)⟩
            rcases Nat.lt_succ_iff_lt_or_eq.1 ha with ha | rfl
            · exact hall.out a ha
            · rw [HXX.out]; exact HX.out
          case measure => simp [intOf]; omega
    · obtain rfl : j = len := by omega
      have HLe : Hid (Letters zs K) := letters_of HL.out hall.out
      have HE : Hid (er = 0) := HR2.out.2.2.2.2 ⟨by omega, by omega⟩ HNE.out (by rw [HL.out]; omega) (by rw [Int.toNat_natCast]; exact HLe.out)
      have HM : Hid (L = dec zs K ∧ m = K) := G1.out HE.out
      clear hall
      go_wp2
      go_loopw [7, 8] (fun o i ws => ∃ k : Nat, k ≤ K ∧ i = .int .i64 k ∧ ws.ownsRow w.heap.size 2 1 o k (cellsZ (dec zs k)) ∧ Below w.heap.size w ws) (fun _ i _ => K - (intOf i).toNat)
      case atStart => exact ⟨0, Nat.zero_le _, rfl, World.ownsRow_nil _ _ _ _, hB⟩
      case round =>
        clear hB
        obtain ⟨k, hk, rfl, hO, hB⟩ := hrel
        by_cases hlt : k < K
        · have hP := h.below (Nat.le_refl _) hB
          have HN : Hid (numV (trk zs k) (tc (trk zs k)) 0) := ⟨fun h => absurd h (ne_nil_trk HNE.out k), fun h => absurd (trk_bin zs k) h, fun _ _ h => by rw [trk_length, HL.out] at h; omega, fun _ _ _ => ⟨rfl, rfl⟩⟩
          have HD : Hid (dec zs (k + 1) = dec zs k ++ [tc (trk zs k)]) := dec_snoc zs k
          generalize hyy : tc (trk zs k) = y at *
          clear hyy
          go_wp2_with (first
            | (go_at_call 41; refine (rtrack_at _ _ _ zs k K _ hP HLe.out hK h64 hlt).mono ?_; rintro e w3 ⟨r3, rfl, hO3, hB3⟩; obtain ⟨a3, c3, rfl, hR3⟩ := rdz_of_owns hO3; have hO4 := owns_below hO hB3; have hB4 := hB.trans (hB3.mono hB.size))
            | (go_at_call 11; refine (rnumber_at _ _ _ (trk zs k) y 0 _ hR3 HN.out).mono ?_; rintro e w5 ⟨rfl, hB5⟩; have hO6 := owns_below hO4 hB5; have hB6 := hB4.trans (hB5.mono hB4.size))
            | (at_builtin; refine wp_pushQ w _ w.heap.size w.heap.size rfl (.tmp 58) (.tmp 60) rfl _ k (dec zs k) rfl w5.heap.size y rfl (hO6.alloc _) (cell_new1 _ _ _) (size_new1 hB6.size _) (by omega) (hB6.alloc hB6.size _) (Nat.le_refl _) ?_; intro v' w7 hO7 hB7))
          go_roundw
          case rel =>
            go_light
            exact ⟨k + 1, by omega, by go_num, by rw [HD.out]; exact hO7, hB7⟩
          case measure => simp [intOf]; omega
        · obtain rfl : k = K := by omega
          obtain ⟨a8, c8, rfl, hR8⟩ := rdz_of_owns hO
          go_wp2
          go_ret2
          refine ⟨a8, c8, ?_, by rw [HM.out.1, HM.out.2]; exact hR8, hB⟩
          rw [HE.out, HM.out.2]; rfl
theorem rdecode_at (ao : Option Addr) (len cap : Nat) (zs : List Int) (k er : Int) (L : List Int) (m : Nat) (w : World) (h : RdZ w ao len cap zs) (hr : ref3 zs k er) (g1 : er = 0 → L = dec zs k.toNat ∧ m = k.toNat) (g2 : ¬ er = 0 → L = [] ∧ m = 0) :
    Gives 24 #[.slice ao len cap, .int .i64 k] L m er w := by
  have hcap := h.lecap
  have hmax := h.lemax
  by_cases hk : 0 ≤ k ∧ k ≤ 6
  · obtain ⟨K, rfl⟩ : ∃ K : Nat, k = K := ⟨k.toNat, by omega⟩
    by_cases h0 : len = 0
    · subst h0
      have HE : Hid (er = 3) := hr.2.1 hk (List.length_eq_zero_iff.1 h.eqlen)
      have HM : Hid (L = [] ∧ m = 0) := g2 (by rw [HE.out]; omega)
      have hK : K ≤ 6 := by omega
      clear hr g1 g2 hk
      go_enter Try.func24, Try.ntmps24
      go_wp2
      go_ret2
      refine ⟨none, 0, ?_, by rw [HM.out.1, HM.out.2]; exact rdz_nil _, Below.refl _ _⟩
      rw [HE.out, HM.out.2]; rfl
    · by_cases h64 : 64 < len
      · have HE : Hid (er = 31) := hr.2.2.1 hk (by rw [h.eqlen]; exact h64)
        have HM : Hid (L = [] ∧ m = 0) := g2 (by rw [HE.out]; omega)
        have h0' : ((len : Int) == 0) = false := by simp; omega
        have hK : K ≤ 6 := by omega
        clear hr g1 g2 hk h0
        go_enter Try.func24, Try.ntmps24
        go_wp2
        go_ret2
        refine ⟨none, 0, ?_, by rw [HM.out.1, HM.out.2]; exact rdz_nil _, Below.refl _ _⟩
        rw [HE.out, HM.out.2]; rfl
      · rw [Int.toNat_natCast] at g1
        exact rdecode_big ao len cap zs K er L m w h (by omega) (by omega) (by omega) hr g1 g2
  · have HE : Hid (er = 150) := hr.1 hk
    have HM : Hid (L = [] ∧ m = 0) := g2 (by rw [HE.out]; omega)
    by_cases hk0 : k < 0
    all_goals try (have hk6 : 6 < k := by omega)
    all_goals
      clear hr g1 g2 hk
      go_enter Try.func24, Try.ntmps24
      go_wp2
      go_ret2
      refine ⟨none, 0, ?_, by rw [HM.out.1, HM.out.2]; exact rdz_nil _, Below.refl _ _⟩
      rw [HE.out, HM.out.2]; rfl
theorem gives_row64 {f : FuncId} {args : Array Value} {n : Nat} {L : List Int} {w : World} (h : Calls Try.prog f args w fun e w' => ∃ g, e = .returned (.tuple #[.slice (some ⟨g, 0, none⟩) n n, .int .i64 0]) ∧ w'.ownsRow w.heap.size 2 1 (.slice (some ⟨g, 0, none⟩) n n) n (cellsZ L) ∧ Below w.heap.size w w') : Gives f args L n 0 w :=
  h.mono fun _ w' ⟨g, a, b, c⟩ => ⟨_, _, a, rdz_of_owns' b, c⟩
theorem decode_at (ao : Option Addr) (len cap : Nat) (zs : List Int) (k er : Int) (L : List Int) (m : Nat) (w : World) (h : RdZ w ao len cap zs) (hr : ref3 zs k er) (g1 : er = 0 → L = dec zs k.toNat ∧ m = k.toNat) (g2 : ¬ er = 0 → L = [] ∧ m = 0) :
    Gives 23 #[.slice ao len cap, .int .i64 k] L m er w := by
  by_cases he : er = 0
  · have hk : 0 ≤ k ∧ k ≤ 6 := by
      by_cases hk : 0 ≤ k ∧ k ≤ 6
      · exact hk
      · have := hr.1 hk; omega
    obtain ⟨K, rfl⟩ : ∃ K : Nat, k = K := ⟨k.toNat, by omega⟩
    have h0 : zs ≠ [] := fun e => by have := hr.2.1 hk e; omega
    have h64 : ¬ 64 < zs.length := fun e => by have := hr.2.2.1 hk e; omega
    have hl : Letters zs K := by
      by_cases hl : Letters zs (K : Int).toNat
      · rwa [Int.toNat_natCast] at hl
      · have := hr.2.2.2.1 hk h0 (by omega) hl; omega
    have g := g1 he
    rw [Int.toNat_natCast] at g
    rw [g.1, g.2, he]
    have hlen := h.eqlen
    have := List.length_pos_iff.2 h0
    exact gives_row64 (decode_in ao len cap zs K w h (by omega) (by omega) (by omega) hl)
  · rw [(g2 he).1, (g2 he).2]
    exact gives_nil (same_world (decode_no ao len cap zs k er w h hr he))
theorem ref3_is (zs : List Int) (k : Int) : ∃ er, ref3 zs k er := by
  by_cases hk : 0 ≤ k ∧ k ≤ 6
  · by_cases h0 : zs = []
    · exact ⟨3, fun h => absurd hk h, fun _ _ => rfl, fun _ h => by rw [h0] at h; simp at h, fun _ h => absurd h0 h, fun _ h => absurd h0 h⟩
    · by_cases h64 : 64 < zs.length
      · exact ⟨31, fun h => absurd hk h, fun _ h => absurd h h0, fun _ _ => rfl, fun _ _ h => by omega, fun _ _ h => by omega⟩
      · by_cases hl : Letters zs k.toNat
        · exact ⟨0, fun h => absurd hk h, fun _ h => absurd h h0, fun _ h => absurd h h64, fun _ _ _ h => absurd hl h, fun _ _ _ _ => rfl⟩
        · exact ⟨30, fun h => absurd hk h, fun _ h => absurd h h0, fun _ h => absurd h h64, fun _ _ _ _ => rfl, fun _ _ _ h => absurd h hl⟩
  · exact ⟨150, fun _ => rfl, fun h => absurd h hk, fun h => absurd h hk, fun h => absurd h hk, fun h => absurd h hk⟩
theorem decode_both (zs : List Int) (len : Nat) (k : Int) : ∃ L m er, Hid (∀ w ao cap, RdZ w ao len cap zs → Gives 23 #[.slice ao len cap, .int .i64 k] L m er w) ∧ Hid (∀ w ao cap, RdZ w ao len cap zs → Gives 24 #[.slice ao len cap, .int .i64 k] L m er w) := by
  obtain ⟨er, hr⟩ := ref3_is zs k
  by_cases he : er = 0
  · exact ⟨dec zs k.toNat, k.toNat, er, fun w ao cap h => decode_at ao len cap zs k er _ _ w h hr (fun _ => ⟨rfl, rfl⟩) (fun h => absurd he h), fun w ao cap h => rdecode_at ao len cap zs k er _ _ w h hr (fun _ => ⟨rfl, rfl⟩) (fun h => absurd he h)⟩
  · exact ⟨[], 0, er, fun w ao cap h => decode_at ao len cap zs k er _ _ w h hr (fun h => absurd h he) (fun _ => ⟨rfl, rfl⟩), fun w ao cap h => rdecode_at ao len cap zs k er _ _ w h hr (fun h => absurd h he) (fun _ => ⟨rfl, rfl⟩)⟩
set_option maxHeartbeats 2000000 in
theorem decodes_walk (ao : Option Addr) (len cap : Nat) (zs : List Int) (k : Int) (w : World) (h : RdZ w ao len cap zs) (hm : len * 8 ≤ 140737488351232) :
    Calls Try.prog 5 #[.slice ao len cap, .int .i64 k] w fun e w' => e = .returned (.bool true) ∧ Below w.heap.size w w' := by
  obtain ⟨L, m, er, E1, E2⟩ := decode_both zs len k
  go_enter Try.func5, Try.ntmps5
  go_wp2_with (first
    | (at_builtin; refine wp_copyZ w w rfl (.tmp 10) (.tmp 11) rfl (Below.refl _ _) rfl ao len cap zs rfl h hm ?_; intro a1 c1 w1 hM1 hW1 hO1; clear hO1)
    | (go_at_call 23; refine (E1.out _ _ _ hM1).mono ?_; rintro e w2 ⟨a2, c2, rfl, hA2, hB2⟩; have hW2 := hW1.trans (hB2.mono hW1.size); have hM2 := hM1.below (Nat.le_refl _) hB2; have hP2 := h.below (Nat.le_refl _) hW2)
    | (go_at_call 24; refine (E2.out _ _ _ hP2).mono ?_; rintro e w3 ⟨a3, c3, rfl, hA3, hB3⟩; have hW3 := hW2.trans (hB3.mono hW2.size); have hM3 := hM2.below (Nat.le_refl _) hB3; have i2 := hA2.below (Nat.le_refl _) hB3)
    | (go_at_call 13; refine (fixed_at _).mono ?_; rintro e w4 ⟨rfl, hB4⟩; have hW4 := hW3.trans (hB4.mono hW3.size); have hM4 := hM3.below (Nat.le_refl _) hB4; have j2 := i2.below (Nat.le_refl _) hB4; have j3 := hA3.below (Nat.le_refl _) hB4)
    | (go_at_call 22; refine (tuples_at _ _ _ _ _ _ L L true _ j2 j3 ⟨fun _ => rfl, fun _ => rfl⟩).mono ?_; rintro e w5 ⟨rfl, hB5⟩; have hW5 := hW4.trans (hB5.mono hW4.size); have hM5 := hM4.below (Nat.le_refl _) hB5; have hP5 := h.below (Nat.le_refl _) hW5)
    | (go_at_call 15; refine (same_at _ _ _ _ _ _ zs zs true _ hM5 hP5 ⟨fun _ => rfl, fun _ => rfl⟩).mono ?_; rintro e w6 ⟨rfl, hB6⟩; have hW6 := hW5.trans (hB6.mono hW5.size)))
  go_ret
  exact ⟨by simp, hW6⟩
end Go.Proofs.Ytkanjgphmafjbaa.Wo
