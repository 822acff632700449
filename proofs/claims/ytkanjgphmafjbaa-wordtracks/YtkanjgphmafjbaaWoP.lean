/- WordTracks: the walk. -/
import Derived.Test.YtkanjgphmafjbaaWoJ
namespace Go.Proofs.Ytkanjgphmafjbaa.Wo
open Go.RowKit
set_option linter.unusedVariables false

set_option maxRecDepth 100000 in
set_option maxHeartbeats 2000000 in
theorem tracks_no (ao : Option Addr) (len cap : Nat) (zs : List Int) (k er : Int) (w : World) (h : RdZ w ao len cap zs) (hm : len * 8 ≤ 140737488351232) (hr : ref3 zs k er) (he : ¬ er = 0) :
    Calls Try.prog 8 #[.slice ao len cap, .int .i64 k] w fun e w' => e = .returned (.bool true) ∧ Below w.heap.size w w' := by
  have HR : Hid (ref3 zs k er) := hr
  have he' : (er != 0) = true := by simpa using he
  clear hr
  go_enter Try.func8, Try.ntmps8
  go_wp2_with (first
    | (go_at_call 13; refine (fixed_at _).mono ?_; rintro e w1 ⟨rfl, hB1⟩; have h1 := h.below (Nat.le_refl _) hB1)
    | (at_builtin; refine wp_copyZ w1 w1 rfl (.tmp 19) (.tmp 20) rfl (Below.refl _ _) rfl ao len cap zs rfl h1 hm ?_; intro a2 d2 w2 hR2 hB2 hO2; have hW2 := hB1.trans (hB2.mono hB1.size))
    | (go_at_call 23; refine (decode_no _ _ _ zs k er _ hR2 HR.out he).mono ?_; rintro e w' ⟨rfl, rfl⟩))
  go_ret
  exact ⟨by simp, hW2⟩
set_option maxRecDepth 100000 in
set_option maxHeartbeats 4000000 in
theorem tracks_yes (ao : Option Addr) (n cap : Nat) (zs : List Int) (K : Nat) (w : World) (h : RdZ w ao n cap zs) (hK : K ≤ 6) (h0 : 0 < n) (h64 : n ≤ 64) (hl : Letters zs K) :
    Calls Try.prog 8 #[.slice ao n cap, .int .i64 K] w fun e w' => e = .returned (.bool true) ∧ Below w.heap.size w w' := by
  have hcap := h.lecap
  have hmax := h.lemax
  have hm : n * 8 ≤ 140737488351232 := by omega
  have HL : Hid (zs.length = n) := h.eqlen
  have HNE : Hid (zs ≠ []) := List.length_pos_iff.1 (by rw [HL.out]; omega)
  have HLe : Hid (Letters zs K) := hl
  have HV : Hid (In64 (dec zs K)) := dec_64 zs K HNE.out (by rw [HL.out]; exact h64)
  have HG : Hid (lg (dec zs K) ≤ n) := by have := lg_dec zs K HNE.out; rw [HL.out] at this; exact this
  have HE : Hid (enc (dec zs K) n = zs) := by have := enc_dec zs K HNE.out hl; rw [HL.out] at this; exact this
  have DE : Hid (∀ w ao cap, RdZ w ao n cap zs → Calls Try.prog 23 #[.slice ao n cap, .int .i64 K] w fun e w' => ∃ g, e = .returned (.tuple #[.slice (some ⟨g, 0, none⟩) K K, .int .i64 0]) ∧ w'.ownsRow w.heap.size 2 1 (.slice (some ⟨g, 0, none⟩) K K) K (cellsZ (dec zs K)) ∧ Below w.heap.size w w') := fun w ao cap h => decode_in ao n cap zs K w h hK h0 h64 hl
  have EN : Hid (∀ w ao cap, RdZ w ao K cap (dec zs K) → Calls Try.prog 17 #[.slice ao K cap, .int .i64 n] w fun e w' => ∃ g, e = .returned (.tuple #[.slice (some ⟨g, 0, none⟩) n n, .int .i64 0]) ∧ w'.ownsRow w.heap.size 3 1 (.slice (some ⟨g, 0, none⟩) n n) n (cellsZ zs) ∧ Below w.heap.size w w') := fun w ao cap h => by
    have := encode_in ao K cap (dec zs K) n w h HV.out hK HG.out h64
    rwa [HE.out] at this
  clear hl
  go_enter Try.func8, Try.ntmps8
  go_wp2_with (first
    | (go_at_call 13; refine (fixed_at _).mono ?_; rintro e w1 ⟨rfl, hB1⟩; have h1 := h.below (Nat.le_refl _) hB1)
    | (at_builtin; refine wp_copyZ w1 w1 rfl (.tmp 19) (.tmp 20) rfl (Below.refl _ _) rfl ao n cap zs rfl h1 hm ?_; intro a2 d2 w2 hR2 hB2 hO2; have hW2 := hB1.trans (hB2.mono hB1.size))
    | (go_at_call 23; refine (DE.out _ _ _ hR2).mono ?_; rintro e w3 ⟨g3, rfl, hO3, hB3⟩; have hW3 := hW2.trans (hB3.mono hW2.size); have hT3 := rdz_of_owns' hO3))
  go_loopw [37] (fun i wr => ∃ t : Nat, t ≤ K ∧ i = .int .i64 t ∧ Below w3.heap.size w3 wr) (fun i _ => K - (intOf i).toNat)
  case atStart => exact ⟨0, Nat.zero_le _, rfl, Below.refl _ _⟩
  case round =>
    obtain ⟨t, ht, rfl, hB⟩ := hrel
    have hW := hW3.trans (hB.mono hW3.size)
    by_cases hlt : t < K
    · have HN : Hid (numV (trk zs t) (tc (trk zs t)) 0) := ⟨fun h => absurd h (ne_nil_trk HNE.out t), fun h => absurd (trk_bin zs t) h, fun _ _ h => by rw [trk_length, HL.out] at h; omega, fun _ _ _ => ⟨rfl, rfl⟩⟩
      have hti : t < (dec zs K).length := by rw [dec_length]; exact hlt
      obtain ⟨hy0, hy1⟩ := HV.out.get hti
      have hyl : ln ((dec zs K).getD t 0) ≤ n := ((lg_le _ _).1 HG.out).2 _ (by rw [getD_of hti]; exact List.getElem_mem hti)
      have HD : Hid (dgs ((dec zs K).getD t 0) n = trk zs t) := by
        show _ = _
        rw [dec_get zs K t hlt]
        have := dgs_tc (trk zs t) (trk_bin zs t) (ne_nil_trk HNE.out t)
        rwa [trk_length, HL.out] at this
      obtain ⟨bt, ot, et, hct⟩ := hT3.cell t hlt
      obtain ⟨rfl, rfl⟩ : g3 = bt ∧ 0 = ot := by simpa using et
      rw [Nat.zero_add] at hct
      have hgl := World.block_lt_of_cell? _ _ hct
      rw [dec_get zs K t hlt] at hy0 hy1 hyl HD hct
      clear et hti
      generalize hyy : tc (trk zs t) = y at *
      clear hyy
      obtain ⟨wv, hwv⟩ : ∃ wv, wv = wr := ⟨wr, rfl⟩
      subst hwv
      go_wp2
      go_loopw [8, 42] (fun o i ws => ∃ j : Nat, j ≤ n ∧ i = .int .i64 j ∧ ws.ownsRow wv.heap.size 3 1 o j (cellsZ (trk (zs.take j) t)) ∧ Below wv.heap.size wv ws) (fun _ i _ => n - (intOf i).toNat)
      case atStart => exact ⟨0, Nat.zero_le _, rfl, World.ownsRow_nil _ _ _ _, Below.refl _ _⟩
      case round =>
        obtain ⟨j, hj, rfl, hO, hC⟩ := hrel
        have hCW := hW.trans (hC.mono hW.size)
        by_cases hjl : j < n
        · obtain ⟨b, off, rfl, hc⟩ := (h.below (Nat.le_refl _) hCW).cell j hjl
          have hx := letters_get HLe.out (i := j) (by rw [HL.out]; exact hjl)
          have hx2 := pow_small hK
          obtain ⟨hx0, hx1⟩ : 0 ≤ zs.getD j 0 ∧ zs.getD j 0 < 64 := by omega
          have HT : Hid (trk (zs.take (j + 1)) t = trk (zs.take j) t ++ [zs.getD j 0 / 2 ^ t % 2]) := trk_take zs t j (by rw [HL.out]; exact hjl)
          clear hx hx2
          generalize hxx : zs.getD j 0 = x at *
          clear hxx
          go_wp2_with (first
            | (go_at_call 29; refine (bdigit_at x t _ hx0 (by omega) (by omega)).mono ?_; rintro e w' ⟨rfl, rfl⟩)
            | (at_builtin; refine wp_pushZ wv _ wv.heap.size wv.heap.size rfl (.tmp 46) (.tmp 50) rfl _ j (trk (zs.take j) t) rfl wr.heap.size (x / 2 ^ t % 2) rfl (hO.alloc _) (cell_new1 _ _ _) (size_new1 hC.size _) (by omega) (hC.alloc hC.size _) (Nat.le_refl _) ?_; intro v' w5 hO5 hC5))
          go_roundw
          case rel =>
            go_light
            exact ⟨j + 1, by omega, by go_num, by rw [HT.out]; exact hO5, hC5⟩
          case measure => simp [intOf]; omega
        · obtain rfl : j = n := by omega
          rw [List.take_of_length_le (by rw [HL.out]; exact Nat.le_refl _)] at hO
          obtain ⟨a5, c5, rfl, hR5⟩ := rdz_of_owns hO
          have hBC := hB.trans (hC.mono hB.size)
          have hc5 := (hBC.cell (p := ⟨g3, t, none⟩) hgl).trans hct
          have ht0 : (0 : Int) ≤ (t : Int) := by omega
          have hy2 : (y != y) = false := by simp
          go_wp2_with (first
            | (go_at_call 10; refine (number_at _ _ _ (trk zs t) y 0 _ hR5 HN.out).mono ?_; rintro e w' ⟨rfl, rfl⟩)
            | (go_at_call 9; refine (digits_in y j _ hy0 hy1 hyl h64).mono ?_; rintro e w6 ⟨g6, rfl, _, hO6, hB6⟩; have hR6 := hR5.below (Nat.le_refl _) hB6; have hBD := hBC.trans (hB6.mono hBC.size); have hc6 := (hBD.cell (p := ⟨g3, t, none⟩) hgl).trans hct; have hD6 := rdz_of_owns' hO6)
            | (go_at_call 15; refine (same_at _ _ _ _ _ _ (dgs y j) (trk zs t) true _ hD6 hR6 ⟨fun _ => HD.out, fun _ => rfl⟩).mono ?_; rintro e w7 ⟨rfl, hB7⟩; have hBE := hBD.trans (hB7.mono hBD.size)))
          go_roundw
          case rel => exact ⟨t + 1, by omega, by go_num, hBE⟩
          case measure => simp [intOf]; omega
    · obtain rfl : t = K := by omega
      have hTr := hT3.below (Nat.le_refl _) hB
      go_wp2_with (first
        | (at_builtin; refine wp_copyQ wr wr rfl (.tmp 90) (.tmp 91) rfl (Below.refl _ _) rfl (some ⟨g3, 0, none⟩) t t (dec zs t) rfl hTr (by omega) ?_; intro a5 d5 w5 hR5 hB5 hO5; have hW5 := hW.trans (hB5.mono hW.size))
        | (go_at_call 17; refine (EN.out _ _ _ hR5).mono ?_; rintro e w6 ⟨g6, rfl, hO6, hB6⟩; have hW6 := hW5.trans (hB6.mono hW5.size); have h6 := h.below (Nat.le_refl _) hW6)
        | (go_at_call 15; refine (same_at _ _ _ _ _ _ zs zs true _ (rdz_of_owns' hO6) h6 ⟨fun _ => rfl, fun _ => rfl⟩).mono ?_; rintro e w7 ⟨rfl, hB7⟩; have hW7 := hW6.trans (hB7.mono hW6.size)))
      go_ret
      exact ⟨by simp, hW7⟩
theorem tracks_walk (ao : Option Addr) (len cap : Nat) (zs : List Int) (k : Int) (w : World) (h : RdZ w ao len cap zs) (hm : len * 8 ≤ 140737488351232) :
    Calls Try.prog 8 #[.slice ao len cap, .int .i64 k] w fun e w' => e = .returned (.bool true) ∧ Below w.heap.size w w' := by
  obtain ⟨er, hr⟩ := ref3_is zs k
  by_cases he : er = 0
  · subst he
    have hk : 0 ≤ k ∧ k ≤ 6 := by
      by_cases hk : 0 ≤ k ∧ k ≤ 6
      · exact hk
      · have := hr.1 hk; omega
    obtain ⟨K, rfl⟩ : ∃ K : Nat, k = K := ⟨k.toNat, by omega⟩
    have h0 : zs ≠ [] := fun e => by have := hr.2.1 hk e; omega
    have h64 : ¬ 64 < zs.length := fun e => by have := hr.2.2.1 hk e; omega
    have hl : Letters zs K := by
      by_cases hl : Letters zs (K : Int).toNat
      · rwa [Int.toNat_natCast] at hl
      · have := hr.2.2.2.1 hk h0 (by omega) hl; omega
    have hlen := h.eqlen
    have := List.length_pos_iff.2 h0
    exact tracks_yes ao len cap zs K w h (by omega) (by omega) (by omega) hl
  · exact tracks_no ao len cap zs k er w h hm hr he
end Go.Proofs.Ytkanjgphmafjbaa.Wo
