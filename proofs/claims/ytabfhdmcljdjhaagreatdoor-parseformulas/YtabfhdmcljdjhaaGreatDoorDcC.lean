/- The document's reader: product. -/
import Derived.Test.YtabfhdmcljdjhaaGreatDoorPcD
import Derived.Deep.RegionWith
namespace Go.Proofs.YtabfhdmcljdjhaaGreatDoor.Gl
open Go.RowKit
set_option linter.unusedVariables false
set_option linter.unusedSimpArgs false

set_option maxRecDepth 100000 in
set_option maxHeartbeats 4000000 in
theorem dproduct_step {X : Rx} {N : Nat} (F : DFac X N) : DPro X N := by
  intro w P r h hP hr
  obtain ⟨r0, hr0, hl⟩ := gt_prod hr
  have hbw := h.lt
  have hWw := h.below.size
  have hR1 := rb_new w zT 43
  have h1 := h.alloc (.cells zT 43)
  have hB1 : Bux X.b w (w.alloc (.cells zT 43)) := Bux.of (bal w _)
  have FC := mkHid (F _ _ _ h1 hP hr0)
  have hf0 := hr0.from hP
  have HL := mkHid hl
  have FF := mkHid F
  clear hr hl F hr0
  go_enter Tryz.func47, Tryz.ntmps47
  go_wp2_with (go_at_call 75; refine (FC.out).mono ?_; rintro e w2 ⟨o, m, xs, lo, ln, lc, x, rfl, hV2, h2, hC2, hx⟩; have hR2 := hR1.but hC2 (by omega); have hs1 : w.heap.size < w2.heap.size := (Array.getElem?_eq_some_iff.1 hR2).1)
  have hX3 := rb_new w2 #[.int .i64 o, .int .i64 m, .string xs, .slice lo ln lc] 43
  have h3 := h2.alloc (.cells #[.int .i64 o, .int .i64 m, .string xs, .slice lo ln lc] 43)
  have hR3 := hR2.keep (bal w2 (.cells #[.int .i64 o, .int .i64 m, .string xs, .slice lo ln lc] 43))
  have hU3 : Bux X.b w (w2.alloc (.cells #[.int .i64 o, .int .i64 m, .string xs, .slice lo ln lc] 43)) := (hB1.trans hC2).trans (Bux.of (bal w2 _))
  have hV3 : RdTn (fun k => w.heap.size < k ∧ k ≠ w2.heap.size) (w2.alloc (.cells #[.int .i64 o, .int .i64 m, .string xs, .slice lo ln lc] 43)) x (.int .i64 o) (.int .i64 m) (.string xs) (.slice lo ln lc) := by
    refine RdTn.keep (Hi.of (bal w2 _)) _ _ _ _ _ (RdTn.low (fun k hk (hg : _ ≤ k) => ?_) _ _ _ _ _ hV2)
    simp only [World.size_alloc] at hg
    exact ⟨by omega, by omega⟩
  have hlx := HL.out x hx
  go_loopw [] (fun wr => ∃ o m xs lo ln lc x P1, Rb wr w2.heap.size #[.int .i64 o, .int .i64 m, .string xs, .slice lo ln lc] 43 ∧ RdTn (fun k => w.heap.size < k ∧ k ≠ w2.heap.size) wr x (.int .i64 o) (.int .i64 m) (.string xs) (.slice lo ln lc) ∧ Ds X wr P1 ∧ P1.from N ∧ GT X.ws (.prodL x) P1 r ∧ Bux X.b w wr ∧ Rb wr w.heap.size zT 43) (fun wr => dsM X.n X.b wr)
  case atStart => exact ⟨o, m, xs, lo, ln, lc, x, r0.pos, hX3, hV3, h3, hf0, hlx, hU3, hR3⟩
  case round =>
    have hbX : X.b ≠ w2.heap.size := by have := h2.lt; omega
    have hRX : w.heap.size < w2.heap.size := by omega
    have hWX : X.W.heap.size ≤ w2.heap.size := by omega
    clear hX3 h3 hR3 hU3 hV3 h2 hC2 hR2 h1 hR1 hB1 hV2 hx hlx HL FC hf0
    obtain ⟨o, m, xs, lo, ln, lc, x, P1, hX, hV, hS, hP1, hG, hU, hR⟩ := hrel
    have hXlt := (Array.getElem?_eq_some_iff.1 hX).1
    by_cases hst : P1.stands X.ws kStar
    · cases P1 with
      | bad y q => exact hst.elim
      | «at» p =>
        obtain ⟨r', hr', hl'⟩ := gt_prodL_yes hG hst
        have hlt := IsS.lt hst
        have hf' := hr'.from (N := p + 1) (Nat.le_refl _)
        have TC := mkHid (dis_yes (x := kStar) hS hst)
        have FC := mkHid (fun w5 h5 => FF.out w5 (.at (p + 1)) r' h5 (Nat.le_succ_of_le hP1) hr')
        have HL := mkHid hl'
        have hf2 := mkHid (hr'.from (N := N) (Nat.le_succ_of_le hP1))
        have hsm := hS.small
        clear hr' hl' hG FF
        go_wp2_with (go_at_call 40; refine (TC.out).mono ?_; rintro e w3 ⟨rfl, hB3⟩; have hS3 := hS.keep hB3; obtain ⟨t1, f1⟩ := txcell hS3.at'.2 1 _ rfl)
        obtain ⟨h4, hC4⟩ := hS3.next hlt
        clear t1 f1
        have hX4 := (hX.keep hB3).but hC4 (fun e => hbX e.symm)
        have hR4 := (hR.keep hB3).but hC4 (by omega)
        have hU4 := (hU.trans (Bux.of hB3)).trans hC4
        have hV4 := RdTn.keep (Hi.but hC4 (fun k hk => by omega)) _ _ _ _ _ (RdTn.keep (Hi.of hB3) _ _ _ _ _ hV)
        clear hC4
        generalize w3.setCell ⟨X.b, 1, none⟩ (.int .i64 ((p : Int) + 1)) = w4 at h4 hX4 hR4 hU4 hV4 ⊢
        obtain ⟨x0, -⟩ := txcell hX4 0 _ rfl
        obtain ⟨x1, -⟩ := txcell hX4 1 _ rfl
        obtain ⟨x2, -⟩ := txcell hX4 2 _ rfl
        obtain ⟨x3, -⟩ := txcell hX4 3 _ rfl
        go_region_with (first
          | (go_at_call 75
             refine (FC.out _ ?_).mono ?_
             exact h4.drew
             rintro e w6 ⟨o2, m2, xs2, lo2, ln2, lc2, y, rfl, hY5, h6, hC6, hy⟩
             have hX6 := Rb.but (w := w4.drew) hX4 hC6 (fun e => hbX e.symm)
             have hR6 := Rb.but (w := w4.drew) hR4 hC6 (by omega)
             have hU6 := (but_drew hU4).trans hC6
             have hs6 : w2.heap.size < w4.heap.size := (Array.getElem?_eq_some_iff.1 hX4).1
             have hs7 : w4.heap.size ≤ w6.heap.size := hC6.size
             have hV6 := RdTn.keep (W := w4.drew) (Hi.but hC6 (fun k hk => by omega)) _ _ _ _ _ (RdTn.keep (Hi.of (Below.refl _ w4).drew) _ _ _ _ _ hV4)
             have hY6 : RdTn (fun k => w.heap.size < k ∧ k ≠ w2.heap.size) w6 y (.int .i64 o2) (.int .i64 m2) (.string xs2) (.slice lo2 ln2 lc2) := RdTn.low (fun k _ (hk : w4.heap.size ≤ k) => ⟨by omega, by omega⟩) _ _ _ _ _ hY5
             obtain ⟨z0, -⟩ := txcell hX6 0 _ rfl
             obtain ⟨z1, -⟩ := txcell hX6 1 _ rfl
             obtain ⟨z2, -⟩ := txcell hX6 2 _ rfl
             obtain ⟨z3, -⟩ := txcell hX6 3 _ rfl
             have hX7 := hX6.keep (bal w6 (.cells #[.int .i64 o, .int .i64 m, .string xs, .slice lo ln lc, .int .i64 o2, .int .i64 m2, .string xs2, .slice lo2 ln2 lc2] 43))
             have hR7 := hR6.keep (bal w6 (.cells #[.int .i64 o, .int .i64 m, .string xs, .slice lo ln lc, .int .i64 o2, .int .i64 m2, .string xs2, .slice lo2 ln2 lc2] 43))
             have h7 := h6.alloc (.cells #[.int .i64 o, .int .i64 m, .string xs, .slice lo ln lc, .int .i64 o2, .int .i64 m2, .string xs2, .slice lo2 ln2 lc2] 43)
             have hU7 := hU6.trans (Bux.of (bal w6 (.cells #[.int .i64 o, .int .i64 m, .string xs, .slice lo ln lc, .int .i64 o2, .int .i64 m2, .string xs2, .slice lo2 ln2 lc2] 43)))
             have hV7 := mk2 (t := 43) hV6 hY6 rfl ⟨by omega, by omega⟩ 5 0 emp ⟨by decide, by decide, sz_emp⟩
             have hX8 := rb_four hX7 rfl (.int .i64 5) (.int .i64 0) (.string emp) (.slice (some ⟨w6.heap.size, 0, none⟩) 2 2)
             have h8 := h7.st4 hbX hWX (.int .i64 5) (.int .i64 0) (.string emp) (.slice (some ⟨w6.heap.size, 0, none⟩) 2 2)
             have hU8 := hU7.st4 (Nat.le_of_lt hRX) (.int .i64 5) (.int .i64 0) (.string emp) (.slice (some ⟨w6.heap.size, 0, none⟩) 2 2)
             have hV8 := RdTn.keep (Hi.st4 (fun k (hk : w.heap.size < k ∧ k ≠ w2.heap.size) => hk.2) (w6.alloc (.cells #[.int .i64 o, .int .i64 m, .string xs, .slice lo ln lc, .int .i64 o2, .int .i64 m2, .string xs2, .slice lo2 ln2 lc2] 43)) (.int .i64 5) (.int .i64 0) (.string emp) (.slice (some ⟨w6.heap.size, 0, none⟩) 2 2)) _ _ _ _ _ hV7
             have hR8 := hR7.st4 (X := w2.heap.size) (by omega) (.int .i64 5) (.int .i64 0) (.string emp) (.slice (some ⟨w6.heap.size, 0, none⟩) 2 2)
             obtain ⟨u0, v0⟩ := txcell hX7 0 _ rfl
             obtain ⟨u1, v1⟩ := txcell hX7 1 _ rfl
             obtain ⟨u2, v2⟩ := txcell hX7 2 _ rfl
             obtain ⟨u3, v3⟩ := txcell hX7 3 _ rfl))
        all_goals
          go_roundw
          case rel => exact ⟨_, _, _, _, _, _, _, _, _, _, _, _, _, _, ⟨5, 0, emp, some ⟨w6.heap.size, 0, none⟩, 2, 2, tMul x y, r'.pos, hX8, hV8, h8, hf2.out, HL.out y hy, hU8, hR8⟩, rfl⟩
          case measure => exact dsM_lt hS hlt h8 hf'
    · obtain ⟨hq, hi⟩ := gt_prodL_no hG hst
      have TC := mkHid (dis_no (x := kStar) hS hst)
      clear FF hG hst
      go_wp2_with (go_at_call 40; refine (TC.out).mono ?_; rintro e w4 ⟨rfl, hB4⟩; have h4 := hS.keep hB4; have hX4 := hX.keep hB4; have hR4 := hR.keep hB4; have hU4 := hU.trans (Bux.of hB4); have hV4 := RdTn.keep (Hi.of hB4) _ _ _ _ _ hV; obtain ⟨x0, -⟩ := txcell hX4 0 _ rfl; obtain ⟨x1, -⟩ := txcell hX4 1 _ rfl; obtain ⟨x2, -⟩ := txcell hX4 2 _ rfl; obtain ⟨x3, -⟩ := txcell hX4 3 _ rfl; obtain ⟨r0, g0⟩ := txcell hR4 0 _ rfl; obtain ⟨r1, g1⟩ := txcell hR4 1 _ rfl; obtain ⟨r2, g2⟩ := txcell hR4 2 _ rfl; obtain ⟨r3, g3⟩ := txcell hR4 3 _ rfl; have hRy := rb_four hR4 rfl (.int .i64 o) (.int .i64 m) (.string xs) (.slice lo ln lc); obtain ⟨k0, -⟩ := txcell hRy 0 _ rfl; obtain ⟨k1, -⟩ := txcell hRy 1 _ rfl; obtain ⟨k2, -⟩ := txcell hRy 2 _ rfl; obtain ⟨k3, -⟩ := txcell hRy 3 _ rfl)
      exact bodyPost_ret (v := .agg #[.int .i64 o, .int .i64 m, .string xs, .slice lo ln lc]) (by simp [results, Tryz.results47, go_sem, k0, k1, k2, k3]) rfl ⟨o, m, xs, lo, ln, lc, x, rfl, RdTn.low (fun k _ (hk : w.heap.size < k ∧ k ≠ w2.heap.size) => Nat.le_of_lt hk.1) _ _ _ _ _ (RdTn.keep (Hi.st4 (fun k (hk : w.heap.size < k ∧ k ≠ w2.heap.size) => by omega) w4 (.int .i64 o) (.int .i64 m) (.string xs) (.slice lo ln lc)) _ _ _ _ _ hV4), by rw [hq]; exact h4.st4 (by omega) hWw (.int .i64 o) (.int .i64 m) (.string xs) (.slice lo ln lc), hU4.st4 (Nat.le_refl _) (.int .i64 o) (.int .i64 m) (.string xs) (.slice lo ln lc), hi⟩
end Go.Proofs.YtabfhdmcljdjhaaGreatDoor.Gl
/- The document's reader: sum. -/
namespace Go.Proofs.YtabfhdmcljdjhaaGreatDoor.Gl
open Go.RowKit
set_option linter.unusedVariables false
set_option linter.unusedSimpArgs false

set_option maxRecDepth 100000 in
set_option maxHeartbeats 4000000 in
theorem dsum_step {X : Rx} {N : Nat} (F : DPro X N) : DSum X N := by
  intro w P r h hP hr
  obtain ⟨r0, hr0, hl⟩ := gt_sum hr
  have hbw := h.lt
  have hWw := h.below.size
  have hR1 := rb_new w zT 43
  have h1 := h.alloc (.cells zT 43)
  have hB1 : Bux X.b w (w.alloc (.cells zT 43)) := Bux.of (bal w _)
  have FC := mkHid (F _ _ _ h1 hP hr0)
  have hf0 := hr0.from hP
  have HL := mkHid hl
  have FF := mkHid F
  clear hr hl F hr0
  go_enter Tryz.func25, Tryz.ntmps25
  go_wp2_with (go_at_call 47; refine (FC.out).mono ?_; rintro e w2 ⟨o, m, xs, lo, ln, lc, x, rfl, hV2, h2, hC2, hx⟩; have hR2 := hR1.but hC2 (by omega); have hs1 : w.heap.size < w2.heap.size := (Array.getElem?_eq_some_iff.1 hR2).1)
  have hX3 := rb_new w2 #[.int .i64 o, .int .i64 m, .string xs, .slice lo ln lc] 43
  have h3 := h2.alloc (.cells #[.int .i64 o, .int .i64 m, .string xs, .slice lo ln lc] 43)
  have hR3 := hR2.keep (bal w2 (.cells #[.int .i64 o, .int .i64 m, .string xs, .slice lo ln lc] 43))
  have hU3 : Bux X.b w (w2.alloc (.cells #[.int .i64 o, .int .i64 m, .string xs, .slice lo ln lc] 43)) := (hB1.trans hC2).trans (Bux.of (bal w2 _))
  have hV3 : RdTn (fun k => w.heap.size < k ∧ k ≠ w2.heap.size) (w2.alloc (.cells #[.int .i64 o, .int .i64 m, .string xs, .slice lo ln lc] 43)) x (.int .i64 o) (.int .i64 m) (.string xs) (.slice lo ln lc) := by
    refine RdTn.keep (Hi.of (bal w2 _)) _ _ _ _ _ (RdTn.low (fun k hk (hg : _ ≤ k) => ?_) _ _ _ _ _ hV2)
    simp only [World.size_alloc] at hg
    exact ⟨by omega, by omega⟩
  have hlx := HL.out x hx
  go_loopw [] (fun wr => ∃ o m xs lo ln lc x P1, Rb wr w2.heap.size #[.int .i64 o, .int .i64 m, .string xs, .slice lo ln lc] 43 ∧ RdTn (fun k => w.heap.size < k ∧ k ≠ w2.heap.size) wr x (.int .i64 o) (.int .i64 m) (.string xs) (.slice lo ln lc) ∧ Ds X wr P1 ∧ P1.from N ∧ GT X.ws (.sumL x) P1 r ∧ Bux X.b w wr ∧ Rb wr w.heap.size zT 43) (fun wr => dsM X.n X.b wr)
  case atStart => exact ⟨o, m, xs, lo, ln, lc, x, r0.pos, hX3, hV3, h3, hf0, hlx, hU3, hR3⟩
  case round =>
    have hbX : X.b ≠ w2.heap.size := by have := h2.lt; omega
    have hRX : w.heap.size < w2.heap.size := by omega
    have hWX : X.W.heap.size ≤ w2.heap.size := by omega
    clear hX3 h3 hR3 hU3 hV3 h2 hC2 hR2 h1 hR1 hB1 hV2 hx hlx HL FC hf0
    obtain ⟨o, m, xs, lo, ln, lc, x, P1, hX, hV, hS, hP1, hG, hU, hR⟩ := hrel
    have hXlt := (Array.getElem?_eq_some_iff.1 hX).1
    by_cases hst : P1.stands X.ws kPlus
    · cases P1 with
      | bad y q => exact hst.elim
      | «at» p =>
        obtain ⟨r', hr', hl'⟩ := gt_sumL_add hG hst
        have hlt := IsS.lt hst
        have hf' := hr'.from (N := p + 1) (Nat.le_refl _)
        have FC := mkHid (fun w5 h5 => FF.out w5 (.at (p + 1)) r' h5 (Nat.le_succ_of_le hP1) hr')
        have HL := mkHid hl'
        have hf2 := mkHid (hr'.from (N := N) (Nat.le_succ_of_le hP1))
        have hsm := hS.small
        clear hr' hl' hG FF
        go_wp2_with (fail)
        refine (dis_yes (x := kPlus) hS hst).mono ?_
        rintro e wa0 ⟨rfl, hBa0⟩
        have hSa0 := Ds.keep hS hBa0
        go_wp2_with (fail)
        refine (dis_no (x := kMinus) hSa0 (IsS.ne hst plus_minus)).mono ?_
        rintro e w3 ⟨rfl, hBa1⟩
        have hSa1 := Ds.keep hSa0 hBa1
        have hS3 := hSa1
        have hB3 : Below wr.heap.size wr w3 := (hBa0.trans (hBa1.mono hBa0.size))
        obtain ⟨t1, f1⟩ := txcell hS3.at'.2 1 _ rfl
        go_wp2_with (fail)
        obtain ⟨h4, hC4⟩ := hS3.next hlt
        clear t1 f1
        have hX4 := (hX.keep hB3).but hC4 (fun e => hbX e.symm)
        have hR4 := (hR.keep hB3).but hC4 (by omega)
        have hU4 := (hU.trans (Bux.of hB3)).trans hC4
        have hV4 := RdTn.keep (Hi.but hC4 (fun k hk => by omega)) _ _ _ _ _ (RdTn.keep (Hi.of hB3) _ _ _ _ _ hV)
        clear hC4
        generalize w3.setCell ⟨X.b, 1, none⟩ (.int .i64 ((p : Int) + 1)) = w4 at h4 hX4 hR4 hU4 hV4 ⊢
        obtain ⟨x0, -⟩ := txcell hX4 0 _ rfl
        obtain ⟨x1, -⟩ := txcell hX4 1 _ rfl
        obtain ⟨x2, -⟩ := txcell hX4 2 _ rfl
        obtain ⟨x3, -⟩ := txcell hX4 3 _ rfl
        go_region_with (first
          | (go_at_call 47
             refine (FC.out _ ?_).mono ?_
             exact h4.drew
             rintro e w6 ⟨o2, m2, xs2, lo2, ln2, lc2, y, rfl, hY5, h6, hC6, hy⟩
             have hX6 := Rb.but (w := w4.drew) hX4 hC6 (fun e => hbX e.symm)
             have hR6 := Rb.but (w := w4.drew) hR4 hC6 (by omega)
             have hU6 := (but_drew hU4).trans hC6
             have hs6 : w2.heap.size < w4.heap.size := (Array.getElem?_eq_some_iff.1 hX4).1
             have hs7 : w4.heap.size ≤ w6.heap.size := hC6.size
             have hV6 := RdTn.keep (W := w4.drew) (Hi.but hC6 (fun k hk => by omega)) _ _ _ _ _ (RdTn.keep (Hi.of (Below.refl _ w4).drew) _ _ _ _ _ hV4)
             have hY6 : RdTn (fun k => w.heap.size < k ∧ k ≠ w2.heap.size) w6 y (.int .i64 o2) (.int .i64 m2) (.string xs2) (.slice lo2 ln2 lc2) := RdTn.low (fun k _ (hk : w4.heap.size ≤ k) => ⟨by omega, by omega⟩) _ _ _ _ _ hY5
             obtain ⟨z0, -⟩ := txcell hX6 0 _ rfl
             obtain ⟨z1, -⟩ := txcell hX6 1 _ rfl
             obtain ⟨z2, -⟩ := txcell hX6 2 _ rfl
             obtain ⟨z3, -⟩ := txcell hX6 3 _ rfl
             have hX7 := hX6.keep (bal w6 (.cells #[.int .i64 o, .int .i64 m, .string xs, .slice lo ln lc, .int .i64 o2, .int .i64 m2, .string xs2, .slice lo2 ln2 lc2] 43))
             have hR7 := hR6.keep (bal w6 (.cells #[.int .i64 o, .int .i64 m, .string xs, .slice lo ln lc, .int .i64 o2, .int .i64 m2, .string xs2, .slice lo2 ln2 lc2] 43))
             have h7 := h6.alloc (.cells #[.int .i64 o, .int .i64 m, .string xs, .slice lo ln lc, .int .i64 o2, .int .i64 m2, .string xs2, .slice lo2 ln2 lc2] 43)
             have hU7 := hU6.trans (Bux.of (bal w6 (.cells #[.int .i64 o, .int .i64 m, .string xs, .slice lo ln lc, .int .i64 o2, .int .i64 m2, .string xs2, .slice lo2 ln2 lc2] 43)))
             have hV7 := mk2 (t := 43) hV6 hY6 rfl ⟨by omega, by omega⟩ 3 0 emp ⟨by decide, by decide, sz_emp⟩
             have hX8 := rb_four hX7 rfl (.int .i64 3) (.int .i64 0) (.string emp) (.slice (some ⟨w6.heap.size, 0, none⟩) 2 2)
             have h8 := h7.st4 hbX hWX (.int .i64 3) (.int .i64 0) (.string emp) (.slice (some ⟨w6.heap.size, 0, none⟩) 2 2)
             have hU8 := hU7.st4 (Nat.le_of_lt hRX) (.int .i64 3) (.int .i64 0) (.string emp) (.slice (some ⟨w6.heap.size, 0, none⟩) 2 2)
             have hV8 := RdTn.keep (Hi.st4 (fun k (hk : w.heap.size < k ∧ k ≠ w2.heap.size) => hk.2) (w6.alloc (.cells #[.int .i64 o, .int .i64 m, .string xs, .slice lo ln lc, .int .i64 o2, .int .i64 m2, .string xs2, .slice lo2 ln2 lc2] 43)) (.int .i64 3) (.int .i64 0) (.string emp) (.slice (some ⟨w6.heap.size, 0, none⟩) 2 2)) _ _ _ _ _ hV7
             have hR8 := hR7.st4 (X := w2.heap.size) (by omega) (.int .i64 3) (.int .i64 0) (.string emp) (.slice (some ⟨w6.heap.size, 0, none⟩) 2 2)
             obtain ⟨u0, v0⟩ := txcell hX7 0 _ rfl
             obtain ⟨u1, v1⟩ := txcell hX7 1 _ rfl
             obtain ⟨u2, v2⟩ := txcell hX7 2 _ rfl
             obtain ⟨u3, v3⟩ := txcell hX7 3 _ rfl))
        all_goals
          go_roundw
          case rel => exact ⟨_, _, _, _, _, _, _, _, _, _, _, _, _, _, _, _, _, _, _, _, _, _, ⟨3, 0, emp, some ⟨w6.heap.size, 0, none⟩, 2, 2, tAdd x y, r'.pos, hX8, hV8, h8, hf2.out, HL.out y hy, hU8, hR8⟩, rfl⟩
          case measure => exact dsM_lt hS hlt h8 hf'
    · by_cases hst2 : P1.stands X.ws kMinus
      · cases P1 with
        | bad y q => exact hst2.elim
        | «at» p =>
          obtain ⟨r', hr', hl'⟩ := gt_sumL_sub hG hst2
          have hlt := IsS.lt hst2
          have hf' := hr'.from (N := p + 1) (Nat.le_refl _)
          have FC := mkHid (fun w5 h5 => FF.out w5 (.at (p + 1)) r' h5 (Nat.le_succ_of_le hP1) hr')
          have HL := mkHid hl'
          have hf2 := mkHid (hr'.from (N := N) (Nat.le_succ_of_le hP1))
          have hsm := hS.small
          clear hr' hl' hG FF
          go_wp2_with (fail)
          refine (dis_no (x := kPlus) hS hst).mono ?_
          rintro e wa0 ⟨rfl, hBa0⟩
          have hSa0 := Ds.keep hS hBa0
          go_wp2_with (fail)
          refine (dis_yes (x := kMinus) hSa0 hst2).mono ?_
          rintro e wa1 ⟨rfl, hBa1⟩
          have hSa1 := Ds.keep hSa0 hBa1
          go_wp2_with (fail)
          refine (dis_yes (x := kMinus) hSa1 hst2).mono ?_
          rintro e w3 ⟨rfl, hBa2⟩
          have hSa2 := Ds.keep hSa1 hBa2
          have hS3 := hSa2
          have hB3 : Below wr.heap.size wr w3 := ((hBa0.trans (hBa1.mono hBa0.size)).trans (hBa2.mono (Nat.le_trans hBa0.size hBa1.size)))
          obtain ⟨t1, f1⟩ := txcell hS3.at'.2 1 _ rfl
          go_wp2_with (fail)
          obtain ⟨h4, hC4⟩ := hS3.next hlt
          clear t1 f1
          have hX4 := (hX.keep hB3).but hC4 (fun e => hbX e.symm)
          have hR4 := (hR.keep hB3).but hC4 (by omega)
          have hU4 := (hU.trans (Bux.of hB3)).trans hC4
          have hV4 := RdTn.keep (Hi.but hC4 (fun k hk => by omega)) _ _ _ _ _ (RdTn.keep (Hi.of hB3) _ _ _ _ _ hV)
          clear hC4
          generalize w3.setCell ⟨X.b, 1, none⟩ (.int .i64 ((p : Int) + 1)) = w4 at h4 hX4 hR4 hU4 hV4 ⊢
          obtain ⟨x0, -⟩ := txcell hX4 0 _ rfl
          obtain ⟨x1, -⟩ := txcell hX4 1 _ rfl
          obtain ⟨x2, -⟩ := txcell hX4 2 _ rfl
          obtain ⟨x3, -⟩ := txcell hX4 3 _ rfl
          go_region_with (first
            | (go_at_call 47
               refine (FC.out _ ?_).mono ?_
               exact h4.drew
               rintro e w6 ⟨o2, m2, xs2, lo2, ln2, lc2, y, rfl, hY5, h6, hC6, hy⟩
               have hX6 := Rb.but (w := w4.drew) hX4 hC6 (fun e => hbX e.symm)
               have hR6 := Rb.but (w := w4.drew) hR4 hC6 (by omega)
               have hU6 := (but_drew hU4).trans hC6
               have hs6 : w2.heap.size < w4.heap.size := (Array.getElem?_eq_some_iff.1 hX4).1
               have hs7 : w4.heap.size ≤ w6.heap.size := hC6.size
               have hV6 := RdTn.keep (W := w4.drew) (Hi.but hC6 (fun k hk => by omega)) _ _ _ _ _ (RdTn.keep (Hi.of (Below.refl _ w4).drew) _ _ _ _ _ hV4)
               have hY6 : RdTn (fun k => w.heap.size < k ∧ k ≠ w2.heap.size) w6 y (.int .i64 o2) (.int .i64 m2) (.string xs2) (.slice lo2 ln2 lc2) := RdTn.low (fun k _ (hk : w4.heap.size ≤ k) => ⟨by omega, by omega⟩) _ _ _ _ _ hY5
               obtain ⟨z0, -⟩ := txcell hX6 0 _ rfl
               obtain ⟨z1, -⟩ := txcell hX6 1 _ rfl
               obtain ⟨z2, -⟩ := txcell hX6 2 _ rfl
               obtain ⟨z3, -⟩ := txcell hX6 3 _ rfl
               have hX7 := hX6.keep (bal w6 (.cells #[.int .i64 o, .int .i64 m, .string xs, .slice lo ln lc, .int .i64 o2, .int .i64 m2, .string xs2, .slice lo2 ln2 lc2] 43))
               have hR7 := hR6.keep (bal w6 (.cells #[.int .i64 o, .int .i64 m, .string xs, .slice lo ln lc, .int .i64 o2, .int .i64 m2, .string xs2, .slice lo2 ln2 lc2] 43))
               have h7 := h6.alloc (.cells #[.int .i64 o, .int .i64 m, .string xs, .slice lo ln lc, .int .i64 o2, .int .i64 m2, .string xs2, .slice lo2 ln2 lc2] 43)
               have hU7 := hU6.trans (Bux.of (bal w6 (.cells #[.int .i64 o, .int .i64 m, .string xs, .slice lo ln lc, .int .i64 o2, .int .i64 m2, .string xs2, .slice lo2 ln2 lc2] 43)))
               have hV7 := mk2 (t := 43) hV6 hY6 rfl ⟨by omega, by omega⟩ 4 0 emp ⟨by decide, by decide, sz_emp⟩
               have hX8 := rb_four hX7 rfl (.int .i64 4) (.int .i64 0) (.string emp) (.slice (some ⟨w6.heap.size, 0, none⟩) 2 2)
               have h8 := h7.st4 hbX hWX (.int .i64 4) (.int .i64 0) (.string emp) (.slice (some ⟨w6.heap.size, 0, none⟩) 2 2)
               have hU8 := hU7.st4 (Nat.le_of_lt hRX) (.int .i64 4) (.int .i64 0) (.string emp) (.slice (some ⟨w6.heap.size, 0, none⟩) 2 2)
               have hV8 := RdTn.keep (Hi.st4 (fun k (hk : w.heap.size < k ∧ k ≠ w2.heap.size) => hk.2) (w6.alloc (.cells #[.int .i64 o, .int .i64 m, .string xs, .slice lo ln lc, .int .i64 o2, .int .i64 m2, .string xs2, .slice lo2 ln2 lc2] 43)) (.int .i64 4) (.int .i64 0) (.string emp) (.slice (some ⟨w6.heap.size, 0, none⟩) 2 2)) _ _ _ _ _ hV7
               have hR8 := hR7.st4 (X := w2.heap.size) (by omega) (.int .i64 4) (.int .i64 0) (.string emp) (.slice (some ⟨w6.heap.size, 0, none⟩) 2 2)
               obtain ⟨u0, v0⟩ := txcell hX7 0 _ rfl
               obtain ⟨u1, v1⟩ := txcell hX7 1 _ rfl
               obtain ⟨u2, v2⟩ := txcell hX7 2 _ rfl
               obtain ⟨u3, v3⟩ := txcell hX7 3 _ rfl))
          all_goals
            go_roundw
            case rel => exact ⟨_, _, _, _, _, _, _, _, _, _, _, _, _, _, _, _, _, _, _, _, _, _, ⟨4, 0, emp, some ⟨w6.heap.size, 0, none⟩, 2, 2, tSub x y, r'.pos, hX8, hV8, h8, hf2.out, HL.out y hy, hU8, hR8⟩, rfl⟩
            case measure => exact dsM_lt hS hlt h8 hf'
      · obtain ⟨hq, hi⟩ := gt_sumL_no hG hst hst2
        clear FF hG
        go_wp2_with (fail)
        refine (dis_no (x := kPlus) hS hst).mono ?_
        rintro e w3 ⟨rfl, hB3⟩
        have hS3 := hS.keep hB3
        go_wp2_with (fail)
        refine (dis_no (x := kMinus) hS3 hst2).mono ?_
        rintro e w4 ⟨rfl, hB4a⟩
        have h4 := hS3.keep hB4a
        have hB4 : Below wr.heap.size wr w4 := hB3.trans (hB4a.mono hB3.size)
        clear hst hst2 hS3 hB4a
        have hX4 := hX.keep hB4
        have hR4 := hR.keep hB4
        have hU4 := hU.trans (Bux.of hB4)
        have hV4 := RdTn.keep (Hi.of hB4) _ _ _ _ _ hV
        obtain ⟨x0, -⟩ := txcell hX4 0 _ rfl
        obtain ⟨x1, -⟩ := txcell hX4 1 _ rfl
        obtain ⟨x2, -⟩ := txcell hX4 2 _ rfl
        obtain ⟨x3, -⟩ := txcell hX4 3 _ rfl
        obtain ⟨r0, g0⟩ := txcell hR4 0 _ rfl
        obtain ⟨r1, g1⟩ := txcell hR4 1 _ rfl
        obtain ⟨r2, g2⟩ := txcell hR4 2 _ rfl
        obtain ⟨r3, g3⟩ := txcell hR4 3 _ rfl
        have hRy := rb_four hR4 rfl (.int .i64 o) (.int .i64 m) (.string xs) (.slice lo ln lc)
        obtain ⟨k0, -⟩ := txcell hRy 0 _ rfl
        obtain ⟨k1, -⟩ := txcell hRy 1 _ rfl
        obtain ⟨k2, -⟩ := txcell hRy 2 _ rfl
        obtain ⟨k3, -⟩ := txcell hRy 3 _ rfl
        go_wp2
        exact bodyPost_ret (v := .agg #[.int .i64 o, .int .i64 m, .string xs, .slice lo ln lc]) (by simp [results, Tryz.results25, go_sem, k0, k1, k2, k3]) rfl ⟨o, m, xs, lo, ln, lc, x, rfl, RdTn.low (fun k _ (hk : w.heap.size < k ∧ k ≠ w2.heap.size) => Nat.le_of_lt hk.1) _ _ _ _ _ (RdTn.keep (Hi.st4 (fun k (hk : w.heap.size < k ∧ k ≠ w2.heap.size) => by omega) w4 (.int .i64 o) (.int .i64 m) (.string xs) (.slice lo ln lc)) _ _ _ _ _ hV4), by rw [hq]; exact h4.st4 (by omega) hWw (.int .i64 o) (.int .i64 m) (.string xs) (.slice lo ln lc), hU4.st4 (Nat.le_refl _) (.int .i64 o) (.int .i64 m) (.string xs) (.slice lo ln lc), hi⟩
end Go.Proofs.YtabfhdmcljdjhaaGreatDoor.Gl
