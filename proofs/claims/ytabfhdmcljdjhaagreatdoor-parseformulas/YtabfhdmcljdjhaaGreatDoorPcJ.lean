/- The landed reader: term. -/
import Derived.Test.YtabfhdmcljdjhaaGreatDoorPcD
namespace Go.Proofs.YtabfhdmcljdjhaaGreatDoor.Gl
open Go.RowKit
set_option linter.unusedVariables false
set_option linter.unusedSimpArgs false

set_option maxRecDepth 100000 in
set_option maxHeartbeats 4000000 in
theorem sum_step {X : Rx} {N : Nat} (F : ProC X N) : SumC X N := by
  intro w P r h hP hr
  obtain ⟨r0, hr0, hl⟩ := gt_sum hr
  have hbw := h.lt
  have hWw := h.below.size
  have hR1 := rb_new w zT 43
  have h1 := h.alloc (.cells zT 43)
  have hB1 : Bux X.b w (w.alloc (.cells zT 43)) := Bux.of (bal w _)
  have FC := mkHid (F _ _ _ h1 hP hr0)
  have hf0 := hr0.from hP
  have HL := mkHid hl
  have FF := mkHid F
  clear hr hl F hr0
  go_enter Tryz.func23, Tryz.ntmps23
  go_wp2_with (go_at_call 44; refine (FC.out).mono ?_; rintro e w2 ⟨o, m, xs, lo, ln, lc, x, rfl, hV2, h2, hC2, hx⟩; have hR2 := hR1.but hC2 (by omega); have hs1 : w.heap.size < w2.heap.size := (Array.getElem?_eq_some_iff.1 hR2).1)
  have hX3 := rb_new w2 #[.int .i64 o, .int .i64 m, .string xs, .slice lo ln lc] 43
  have h3 := h2.alloc (.cells #[.int .i64 o, .int .i64 m, .string xs, .slice lo ln lc] 43)
  have hR3 := hR2.keep (bal w2 (.cells #[.int .i64 o, .int .i64 m, .string xs, .slice lo ln lc] 43))
  have hU3 : Bux X.b w (w2.alloc (.cells #[.int .i64 o, .int .i64 m, .string xs, .slice lo ln lc] 43)) := (hB1.trans hC2).trans (Bux.of (bal w2 _))
  have hV3 : RdTn (fun k => w.heap.size < k ∧ k ≠ w2.heap.size) (w2.alloc (.cells #[.int .i64 o, .int .i64 m, .string xs, .slice lo ln lc] 43)) x (.int .i64 o) (.int .i64 m) (.string xs) (.slice lo ln lc) := by
    refine RdTn.keep (Hi.of (bal w2 _)) _ _ _ _ _ (RdTn.low (fun k hk (hg : _ ≤ k) => ?_) _ _ _ _ _ hV2)
    simp only [World.size_alloc] at hg
    exact ⟨by omega, by omega⟩
  have hlx := HL.out x hx
  go_loopw [] (fun wr => ∃ o m xs lo ln lc x P1, Rb wr w2.heap.size #[.int .i64 o, .int .i64 m, .string xs, .slice lo ln lc] 43 ∧ RdTn (fun k => w.heap.size < k ∧ k ≠ w2.heap.size) wr x (.int .i64 o) (.int .i64 m) (.string xs) (.slice lo ln lc) ∧ Ps X wr P1 ∧ P1.from N ∧ GT X.ws (.sumL x) P1 r ∧ Bux X.b w wr ∧ Rb wr w.heap.size zT 43) (fun wr => rdM X.b wr)
  case atStart => exact ⟨o, m, xs, lo, ln, lc, x, r0.pos, hX3, hV3, h3, hf0, hlx, hU3, hR3⟩
  case round =>
    have hbX : X.b ≠ w2.heap.size := by have := h2.lt; omega
    have hRX : w.heap.size < w2.heap.size := by omega
    have hWX : X.W.heap.size ≤ w2.heap.size := by omega
    clear hX3 h3 hR3 hU3 hV3 h2 hC2 hR2 h1 hR1 hB1 hV2 hx hlx HL FC hf0
    obtain ⟨o, m, xs, lo, ln, lc, x, P1, hX, hV, hS, hP1, hG, hU, hR⟩ := hrel
    have hXlt := (Array.getElem?_eq_some_iff.1 hX).1
    by_cases hst : P1.stands X.ws kPlus
    · cases P1 with
      | bad y q => exact hst.elim
      | «at» p =>
        obtain ⟨r', hr', hl'⟩ := gt_sumL_add hG hst
        have hlt := IsS.lt hst
        have hf' := hr'.from (N := p + 1) (Nat.le_refl _)
        have TC := mkHid (takes_yes (x := kPlus) hS hst)
        have FC := mkHid (fun w5 h5 => FF.out w5 (.at (p + 1)) r' h5 (Nat.le_succ_of_le hP1) hr')
        have HL := mkHid hl'
        have hf2 := mkHid (hr'.from (N := N) (Nat.le_succ_of_le hP1))
        clear hr' hl' hG FF
        go_wp2_with (go_at_call 31; refine (TC.out).mono ?_; rintro e w4 ⟨rfl, h4, hC4⟩; have hX4 := hX.but hC4 (fun e => hbX e.symm); have hR4 := hR.but hC4 (by omega); have hU4 := hU.trans hC4; have hV4 := RdTn.keep (Hi.but hC4 (fun k hk => by omega)) _ _ _ _ _ hV; obtain ⟨x0, -⟩ := txcell hX4 0 _ rfl; obtain ⟨x1, -⟩ := txcell hX4 1 _ rfl; obtain ⟨x2, -⟩ := txcell hX4 2 _ rfl; obtain ⟨x3, -⟩ := txcell hX4 3 _ rfl)
        go_region_with (first
          | (go_at_call 44
             refine (FC.out _ ?_).mono ?_
             exact h4.drew
             rintro e w6 ⟨o2, m2, xs2, lo2, ln2, lc2, y, rfl, hY5, h6, hC6, hy⟩
             have hX6 := Rb.but (w := w4.drew) hX4 hC6 (fun e => hbX e.symm)
             have hR6 := Rb.but (w := w4.drew) hR4 hC6 (by omega)
             have hU6 := (but_drew hU4).trans hC6
             have hs6 : w2.heap.size < w4.heap.size := (Array.getElem?_eq_some_iff.1 hX4).1
             have hs7 : w4.heap.size ≤ w6.heap.size := hC6.size
             have hV6 := RdTn.keep (W := w4.drew) (Hi.but hC6 (fun k hk => by omega)) _ _ _ _ _ (RdTn.keep (Hi.of (Below.refl _ w4).drew) _ _ _ _ _ hV4)
             have hY6 : RdTn (fun k => w.heap.size < k ∧ k ≠ w2.heap.size) w6 y (.int .i64 o2) (.int .i64 m2) (.string xs2) (.slice lo2 ln2 lc2) := RdTn.low (fun k _ (hk : w4.heap.size ≤ k) => ⟨by omega, by omega⟩) _ _ _ _ _ hY5
             obtain ⟨z0, -⟩ := txcell hX6 0 _ rfl
             obtain ⟨z1, -⟩ := txcell hX6 1 _ rfl
             obtain ⟨z2, -⟩ := txcell hX6 2 _ rfl
             obtain ⟨z3, -⟩ := txcell hX6 3 _ rfl)
          | (go_at_call 45
             refine (combine_at _ _ _ _ _).mono ?_
             rintro e w7 ⟨rfl, hB7⟩
             have hX7 := (hX6.keep (bal w6 _)).keep hB7
             have hR7 := (hR6.keep (bal w6 _)).keep hB7
             have h7 := (h6.alloc _).keep hB7
             have hU7 := (hU6.trans (Bux.of (bal w6 _))).trans (Bux.of hB7)
             have hV7 := RdTn.keep (Hi.of hB7) _ _ _ _ _ (mk2 hV6 hY6 rfl ⟨by omega, by omega⟩ 3 0 emp ⟨by decide, by decide, sz_emp⟩)
             have hX8 := rb_four hX7 rfl (.int .i64 3) (.int .i64 0) (.string emp) (.slice (some ⟨w6.heap.size, 0, none⟩) 2 2)
             have h8 := h7.st4 hbX hWX (.int .i64 3) (.int .i64 0) (.string emp) (.slice (some ⟨w6.heap.size, 0, none⟩) 2 2)
             have hU8 := hU7.st4 (Nat.le_of_lt hRX) (.int .i64 3) (.int .i64 0) (.string emp) (.slice (some ⟨w6.heap.size, 0, none⟩) 2 2)
             have hV8 := RdTn.keep (Hi.st4 (fun k (hk : w.heap.size < k ∧ k ≠ w2.heap.size) => hk.2) w7 (.int .i64 3) (.int .i64 0) (.string emp) (.slice (some ⟨w6.heap.size, 0, none⟩) 2 2)) _ _ _ _ _ hV7
             have hR8 := hR7.st4 (X := w2.heap.size) (by omega) (.int .i64 3) (.int .i64 0) (.string emp) (.slice (some ⟨w6.heap.size, 0, none⟩) 2 2)
             obtain ⟨u0, v0⟩ := txcell hX7 0 _ rfl
             obtain ⟨u1, v1⟩ := txcell hX7 1 _ rfl
             obtain ⟨u2, v2⟩ := txcell hX7 2 _ rfl
             obtain ⟨u3, v3⟩ := txcell hX7 3 _ rfl))
        all_goals
          go_roundw
          case rel => exact ⟨_, _, _, _, _, _, _, _, _, _, _, _, _, _, _, _, _, ⟨3, 0, emp, some ⟨w6.heap.size, 0, none⟩, 2, 2, tAdd x y, r'.pos, hX8, hV8, h8, hf2.out, HL.out y hy, hU8, hR8⟩, rfl⟩
          case measure => exact rdM_lt hS hlt h8 hf'
    · by_cases hsm : P1.stands X.ws kMinus
      · cases P1 with
        | bad y q => exact hsm.elim
        | «at» p =>
          obtain ⟨r', hr', hl'⟩ := gt_sumL_sub hG hsm
          have hlt := IsS.lt hsm
          have hf' := hr'.from (N := p + 1) (Nat.le_refl _)
          have TN := mkHid (takes_no (x := kPlus) hS (by decide) hst)
          have TC := mkHid (fun w4 (h4 : Ps X w4 (.at p)) => takes_yes (x := kMinus) h4 hsm)
          have FC := mkHid (fun w5 h5 => FF.out w5 (.at (p + 1)) r' h5 (Nat.le_succ_of_le hP1) hr')
          have HL := mkHid hl'
          have hf2 := mkHid (hr'.from (N := N) (Nat.le_succ_of_le hP1))
          clear hr' hl' hG FF hst
          go_wp2_with (first
            | (go_at_call 31; have _t := h3; refine (TC.out _ h3).mono ?_; rintro e w4 ⟨rfl, h4, hC4⟩; have hX4 := hX2.but hC4 (fun e => hbX e.symm); have hR4 := hR2.but hC4 (by omega); have hU4 := hU2.trans hC4; have hV4 := RdTn.keep (Hi.but hC4 (fun k hk => by omega)) _ _ _ _ _ hV2; obtain ⟨x0, -⟩ := txcell hX4 0 _ rfl; obtain ⟨x1, -⟩ := txcell hX4 1 _ rfl; obtain ⟨x2, -⟩ := txcell hX4 2 _ rfl; obtain ⟨x3, -⟩ := txcell hX4 3 _ rfl)
            | (go_at_call 31; refine (TN.out).mono ?_; rintro e w3 ⟨rfl, h3, hB3⟩; have hX2 := hX.keep hB3; have hR2 := hR.keep hB3; have hU2 := hU.trans (Bux.of hB3); have hV2 := RdTn.keep (Hi.of hB3) _ _ _ _ _ hV))
          go_region_with (first
            | (go_at_call 44
               refine (FC.out _ ?_).mono ?_
               exact h4.drew
               rintro e w6 ⟨o2, m2, xs2, lo2, ln2, lc2, y, rfl, hY5, h6, hC6, hy⟩
               have hX6 := Rb.but (w := w4.drew) hX4 hC6 (fun e => hbX e.symm)
               have hR6 := Rb.but (w := w4.drew) hR4 hC6 (by omega)
               have hU6 := (but_drew hU4).trans hC6
               have hs6 : w2.heap.size < w4.heap.size := (Array.getElem?_eq_some_iff.1 hX4).1
               have hs7 : w4.heap.size ≤ w6.heap.size := hC6.size
               have hV6 := RdTn.keep (W := w4.drew) (Hi.but hC6 (fun k hk => by omega)) _ _ _ _ _ (RdTn.keep (Hi.of (Below.refl _ w4).drew) _ _ _ _ _ hV4)
               have hY6 : RdTn (fun k => w.heap.size < k ∧ k ≠ w2.heap.size) w6 y (.int .i64 o2) (.int .i64 m2) (.string xs2) (.slice lo2 ln2 lc2) := RdTn.low (fun k _ (hk : w4.heap.size ≤ k) => ⟨by omega, by omega⟩) _ _ _ _ _ hY5
               obtain ⟨z0, -⟩ := txcell hX6 0 _ rfl
               obtain ⟨z1, -⟩ := txcell hX6 1 _ rfl
               obtain ⟨z2, -⟩ := txcell hX6 2 _ rfl
               obtain ⟨z3, -⟩ := txcell hX6 3 _ rfl)
            | (go_at_call 45
               refine (combine_at _ _ _ _ _).mono ?_
               rintro e w7 ⟨rfl, hB7⟩
               have hX7 := (hX6.keep (bal w6 _)).keep hB7
               have hR7 := (hR6.keep (bal w6 _)).keep hB7
               have h7 := (h6.alloc _).keep hB7
               have hU7 := (hU6.trans (Bux.of (bal w6 _))).trans (Bux.of hB7)
               have hV7 := RdTn.keep (Hi.of hB7) _ _ _ _ _ (mk2 hV6 hY6 rfl ⟨by omega, by omega⟩ 4 0 emp ⟨by decide, by decide, sz_emp⟩)
               have hX8 := rb_four hX7 rfl (.int .i64 4) (.int .i64 0) (.string emp) (.slice (some ⟨w6.heap.size, 0, none⟩) 2 2)
               have h8 := h7.st4 hbX hWX (.int .i64 4) (.int .i64 0) (.string emp) (.slice (some ⟨w6.heap.size, 0, none⟩) 2 2)
               have hU8 := hU7.st4 (Nat.le_of_lt hRX) (.int .i64 4) (.int .i64 0) (.string emp) (.slice (some ⟨w6.heap.size, 0, none⟩) 2 2)
               have hV8 := RdTn.keep (Hi.st4 (fun k (hk : w.heap.size < k ∧ k ≠ w2.heap.size) => hk.2) w7 (.int .i64 4) (.int .i64 0) (.string emp) (.slice (some ⟨w6.heap.size, 0, none⟩) 2 2)) _ _ _ _ _ hV7
               have hR8 := hR7.st4 (X := w2.heap.size) (by omega) (.int .i64 4) (.int .i64 0) (.string emp) (.slice (some ⟨w6.heap.size, 0, none⟩) 2 2)
               obtain ⟨u0, v0⟩ := txcell hX7 0 _ rfl
               obtain ⟨u1, v1⟩ := txcell hX7 1 _ rfl
               obtain ⟨u2, v2⟩ := txcell hX7 2 _ rfl
               obtain ⟨u3, v3⟩ := txcell hX7 3 _ rfl))
          all_goals
            go_roundw
            case rel => exact ⟨_, _, _, _, _, _, _, _, _, _, _, _, _, _, _, _, _, ⟨4, 0, emp, some ⟨w6.heap.size, 0, none⟩, 2, 2, tSub x y, r'.pos, hX8, hV8, h8, hf2.out, HL.out y hy, hU8, hR8⟩, rfl⟩
            case measure => exact rdM_lt hS hlt h8 hf'
      · obtain ⟨hq, hi⟩ := gt_sumL_no hG hst hsm
        have TN := mkHid (takes_no (x := kPlus) hS (by decide) hst)
        have TC := mkHid (fun w4 (h4 : Ps X w4 P1) => takes_no (x := kMinus) h4 (by decide) hsm)
        clear FF hG hst hsm
        go_wp2_with (first
          | (go_at_call 31; have _t := h3; refine (TC.out _ h3).mono ?_; rintro e w4 ⟨rfl, h4, hB4⟩; have hX4 := hX2.keep hB4; have hR4 := hR2.keep hB4; have hU4 := hU2.trans (Bux.of hB4); have hV4 := RdTn.keep (Hi.of hB4) _ _ _ _ _ hV2; obtain ⟨x0, -⟩ := txcell hX4 0 _ rfl; obtain ⟨x1, -⟩ := txcell hX4 1 _ rfl; obtain ⟨x2, -⟩ := txcell hX4 2 _ rfl; obtain ⟨x3, -⟩ := txcell hX4 3 _ rfl; obtain ⟨r0, g0⟩ := txcell hR4 0 _ rfl; obtain ⟨r1, g1⟩ := txcell hR4 1 _ rfl; obtain ⟨r2, g2⟩ := txcell hR4 2 _ rfl; obtain ⟨r3, g3⟩ := txcell hR4 3 _ rfl; have hRy := rb_four hR4 rfl (.int .i64 o) (.int .i64 m) (.string xs) (.slice lo ln lc); obtain ⟨k0, -⟩ := txcell hRy 0 _ rfl; obtain ⟨k1, -⟩ := txcell hRy 1 _ rfl; obtain ⟨k2, -⟩ := txcell hRy 2 _ rfl; obtain ⟨k3, -⟩ := txcell hRy 3 _ rfl)
          | (go_at_call 31; refine (TN.out).mono ?_; rintro e w3 ⟨rfl, h3, hB3⟩; have hX2 := hX.keep hB3; have hR2 := hR.keep hB3; have hU2 := hU.trans (Bux.of hB3); have hV2 := RdTn.keep (Hi.of hB3) _ _ _ _ _ hV))
        exact bodyPost_ret (v := .agg #[.int .i64 o, .int .i64 m, .string xs, .slice lo ln lc]) (by simp [results, Tryz.results23, go_sem, k0, k1, k2, k3]) rfl ⟨o, m, xs, lo, ln, lc, x, rfl, RdTn.low (fun k _ (hk : w.heap.size < k ∧ k ≠ w2.heap.size) => Nat.le_of_lt hk.1) _ _ _ _ _ (RdTn.keep (Hi.st4 (fun k (hk : w.heap.size < k ∧ k ≠ w2.heap.size) => by omega) w4 (.int .i64 o) (.int .i64 m) (.string xs) (.slice lo ln lc)) _ _ _ _ _ hV4), by rw [hq]; exact h4.st4 (by omega) hWw (.int .i64 o) (.int .i64 m) (.string xs) (.slice lo ln lc), hU4.st4 (Nat.le_refl _) (.int .i64 o) (.int .i64 m) (.string xs) (.slice lo ln lc), hi⟩
end Go.Proofs.YtabfhdmcljdjhaaGreatDoor.Gl
/- The landed reader: factor; name, modulus, relation. -/
namespace Go.Proofs.YtabfhdmcljdjhaaGreatDoor.Gl
open Go.RowKit
set_option linter.unusedVariables false
set_option linter.unusedSimpArgs false

theorem hd_kind {X : Rx} {P : Pos} {k : Nat} (hk : k ≠ 2) : (hdW X.s (P.word X.ws)).kind = k ↔ P.kinds X.ws k := by
  cases P with
  | bad y q => exact ⟨fun h => absurd h.symm hk, fun h => h.elim⟩
  | «at» p =>
    simp only [Pos.word, Pos.kinds]
    cases hy : X.ws[p]? with
    | none => exact ⟨fun h => absurd h.symm hk, fun ⟨y, h, _⟩ => by simp at h⟩
    | some y => exact ⟨fun h => ⟨y, rfl, h⟩, fun ⟨z, h, hz⟩ => by simp at h; subst h; exact hz⟩
theorem hd_name {X : Rx} {p : Nat} {x : ByteArray} (h : IsN X.ws p x) : ∃ nu by' ch : Nat, hdW X.s ((Pos.at p).word X.ws) = ⟨0, x, nu, by', ch⟩ := by
  obtain ⟨y, hy, hk, rfl⟩ := h
  exact ⟨_, _, _, by simp [Pos.word, hy, hdW, full, hk]; exact ⟨rfl, rfl, rfl⟩⟩
theorem hd_num {X : Rx} {p n : Nat} (h : IsD X.ws p n) : ∃ tx, ∃ by' ch : Nat, hdW X.s ((Pos.at p).word X.ws) = ⟨1, tx, n, by', ch⟩ := by
  obtain ⟨y, hy, hk, rfl⟩ := h
  exact ⟨_, _, _, by simp [Pos.word, hy, hdW, full, hk]; exact ⟨rfl, rfl, rfl⟩⟩
theorem isN_kinds {ws : List Wd} {P : Pos} (h : P.kinds ws 0) : ∃ p x, P = .at p ∧ IsN ws p x := by
  cases P with
  | bad y q => exact h.elim
  | «at» p => obtain ⟨y, hy, hk⟩ := h; exact ⟨p, y.text, rfl, y, hy, hk, rfl⟩
theorem isD_kinds {ws : List Wd} {P : Pos} (h : P.kinds ws 1) : ∃ p n, P = .at p ∧ IsD ws p n := by
  cases P with
  | bad y q => exact h.elim
  | «at» p => obtain ⟨y, hy, hk⟩ := h; exact ⟨p, y.num, rfl, y, hy, hk, rfl⟩
theorem first_kd {X : Rx} {w : World} {P : Pos} (h : Ps X w P) : ∃ kd nu by' ch : Nat, ∃ tx, (∀ k, k ≠ 2 → (kd = k ↔ P.kinds X.ws k)) ∧ Calls Tryz.prog 53 #[.pointer (some ⟨X.b, 0, none⟩)] w fun e w' => e = .returned (.agg #[.int .i64 (kd : Nat), .string tx, .int .i64 (nu : Nat), .int .i64 (by' : Nat), .int .i64 (ch : Nat)]) ∧ Below w.heap.size w w' := by
  obtain ⟨y, hw⟩ : ∃ y, hdW X.s (P.word X.ws) = y := ⟨_, rfl⟩
  refine ⟨y.kind, y.num, y.byte, y.char, y.text, fun k hk => ?_, first_at h _ hw⟩
  rw [← hw]
  exact hd_kind hk
abbrev wdV (kd nu by' ch : Nat) (tx : ByteArray) : Array Value := #[.int .i64 (kd : Nat), .string tx, .int .i64 (nu : Nat), .int .i64 (by' : Nat), .int .i64 (ch : Nat)]
/- name -/
set_option maxHeartbeats 4000000 in
theorem nm_yes {X : Rx} {w : World} {p : Nat} {x : ByteArray} (h : Ps X w (.at p)) (hx : IsN X.ws p x) :
    Calls Tryz.prog 113 #[.pointer (some ⟨X.b, 0, none⟩)] w fun e w' => e = .returned (.string x) ∧ Ps X w' (.at (p + 1)) ∧ Bux X.b w w' := by
  obtain ⟨nu, by', ch, hw⟩ := hd_name hx
  have hlt := hx.lt
  have hbw := h.lt
  have FC : Hid (Calls Tryz.prog 53 #[.pointer (some ⟨X.b, 0, none⟩)] w fun e w' => e = .returned (.agg #[.int .i64 0, .string x, .int .i64 (nu : Nat), .int .i64 (by' : Nat), .int .i64 (ch : Nat)]) ∧ Below w.heap.size w w') := first_at h _ hw
  clear hw hx
  go_enter Tryz.func113, Tryz.ntmps113
  go_wp2_with (first
    | (go_at_call 53; refine (FC.out).mono ?_; rintro e w1 ⟨rfl, hB1⟩; have h1 := h.keep hB1; have hs1 := hB1.size; have hX2 := rb_new w1 #[.int .i64 0, .string x, .int .i64 (nu : Nat), .int .i64 (by' : Nat), .int .i64 (ch : Nat)] 87)
    | (go_at_call 55; refine (pass_at (h1.alloc _) hlt).mono ?_; rintro e w3 ⟨rfl, h3, hB3⟩; have hX3 := hX2.but hB3 (by omega); obtain ⟨x1, -⟩ := txcell hX3 1 _ rfl))
  go_ret
  exact ⟨rfl, h3, (Bux.of (bta hB1 _)).trans hB3⟩
set_option maxHeartbeats 4000000 in
theorem nm_no {X : Rx} {w : World} {P : Pos} (h : Ps X w P) (hn : ¬ P.kinds X.ws 0) :
    Calls Tryz.prog 113 #[.pointer (some ⟨X.b, 0, none⟩)] w fun e w' => e = .returned (.string emp) ∧ Ps X w' (P.ref 71) ∧ Bux X.b w w' := by
  obtain ⟨kd, nu, by', ch, tx, hkd, FC0⟩ := first_kd h
  have FC := mkHid FC0
  have hk' : ((kd : Int) == 0) = false := by rw [beq_eq_false_iff_ne]; have := mt (hkd 0 (by decide)).1 hn; omega
  clear FC0 hkd hn
  go_enter Tryz.func113, Tryz.ntmps113
  go_wp2_with (first
    | (go_at_call 53; refine (FC.out).mono ?_; rintro e w1 ⟨rfl, hB1⟩; have h1 := h.keep hB1)
    | (go_at_call 29; refine (refuse_any (h1.alloc _) 71 (by decide)).mono ?_; rintro e w3 ⟨rfl, h3, hB3⟩))
  go_ret
  exact ⟨rfl, h3, (Bux.of (bta hB1 _)).trans hB3⟩
/- modulus -/
set_option maxHeartbeats 4000000 in
theorem modulus_at {X : Rx} {w : World} {P : Pos} {r : Out Nat} (h : Ps X w P) (hW : WdOk X.ws) (hr : GM X.ws P r) :
    Calls Tryz.prog 115 #[.pointer (some ⟨X.b, 0, none⟩)] w fun e w' => ∃ n : Nat, e = .returned (.int .i64 (n : Nat)) ∧ n ≤ 9223372036854775807 ∧ Ps X w' r.pos ∧ Bux X.b w w' ∧ r.is n := by
  have hbw := h.lt
  by_cases hk : P.kinds X.ws 1
  · obtain ⟨p, n, rfl, hd⟩ := isD_kinds hk
    obtain ⟨tx, by', ch, hw⟩ := hd_num hd
    have hlt := hd.lt
    have hnn := hW.num hd
    have FC : Hid (Calls Tryz.prog 53 #[.pointer (some ⟨X.b, 0, none⟩)] w fun e w' => e = .returned (.agg #[.int .i64 1, .string tx, .int .i64 (n : Nat), .int .i64 (by' : Nat), .int .i64 (ch : Nat)]) ∧ Below w.heap.size w w') := first_at h _ hw
    clear hw hk
    by_cases h0 : n = 0
    · have hr' : r = .bad 92 p := by
        cases hr with
        | none hn => exact absurd hd (hn _)
        | zero _ => rfl
        | ok h1 h2 => exact absurd (h1.one hd) (by omega)
      subst hr'
      subst h0
      clear hr hd
      go_enter Tryz.func115, Tryz.ntmps115
      go_wp2_with (first
        | (go_at_call 53; refine (FC.out).mono ?_; rintro e w1 ⟨rfl, hB1⟩; have h1 := h.keep hB1)
        | (go_at_call 29; refine (refuse_any (h1.alloc _) 92 (by decide)).mono ?_; rintro e w3 ⟨rfl, h3, hB3⟩))
      go_ret
      exact ⟨0, rfl, by decide, h3, (Bux.of (bta hB1 _)).trans hB3, is_bad⟩
    · have hr' : r = .ok n (p + 1) := by
        cases hr with
        | none hn => exact absurd hd (hn _)
        | zero hz => exact absurd (hz.one hd) (by omega)
        | ok h1 h2 => rw [h1.one hd]
      subst hr'
      have hz : ((n : Int) == 0) = false := by rw [beq_eq_false_iff_ne]; omega
      clear hr hd h0
      go_enter Tryz.func115, Tryz.ntmps115
      go_wp2_with (first
        | (go_at_call 53; refine (FC.out).mono ?_; rintro e w1 ⟨rfl, hB1⟩; have h1 := h.keep hB1; have hs1 := hB1.size; have hX2 := rb_new w1 #[.int .i64 1, .string tx, .int .i64 (n : Nat), .int .i64 (by' : Nat), .int .i64 (ch : Nat)] 87)
        | (go_at_call 55; refine (pass_at (h1.alloc _) hlt).mono ?_; rintro e w3 ⟨rfl, h3, hB3⟩; have hX3 := hX2.but hB3 (by omega); obtain ⟨x1, -⟩ := txcell hX3 2 _ rfl))
      go_ret
      exact ⟨n, rfl, hnn, h3, (Bux.of (bta hB1 _)).trans hB3, is_ok rfl⟩
  · obtain ⟨kd, nu, by', ch, tx, hkd, FC0⟩ := first_kd h
    have FC := mkHid FC0
    have hk' : ((kd : Int) == 1) = false := by rw [beq_eq_false_iff_ne]; have := mt (hkd 1 (by decide)).1 hk; omega
    have hr' : r.pos = P.ref 71 ∧ ∀ n, r.is n := by
      cases hr with
      | bad => exact ⟨rfl, fun _ => is_bad⟩
      | none _ => exact ⟨rfl, fun _ => is_bad⟩
      | zero hd => obtain ⟨y, h1, h2, _⟩ := hd; exact absurd ⟨y, h1, h2⟩ hk
      | ok hd _ => obtain ⟨y, h1, h2, _⟩ := hd; exact absurd ⟨y, h1, h2⟩ hk
    have HR := mkHid hr'
    clear FC0 hkd hk hr hr'
    go_enter Tryz.func115, Tryz.ntmps115
    go_wp2_with (first
      | (go_at_call 53; refine (FC.out).mono ?_; rintro e w1 ⟨rfl, hB1⟩; have h1 := h.keep hB1)
      | (go_at_call 29; refine (refuse_any (h1.alloc _) 71 (by decide)).mono ?_; rintro e w3 ⟨rfl, h3, hB3⟩))
    go_ret
    exact ⟨0, rfl, by decide, by rw [HR.out.1]; exact h3, (Bux.of (bta hB1 _)).trans hB3, HR.out.2 0⟩
end Go.Proofs.YtabfhdmcljdjhaaGreatDoor.Gl
