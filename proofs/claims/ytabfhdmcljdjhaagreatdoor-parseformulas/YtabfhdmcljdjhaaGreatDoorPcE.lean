/- The landed reader: formulas: and. -/
import Derived.Test.YtabfhdmcljdjhaaGreatDoorPcD
namespace Go.Proofs.YtabfhdmcljdjhaaGreatDoor.Gl
open Go.RowKit
set_option linter.unusedVariables false
set_option linter.unusedSimpArgs false

theorem mkF2 {P : Nat → Prop} {g : Nat} {W : World} {x y : Fm} {c0 c1 c2 c3 c4 d0 d1 d2 d3 d4 : Value} {t : TypeId} (h : RdFn P W x c0 c1 c2 c3 c4) (k : RdFn P W y d0 d1 d2 d3 d4) (hg : W.heap.size = g) (hb : P g) (o m : Int) (nm : ByteArray) (hi : I64 o ∧ I64 m ∧ Sz nm.size) : RdFn P (W.alloc (.cells #[c0, c1, c2, c3, c4, d0, d1, d2, d3, d4] t)) (.mk o nm m [] [x, y]) (.int .i64 o) (.string nm) (.int .i64 m) (.slice none 0 0) (.slice (some ⟨g, 0, none⟩) 2 2) := by
  have hR : Rb (W.alloc (.cells #[c0, c1, c2, c3, c4, d0, d1, d2, d3, d4] t)) g #[c0, c1, c2, c3, c4, d0, d1, d2, d3, d4] t := by rw [← hg]; exact rb_new W _ _
  have hk := h.keep (Hi.of (bal W (.cells #[c0, c1, c2, c3, c4, d0, d1, d2, d3, d4] t)))
  have hk2 := k.keep (Hi.of (bal W (.cells #[c0, c1, c2, c3, c4, d0, d1, d2, d3, d4] t)))
  rw [RdFn]
  refine ⟨rfl, rfl, rfl, hi, ⟨none, 0, rfl, Nat.le_refl _, by decide, by rw [RdTnL]; trivial⟩, some ⟨g, 0, none⟩, 2, rfl, Nat.le_refl _, by decide, ?_⟩
  rw [RdFnL, RdFnL, RdFnL]
  exact ⟨⟨g, 0, c0, c1, c2, c3, c4, rfl, hb, (Array.getElem?_eq_some_iff.1 hR).1, (txcell hR 0 _ rfl).1, (txcell hR 1 _ rfl).1, (txcell hR 2 _ rfl).1, (txcell hR 3 _ rfl).1, (txcell hR 4 _ rfl).1, hk⟩, ⟨g, 0, d0, d1, d2, d3, d4, rfl, hb, (Array.getElem?_eq_some_iff.1 hR).1, (txcell hR 5 _ rfl).1, (txcell hR 6 _ rfl).1, (txcell hR 7 _ rfl).1, (txcell hR 8 _ rfl).1, (txcell hR 9 _ rfl).1, hk2⟩, trivial⟩
/-- what a part of a formula answers -/
def FmRes (X : Rx) (w : World) (r : Out Fm) (e : Ending) (w' : World) : Prop :=
  ∃ o xs m bo n1 c1 ao n c t, e = .returned (.agg #[.int .i64 o, .string xs, .int .i64 m, .slice bo n1 c1, .slice ao n c]) ∧ RdFn (Ge w.heap.size) w' t (.int .i64 o) (.string xs) (.int .i64 m) (.slice bo n1 c1) (.slice ao n c) ∧ Ps X w' r.pos ∧ Bux X.b w w' ∧ r.is t
def UnC (X : Rx) (N : Nat) : Prop := ∀ w P r, Ps X w P → P.from N → GF X.ws .un P r → Calls Tryz.prog 102 #[.pointer (some ⟨X.b, 0, none⟩)] w (FmRes X w r)
def LevC (k : Nat) (f : FuncId) (X : Rx) (N : Nat) : Prop := ∀ w P r, Ps X w P → P.from N → GF X.ws (.lev k) P r → Calls Tryz.prog f #[.pointer (some ⟨X.b, 0, none⟩)] w (FmRes X w r)
abbrev AndC : Rx → Nat → Prop := LevC 3 87
abbrev OrC : Rx → Nat → Prop := LevC 2 54
abbrev ToC : Rx → Nat → Prop := LevC 1 30
abbrev IffC : Rx → Nat → Prop := LevC 0 15
theorem gf_and {ws : List Wd} {P : Pos} {r : Out Fm} (h : GF ws (.lev 3) P r) : ∃ r0, GF ws .un P r0 ∧ ∀ f, r0.is f → GL ws 3 f r0.pos r := by
  obtain ⟨r0, h0, k⟩ := gf_lev (by decide) (by decide) h
  exact ⟨r0, gf_four h0, k⟩
theorem gl_and {ws : List Wd} {f : Fm} {p : Nat} {r : Out Fm} (h : GL ws 3 f (.at p) r) (hs : IsS ws p kAnd) : ∃ r', GF ws .un (.at (p + 1)) r' ∧ ∀ g, r'.is g → GL ws 3 (fPair 3 f g) r'.pos r := by
  obtain ⟨r0, h0, k⟩ := gl_yes h hs
  exact ⟨r0, gf_four h0, k⟩
theorem gl_or {ws : List Wd} {f : Fm} {p : Nat} {r : Out Fm} (h : GL ws 2 f (.at p) r) (hs : IsS ws p kOr) : ∃ r', GF ws (.lev 3) (.at (p + 1)) r' ∧ ∀ g, r'.is g → GL ws 2 (fPair 4 f g) r'.pos r := gl_yes h hs
theorem gl_iff {ws : List Wd} {f : Fm} {p : Nat} {r : Out Fm} (h : GL ws 0 f (.at p) r) (hs : IsS ws p kIff) : ∃ r', GF ws (.lev 1) (.at (p + 1)) r' ∧ ∀ g, r'.is g → GL ws 0 (fPair 6 f g) r'.pos r := gl_yes h hs
theorem gf_or {ws : List Wd} {P : Pos} {r : Out Fm} (h : GF ws (.lev 2) P r) : ∃ r0, GF ws (.lev 3) P r0 ∧ ∀ f, r0.is f → GL ws 2 f r0.pos r := gf_lev (by decide) (by decide) h
theorem gf_iff {ws : List Wd} {P : Pos} {r : Out Fm} (h : GF ws (.lev 0) P r) : ∃ r0, GF ws (.lev 1) P r0 ∧ ∀ f, r0.is f → GL ws 0 f r0.pos r := gf_lev (by decide) (by decide) h
theorem gl_andN {ws : List Wd} {f : Fm} {P : Pos} {r : Out Fm} (h : GL ws 3 f P r) (hn : ¬ P.stands ws kAnd) : r.pos = P ∧ r.is f := gl_no h hn
theorem gl_orN {ws : List Wd} {f : Fm} {P : Pos} {r : Out Fm} (h : GL ws 2 f P r) (hn : ¬ P.stands ws kOr) : r.pos = P ∧ r.is f := gl_no h hn
theorem gl_iffN {ws : List Wd} {f : Fm} {P : Pos} {r : Out Fm} (h : GL ws 0 f P r) (hn : ¬ P.stands ws kIff) : r.pos = P ∧ r.is f := gl_no h hn
set_option maxRecDepth 100000 in
set_option maxHeartbeats 4000000 in
theorem and_step {X : Rx} {N : Nat} (F : UnC X N) : AndC X N := by
  intro w P r h hP hr
  obtain ⟨r0, hr0, hl⟩ := gf_and hr
  have hbw := h.lt
  have hWw := h.below.size
  have hR1 := rb_new w zF 26
  have h1 := h.alloc (.cells zF 26)
  have hB1 : Bux X.b w (w.alloc (.cells zF 26)) := Bux.of (bal w _)
  have FC := mkHid (F _ _ _ h1 hP hr0)
  have hf0 := hr0.from hP
  have HL := mkHid hl
  have FF := mkHid F
  clear hr hl F hr0
  go_enter Tryz.func87, Tryz.ntmps87
  go_wp2_with (go_at_call 102; refine (FC.out).mono ?_; rintro e w2 ⟨o, xs, m, bo, n1, c1, lo, ln, lc, x, rfl, hV2, h2, hC2, hx⟩; have hR2 := hR1.but hC2 (by omega); have hs1 : w.heap.size < w2.heap.size := (Array.getElem?_eq_some_iff.1 hR2).1)
  have hX3 := rb_new w2 #[.int .i64 o, .string xs, .int .i64 m, .slice bo n1 c1, .slice lo ln lc] 26
  have h3 := h2.alloc (.cells #[.int .i64 o, .string xs, .int .i64 m, .slice bo n1 c1, .slice lo ln lc] 26)
  have hR3 := hR2.keep (bal w2 (.cells #[.int .i64 o, .string xs, .int .i64 m, .slice bo n1 c1, .slice lo ln lc] 26))
  have hU3 : Bux X.b w (w2.alloc (.cells #[.int .i64 o, .string xs, .int .i64 m, .slice bo n1 c1, .slice lo ln lc] 26)) := (hB1.trans hC2).trans (Bux.of (bal w2 _))
  have hV3 : RdFn (fun k => w.heap.size < k ∧ k ≠ w2.heap.size) (w2.alloc (.cells #[.int .i64 o, .string xs, .int .i64 m, .slice bo n1 c1, .slice lo ln lc] 26)) x (.int .i64 o) (.string xs) (.int .i64 m) (.slice bo n1 c1) (.slice lo ln lc) := by
    refine RdFn.keep (Hi.of (bal w2 _)) _ _ _ _ _ _ (RdFn.low (fun k hk (hg : _ ≤ k) => ?_) _ _ _ _ _ _ hV2)
    simp only [World.size_alloc] at hg
    exact ⟨by omega, by omega⟩
  have hlx := HL.out x hx
  go_loopw [] (fun wr => ∃ o xs m bo n1 c1 lo ln lc x P1, Rb wr w2.heap.size #[.int .i64 o, .string xs, .int .i64 m, .slice bo n1 c1, .slice lo ln lc] 26 ∧ RdFn (fun k => w.heap.size < k ∧ k ≠ w2.heap.size) wr x (.int .i64 o) (.string xs) (.int .i64 m) (.slice bo n1 c1) (.slice lo ln lc) ∧ Ps X wr P1 ∧ P1.from N ∧ GL X.ws 3 x P1 r ∧ Bux X.b w wr ∧ Rb wr w.heap.size zF 26) (fun wr => rdM X.b wr)
  case atStart => exact ⟨o, xs, m, bo, n1, c1, lo, ln, lc, x, r0.pos, hX3, hV3, h3, hf0, hlx, hU3, hR3⟩
  case round =>
    have hbX : X.b ≠ w2.heap.size := by have := h2.lt; omega
    have hRX : w.heap.size < w2.heap.size := by omega
    have hWX : X.W.heap.size ≤ w2.heap.size := by omega
    clear hX3 h3 hR3 hU3 hV3 h2 hC2 hR2 h1 hR1 hB1 hV2 hx hlx HL FC hf0
    obtain ⟨o, xs, m, bo, n1, c1, lo, ln, lc, x, P1, hX, hV, hS, hP1, hG, hU, hR⟩ := hrel
    have hXlt := (Array.getElem?_eq_some_iff.1 hX).1
    by_cases hst : P1.stands X.ws kAnd
    · cases P1 with
      | bad y q => exact hst.elim
      | «at» p =>
        obtain ⟨r', hr', hl'⟩ := gl_and hG hst
        have hlt := IsS.lt hst
        have hf' := hr'.from (N := p + 1) (Nat.le_refl _)
        have TC := mkHid (takes_yes (x := kAnd) hS hst)
        have FC := mkHid (fun w5 h5 => FF.out w5 (.at (p + 1)) r' h5 (Nat.le_succ_of_le hP1) hr')
        have HL := mkHid hl'
        have hf2 := mkHid (hr'.from (N := N) (Nat.le_succ_of_le hP1))
        clear hr' hl' hG FF
        go_wp2_with (go_at_call 31; refine (TC.out).mono ?_; rintro e w4 ⟨rfl, h4, hC4⟩; have hX4 := hX.but hC4 (fun e => hbX e.symm); have hR4 := hR.but hC4 (by omega); have hU4 := hU.trans hC4; have hV4 := RdFn.keep (Hi.but hC4 (fun k hk => by omega)) _ _ _ _ _ _ hV; obtain ⟨x0, -⟩ := txcell hX4 0 _ rfl; obtain ⟨x1, -⟩ := txcell hX4 1 _ rfl; obtain ⟨x2, -⟩ := txcell hX4 2 _ rfl; obtain ⟨x3, -⟩ := txcell hX4 3 _ rfl; obtain ⟨x4, -⟩ := txcell hX4 4 _ rfl)
        go_region_with (first
          | (go_at_call 102
             refine (FC.out _ ?_).mono ?_
             exact h4.drew
             rintro e w6 ⟨o2, xs2, m2, bo2, n12, c12, lo2, ln2, lc2, y, rfl, hY5, h6, hC6, hy⟩
             have hX6 := Rb.but (w := w4.drew) hX4 hC6 (fun e => hbX e.symm)
             have hR6 := Rb.but (w := w4.drew) hR4 hC6 (by omega)
             have hU6 := (but_drew hU4).trans hC6
             have hs6 : w2.heap.size < w4.heap.size := (Array.getElem?_eq_some_iff.1 hX4).1
             have hs7 : w4.heap.size ≤ w6.heap.size := hC6.size
             have hV6 := RdFn.keep (W := w4.drew) (Hi.but hC6 (fun k hk => by omega)) _ _ _ _ _ _ (RdFn.keep (Hi.of (Below.refl _ w4).drew) _ _ _ _ _ _ hV4)
             have hY6 : RdFn (fun k => w.heap.size < k ∧ k ≠ w2.heap.size) w6 y (.int .i64 o2) (.string xs2) (.int .i64 m2) (.slice bo2 n12 c12) (.slice lo2 ln2 lc2) := RdFn.low (fun k _ (hk : w4.heap.size ≤ k) => ⟨by omega, by omega⟩) _ _ _ _ _ _ hY5
             obtain ⟨z0, -⟩ := txcell hX6 0 _ rfl
             obtain ⟨z1, -⟩ := txcell hX6 1 _ rfl
             obtain ⟨z2, -⟩ := txcell hX6 2 _ rfl
             obtain ⟨z3, -⟩ := txcell hX6 3 _ rfl
             obtain ⟨z4, -⟩ := txcell hX6 4 _ rfl)
          | (go_at_call 32
             refine (connect_at _ _ _ _ _).mono ?_
             rintro e w7 ⟨rfl, hB7⟩
             have hX7 := (hX6.keep (bal w6 _)).keep hB7
             have hR7 := (hR6.keep (bal w6 _)).keep hB7
             have h7 := (h6.alloc _).keep hB7
             have hU7 := (hU6.trans (Bux.of (bal w6 _))).trans (Bux.of hB7)
             have hV7 := RdFn.keep (Hi.of hB7) _ _ _ _ _ _ (mkF2 hV6 hY6 rfl ⟨by omega, by omega⟩ 3 0 emp ⟨by decide, by decide, sz_emp⟩)
             have hX8 := rb_five hX7 rfl (.int .i64 3) (.string emp) (.int .i64 0) (.slice none 0 0) (.slice (some ⟨w6.heap.size, 0, none⟩) 2 2)
             have h8 := h7.st5 hbX hWX (.int .i64 3) (.string emp) (.int .i64 0) (.slice none 0 0) (.slice (some ⟨w6.heap.size, 0, none⟩) 2 2)
             have hU8 := hU7.st5 (Nat.le_of_lt hRX) (.int .i64 3) (.string emp) (.int .i64 0) (.slice none 0 0) (.slice (some ⟨w6.heap.size, 0, none⟩) 2 2)
             have hV8 := RdFn.keep (Hi.st5 (fun k (hk : w.heap.size < k ∧ k ≠ w2.heap.size) => hk.2) w7 (.int .i64 3) (.string emp) (.int .i64 0) (.slice none 0 0) (.slice (some ⟨w6.heap.size, 0, none⟩) 2 2)) _ _ _ _ _ _ hV7
             have hR8 := hR7.st5 (X := w2.heap.size) (by omega) (.int .i64 3) (.string emp) (.int .i64 0) (.slice none 0 0) (.slice (some ⟨w6.heap.size, 0, none⟩) 2 2)
             obtain ⟨u0, v0⟩ := txcell hX7 0 _ rfl
             obtain ⟨u1, v1⟩ := txcell hX7 1 _ rfl
             obtain ⟨u2, v2⟩ := txcell hX7 2 _ rfl
             obtain ⟨u3, v3⟩ := txcell hX7 3 _ rfl
             obtain ⟨u4, v4⟩ := txcell hX7 4 _ rfl))
        all_goals
          go_roundw
          case rel => exact ⟨_, _, _, _, _, _, _, ⟨3, emp, 0, none, 0, 0, some ⟨w6.heap.size, 0, none⟩, 2, 2, fPair 3 x y, r'.pos, hX8, hV8, h8, hf2.out, HL.out y hy, hU8, hR8⟩, rfl⟩
          case measure => exact rdM_lt hS hlt h8 hf'
    · obtain ⟨hq, hi⟩ := gl_andN hG hst
      have TC := mkHid (takes_no (x := kAnd) hS (by decide) hst)
      clear FF hG hst
      go_wp2_with (go_at_call 31; refine (TC.out).mono ?_; rintro e w4 ⟨rfl, h4, hB4⟩; have hX4 := hX.keep hB4; have hR4 := hR.keep hB4; have hU4 := hU.trans (Bux.of hB4); have hV4 := RdFn.keep (Hi.of hB4) _ _ _ _ _ _ hV; obtain ⟨x0, -⟩ := txcell hX4 0 _ rfl; obtain ⟨x1, -⟩ := txcell hX4 1 _ rfl; obtain ⟨x2, -⟩ := txcell hX4 2 _ rfl; obtain ⟨x3, -⟩ := txcell hX4 3 _ rfl; obtain ⟨x4, -⟩ := txcell hX4 4 _ rfl; obtain ⟨r0, g0⟩ := txcell hR4 0 _ rfl; obtain ⟨r1, g1⟩ := txcell hR4 1 _ rfl; obtain ⟨r2, g2⟩ := txcell hR4 2 _ rfl; obtain ⟨r3, g3⟩ := txcell hR4 3 _ rfl; obtain ⟨r4, g4⟩ := txcell hR4 4 _ rfl; have hRy := rb_five hR4 rfl (.int .i64 o) (.string xs) (.int .i64 m) (.slice bo n1 c1) (.slice lo ln lc); obtain ⟨k0, -⟩ := txcell hRy 0 _ rfl; obtain ⟨k1, -⟩ := txcell hRy 1 _ rfl; obtain ⟨k2, -⟩ := txcell hRy 2 _ rfl; obtain ⟨k3, -⟩ := txcell hRy 3 _ rfl; obtain ⟨k4, -⟩ := txcell hRy 4 _ rfl)
      exact bodyPost_ret (v := .agg #[.int .i64 o, .string xs, .int .i64 m, .slice bo n1 c1, .slice lo ln lc]) (by simp [results, Tryz.results87, go_sem, k0, k1, k2, k3, k4]) rfl ⟨o, xs, m, bo, n1, c1, lo, ln, lc, x, rfl, RdFn.low (fun k _ (hk : w.heap.size < k ∧ k ≠ w2.heap.size) => Nat.le_of_lt hk.1) _ _ _ _ _ _ (RdFn.keep (Hi.st5 (fun k (hk : w.heap.size < k ∧ k ≠ w2.heap.size) => by omega) w4 (.int .i64 o) (.string xs) (.int .i64 m) (.slice bo n1 c1) (.slice lo ln lc)) _ _ _ _ _ _ hV4), by rw [hq]; exact h4.st5 (by omega) hWw (.int .i64 o) (.string xs) (.int .i64 m) (.slice bo n1 c1) (.slice lo ln lc), hU4.st5 (Nat.le_refl _) (.int .i64 o) (.string xs) (.int .i64 m) (.slice bo n1 c1) (.slice lo ln lc), hi⟩
end Go.Proofs.YtabfhdmcljdjhaaGreatDoor.Gl
