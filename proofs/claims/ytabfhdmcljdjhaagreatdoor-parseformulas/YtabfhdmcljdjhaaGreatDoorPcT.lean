/- The landed whole, of a formula: a tree that is checked. -/
import Derived.Test.YtabfhdmcljdjhaaGreatDoorPcR
namespace Go.Proofs.YtabfhdmcljdjhaaGreatDoor.Gl
open Go.RowKit
set_option linter.unusedVariables false
set_option linter.unusedSimpArgs false

set_option maxRecDepth 100000 in
set_option maxHeartbeats 2000000 in
theorem whole_many (s : ByteArray) (w : World) (a : List Wd) (r0 : Out Fm) (hsz : s.size ≤ 4096) (hlx : Lx s 0 a none) (hGF : GF a (.lev 0) (.at 0) r0) (hS : Sg w)
    (f : Fm) (c : Nat) (hr0 : r0 = .ok f a.length) (hc : chk nmB f = c) (hc0 : c ≠ 0) :
    Calls Tryz.prog 14 #[.string s, .func (.func 15) #[] #[], .func (.func 16) #[] #[]] w fun e w' => e = .returned (.tuple #[nilF, fau c 0 0]) ∧ Below w.heap.size w w' := by
  have LW : Hid (Calls Tryz.prog 27 #[.string s] (((w.alloc (.cells zF 26)).alloc (.cells zA 31)).alloc (.cells zF 26)) fun e w' => ∃ v, e = .returned (.tuple #[v, fau 0 0 0]) ∧ w'.ownsRow ((((w.alloc (.cells zF 26)).alloc (.cells zA 31)).alloc (.cells zF 26))).heap.size 87 5 v a.length ((a.map (full s)).flatMap FW.cells) ∧ Below ((((w.alloc (.cells zF 26)).alloc (.cells zA 31)).alloc (.cells zF 26))).heap.size (((w.alloc (.cells zF 26)).alloc (.cells zA 31)).alloc (.cells zF 26)) w') := lexC.good s a _ (((hS.alloc (.cells zF 26)).alloc (.cells zA 31)).alloc (.cells zF 26)) hsz hlx
  have hWd := hlx.wdok hsz
  have hal := (hlx.fine hsz).2
  have hB3 : Below w.heap.size w (((w.alloc (.cells zF 26)).alloc (.cells zA 31)).alloc (.cells zF 26)) := bta (bta (bal w _) _) _
  have hF1 : Rb (((w.alloc (.cells zF 26)).alloc (.cells zA 31)).alloc (.cells zF 26)) w.heap.size zF 26 := ((rb_new w zF 26).keep (bal _ _)).keep (bal _ _)
  have hF2 : Rb (((w.alloc (.cells zF 26)).alloc (.cells zA 31)).alloc (.cells zF 26)) (w.heap.size + 1) zA 31 := by
    have := (rb_new (w.alloc (.cells zF 26)) zA 31).keep (bal _ (.cells zF 26))
    rwa [World.size_alloc] at this
  have hX8 : Rb (((w.alloc (.cells zF 26)).alloc (.cells zA 31)).alloc (.cells zF 26)) (w.heap.size + 2) zF 26 := by
    have := rb_new ((w.alloc (.cells zF 26)).alloc (.cells zA 31)) zF 26
    rwa [World.size_alloc, World.size_alloc] at this
  have hc' : ((c : Int) == 0) = false := by rw [beq_eq_false_iff_ne]; omega
  have HG := mkHid hGF
  clear hlx hS hGF
  subst hr0
  go_enter Tryz.func14, Tryz.ntmps14
  go_wp2_with (first
    | (go_at_call 27; refine (LW.out).mono ?_; rintro e w4 ⟨v, rfl, hO4, hB4⟩; obtain ⟨ro, cr, rfl, hRd⟩ := rdw_of_owns (n := a.length) (by simp) hO4; have hTx : TxW w4 s a ro a.length cr := ⟨hRd, by omega⟩; have hF1a := (hF1.keep hB4).keep (bal w4 (.cells zA 31)); have hF2a := (hF2.keep hB4).keep (bal w4 (.cells zA 31)); have hX8a := (hX8.keep hB4).keep (bal w4 (.cells zA 31)); have hs4 := (Array.getElem?_eq_some_iff.1 (hX8.keep hB4)).1)
    | (go_at_call 28; refine (runecount_at s _ (by omega)).mono ?_; rintro e w6 ⟨rfl, hB6⟩; have hs6 := hB6.size; rw [World.size_alloc] at hs6; have hF1b := (hF1a.keep hB6).keep (bal w6 (.cells #[.slice ro a.length cr, .int .i64 (s.size : Nat), .int .i64 (cnt s : Nat), .int .i64 0, .int .i64 0, .int .i64 0] 77)); have hF2b := (hF2a.keep hB6).keep (bal w6 (.cells #[.slice ro a.length cr, .int .i64 (s.size : Nat), .int .i64 (cnt s : Nat), .int .i64 0, .int .i64 0, .int .i64 0] 77)); have hX8b := (hX8a.keep hB6).keep (bal w6 (.cells #[.slice ro a.length cr, .int .i64 (s.size : Nat), .int .i64 (cnt s : Nat), .int .i64 0, .int .i64 0, .int .i64 0] 77)); have hRr := rb_new w6 #[.slice ro a.length cr, .int .i64 (s.size : Nat), .int .i64 (cnt s : Nat), .int .i64 0, .int .i64 0, .int .i64 0] 77; have hB7 : Below w4.heap.size w4 (w6.alloc (.cells #[.slice ro a.length cr, .int .i64 (s.size : Nat), .int .i64 (cnt s : Nat), .int .i64 0, .int .i64 0, .int .i64 0] 77)) := bta (bt2 (bal w4 _) hB6) _; have hPs : Ps (⟨w4, s, a, ro, a.length, cr, w6.heap.size⟩ : Rx) (w6.alloc (.cells #[.slice ro a.length cr, .int .i64 (s.size : Nat), .int .i64 (cnt s : Nat), .int .i64 0, .int .i64 0, .int .i64 0] 77)) (.at 0) := Ps.start hTx (by omega) hB7 hRr; have hB7w := bta (bt2 (bta (bt2 hB3 hB4) _) hB6) (.cells #[.slice ro a.length cr, .int .i64 (s.size : Nat), .int .i64 (cnt s : Nat), .int .i64 0, .int .i64 0, .int .i64 0] 77))
    | (go_at_call 15; refine (formula_all (X := (⟨w4, s, a, ro, a.length, cr, w6.heap.size⟩ : Rx)) hWd _ (.at 0) _ hPs (Nat.zero_le _) HG.out).mono ?_; rintro e w8 ⟨o, xs, m, bo, n1, c1, lo, ln, lc, f1, rfl, hV8, h8, hC8, hf⟩; have hF1c := (hF1b.but hC8 (by show _ ≠ w6.heap.size; omega)).keep (bal w8 (.cells #[.int .i64 o, .string xs, .int .i64 m, .slice bo n1 c1, .slice lo ln lc] 26)); have hF2c := (hF2b.but hC8 (by show _ ≠ w6.heap.size; omega)).keep (bal w8 (.cells #[.int .i64 o, .string xs, .int .i64 m, .slice bo n1 c1, .slice lo ln lc] 26)); have hX8c := (hX8b.but hC8 (by show _ ≠ w6.heap.size; omega)).keep (bal w8 (.cells #[.int .i64 o, .string xs, .int .i64 m, .slice bo n1 c1, .slice lo ln lc] 26)); have hXt := rb_new w8 #[.int .i64 o, .string xs, .int .i64 m, .slice bo n1 c1, .slice lo ln lc] 26; have hBw8 : Below w.heap.size w (w8.alloc (.cells #[.int .i64 o, .string xs, .int .i64 m, .slice bo n1 c1, .slice lo ln lc] 26)) := (hB7w.trans (hC8.below (by show _ ≤ w6.heap.size; omega) hB7w.size)).alloc (Nat.le_trans hB7w.size hC8.size) _; have hs8 := hC8.size; rw [World.size_alloc] at hs8; obtain ⟨ra, rc, hRr8⟩ : ∃ ra rc, Rb w8 w6.heap.size (rdC (.slice ra 0 rc) s.size (cnt s) 0 0 0) 77 := Ps.done (X := (⟨w4, s, a, ro, a.length, cr, w6.heap.size⟩ : Rx)) h8; have hRr9 := hRr8.keep (bal w8 (.cells #[.int .i64 o, .string xs, .int .i64 m, .slice bo n1 c1, .slice lo ln lc] 26)); obtain ⟨t0, -⟩ := txcell hRr9 0 _ rfl; obtain ⟨t3, -⟩ := txcell hRr9 3 _ rfl; have hff := of_is hf; subst hff; obtain ⟨y0, -⟩ := txcell hXt 0 _ rfl; obtain ⟨y1, -⟩ := txcell hXt 1 _ rfl; obtain ⟨y2, -⟩ := txcell hXt 2 _ rfl; obtain ⟨y3, -⟩ := txcell hXt 3 _ rfl; obtain ⟨y4, -⟩ := txcell hXt 4 _ rfl; have hV9 := RdFn.keep (Hi.of (bal w8 (.cells #[.int .i64 o, .string xs, .int .i64 m, .slice bo n1 c1, .slice lo ln lc] 26))) _ _ _ _ _ _ hV8; have CK := mkHid (fun wz hb => check_run (w8.alloc (.cells #[.int .i64 o, .string xs, .int .i64 m, .slice bo n1 c1, .slice lo ln lc] 26)) f1 (.agg #[.int .i64 o, .string xs, .int .i64 m, .slice bo n1 c1, .slice lo ln lc]) wz ⟨_, _, _, _, _, rfl, hV9.plain⟩ hb); rw [hc] at CK))
  refine (CK.out _ (Below.refl _ _)).mono ?_
  rintro e w10 ⟨rfl, hB10⟩
  have hF1z := hF1c.keep hB10
  have hF2z := hF2c.keep hB10
  have hX8z := hX8c.keep hB10
  have hXz := hXt.keep hB10
  have hBwz := bt2 hBw8 hB10
  have hVz := RdFn.keep (Hi.of hB10) _ _ _ _ _ _ hV9
  have hX8y : Rb w10 (w.heap.size + 1 + 1) zF 26 := hX8z
  obtain ⟨x0, -⟩ := txcell hX8y 0 _ rfl
  obtain ⟨x1, -⟩ := txcell hX8y 1 _ rfl
  obtain ⟨x2, -⟩ := txcell hX8y 2 _ rfl
  obtain ⟨x3, -⟩ := txcell hX8y 3 _ rfl
  obtain ⟨x4, -⟩ := txcell hX8y 4 _ rfl
  obtain ⟨a0, g0⟩ := txcell hF1z 0 _ rfl
  obtain ⟨a1, g1⟩ := txcell hF1z 1 _ rfl
  obtain ⟨a2, g2⟩ := txcell hF1z 2 _ rfl
  obtain ⟨a3, g3⟩ := txcell hF1z 3 _ rfl
  obtain ⟨a4, g4⟩ := txcell hF1z 4 _ rfl
  obtain ⟨b0, f0⟩ := txcell hF2z 0 _ rfl
  obtain ⟨b1, f1⟩ := txcell hF2z 1 _ rfl
  obtain ⟨b2, f2⟩ := txcell hF2z 2 _ rfl
  go_wp2
  have hRa := (rb_five hF1z rfl (.int .i64 0) (.string emp) (.int .i64 0) (.slice none 0 0) (.slice none 0 0)).st3 (X := w.heap.size + 1) (by omega) (.int .i64 (c : Nat)) (.int .i64 0) (.int .i64 0)
  have hRb := rb_three (hF2z.st5 (X := w.heap.size) (by omega) (.int .i64 0) (.string emp) (.int .i64 0) (.slice none 0 0) (.slice none 0 0)) rfl (.int .i64 (c : Nat)) (.int .i64 0) (.int .i64 0)
  have hBz := bel_st3 (bel_st5 hBwz (Nat.le_refl _) (.int .i64 0) (.string emp) (.int .i64 0) (.slice none 0 0) (.slice none 0 0)) (Nat.le_succ _) (.int .i64 (c : Nat)) (.int .i64 0) (.int .i64 0)
  obtain ⟨k0, -⟩ := txcell hRa 0 _ rfl
  obtain ⟨k1, -⟩ := txcell hRa 1 _ rfl
  obtain ⟨k2, -⟩ := txcell hRa 2 _ rfl
  obtain ⟨k3, -⟩ := txcell hRa 3 _ rfl
  obtain ⟨k4, -⟩ := txcell hRa 4 _ rfl
  obtain ⟨l0, -⟩ := txcell hRb 0 _ rfl
  obtain ⟨l1, -⟩ := txcell hRb 1 _ rfl
  obtain ⟨l2, -⟩ := txcell hRb 2 _ rfl
  exact bodyPost_ret (v := .tuple #[nilF, fau c 0 0]) (by simp [results, Tryz.results14, go_sem, k0, k1, k2, k3, k4, l0, l1, l2]) rfl ⟨rfl, hBz⟩
set_option maxRecDepth 100000 in
set_option maxHeartbeats 2000000 in
theorem whole_ok (s : ByteArray) (w : World) (a : List Wd) (r0 : Out Fm) (hsz : s.size ≤ 4096) (hlx : Lx s 0 a none) (hGF : GF a (.lev 0) (.at 0) r0) (hS : Sg w)
    (f : Fm) (hr0 : r0 = .ok f a.length) (hc : chk nmB f = 0) :
    Calls Tryz.prog 14 #[.string s, .func (.func 15) #[] #[], .func (.func 16) #[] #[]] w fun e w' => ∃ v, e = .returned (.tuple #[v, fau 0 0 0]) ∧ FmA w.heap.size w' (some f) v ∧ Below w.heap.size w w' := by
  have LW : Hid (Calls Tryz.prog 27 #[.string s] (((w.alloc (.cells zF 26)).alloc (.cells zA 31)).alloc (.cells zF 26)) fun e w' => ∃ v, e = .returned (.tuple #[v, fau 0 0 0]) ∧ w'.ownsRow ((((w.alloc (.cells zF 26)).alloc (.cells zA 31)).alloc (.cells zF 26))).heap.size 87 5 v a.length ((a.map (full s)).flatMap FW.cells) ∧ Below ((((w.alloc (.cells zF 26)).alloc (.cells zA 31)).alloc (.cells zF 26))).heap.size (((w.alloc (.cells zF 26)).alloc (.cells zA 31)).alloc (.cells zF 26)) w') := lexC.good s a _ (((hS.alloc (.cells zF 26)).alloc (.cells zA 31)).alloc (.cells zF 26)) hsz hlx
  have hWd := hlx.wdok hsz
  have hal := (hlx.fine hsz).2
  have hB3 : Below w.heap.size w (((w.alloc (.cells zF 26)).alloc (.cells zA 31)).alloc (.cells zF 26)) := bta (bta (bal w _) _) _
  have hF1 : Rb (((w.alloc (.cells zF 26)).alloc (.cells zA 31)).alloc (.cells zF 26)) w.heap.size zF 26 := ((rb_new w zF 26).keep (bal _ _)).keep (bal _ _)
  have hF2 : Rb (((w.alloc (.cells zF 26)).alloc (.cells zA 31)).alloc (.cells zF 26)) (w.heap.size + 1) zA 31 := by
    have := (rb_new (w.alloc (.cells zF 26)) zA 31).keep (bal _ (.cells zF 26))
    rwa [World.size_alloc] at this
  have hX8 : Rb (((w.alloc (.cells zF 26)).alloc (.cells zA 31)).alloc (.cells zF 26)) (w.heap.size + 2) zF 26 := by
    have := rb_new ((w.alloc (.cells zF 26)).alloc (.cells zA 31)) zF 26
    rwa [World.size_alloc, World.size_alloc] at this
  have HG := mkHid hGF
  clear hlx hS hGF
  subst hr0
  go_enter Tryz.func14, Tryz.ntmps14
  go_wp2_with (first
    | (go_at_call 27; refine (LW.out).mono ?_; rintro e w4 ⟨v, rfl, hO4, hB4⟩; obtain ⟨ro, cr, rfl, hRd⟩ := rdw_of_owns (n := a.length) (by simp) hO4; have hTx : TxW w4 s a ro a.length cr := ⟨hRd, by omega⟩; have hF1a := (hF1.keep hB4).keep (bal w4 (.cells zA 31)); have hF2a := (hF2.keep hB4).keep (bal w4 (.cells zA 31)); have hX8a := (hX8.keep hB4).keep (bal w4 (.cells zA 31)); have hs4 := (Array.getElem?_eq_some_iff.1 (hX8.keep hB4)).1)
    | (go_at_call 28; refine (runecount_at s _ (by omega)).mono ?_; rintro e w6 ⟨rfl, hB6⟩; have hs6 := hB6.size; rw [World.size_alloc] at hs6; have hF1b := (hF1a.keep hB6).keep (bal w6 (.cells #[.slice ro a.length cr, .int .i64 (s.size : Nat), .int .i64 (cnt s : Nat), .int .i64 0, .int .i64 0, .int .i64 0] 77)); have hF2b := (hF2a.keep hB6).keep (bal w6 (.cells #[.slice ro a.length cr, .int .i64 (s.size : Nat), .int .i64 (cnt s : Nat), .int .i64 0, .int .i64 0, .int .i64 0] 77)); have hX8b := (hX8a.keep hB6).keep (bal w6 (.cells #[.slice ro a.length cr, .int .i64 (s.size : Nat), .int .i64 (cnt s : Nat), .int .i64 0, .int .i64 0, .int .i64 0] 77)); have hRr := rb_new w6 #[.slice ro a.length cr, .int .i64 (s.size : Nat), .int .i64 (cnt s : Nat), .int .i64 0, .int .i64 0, .int .i64 0] 77; have hB7 : Below w4.heap.size w4 (w6.alloc (.cells #[.slice ro a.length cr, .int .i64 (s.size : Nat), .int .i64 (cnt s : Nat), .int .i64 0, .int .i64 0, .int .i64 0] 77)) := bta (bt2 (bal w4 _) hB6) _; have hPs : Ps (⟨w4, s, a, ro, a.length, cr, w6.heap.size⟩ : Rx) (w6.alloc (.cells #[.slice ro a.length cr, .int .i64 (s.size : Nat), .int .i64 (cnt s : Nat), .int .i64 0, .int .i64 0, .int .i64 0] 77)) (.at 0) := Ps.start hTx (by omega) hB7 hRr; have hB7w := bta (bt2 (bta (bt2 hB3 hB4) _) hB6) (.cells #[.slice ro a.length cr, .int .i64 (s.size : Nat), .int .i64 (cnt s : Nat), .int .i64 0, .int .i64 0, .int .i64 0] 77))
    | (go_at_call 15; refine (formula_all (X := (⟨w4, s, a, ro, a.length, cr, w6.heap.size⟩ : Rx)) hWd _ (.at 0) _ hPs (Nat.zero_le _) HG.out).mono ?_; rintro e w8 ⟨o, xs, m, bo, n1, c1, lo, ln, lc, f1, rfl, hV8, h8, hC8, hf⟩; have hF1c := (hF1b.but hC8 (by show _ ≠ w6.heap.size; omega)).keep (bal w8 (.cells #[.int .i64 o, .string xs, .int .i64 m, .slice bo n1 c1, .slice lo ln lc] 26)); have hF2c := (hF2b.but hC8 (by show _ ≠ w6.heap.size; omega)).keep (bal w8 (.cells #[.int .i64 o, .string xs, .int .i64 m, .slice bo n1 c1, .slice lo ln lc] 26)); have hX8c := (hX8b.but hC8 (by show _ ≠ w6.heap.size; omega)).keep (bal w8 (.cells #[.int .i64 o, .string xs, .int .i64 m, .slice bo n1 c1, .slice lo ln lc] 26)); have hXt := rb_new w8 #[.int .i64 o, .string xs, .int .i64 m, .slice bo n1 c1, .slice lo ln lc] 26; have hBw8 : Below w.heap.size w (w8.alloc (.cells #[.int .i64 o, .string xs, .int .i64 m, .slice bo n1 c1, .slice lo ln lc] 26)) := (hB7w.trans (hC8.below (by show _ ≤ w6.heap.size; omega) hB7w.size)).alloc (Nat.le_trans hB7w.size hC8.size) _; have hs8 := hC8.size; rw [World.size_alloc] at hs8; obtain ⟨ra, rc, hRr8⟩ : ∃ ra rc, Rb w8 w6.heap.size (rdC (.slice ra 0 rc) s.size (cnt s) 0 0 0) 77 := Ps.done (X := (⟨w4, s, a, ro, a.length, cr, w6.heap.size⟩ : Rx)) h8; have hRr9 := hRr8.keep (bal w8 (.cells #[.int .i64 o, .string xs, .int .i64 m, .slice bo n1 c1, .slice lo ln lc] 26)); obtain ⟨t0, -⟩ := txcell hRr9 0 _ rfl; obtain ⟨t3, -⟩ := txcell hRr9 3 _ rfl; have hff := of_is hf; subst hff; obtain ⟨y0, -⟩ := txcell hXt 0 _ rfl; obtain ⟨y1, -⟩ := txcell hXt 1 _ rfl; obtain ⟨y2, -⟩ := txcell hXt 2 _ rfl; obtain ⟨y3, -⟩ := txcell hXt 3 _ rfl; obtain ⟨y4, -⟩ := txcell hXt 4 _ rfl; have hV9 := RdFn.keep (Hi.of (bal w8 (.cells #[.int .i64 o, .string xs, .int .i64 m, .slice bo n1 c1, .slice lo ln lc] 26))) _ _ _ _ _ _ hV8; have CK := mkHid (fun wz hb => check_run (w8.alloc (.cells #[.int .i64 o, .string xs, .int .i64 m, .slice bo n1 c1, .slice lo ln lc] 26)) f1 (.agg #[.int .i64 o, .string xs, .int .i64 m, .slice bo n1 c1, .slice lo ln lc]) wz ⟨_, _, _, _, _, rfl, hV9.plain⟩ hb); rw [hc] at CK; have hne : ∀ k, Ge (w6.alloc (.cells #[.slice ro a.length cr, .int .i64 (s.size : Nat), .int .i64 (cnt s : Nat), .int .i64 0, .int .i64 0, .int .i64 0] 77)).heap.size k → ∀ j, j ≤ 1 → k ≠ w.heap.size + j := (fun k hk j hj => by have hk2 : (w6.alloc (.cells #[.slice ro a.length cr, .int .i64 (s.size : Nat), .int .i64 (cnt s : Nat), .int .i64 0, .int .i64 0, .int .i64 0] 77)).heap.size ≤ k := hk; rw [World.size_alloc] at hk2; omega)))
  refine (CK.out _ (Below.refl _ _)).mono ?_
  rintro e w10 ⟨rfl, hB10⟩
  have hF1z := hF1c.keep hB10
  have hF2z := hF2c.keep hB10
  have hX8z := hX8c.keep hB10
  have hXz := hXt.keep hB10
  have hBwz := bt2 hBw8 hB10
  have hVz := RdFn.keep (Hi.of hB10) _ _ _ _ _ _ hV9
  obtain ⟨z0, -⟩ := txcell hXz 0 _ rfl
  obtain ⟨z1, -⟩ := txcell hXz 1 _ rfl
  obtain ⟨z2, -⟩ := txcell hXz 2 _ rfl
  obtain ⟨z3, -⟩ := txcell hXz 3 _ rfl
  obtain ⟨z4, -⟩ := txcell hXz 4 _ rfl
  obtain ⟨a0, g0⟩ := txcell hF1z 0 _ rfl
  obtain ⟨a1, g1⟩ := txcell hF1z 1 _ rfl
  obtain ⟨a2, g2⟩ := txcell hF1z 2 _ rfl
  obtain ⟨a3, g3⟩ := txcell hF1z 3 _ rfl
  obtain ⟨a4, g4⟩ := txcell hF1z 4 _ rfl
  obtain ⟨b0, f0⟩ := txcell hF2z 0 _ rfl
  obtain ⟨b1, f1⟩ := txcell hF2z 1 _ rfl
  obtain ⟨b2, f2⟩ := txcell hF2z 2 _ rfl
  go_wp2
  have hRa := (rb_five hF1z rfl (.int .i64 o) (.string xs) (.int .i64 m) (.slice bo n1 c1) (.slice lo ln lc)).st3 (X := w.heap.size + 1) (by omega) (.int .i64 0) (.int .i64 0) (.int .i64 0)
  have hRb := rb_three (hF2z.st5 (X := w.heap.size) (by omega) (.int .i64 o) (.string xs) (.int .i64 m) (.slice bo n1 c1) (.slice lo ln lc)) rfl (.int .i64 0) (.int .i64 0) (.int .i64 0)
  have hBz := bel_st3 (bel_st5 hBwz (Nat.le_refl _) (.int .i64 o) (.string xs) (.int .i64 m) (.slice bo n1 c1) (.slice lo ln lc)) (Nat.le_succ _) (.int .i64 0) (.int .i64 0) (.int .i64 0)
  have hVy := RdFn.keep (((((((((Hi.refl (Ge (w6.alloc (.cells #[.slice ro a.length cr, .int .i64 (s.size : Nat), .int .i64 (cnt s : Nat), .int .i64 0, .int .i64 0, .int .i64 0] 77)).heap.size) w10).set (g := w.heap.size) (fun k hk => hne k hk 0 (by omega)) 0 (.int .i64 o)).set (g := w.heap.size) (fun k hk => hne k hk 0 (by omega)) 1 (.string xs)).set (g := w.heap.size) (fun k hk => hne k hk 0 (by omega)) 2 (.int .i64 m)).set (g := w.heap.size) (fun k hk => hne k hk 0 (by omega)) 3 (.slice bo n1 c1)).set (g := w.heap.size) (fun k hk => hne k hk 0 (by omega)) 4 (.slice lo ln lc)).set (g := w.heap.size + 1) (fun k hk => hne k hk 1 (by omega)) 0 (.int .i64 0)).set (g := w.heap.size + 1) (fun k hk => hne k hk 1 (by omega)) 1 (.int .i64 0)).set (g := w.heap.size + 1) (fun k hk => hne k hk 1 (by omega)) 2 (.int .i64 0)) _ _ _ _ _ _ hVz
  obtain ⟨k0, -⟩ := txcell hRa 0 _ rfl
  obtain ⟨k1, -⟩ := txcell hRa 1 _ rfl
  obtain ⟨k2, -⟩ := txcell hRa 2 _ rfl
  obtain ⟨k3, -⟩ := txcell hRa 3 _ rfl
  obtain ⟨k4, -⟩ := txcell hRa 4 _ rfl
  obtain ⟨l0, -⟩ := txcell hRb 0 _ rfl
  obtain ⟨l1, -⟩ := txcell hRb 1 _ rfl
  obtain ⟨l2, -⟩ := txcell hRb 2 _ rfl
  exact bodyPost_ret (v := .tuple #[.agg #[.int .i64 o, .string xs, .int .i64 m, .slice bo n1 c1, .slice lo ln lc], fau 0 0 0]) (by simp [results, Tryz.results14, go_sem, k0, k1, k2, k3, k4, l0, l1, l2]) rfl ⟨_, rfl, ⟨_, _, _, _, _, _, _, _, _, rfl, fun e => (by cases e), fun _ e => by cases e; exact RdFn.low (fun k _ hk => Nat.le_trans hB7w.size hk) _ _ _ _ _ _ hVy⟩, hBz⟩
end Go.Proofs.YtabfhdmcljdjhaaGreatDoor.Gl
/- What the landed parse.Formula answers. -/
namespace Go.Proofs.YtabfhdmcljdjhaaGreatDoor.Gl
open Go.RowKit
set_option linter.unusedVariables false
set_option linter.unusedSimpArgs false

theorem tok_bad {s : ByteArray} {p e : Nat} (h : tok s p = .bad e) : e = 50 ∨ e = 6 ∨ e = 52 ∨ e = 51 := by
  rcases tok_cases s p with ⟨_, e'⟩ | ⟨_, ⟨_, e'⟩ | ⟨_, ⟨_, ⟨_, e'⟩ | ⟨_, _, e'⟩ | ⟨_, _, e'⟩⟩ | ⟨_, _, ⟨_, e'⟩ | ⟨_, e'⟩⟩ | ⟨_, _, _, e'⟩ | ⟨_, _, _, ⟨_, e'⟩ | ⟨_, e'⟩⟩⟩⟩ <;> rw [h] at e' <;> cases e' <;> simp
theorem Lx.cs {s : ByteArray} {p c q : Nat} {ws : List Wd} {f : Option (Nat × Nat)} (h : Lx s p ws f) : ∀ c q, f = some (c, q) → c = 50 ∨ c = 6 ∨ c = 52 ∨ c = 51 := by
  induction h with
  | done => intro c q e; cases e
  | blank _ _ _ ih => exact ih
  | bad _ b => intro c q e; cases e; exact tok_bad b
  | word _ _ _ ih => exact ih
abbrev WHC (s : ByteArray) (w : World) (o : Option Fm) (c b k : Nat) : Prop := Calls Tryz.prog 14 #[.string s, .func (.func 15) #[] #[], .func (.func 16) #[] #[]] w fun e w' => ∃ v, e = .returned (.tuple #[v, fau c b k]) ∧ FmA w.heap.size w' o v ∧ Below w.heap.size w w'
theorem fma_none (B : Nat) (w : World) : FmA B w none nilF := ⟨_, _, _, _, _, _, _, _, _, rfl, fun _ => rfl, fun _ e => by cases e⟩
theorem whole_any {s : ByteArray} {o : Option Fm} {c b k : Nat} (h : An s o c b k) (w : World) (hS : Sg w) (h64 : s.size ≤ 9223372036854775807) : WHC s w o c b k := by
  cases h with
  | long hl => exact (whole_fault s w 70 0 0 (by decide) hS (fun w hS => lexC.long s w hS hl h64)).mono fun e w' ⟨h1, h2⟩ => ⟨_, h1, fma_none _ _, h2⟩
  | @lex a c p hs hl =>
    have hc := hl.cs (c := 0) (q := 0) _ _ rfl
    exact (whole_fault s w c b _ (by omega) hS (fun w hS => lexC.bad s a c b w hS hs hl)).mono fun e w' ⟨h1, h2⟩ => ⟨_, h1, fma_none _ _, h2⟩
  | @bad a y q hs hl hf =>
    cases hf with
    | bad h => exact (whole_bad s w a _ hs hl (.no h) hS c q _ _ rfl rfl rfl).mono fun e w' ⟨h1, h2⟩ => ⟨_, h1, fma_none _ _, h2⟩
    | rest h hq => exact (whole_rest s w a _ hs hl (.ok h) hS _ q _ _ hq rfl rfl rfl).mono fun e w' ⟨h1, h2⟩ => ⟨_, h1, fma_none _ _, h2⟩
  | @many a f q hs hl hf hc =>
    cases hf with
    | ok h => exact (whole_many s w a _ hs hl (.ok h) hS f _ rfl rfl hc).mono fun e w' ⟨h1, h2⟩ => ⟨_, h1, fma_none _ _, h2⟩
  | @ok a f q hs hl hf hc =>
    cases hf with
    | ok h => exact whole_ok s w a _ hs hl (.ok h) hS f rfl hc
set_option maxRecDepth 100000 in
set_option maxHeartbeats 2000000 in
theorem formula_any {s : ByteArray} {o : Option Fm} {c b k : Nat} (h : An s o c b k) (w : World) (hS : Sg w) (h64 : s.size ≤ 9223372036854775807) :
    Calls Tryz.prog 5 #[.string s] w fun e w' => ∃ v, e = .returned (.tuple #[v, fau c b k]) ∧ FmA w.heap.size w' o v ∧ Below w.heap.size w w' := by
  have WC := mkHid (whole_any h ((w.alloc (.cells zF 26)).alloc (.cells zA 31)) ((hS.alloc _).alloc _) h64)
  have hB2 : Below w.heap.size w ((w.alloc (.cells zF 26)).alloc (.cells zA 31)) := bta (bal w _) _
  have hF1 : Rb ((w.alloc (.cells zF 26)).alloc (.cells zA 31)) w.heap.size zF 26 := (rb_new w zF 26).keep (bal _ _)
  have hF2 : Rb ((w.alloc (.cells zF 26)).alloc (.cells zA 31)) (w.heap.size + 1) zA 31 := by
    have := rb_new (w.alloc (.cells zF 26)) zA 31
    rwa [World.size_alloc] at this
  clear h hS h64
  go_enter Tryz.func5, Tryz.ntmps5
  go_wp2_with (go_at_call 14; refine (WC.out).mono ?_; rintro e w4 ⟨v, rfl, ⟨op, xs, m, bo, n1, c1, lo, ln, lc, rfl, hno, hso⟩, hB4⟩; have hF1z := hF1.keep hB4; have hF2z := hF2.keep hB4; have hBwz := bt2 hB2 hB4; have HNO := mkHid hno; have HSO := mkHid hso; clear hno hso; obtain ⟨a0, g0⟩ := txcell hF1z 0 _ rfl; obtain ⟨a1, g1⟩ := txcell hF1z 1 _ rfl; obtain ⟨a2, g2⟩ := txcell hF1z 2 _ rfl; obtain ⟨a3, g3⟩ := txcell hF1z 3 _ rfl; obtain ⟨a4, g4⟩ := txcell hF1z 4 _ rfl; obtain ⟨b0, f0⟩ := txcell hF2z 0 _ rfl; obtain ⟨b1, f1⟩ := txcell hF2z 1 _ rfl; obtain ⟨b2, f2⟩ := txcell hF2z 2 _ rfl)
  have hRa := (rb_five hF1z rfl (.int .i64 op) (.string xs) (.int .i64 m) (.slice bo n1 c1) (.slice lo ln lc)).st3 (X := w.heap.size + 1) (by omega) (.int .i64 (c : Nat)) (.int .i64 (b : Nat)) (.int .i64 (k : Nat))
  have hRb := rb_three (hF2z.st5 (X := w.heap.size) (by omega) (.int .i64 op) (.string xs) (.int .i64 m) (.slice bo n1 c1) (.slice lo ln lc)) rfl (.int .i64 (c : Nat)) (.int .i64 (b : Nat)) (.int .i64 (k : Nat))
  have hBz := bel_st3 (bel_st5 hBwz (Nat.le_refl _) (.int .i64 op) (.string xs) (.int .i64 m) (.slice bo n1 c1) (.slice lo ln lc)) (Nat.le_succ _) (.int .i64 (c : Nat)) (.int .i64 (b : Nat)) (.int .i64 (k : Nat))
  have hne : ∀ i, Ge ((w.alloc (.cells zF 26)).alloc (.cells zA 31)).heap.size i → ∀ j, j ≤ 1 → i ≠ w.heap.size + j := fun i hi j hj => by
    have h2 : ((w.alloc (.cells zF 26)).alloc (.cells zA 31)).heap.size ≤ i := hi
    rw [World.size_alloc, World.size_alloc] at h2
    omega
  have hHi := ((((Hi.st5 (P := Ge ((w.alloc (.cells zF 26)).alloc (.cells zA 31)).heap.size) (B := w.heap.size) (fun i hi => hne i hi 0 (by omega)) w4 (.int .i64 op) (.string xs) (.int .i64 m) (.slice bo n1 c1) (.slice lo ln lc)).set (g := w.heap.size + 1) (fun i hi => hne i hi 1 (by omega)) 0 (.int .i64 (c : Nat))).set (g := w.heap.size + 1) (fun i hi => hne i hi 1 (by omega)) 1 (.int .i64 (b : Nat))).set (g := w.heap.size + 1) (fun i hi => hne i hi 1 (by omega)) 2 (.int .i64 (k : Nat)))
  obtain ⟨k0, -⟩ := txcell hRa 0 _ rfl
  obtain ⟨k1, -⟩ := txcell hRa 1 _ rfl
  obtain ⟨k2, -⟩ := txcell hRa 2 _ rfl
  obtain ⟨k3, -⟩ := txcell hRa 3 _ rfl
  obtain ⟨k4, -⟩ := txcell hRa 4 _ rfl
  obtain ⟨l0, -⟩ := txcell hRb 0 _ rfl
  obtain ⟨l1, -⟩ := txcell hRb 1 _ rfl
  obtain ⟨l2, -⟩ := txcell hRb 2 _ rfl
  exact bodyPost_ret (v := .tuple #[.agg #[.int .i64 op, .string xs, .int .i64 m, .slice bo n1 c1, .slice lo ln lc], fau c b k]) (by simp [results, Tryz.results5, go_sem, k0, k1, k2, k3, k4, l0, l1, l2]) rfl ⟨_, rfl, ⟨_, _, _, _, _, _, _, _, _, rfl, HNO.out, fun f e => RdFn.low (fun i _ hi => Nat.le_trans hB2.size hi) _ _ _ _ _ _ (RdFn.keep hHi _ _ _ _ _ _ (HSO.out f e))⟩, hBz⟩
theorem FmA.fmv {B : Nat} {w : World} {f : Fm} {v : Value} (h : FmA B w (some f) v) : FmV w f v := by
  obtain ⟨op, xs, m, bo, n1, c1, lo, ln, lc, e, _, hr⟩ := h
  exact ⟨_, _, _, _, _, e, (hr f rfl).plain⟩
end Go.Proofs.YtabfhdmcljdjhaaGreatDoor.Gl
