/- The landed whole, of a term: words that are read. -/
import Derived.Test.YtabfhdmcljdjhaaGreatDoorPtQ
namespace Go.Proofs.YtabfhdmcljdjhaaGreatDoor.Gl
open Go.RowKit
set_option linter.unusedVariables false
set_option linter.unusedSimpArgs false

set_option maxRecDepth 100000 in
set_option maxHeartbeats 2000000 in
theorem twhole_bad (s : ByteArray) (w : World) (a : List Wd) (r0 : Out Tm) (hsz : s.size ≤ 4096) (hlx : Lx s 0 a none) (hGF : GT a .sum (.at 0) r0) (hS : Sg w)
    (y q fb fc : Nat) (hr0 : r0 = .bad y q) (hfb : pcB s a q = fb) (hfc : pcC s a q = fc) :
    Calls Tryz.prog 22 #[.string s, .func (.func 23) #[] #[], .func (.func 24) #[] #[]] w fun e w' => e = .returned (.tuple #[nilT, fau y fb fc]) ∧ Below w.heap.size w w' := by
  have LW : Hid (Calls Tryz.prog 27 #[.string s] (((w.alloc (.cells zT 43)).alloc (.cells zA 31)).alloc (.cells zT 43)) fun e w' => ∃ v, e = .returned (.tuple #[v, fau 0 0 0]) ∧ w'.ownsRow ((((w.alloc (.cells zT 43)).alloc (.cells zA 31)).alloc (.cells zT 43))).heap.size 87 5 v a.length ((a.map (full s)).flatMap FW.cells) ∧ Below ((((w.alloc (.cells zT 43)).alloc (.cells zA 31)).alloc (.cells zT 43))).heap.size (((w.alloc (.cells zT 43)).alloc (.cells zA 31)).alloc (.cells zT 43)) w') := lexC.good s a _ (((hS.alloc (.cells zT 43)).alloc (.cells zA 31)).alloc (.cells zT 43)) hsz hlx
  have hWd := hlx.wdok hsz
  have hal := (hlx.fine hsz).2
  have hB3 : Below w.heap.size w (((w.alloc (.cells zT 43)).alloc (.cells zA 31)).alloc (.cells zT 43)) := bta (bta (bal w _) _) _
  have hF1 : Rb (((w.alloc (.cells zT 43)).alloc (.cells zA 31)).alloc (.cells zT 43)) w.heap.size zT 43 := ((rb_new w zT 43).keep (bal _ _)).keep (bal _ _)
  have hF2 : Rb (((w.alloc (.cells zT 43)).alloc (.cells zA 31)).alloc (.cells zT 43)) (w.heap.size + 1) zA 31 := by
    have := (rb_new (w.alloc (.cells zT 43)) zA 31).keep (bal _ (.cells zT 43))
    rwa [World.size_alloc] at this
  have hX8 : Rb (((w.alloc (.cells zT 43)).alloc (.cells zA 31)).alloc (.cells zT 43)) (w.heap.size + 2) zT 43 := by
    have := rb_new ((w.alloc (.cells zT 43)).alloc (.cells zA 31)) zT 43
    rwa [World.size_alloc, World.size_alloc] at this
  have HG := mkHid hGF
  clear hlx hS hGF
  subst hr0
  go_enter Tryz.func22, Tryz.ntmps22
  go_wp2_with (first
    | (go_at_call 27; refine (LW.out).mono ?_; rintro e w4 ⟨v, rfl, hO4, hB4⟩; obtain ⟨ro, cr, rfl, hRd⟩ := rdw_of_owns (n := a.length) (by simp) hO4; have hTx : TxW w4 s a ro a.length cr := ⟨hRd, by omega⟩; have hF1a := (hF1.keep hB4).keep (bal w4 (.cells zA 31)); have hF2a := (hF2.keep hB4).keep (bal w4 (.cells zA 31)); have hX8a := (hX8.keep hB4).keep (bal w4 (.cells zA 31)); have hs4 := (Array.getElem?_eq_some_iff.1 (hX8.keep hB4)).1)
    | (go_at_call 28; refine (runecount_at s _ (by omega)).mono ?_; rintro e w6 ⟨rfl, hB6⟩; have hs6 := hB6.size; rw [World.size_alloc] at hs6; have hF1b := (hF1a.keep hB6).keep (bal w6 (.cells #[.slice ro a.length cr, .int .i64 (s.size : Nat), .int .i64 (cnt s : Nat), .int .i64 0, .int .i64 0, .int .i64 0] 77)); have hF2b := (hF2a.keep hB6).keep (bal w6 (.cells #[.slice ro a.length cr, .int .i64 (s.size : Nat), .int .i64 (cnt s : Nat), .int .i64 0, .int .i64 0, .int .i64 0] 77)); have hX8b := (hX8a.keep hB6).keep (bal w6 (.cells #[.slice ro a.length cr, .int .i64 (s.size : Nat), .int .i64 (cnt s : Nat), .int .i64 0, .int .i64 0, .int .i64 0] 77)); have hRr := rb_new w6 #[.slice ro a.length cr, .int .i64 (s.size : Nat), .int .i64 (cnt s : Nat), .int .i64 0, .int .i64 0, .int .i64 0] 77; have hB7 : Below w4.heap.size w4 (w6.alloc (.cells #[.slice ro a.length cr, .int .i64 (s.size : Nat), .int .i64 (cnt s : Nat), .int .i64 0, .int .i64 0, .int .i64 0] 77)) := bta (bt2 (bal w4 _) hB6) _; have hPs : Ps (⟨w4, s, a, ro, a.length, cr, w6.heap.size⟩ : Rx) (w6.alloc (.cells #[.slice ro a.length cr, .int .i64 (s.size : Nat), .int .i64 (cnt s : Nat), .int .i64 0, .int .i64 0, .int .i64 0] 77)) (.at 0) := Ps.start hTx (by omega) hB7 hRr; have hB7w := bta (bt2 (bta (bt2 hB3 hB4) _) hB6) (.cells #[.slice ro a.length cr, .int .i64 (s.size : Nat), .int .i64 (cnt s : Nat), .int .i64 0, .int .i64 0, .int .i64 0] 77))
    | (go_at_call 23; refine (term_all (X := (⟨w4, s, a, ro, a.length, cr, w6.heap.size⟩ : Rx)) hWd _ (.at 0) _ hPs (Nat.zero_le _) HG.out).mono ?_; rintro e w8 ⟨o, m, xs, lo, ln, lc, f, rfl, hV8, h8, hC8, hf⟩; have hF1c := (hF1b.but hC8 (by show _ ≠ w6.heap.size; omega)).keep (bal w8 (.cells #[.int .i64 o, .int .i64 m, .string xs, .slice lo ln lc] 43)); have hF2c := (hF2b.but hC8 (by show _ ≠ w6.heap.size; omega)).keep (bal w8 (.cells #[.int .i64 o, .int .i64 m, .string xs, .slice lo ln lc] 43)); have hX8c := (hX8b.but hC8 (by show _ ≠ w6.heap.size; omega)).keep (bal w8 (.cells #[.int .i64 o, .int .i64 m, .string xs, .slice lo ln lc] 43)); have hXt := rb_new w8 #[.int .i64 o, .int .i64 m, .string xs, .slice lo ln lc] 43; have hBw8 : Below w.heap.size w (w8.alloc (.cells #[.int .i64 o, .int .i64 m, .string xs, .slice lo ln lc] 43)) := (hB7w.trans (hC8.below (by show _ ≤ w6.heap.size; omega) hB7w.size)).alloc (Nat.le_trans hB7w.size hC8.size) _; have hs8 := hC8.size; rw [World.size_alloc] at hs8; obtain ⟨hy0, hRr8⟩ : y ≠ 0 ∧ Rb w8 w6.heap.size (rdC (.slice none 0 0) s.size (cnt s) y (pcB s a q) (pcC s a q)) 77 := (show Ps (⟨w4, s, a, ro, a.length, cr, w6.heap.size⟩ : Rx) w8 (.bad y q) from h8).at'; have hRr9 := hRr8.keep (bal w8 (.cells #[.int .i64 o, .int .i64 m, .string xs, .slice lo ln lc] 43)); obtain ⟨t0, -⟩ := txcell hRr9 0 _ rfl; obtain ⟨t3, -⟩ := txcell hRr9 3 _ rfl; obtain ⟨t4, -⟩ := txcell hRr9 4 _ rfl; obtain ⟨t5, -⟩ := txcell hRr9 5 _ rfl; have hy' : ((y : Int) == 0) = false := (by rw [beq_eq_false_iff_ne]; omega); rw [hfb] at t4; rw [hfc] at t5; have hF1z := hF1c; have hF2z := hF2c; have hX8z := hX8c; have hBwz := hBw8))
  have hRa := (rb_four hF1z rfl (.int .i64 0) (.int .i64 0) (.string emp) (.slice none 0 0)).st3 (X := w.heap.size + 1) (by omega) (.int .i64 (y : Nat)) (.int .i64 (fb : Nat)) (.int .i64 (fc : Nat))
  have hRb := rb_three (hF2z.st4 (X := w.heap.size) (by omega) (.int .i64 0) (.int .i64 0) (.string emp) (.slice none 0 0)) rfl (.int .i64 (y : Nat)) (.int .i64 (fb : Nat)) (.int .i64 (fc : Nat))
  have hBz := bel_st3 (bel_st4 hBwz (Nat.le_refl _) (.int .i64 0) (.int .i64 0) (.string emp) (.slice none 0 0)) (Nat.le_succ _) (.int .i64 (y : Nat)) (.int .i64 (fb : Nat)) (.int .i64 (fc : Nat))
  obtain ⟨k0, -⟩ := txcell hRa 0 _ rfl
  obtain ⟨k1, -⟩ := txcell hRa 1 _ rfl
  obtain ⟨k2, -⟩ := txcell hRa 2 _ rfl
  obtain ⟨k3, -⟩ := txcell hRa 3 _ rfl
  obtain ⟨l0, -⟩ := txcell hRb 0 _ rfl
  obtain ⟨l1, -⟩ := txcell hRb 1 _ rfl
  obtain ⟨l2, -⟩ := txcell hRb 2 _ rfl
  obtain ⟨x0, -⟩ := txcell hX8z 0 _ rfl
  obtain ⟨x1, -⟩ := txcell hX8z 1 _ rfl
  obtain ⟨x2, -⟩ := txcell hX8z 2 _ rfl
  obtain ⟨x3, -⟩ := txcell hX8z 3 _ rfl
  obtain ⟨a0, g0⟩ := txcell hF1z 0 _ rfl
  obtain ⟨a1, g1⟩ := txcell hF1z 1 _ rfl
  obtain ⟨a2, g2⟩ := txcell hF1z 2 _ rfl
  obtain ⟨a3, g3⟩ := txcell hF1z 3 _ rfl
  obtain ⟨b0, f0⟩ := txcell hF2z 0 _ rfl
  obtain ⟨b1, f1⟩ := txcell hF2z 1 _ rfl
  obtain ⟨b2, f2⟩ := txcell hF2z 2 _ rfl
  go_region_with (fail)
  all_goals
    go_wp2
    exact bodyPost_ret (v := .tuple #[nilT, fau y fb fc]) (by simp [results, Tryz.results22, go_sem, k0, k1, k2, k3, l0, l1, l2]) rfl ⟨rfl, hBz.drew⟩
set_option maxRecDepth 100000 in
set_option maxHeartbeats 2000000 in
theorem twhole_rest (s : ByteArray) (w : World) (a : List Wd) (r0 : Out Tm) (hsz : s.size ≤ 4096) (hlx : Lx s 0 a none) (hGF : GT a .sum (.at 0) r0) (hS : Sg w)
    (f0 : Tm) (q fb fc : Nat) (hq : q < a.length) (hr0 : r0 = .ok f0 q) (hfb : pcB s a q = fb) (hfc : pcC s a q = fc) :
    Calls Tryz.prog 22 #[.string s, .func (.func 23) #[] #[], .func (.func 24) #[] #[]] w fun e w' => e = .returned (.tuple #[nilT, fau 71 fb fc]) ∧ Below w.heap.size w w' := by
  have LW : Hid (Calls Tryz.prog 27 #[.string s] (((w.alloc (.cells zT 43)).alloc (.cells zA 31)).alloc (.cells zT 43)) fun e w' => ∃ v, e = .returned (.tuple #[v, fau 0 0 0]) ∧ w'.ownsRow ((((w.alloc (.cells zT 43)).alloc (.cells zA 31)).alloc (.cells zT 43))).heap.size 87 5 v a.length ((a.map (full s)).flatMap FW.cells) ∧ Below ((((w.alloc (.cells zT 43)).alloc (.cells zA 31)).alloc (.cells zT 43))).heap.size (((w.alloc (.cells zT 43)).alloc (.cells zA 31)).alloc (.cells zT 43)) w') := lexC.good s a _ (((hS.alloc (.cells zT 43)).alloc (.cells zA 31)).alloc (.cells zT 43)) hsz hlx
  have hWd := hlx.wdok hsz
  have hal := (hlx.fine hsz).2
  have hB3 : Below w.heap.size w (((w.alloc (.cells zT 43)).alloc (.cells zA 31)).alloc (.cells zT 43)) := bta (bta (bal w _) _) _
  have hF1 : Rb (((w.alloc (.cells zT 43)).alloc (.cells zA 31)).alloc (.cells zT 43)) w.heap.size zT 43 := ((rb_new w zT 43).keep (bal _ _)).keep (bal _ _)
  have hF2 : Rb (((w.alloc (.cells zT 43)).alloc (.cells zA 31)).alloc (.cells zT 43)) (w.heap.size + 1) zA 31 := by
    have := (rb_new (w.alloc (.cells zT 43)) zA 31).keep (bal _ (.cells zT 43))
    rwa [World.size_alloc] at this
  have hX8 : Rb (((w.alloc (.cells zT 43)).alloc (.cells zA 31)).alloc (.cells zT 43)) (w.heap.size + 2) zT 43 := by
    have := rb_new ((w.alloc (.cells zT 43)).alloc (.cells zA 31)) zT 43
    rwa [World.size_alloc, World.size_alloc] at this
  have HG := mkHid hGF
  clear hlx hS hGF
  subst hr0
  go_enter Tryz.func22, Tryz.ntmps22
  go_wp2_with (first
    | (go_at_call 27; refine (LW.out).mono ?_; rintro e w4 ⟨v, rfl, hO4, hB4⟩; obtain ⟨ro, cr, rfl, hRd⟩ := rdw_of_owns (n := a.length) (by simp) hO4; have hTx : TxW w4 s a ro a.length cr := ⟨hRd, by omega⟩; have hF1a := (hF1.keep hB4).keep (bal w4 (.cells zA 31)); have hF2a := (hF2.keep hB4).keep (bal w4 (.cells zA 31)); have hX8a := (hX8.keep hB4).keep (bal w4 (.cells zA 31)); have hs4 := (Array.getElem?_eq_some_iff.1 (hX8.keep hB4)).1)
    | (go_at_call 28; refine (runecount_at s _ (by omega)).mono ?_; rintro e w6 ⟨rfl, hB6⟩; have hs6 := hB6.size; rw [World.size_alloc] at hs6; have hF1b := (hF1a.keep hB6).keep (bal w6 (.cells #[.slice ro a.length cr, .int .i64 (s.size : Nat), .int .i64 (cnt s : Nat), .int .i64 0, .int .i64 0, .int .i64 0] 77)); have hF2b := (hF2a.keep hB6).keep (bal w6 (.cells #[.slice ro a.length cr, .int .i64 (s.size : Nat), .int .i64 (cnt s : Nat), .int .i64 0, .int .i64 0, .int .i64 0] 77)); have hX8b := (hX8a.keep hB6).keep (bal w6 (.cells #[.slice ro a.length cr, .int .i64 (s.size : Nat), .int .i64 (cnt s : Nat), .int .i64 0, .int .i64 0, .int .i64 0] 77)); have hRr := rb_new w6 #[.slice ro a.length cr, .int .i64 (s.size : Nat), .int .i64 (cnt s : Nat), .int .i64 0, .int .i64 0, .int .i64 0] 77; have hB7 : Below w4.heap.size w4 (w6.alloc (.cells #[.slice ro a.length cr, .int .i64 (s.size : Nat), .int .i64 (cnt s : Nat), .int .i64 0, .int .i64 0, .int .i64 0] 77)) := bta (bt2 (bal w4 _) hB6) _; have hPs : Ps (⟨w4, s, a, ro, a.length, cr, w6.heap.size⟩ : Rx) (w6.alloc (.cells #[.slice ro a.length cr, .int .i64 (s.size : Nat), .int .i64 (cnt s : Nat), .int .i64 0, .int .i64 0, .int .i64 0] 77)) (.at 0) := Ps.start hTx (by omega) hB7 hRr; have hB7w := bta (bt2 (bta (bt2 hB3 hB4) _) hB6) (.cells #[.slice ro a.length cr, .int .i64 (s.size : Nat), .int .i64 (cnt s : Nat), .int .i64 0, .int .i64 0, .int .i64 0] 77))
    | (go_at_call 23; refine (term_all (X := (⟨w4, s, a, ro, a.length, cr, w6.heap.size⟩ : Rx)) hWd _ (.at 0) _ hPs (Nat.zero_le _) HG.out).mono ?_; rintro e w8 ⟨o, m, xs, lo, ln, lc, f, rfl, hV8, h8, hC8, hf⟩; have hF1c := (hF1b.but hC8 (by show _ ≠ w6.heap.size; omega)).keep (bal w8 (.cells #[.int .i64 o, .int .i64 m, .string xs, .slice lo ln lc] 43)); have hF2c := (hF2b.but hC8 (by show _ ≠ w6.heap.size; omega)).keep (bal w8 (.cells #[.int .i64 o, .int .i64 m, .string xs, .slice lo ln lc] 43)); have hX8c := (hX8b.but hC8 (by show _ ≠ w6.heap.size; omega)).keep (bal w8 (.cells #[.int .i64 o, .int .i64 m, .string xs, .slice lo ln lc] 43)); have hXt := rb_new w8 #[.int .i64 o, .int .i64 m, .string xs, .slice lo ln lc] 43; have hBw8 : Below w.heap.size w (w8.alloc (.cells #[.int .i64 o, .int .i64 m, .string xs, .slice lo ln lc] 43)) := (hB7w.trans (hC8.below (by show _ ≤ w6.heap.size; omega) hB7w.size)).alloc (Nat.le_trans hB7w.size hC8.size) _; have hs8 := hC8.size; rw [World.size_alloc] at hs8; obtain ⟨ra, rm, rc, hm0, hmn, hRr8⟩ : ∃ ra rm rc, 0 < rm ∧ rm ≤ a.length ∧ Rb w8 w6.heap.size (rdC (.slice ra rm rc) s.size (cnt s) 0 0 0) 77 := Ps.left (X := (⟨w4, s, a, ro, a.length, cr, w6.heap.size⟩ : Rx)) (p := q) h8 hq; have hRr9 := hRr8.keep (bal w8 (.cells #[.int .i64 o, .int .i64 m, .string xs, .slice lo ln lc] 43)); obtain ⟨t0, -⟩ := txcell hRr9 0 _ rfl; have hmm : (0 : Int) < (rm : Int) := (by omega))
    | (go_at_call 29; refine (refuse_at (X := (⟨w4, s, a, ro, a.length, cr, w6.heap.size⟩ : Rx)) (h8.alloc _) 71 (by decide)).mono ?_; rintro e w10 ⟨rfl, h10, hC10⟩; have hF1z := hF1c.but hC10 (by show _ ≠ w6.heap.size; omega); have hF2z := hF2c.but hC10 (by show _ ≠ w6.heap.size; omega); have hX8z := hX8c.but hC10 (by show _ ≠ w6.heap.size; omega); have hBwz : Below w.heap.size w w10 := hBw8.trans (hC10.below (by show _ ≤ w6.heap.size; omega) hBw8.size); obtain ⟨hy0, hRrA⟩ : (71 : Nat) ≠ 0 ∧ Rb w10 w6.heap.size (rdC (.slice none 0 0) s.size (cnt s) 71 (pcB s a q) (pcC s a q)) 77 := h10.at'; obtain ⟨t3, -⟩ := txcell hRrA 3 _ rfl; obtain ⟨t4, -⟩ := txcell hRrA 4 _ rfl; obtain ⟨t5, -⟩ := txcell hRrA 5 _ rfl; rw [hfb] at t4; rw [hfc] at t5))
  have hRa := (rb_four hF1z rfl (.int .i64 0) (.int .i64 0) (.string emp) (.slice none 0 0)).st3 (X := w.heap.size + 1) (by omega) (.int .i64 71) (.int .i64 (fb : Nat)) (.int .i64 (fc : Nat))
  have hRb := rb_three (hF2z.st4 (X := w.heap.size) (by omega) (.int .i64 0) (.int .i64 0) (.string emp) (.slice none 0 0)) rfl (.int .i64 71) (.int .i64 (fb : Nat)) (.int .i64 (fc : Nat))
  have hBz := bel_st3 (bel_st4 hBwz (Nat.le_refl _) (.int .i64 0) (.int .i64 0) (.string emp) (.slice none 0 0)) (Nat.le_succ _) (.int .i64 71) (.int .i64 (fb : Nat)) (.int .i64 (fc : Nat))
  obtain ⟨k0, -⟩ := txcell hRa 0 _ rfl
  obtain ⟨k1, -⟩ := txcell hRa 1 _ rfl
  obtain ⟨k2, -⟩ := txcell hRa 2 _ rfl
  obtain ⟨k3, -⟩ := txcell hRa 3 _ rfl
  obtain ⟨l0, -⟩ := txcell hRb 0 _ rfl
  obtain ⟨l1, -⟩ := txcell hRb 1 _ rfl
  obtain ⟨l2, -⟩ := txcell hRb 2 _ rfl
  obtain ⟨x0, -⟩ := txcell hX8z 0 _ rfl
  obtain ⟨x1, -⟩ := txcell hX8z 1 _ rfl
  obtain ⟨x2, -⟩ := txcell hX8z 2 _ rfl
  obtain ⟨x3, -⟩ := txcell hX8z 3 _ rfl
  obtain ⟨a0, g0⟩ := txcell hF1z 0 _ rfl
  obtain ⟨a1, g1⟩ := txcell hF1z 1 _ rfl
  obtain ⟨a2, g2⟩ := txcell hF1z 2 _ rfl
  obtain ⟨a3, g3⟩ := txcell hF1z 3 _ rfl
  obtain ⟨b0, f0⟩ := txcell hF2z 0 _ rfl
  obtain ⟨b1, f1⟩ := txcell hF2z 1 _ rfl
  obtain ⟨b2, f2⟩ := txcell hF2z 2 _ rfl
  go_region_with (fail)
  all_goals
    go_wp2
    exact bodyPost_ret (v := .tuple #[nilT, fau 71 fb fc]) (by simp [results, Tryz.results22, go_sem, k0, k1, k2, k3, l0, l1, l2]) rfl ⟨rfl, hBz.drew⟩
end Go.Proofs.YtabfhdmcljdjhaaGreatDoor.Gl
/- The landed whole, of a term: a tree that is checked. -/
namespace Go.Proofs.YtabfhdmcljdjhaaGreatDoor.Gl
open Go.RowKit
set_option linter.unusedVariables false
set_option linter.unusedSimpArgs false

set_option maxRecDepth 100000 in
set_option maxHeartbeats 2000000 in
theorem twhole_many (s : ByteArray) (w : World) (a : List Wd) (r0 : Out Tm) (hsz : s.size ≤ 4096) (hlx : Lx s 0 a none) (hGF : GT a .sum (.at 0) r0) (hS : Sg w)
    (f : Tm) (c : Nat) (hr0 : r0 = .ok f a.length) (hc : chkT nmB f = c) (hc0 : c ≠ 0) :
    Calls Tryz.prog 22 #[.string s, .func (.func 23) #[] #[], .func (.func 24) #[] #[]] w fun e w' => e = .returned (.tuple #[nilT, fau c 0 0]) ∧ Below w.heap.size w w' := by
  have LW : Hid (Calls Tryz.prog 27 #[.string s] (((w.alloc (.cells zT 43)).alloc (.cells zA 31)).alloc (.cells zT 43)) fun e w' => ∃ v, e = .returned (.tuple #[v, fau 0 0 0]) ∧ w'.ownsRow ((((w.alloc (.cells zT 43)).alloc (.cells zA 31)).alloc (.cells zT 43))).heap.size 87 5 v a.length ((a.map (full s)).flatMap FW.cells) ∧ Below ((((w.alloc (.cells zT 43)).alloc (.cells zA 31)).alloc (.cells zT 43))).heap.size (((w.alloc (.cells zT 43)).alloc (.cells zA 31)).alloc (.cells zT 43)) w') := lexC.good s a _ (((hS.alloc (.cells zT 43)).alloc (.cells zA 31)).alloc (.cells zT 43)) hsz hlx
  have hWd := hlx.wdok hsz
  have hal := (hlx.fine hsz).2
  have hB3 : Below w.heap.size w (((w.alloc (.cells zT 43)).alloc (.cells zA 31)).alloc (.cells zT 43)) := bta (bta (bal w _) _) _
  have hF1 : Rb (((w.alloc (.cells zT 43)).alloc (.cells zA 31)).alloc (.cells zT 43)) w.heap.size zT 43 := ((rb_new w zT 43).keep (bal _ _)).keep (bal _ _)
  have hF2 : Rb (((w.alloc (.cells zT 43)).alloc (.cells zA 31)).alloc (.cells zT 43)) (w.heap.size + 1) zA 31 := by
    have := (rb_new (w.alloc (.cells zT 43)) zA 31).keep (bal _ (.cells zT 43))
    rwa [World.size_alloc] at this
  have hX8 : Rb (((w.alloc (.cells zT 43)).alloc (.cells zA 31)).alloc (.cells zT 43)) (w.heap.size + 2) zT 43 := by
    have := rb_new ((w.alloc (.cells zT 43)).alloc (.cells zA 31)) zT 43
    rwa [World.size_alloc, World.size_alloc] at this
  have hc' : ((c : Int) == 0) = false := by rw [beq_eq_false_iff_ne]; omega
  have HG := mkHid hGF
  clear hlx hS hGF
  subst hr0
  go_enter Tryz.func22, Tryz.ntmps22
  go_wp2_with (first
    | (go_at_call 27; refine (LW.out).mono ?_; rintro e w4 ⟨v, rfl, hO4, hB4⟩; obtain ⟨ro, cr, rfl, hRd⟩ := rdw_of_owns (n := a.length) (by simp) hO4; have hTx : TxW w4 s a ro a.length cr := ⟨hRd, by omega⟩; have hF1a := (hF1.keep hB4).keep (bal w4 (.cells zA 31)); have hF2a := (hF2.keep hB4).keep (bal w4 (.cells zA 31)); have hX8a := (hX8.keep hB4).keep (bal w4 (.cells zA 31)); have hs4 := (Array.getElem?_eq_some_iff.1 (hX8.keep hB4)).1)
    | (go_at_call 28; refine (runecount_at s _ (by omega)).mono ?_; rintro e w6 ⟨rfl, hB6⟩; have hs6 := hB6.size; rw [World.size_alloc] at hs6; have hF1b := (hF1a.keep hB6).keep (bal w6 (.cells #[.slice ro a.length cr, .int .i64 (s.size : Nat), .int .i64 (cnt s : Nat), .int .i64 0, .int .i64 0, .int .i64 0] 77)); have hF2b := (hF2a.keep hB6).keep (bal w6 (.cells #[.slice ro a.length cr, .int .i64 (s.size : Nat), .int .i64 (cnt s : Nat), .int .i64 0, .int .i64 0, .int .i64 0] 77)); have hX8b := (hX8a.keep hB6).keep (bal w6 (.cells #[.slice ro a.length cr, .int .i64 (s.size : Nat), .int .i64 (cnt s : Nat), .int .i64 0, .int .i64 0, .int .i64 0] 77)); have hRr := rb_new w6 #[.slice ro a.length cr, .int .i64 (s.size : Nat), .int .i64 (cnt s : Nat), .int .i64 0, .int .i64 0, .int .i64 0] 77; have hB7 : Below w4.heap.size w4 (w6.alloc (.cells #[.slice ro a.length cr, .int .i64 (s.size : Nat), .int .i64 (cnt s : Nat), .int .i64 0, .int .i64 0, .int .i64 0] 77)) := bta (bt2 (bal w4 _) hB6) _; have hPs : Ps (⟨w4, s, a, ro, a.length, cr, w6.heap.size⟩ : Rx) (w6.alloc (.cells #[.slice ro a.length cr, .int .i64 (s.size : Nat), .int .i64 (cnt s : Nat), .int .i64 0, .int .i64 0, .int .i64 0] 77)) (.at 0) := Ps.start hTx (by omega) hB7 hRr; have hB7w := bta (bt2 (bta (bt2 hB3 hB4) _) hB6) (.cells #[.slice ro a.length cr, .int .i64 (s.size : Nat), .int .i64 (cnt s : Nat), .int .i64 0, .int .i64 0, .int .i64 0] 77))
    | (go_at_call 23; refine (term_all (X := (⟨w4, s, a, ro, a.length, cr, w6.heap.size⟩ : Rx)) hWd _ (.at 0) _ hPs (Nat.zero_le _) HG.out).mono ?_; rintro e w8 ⟨o, m, xs, lo, ln, lc, f1, rfl, hV8, h8, hC8, hf⟩; have hF1c := (hF1b.but hC8 (by show _ ≠ w6.heap.size; omega)).keep (bal w8 (.cells #[.int .i64 o, .int .i64 m, .string xs, .slice lo ln lc] 43)); have hF2c := (hF2b.but hC8 (by show _ ≠ w6.heap.size; omega)).keep (bal w8 (.cells #[.int .i64 o, .int .i64 m, .string xs, .slice lo ln lc] 43)); have hX8c := (hX8b.but hC8 (by show _ ≠ w6.heap.size; omega)).keep (bal w8 (.cells #[.int .i64 o, .int .i64 m, .string xs, .slice lo ln lc] 43)); have hXt := rb_new w8 #[.int .i64 o, .int .i64 m, .string xs, .slice lo ln lc] 43; have hBw8 : Below w.heap.size w (w8.alloc (.cells #[.int .i64 o, .int .i64 m, .string xs, .slice lo ln lc] 43)) := (hB7w.trans (hC8.below (by show _ ≤ w6.heap.size; omega) hB7w.size)).alloc (Nat.le_trans hB7w.size hC8.size) _; have hs8 := hC8.size; rw [World.size_alloc] at hs8; obtain ⟨ra, rc, hRr8⟩ : ∃ ra rc, Rb w8 w6.heap.size (rdC (.slice ra 0 rc) s.size (cnt s) 0 0 0) 77 := Ps.done (X := (⟨w4, s, a, ro, a.length, cr, w6.heap.size⟩ : Rx)) h8; have hRr9 := hRr8.keep (bal w8 (.cells #[.int .i64 o, .int .i64 m, .string xs, .slice lo ln lc] 43)); obtain ⟨t0, -⟩ := txcell hRr9 0 _ rfl; obtain ⟨t3, -⟩ := txcell hRr9 3 _ rfl; have hff := of_is hf; subst hff; obtain ⟨y0, -⟩ := txcell hXt 0 _ rfl; obtain ⟨y1, -⟩ := txcell hXt 1 _ rfl; obtain ⟨y2, -⟩ := txcell hXt 2 _ rfl; obtain ⟨y3, -⟩ := txcell hXt 3 _ rfl; have hV9 := RdTn.keep (Hi.of (bal w8 (.cells #[.int .i64 o, .int .i64 m, .string xs, .slice lo ln lc] 43))) _ _ _ _ _ hV8; have CK := mkHid (fun wz hb => checkT_run (w8.alloc (.cells #[.int .i64 o, .int .i64 m, .string xs, .slice lo ln lc] 43)) f1 (.agg #[.int .i64 o, .int .i64 m, .string xs, .slice lo ln lc]) wz ⟨_, _, _, _, rfl, hV9.plain⟩ hb); rw [hc] at CK))
  refine (CK.out _ (Below.refl _ _)).mono ?_
  rintro e w10 ⟨rfl, hB10⟩
  have hF1z := hF1c.keep hB10
  have hF2z := hF2c.keep hB10
  have hX8z := hX8c.keep hB10
  have hXz := hXt.keep hB10
  have hBwz := bt2 hBw8 hB10
  have hVz := RdTn.keep (Hi.of hB10) _ _ _ _ _ hV9
  have hX8y : Rb w10 (w.heap.size + 1 + 1) zT 43 := hX8z
  obtain ⟨x0, -⟩ := txcell hX8y 0 _ rfl
  obtain ⟨x1, -⟩ := txcell hX8y 1 _ rfl
  obtain ⟨x2, -⟩ := txcell hX8y 2 _ rfl
  obtain ⟨x3, -⟩ := txcell hX8y 3 _ rfl
  obtain ⟨a0, g0⟩ := txcell hF1z 0 _ rfl
  obtain ⟨a1, g1⟩ := txcell hF1z 1 _ rfl
  obtain ⟨a2, g2⟩ := txcell hF1z 2 _ rfl
  obtain ⟨a3, g3⟩ := txcell hF1z 3 _ rfl
  obtain ⟨b0, f0⟩ := txcell hF2z 0 _ rfl
  obtain ⟨b1, f1⟩ := txcell hF2z 1 _ rfl
  obtain ⟨b2, f2⟩ := txcell hF2z 2 _ rfl
  go_wp2
  have hRa := (rb_four hF1z rfl (.int .i64 0) (.int .i64 0) (.string emp) (.slice none 0 0)).st3 (X := w.heap.size + 1) (by omega) (.int .i64 (c : Nat)) (.int .i64 0) (.int .i64 0)
  have hRb := rb_three (hF2z.st4 (X := w.heap.size) (by omega) (.int .i64 0) (.int .i64 0) (.string emp) (.slice none 0 0)) rfl (.int .i64 (c : Nat)) (.int .i64 0) (.int .i64 0)
  have hBz := bel_st3 (bel_st4 hBwz (Nat.le_refl _) (.int .i64 0) (.int .i64 0) (.string emp) (.slice none 0 0)) (Nat.le_succ _) (.int .i64 (c : Nat)) (.int .i64 0) (.int .i64 0)
  obtain ⟨k0, -⟩ := txcell hRa 0 _ rfl
  obtain ⟨k1, -⟩ := txcell hRa 1 _ rfl
  obtain ⟨k2, -⟩ := txcell hRa 2 _ rfl
  obtain ⟨k3, -⟩ := txcell hRa 3 _ rfl
  obtain ⟨l0, -⟩ := txcell hRb 0 _ rfl
  obtain ⟨l1, -⟩ := txcell hRb 1 _ rfl
  obtain ⟨l2, -⟩ := txcell hRb 2 _ rfl
  exact bodyPost_ret (v := .tuple #[nilT, fau c 0 0]) (by simp [results, Tryz.results22, go_sem, k0, k1, k2, k3, l0, l1, l2]) rfl ⟨rfl, hBz⟩
set_option maxRecDepth 100000 in
set_option maxHeartbeats 2000000 in
theorem twhole_ok (s : ByteArray) (w : World) (a : List Wd) (r0 : Out Tm) (hsz : s.size ≤ 4096) (hlx : Lx s 0 a none) (hGF : GT a .sum (.at 0) r0) (hS : Sg w)
    (f : Tm) (hr0 : r0 = .ok f a.length) (hc : chkT nmB f = 0) :
    Calls Tryz.prog 22 #[.string s, .func (.func 23) #[] #[], .func (.func 24) #[] #[]] w fun e w' => ∃ v, e = .returned (.tuple #[v, fau 0 0 0]) ∧ TmA w.heap.size w' (some f) v ∧ Below w.heap.size w w' := by
  have LW : Hid (Calls Tryz.prog 27 #[.string s] (((w.alloc (.cells zT 43)).alloc (.cells zA 31)).alloc (.cells zT 43)) fun e w' => ∃ v, e = .returned (.tuple #[v, fau 0 0 0]) ∧ w'.ownsRow ((((w.alloc (.cells zT 43)).alloc (.cells zA 31)).alloc (.cells zT 43))).heap.size 87 5 v a.length ((a.map (full s)).flatMap FW.cells) ∧ Below ((((w.alloc (.cells zT 43)).alloc (.cells zA 31)).alloc (.cells zT 43))).heap.size (((w.alloc (.cells zT 43)).alloc (.cells zA 31)).alloc (.cells zT 43)) w') := lexC.good s a _ (((hS.alloc (.cells zT 43)).alloc (.cells zA 31)).alloc (.cells zT 43)) hsz hlx
  have hWd := hlx.wdok hsz
  have hal := (hlx.fine hsz).2
  have hB3 : Below w.heap.size w (((w.alloc (.cells zT 43)).alloc (.cells zA 31)).alloc (.cells zT 43)) := bta (bta (bal w _) _) _
  have hF1 : Rb (((w.alloc (.cells zT 43)).alloc (.cells zA 31)).alloc (.cells zT 43)) w.heap.size zT 43 := ((rb_new w zT 43).keep (bal _ _)).keep (bal _ _)
  have hF2 : Rb (((w.alloc (.cells zT 43)).alloc (.cells zA 31)).alloc (.cells zT 43)) (w.heap.size + 1) zA 31 := by
    have := (rb_new (w.alloc (.cells zT 43)) zA 31).keep (bal _ (.cells zT 43))
    rwa [World.size_alloc] at this
  have hX8 : Rb (((w.alloc (.cells zT 43)).alloc (.cells zA 31)).alloc (.cells zT 43)) (w.heap.size + 2) zT 43 := by
    have := rb_new ((w.alloc (.cells zT 43)).alloc (.cells zA 31)) zT 43
    rwa [World.size_alloc, World.size_alloc] at this
  have HG := mkHid hGF
  clear hlx hS hGF
  subst hr0
  go_enter Tryz.func22, Tryz.ntmps22
  go_wp2_with (first
    | (go_at_call 27; refine (LW.out).mono ?_; rintro e w4 ⟨v, rfl, hO4, hB4⟩; obtain ⟨ro, cr, rfl, hRd⟩ := rdw_of_owns (n := a.length) (by simp) hO4; have hTx : TxW w4 s a ro a.length cr := ⟨hRd, by omega⟩; have hF1a := (hF1.keep hB4).keep (bal w4 (.cells zA 31)); have hF2a := (hF2.keep hB4).keep (bal w4 (.cells zA 31)); have hX8a := (hX8.keep hB4).keep (bal w4 (.cells zA 31)); have hs4 := (Array.getElem?_eq_some_iff.1 (hX8.keep hB4)).1)
    | (go_at_call 28; refine (runecount_at s _ (by omega)).mono ?_; rintro e w6 ⟨rfl, hB6⟩; have hs6 := hB6.size; rw [World.size_alloc] at hs6; have hF1b := (hF1a.keep hB6).keep (bal w6 (.cells #[.slice ro a.length cr, .int .i64 (s.size : Nat), .int .i64 (cnt s : Nat), .int .i64 0, .int .i64 0, .int .i64 0] 77)); have hF2b := (hF2a.keep hB6).keep (bal w6 (.cells #[.slice ro a.length cr, .int .i64 (s.size : Nat), .int .i64 (cnt s : Nat), .int .i64 0, .int .i64 0, .int .i64 0] 77)); have hX8b := (hX8a.keep hB6).keep (bal w6 (.cells #[.slice ro a.length cr, .int .i64 (s.size : Nat), .int .i64 (cnt s : Nat), .int .i64 0, .int .i64 0, .int .i64 0] 77)); have hRr := rb_new w6 #[.slice ro a.length cr, .int .i64 (s.size : Nat), .int .i64 (cnt s : Nat), .int .i64 0, .int .i64 0, .int .i64 0] 77; have hB7 : Below w4.heap.size w4 (w6.alloc (.cells #[.slice ro a.length cr, .int .i64 (s.size : Nat), .int .i64 (cnt s : Nat), .int .i64 0, .int .i64 0, .int .i64 0] 77)) := bta (bt2 (bal w4 _) hB6) _; have hPs : Ps (⟨w4, s, a, ro, a.length, cr, w6.heap.size⟩ : Rx) (w6.alloc (.cells #[.slice ro a.length cr, .int .i64 (s.size : Nat), .int .i64 (cnt s : Nat), .int .i64 0, .int .i64 0, .int .i64 0] 77)) (.at 0) := Ps.start hTx (by omega) hB7 hRr; have hB7w := bta (bt2 (bta (bt2 hB3 hB4) _) hB6) (.cells #[.slice ro a.length cr, .int .i64 (s.size : Nat), .int .i64 (cnt s : Nat), .int .i64 0, .int .i64 0, .int .i64 0] 77))
    | (go_at_call 23; refine (term_all (X := (⟨w4, s, a, ro, a.length, cr, w6.heap.size⟩ : Rx)) hWd _ (.at 0) _ hPs (Nat.zero_le _) HG.out).mono ?_; rintro e w8 ⟨o, m, xs, lo, ln, lc, f1, rfl, hV8, h8, hC8, hf⟩; have hF1c := (hF1b.but hC8 (by show _ ≠ w6.heap.size; omega)).keep (bal w8 (.cells #[.int .i64 o, .int .i64 m, .string xs, .slice lo ln lc] 43)); have hF2c := (hF2b.but hC8 (by show _ ≠ w6.heap.size; omega)).keep (bal w8 (.cells #[.int .i64 o, .int .i64 m, .string xs, .slice lo ln lc] 43)); have hX8c := (hX8b.but hC8 (by show _ ≠ w6.heap.size; omega)).keep (bal w8 (.cells #[.int .i64 o, .int .i64 m, .string xs, .slice lo ln lc] 43)); have hXt := rb_new w8 #[.int .i64 o, .int .i64 m, .string xs, .slice lo ln lc] 43; have hBw8 : Below w.heap.size w (w8.alloc (.cells #[.int .i64 o, .int .i64 m, .string xs, .slice lo ln lc] 43)) := (hB7w.trans (hC8.below (by show _ ≤ w6.heap.size; omega) hB7w.size)).alloc (Nat.le_trans hB7w.size hC8.size) _; have hs8 := hC8.size; rw [World.size_alloc] at hs8; obtain ⟨ra, rc, hRr8⟩ : ∃ ra rc, Rb w8 w6.heap.size (rdC (.slice ra 0 rc) s.size (cnt s) 0 0 0) 77 := Ps.done (X := (⟨w4, s, a, ro, a.length, cr, w6.heap.size⟩ : Rx)) h8; have hRr9 := hRr8.keep (bal w8 (.cells #[.int .i64 o, .int .i64 m, .string xs, .slice lo ln lc] 43)); obtain ⟨t0, -⟩ := txcell hRr9 0 _ rfl; obtain ⟨t3, -⟩ := txcell hRr9 3 _ rfl; have hff := of_is hf; subst hff; obtain ⟨y0, -⟩ := txcell hXt 0 _ rfl; obtain ⟨y1, -⟩ := txcell hXt 1 _ rfl; obtain ⟨y2, -⟩ := txcell hXt 2 _ rfl; obtain ⟨y3, -⟩ := txcell hXt 3 _ rfl; have hV9 := RdTn.keep (Hi.of (bal w8 (.cells #[.int .i64 o, .int .i64 m, .string xs, .slice lo ln lc] 43))) _ _ _ _ _ hV8; have CK := mkHid (fun wz hb => checkT_run (w8.alloc (.cells #[.int .i64 o, .int .i64 m, .string xs, .slice lo ln lc] 43)) f1 (.agg #[.int .i64 o, .int .i64 m, .string xs, .slice lo ln lc]) wz ⟨_, _, _, _, rfl, hV9.plain⟩ hb); rw [hc] at CK; have hne : ∀ k, Ge (w6.alloc (.cells #[.slice ro a.length cr, .int .i64 (s.size : Nat), .int .i64 (cnt s : Nat), .int .i64 0, .int .i64 0, .int .i64 0] 77)).heap.size k → ∀ j, j ≤ 1 → k ≠ w.heap.size + j := (fun k hk j hj => by have hk2 : (w6.alloc (.cells #[.slice ro a.length cr, .int .i64 (s.size : Nat), .int .i64 (cnt s : Nat), .int .i64 0, .int .i64 0, .int .i64 0] 77)).heap.size ≤ k := hk; rw [World.size_alloc] at hk2; omega)))
  refine (CK.out _ (Below.refl _ _)).mono ?_
  rintro e w10 ⟨rfl, hB10⟩
  have hF1z := hF1c.keep hB10
  have hF2z := hF2c.keep hB10
  have hX8z := hX8c.keep hB10
  have hXz := hXt.keep hB10
  have hBwz := bt2 hBw8 hB10
  have hVz := RdTn.keep (Hi.of hB10) _ _ _ _ _ hV9
  obtain ⟨z0, -⟩ := txcell hXz 0 _ rfl
  obtain ⟨z1, -⟩ := txcell hXz 1 _ rfl
  obtain ⟨z2, -⟩ := txcell hXz 2 _ rfl
  obtain ⟨z3, -⟩ := txcell hXz 3 _ rfl
  obtain ⟨a0, g0⟩ := txcell hF1z 0 _ rfl
  obtain ⟨a1, g1⟩ := txcell hF1z 1 _ rfl
  obtain ⟨a2, g2⟩ := txcell hF1z 2 _ rfl
  obtain ⟨a3, g3⟩ := txcell hF1z 3 _ rfl
  obtain ⟨b0, f0⟩ := txcell hF2z 0 _ rfl
  obtain ⟨b1, f1⟩ := txcell hF2z 1 _ rfl
  obtain ⟨b2, f2⟩ := txcell hF2z 2 _ rfl
  go_wp2
  have hRa := (rb_four hF1z rfl (.int .i64 o) (.int .i64 m) (.string xs) (.slice lo ln lc)).st3 (X := w.heap.size + 1) (by omega) (.int .i64 0) (.int .i64 0) (.int .i64 0)
  have hRb := rb_three (hF2z.st4 (X := w.heap.size) (by omega) (.int .i64 o) (.int .i64 m) (.string xs) (.slice lo ln lc)) rfl (.int .i64 0) (.int .i64 0) (.int .i64 0)
  have hBz := bel_st3 (bel_st4 hBwz (Nat.le_refl _) (.int .i64 o) (.int .i64 m) (.string xs) (.slice lo ln lc)) (Nat.le_succ _) (.int .i64 0) (.int .i64 0) (.int .i64 0)
  have hVy := RdTn.keep ((((((((Hi.refl (Ge (w6.alloc (.cells #[.slice ro a.length cr, .int .i64 (s.size : Nat), .int .i64 (cnt s : Nat), .int .i64 0, .int .i64 0, .int .i64 0] 77)).heap.size) w10).set (g := w.heap.size) (fun k hk => hne k hk 0 (by omega)) 0 (.int .i64 o)).set (g := w.heap.size) (fun k hk => hne k hk 0 (by omega)) 1 (.int .i64 m)).set (g := w.heap.size) (fun k hk => hne k hk 0 (by omega)) 2 (.string xs)).set (g := w.heap.size) (fun k hk => hne k hk 0 (by omega)) 3 (.slice lo ln lc)).set (g := w.heap.size + 1) (fun k hk => hne k hk 1 (by omega)) 0 (.int .i64 0)).set (g := w.heap.size + 1) (fun k hk => hne k hk 1 (by omega)) 1 (.int .i64 0)).set (g := w.heap.size + 1) (fun k hk => hne k hk 1 (by omega)) 2 (.int .i64 0)) _ _ _ _ _ hVz
  obtain ⟨k0, -⟩ := txcell hRa 0 _ rfl
  obtain ⟨k1, -⟩ := txcell hRa 1 _ rfl
  obtain ⟨k2, -⟩ := txcell hRa 2 _ rfl
  obtain ⟨k3, -⟩ := txcell hRa 3 _ rfl
  obtain ⟨l0, -⟩ := txcell hRb 0 _ rfl
  obtain ⟨l1, -⟩ := txcell hRb 1 _ rfl
  obtain ⟨l2, -⟩ := txcell hRb 2 _ rfl
  exact bodyPost_ret (v := .tuple #[.agg #[.int .i64 o, .int .i64 m, .string xs, .slice lo ln lc], fau 0 0 0]) (by simp [results, Tryz.results22, go_sem, k0, k1, k2, k3, l0, l1, l2]) rfl ⟨_, rfl, ⟨_, _, _, _, _, _, rfl, fun e => (by cases e), fun _ e => by cases e; exact RdTn.low (fun k _ hk => Nat.le_trans hB7w.size hk) _ _ _ _ _ hVy⟩, hBz⟩
end Go.Proofs.YtabfhdmcljdjhaaGreatDoor.Gl
