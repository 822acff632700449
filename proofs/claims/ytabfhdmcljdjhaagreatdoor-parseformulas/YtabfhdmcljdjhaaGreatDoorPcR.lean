/- The landed whole, of a formula. -/
import Derived.Test.YtabfhdmcljdjhaaGreatDoorPcP
namespace Go.Proofs.YtabfhdmcljdjhaaGreatDoor.Gl
open Go.RowKit
set_option linter.unusedVariables false
set_option linter.unusedSimpArgs false

abbrev zA : Array Value := #[.int .i64 0, .int .i64 0, .int .i64 0]
abbrev st3 (w : World) (B : Nat) (v0 v1 v2 : Value) : World := ((w.setCell ⟨B, 0, none⟩ v0).setCell ⟨B, 1, none⟩ v1).setCell ⟨B, 2, none⟩ v2
theorem rb_three {w : World} {B : Nat} {vs : Array Value} {t : TypeId} (h : Rb w B vs t) (hs : vs.size = 3) (v0 v1 v2 : Value) : Rb (st3 w B v0 v1 v2) B #[v0, v1, v2] t := by
  have h1 := tx_set (tx_set (tx_set h 0 v0) 1 v1) 2 v2
  have e : ((vs.setIfInBounds 0 v0).setIfInBounds 1 v1).setIfInBounds 2 v2 = #[v0, v1, v2] := by
    apply Array.ext
    · simp [hs]
    · intro i hi1 hi2
      simp only [Array.size_setIfInBounds, hs] at hi1
      rcases (show i = 0 ∨ i = 1 ∨ i = 2 by omega) with rfl | rfl | rfl <;> simp [hs]
  rw [e] at h1
  exact h1
theorem Rb.st3 {w : World} {B X : Nat} {vs : Array Value} {t : TypeId} (h : Rb w B vs t) (hne : B ≠ X) (v0 v1 v2 : Value) : Rb (st3 w X v0 v1 v2) B vs t := ((h.other hne 0 v0).other hne 1 v1).other hne 2 v2
theorem bel_st3 {b B : Nat} {w w' : World} (h : Below b w w') (hB : b ≤ B) (v0 v1 v2 : Value) : Below b w (st3 w' B v0 v1 v2) := ((h.setCell (p := ⟨B, 0, none⟩) hB v0).setCell (p := ⟨B, 1, none⟩) hB v1).setCell (p := ⟨B, 2, none⟩) hB v2
theorem bel_st5 {b B : Nat} {w w' : World} (h : Below b w w') (hB : b ≤ B) (v0 v1 v2 v3 v4 : Value) : Below b w (st5 w' B v0 v1 v2 v3 v4) := ((((h.setCell (p := ⟨B, 0, none⟩) hB v0).setCell (p := ⟨B, 1, none⟩) hB v1).setCell (p := ⟨B, 2, none⟩) hB v2).setCell (p := ⟨B, 3, none⟩) hB v3).setCell (p := ⟨B, 4, none⟩) hB v4
theorem fault_field (w : World) (c b k : Nat) : True := trivial
set_option maxRecDepth 100000 in
set_option maxHeartbeats 1000000 in
theorem whole_fault (s : ByteArray) (w : World) (c b k : Nat) (hc : c ≠ 0) (hS : Sg w)
    (LW0 : ∀ w, Sg w → Calls Tryz.prog 27 #[.string s] w fun e w' => ∃ v, e = .returned (.tuple #[v, fau c b k]) ∧ w'.ownsRow w.heap.size 87 5 v 0 [] ∧ Below w.heap.size w w') :
    Calls Tryz.prog 14 #[.string s, .func (.func 15) #[] #[], .func (.func 16) #[] #[]] w fun e w' => e = .returned (.tuple #[nilF, fau c b k]) ∧ Below w.heap.size w w' := by
  have hc' : ((c : Int) == 0) = false := by rw [beq_eq_false_iff_ne]; omega
  have LW := mkHid (LW0 _ (((hS.alloc (.cells zF 26)).alloc (.cells zA 31)).alloc (.cells zF 26)))
  have hB3 : Below w.heap.size w (((w.alloc (.cells zF 26)).alloc (.cells zA 31)).alloc (.cells zF 26)) := bta (bta (bal w _) _) _
  have hF1 : Rb (((w.alloc (.cells zF 26)).alloc (.cells zA 31)).alloc (.cells zF 26)) w.heap.size zF 26 := ((rb_new w zF 26).keep (bal _ _)).keep (bal _ _)
  have hF2 : Rb (((w.alloc (.cells zF 26)).alloc (.cells zA 31)).alloc (.cells zF 26)) (w.heap.size + 1) zA 31 := by
    have := (rb_new (w.alloc (.cells zF 26)) zA 31).keep (bal _ (.cells zF 26))
    rwa [World.size_alloc] at this
  have hX8 : Rb (((w.alloc (.cells zF 26)).alloc (.cells zA 31)).alloc (.cells zF 26)) (w.heap.size + 2) zF 26 := by
    have := rb_new ((w.alloc (.cells zF 26)).alloc (.cells zA 31)) zF 26
    rwa [World.size_alloc, World.size_alloc] at this
  clear LW0
  go_enter Tryz.func14, Tryz.ntmps14
  go_wp2_with (go_at_call 27; refine (LW.out).mono ?_; rintro e w4 ⟨v, rfl, -, hB4⟩; have hF1' := (hF1.keep hB4).keep (bal w4 (.cells #[.int .i64 (c : Nat), .int .i64 (b : Nat), .int .i64 (k : Nat)] 31)); have hF2' := (hF2.keep hB4).keep (bal w4 (.cells #[.int .i64 (c : Nat), .int .i64 (b : Nat), .int .i64 (k : Nat)] 31)); have hX8' := (hX8.keep hB4).keep (bal w4 (.cells #[.int .i64 (c : Nat), .int .i64 (b : Nat), .int .i64 (k : Nat)] 31)); have hs4 := (Array.getElem?_eq_some_iff.1 (hX8.keep hB4)).1; obtain ⟨x0, -⟩ := txcell hX8' 0 _ rfl; obtain ⟨x1, -⟩ := txcell hX8' 1 _ rfl; obtain ⟨x2, -⟩ := txcell hX8' 2 _ rfl; obtain ⟨x3, -⟩ := txcell hX8' 3 _ rfl; obtain ⟨x4, -⟩ := txcell hX8' 4 _ rfl; obtain ⟨a0, g0⟩ := txcell hF1' 0 _ rfl; obtain ⟨a1, g1⟩ := txcell hF1' 1 _ rfl; obtain ⟨a2, g2⟩ := txcell hF1' 2 _ rfl; obtain ⟨a3, g3⟩ := txcell hF1' 3 _ rfl; obtain ⟨a4, g4⟩ := txcell hF1' 4 _ rfl; obtain ⟨b0, f0⟩ := txcell hF2' 0 _ rfl; obtain ⟨b1, f1⟩ := txcell hF2' 1 _ rfl; obtain ⟨b2, f2⟩ := txcell hF2' 2 _ rfl)
  have hRa := (rb_five hF1' rfl (.int .i64 0) (.string emp) (.int .i64 0) (.slice none 0 0) (.slice none 0 0)).st3 (X := w.heap.size + 1) (by omega) (.int .i64 (c : Nat)) (.int .i64 (b : Nat)) (.int .i64 (k : Nat))
  have hRb := rb_three (hF2'.st5 (X := w.heap.size) (by omega) (.int .i64 0) (.string emp) (.int .i64 0) (.slice none 0 0) (.slice none 0 0)) rfl (.int .i64 (c : Nat)) (.int .i64 (b : Nat)) (.int .i64 (k : Nat))
  have hBz := bel_st3 (bel_st5 (bta (bt2 hB3 hB4) (.cells #[.int .i64 (c : Nat), .int .i64 (b : Nat), .int .i64 (k : Nat)] 31)) (Nat.le_refl _) (.int .i64 0) (.string emp) (.int .i64 0) (.slice none 0 0) (.slice none 0 0)) (Nat.le_succ _) (.int .i64 (c : Nat)) (.int .i64 (b : Nat)) (.int .i64 (k : Nat))
  obtain ⟨k0, -⟩ := txcell hRa 0 _ rfl
  obtain ⟨k1, -⟩ := txcell hRa 1 _ rfl
  obtain ⟨k2, -⟩ := txcell hRa 2 _ rfl
  obtain ⟨k3, -⟩ := txcell hRa 3 _ rfl
  obtain ⟨k4, -⟩ := txcell hRa 4 _ rfl
  obtain ⟨l0, -⟩ := txcell hRb 0 _ rfl
  obtain ⟨l1, -⟩ := txcell hRb 1 _ rfl
  obtain ⟨l2, -⟩ := txcell hRb 2 _ rfl
  go_region_with (fail)
  all_goals
    go_wp2
    exact bodyPost_ret (v := .tuple #[nilF, fau c b k]) (by simp [results, Tryz.results14, go_sem, k0, k1, k2, k3, k4, l0, l1, l2]) rfl ⟨rfl, hBz.drew⟩
end Go.Proofs.YtabfhdmcljdjhaaGreatDoor.Gl
/- The landed whole, of a formula: words that are read. -/
namespace Go.Proofs.YtabfhdmcljdjhaaGreatDoor.Gl
open Go.RowKit
set_option linter.unusedVariables false
set_option linter.unusedSimpArgs false

theorem Ps.done {X : Rx} {w : World} (h : Ps X w (.at X.n)) : ∃ a c, Rb w X.b (rdC (.slice a 0 c) X.s.size (cnt X.s) 0 0 0) 77 := by
  obtain ⟨_, a, c, _, hR⟩ := h.at'
  rw [Nat.sub_self] at hR
  exact ⟨a, c, hR⟩
theorem Ps.left {X : Rx} {w : World} {p : Nat} (h : Ps X w (.at p)) (hp : p < X.n) : ∃ a m c, 0 < m ∧ m ≤ X.n ∧ Rb w X.b (rdC (.slice a m c) X.s.size (cnt X.s) 0 0 0) 77 := by
  obtain ⟨_, a, c, _, hR⟩ := h.at'
  exact ⟨a, X.n - p, c, by omega, by omega, hR⟩
theorem rd_fault {w : World} (v : Value) (e c y fb fc : Nat) (T : Array Value) (hT : T = #[.int .i64 (y : Nat), .int .i64 (fb : Nat), .int .i64 (fc : Nat)]) : True := trivial
set_option maxRecDepth 100000 in
set_option maxHeartbeats 2000000 in
theorem whole_bad (s : ByteArray) (w : World) (a : List Wd) (r0 : Out Fm) (hsz : s.size ≤ 4096) (hlx : Lx s 0 a none) (hGF : GF a (.lev 0) (.at 0) r0) (hS : Sg w)
    (y q fb fc : Nat) (hr0 : r0 = .bad y q) (hfb : pcB s a q = fb) (hfc : pcC s a q = fc) :
    Calls Tryz.prog 14 #[.string s, .func (.func 15) #[] #[], .func (.func 16) #[] #[]] w fun e w' => e = .returned (.tuple #[nilF, fau y fb fc]) ∧ Below w.heap.size w w' := by
  have LW : Hid (Calls Tryz.prog 27 #[.string s] (((w.alloc (.cells zF 26)).alloc (.cells zA 31)).alloc (.cells zF 26)) fun e w' => ∃ v, e = .returned (.tuple #[v, fau 0 0 0]) ∧ w'.ownsRow ((((w.alloc (.cells zF 26)).alloc (.cells zA 31)).alloc (.cells zF 26))).heap.size 87 5 v a.length ((a.map (full s)).flatMap FW.cells) ∧ Below ((((w.alloc (.cells zF 26)).alloc (.cells zA 31)).alloc (.cells zF 26))).heap.size (((w.alloc (.cells zF 26)).alloc (.cells zA 31)).alloc (.cells zF 26)) w') := lexC.good s a _ (((hS.alloc (.cells zF 26)).alloc (.cells zA 31)).alloc (.cells zF 26)) hsz hlx
  have hWd := hlx.wdok hsz
  have hal := (hlx.fine hsz).2
  have hB3 : Below w.heap.size w (((w.alloc (.cells zF 26)).alloc (.cells zA 31)).alloc (.cells zF 26)) := bta (bta (bal w _) _) _
  have hF1 : Rb (((w.alloc (.cells zF 26)).alloc (.cells zA 31)).alloc (.cells zF 26)) w.heap.size zF 26 := ((rb_new w zF 26).keep (bal _ _)).keep (bal _ _)
  have hF2 : Rb (((w.alloc (.cells zF 26)).alloc (.cells zA 31)).alloc (.cells zF 26)) (w.heap.size + 1) zA 31 := by
    have := (rb_new (w.alloc (.cells zF 26)) zA 31).keep (bal _ (.cells zF 26))
    rwa [World.size_alloc] at this
  have hX8 : Rb (((w.alloc (.cells zF 26)).alloc (.cells zA 31)).alloc (.cells zF 26)) (w.heap.size + 2) zF 26 := by
    have := rb_new ((w.alloc (.cells zF 26)).alloc (.cells zA 31)) zF 26
    rwa [World.size_alloc, World.size_alloc] at this
  have HG := mkHid hGF
  clear hlx hS hGF
  subst hr0
  go_enter Tryz.func14, Tryz.ntmps14
  go_wp2_with (first
    | (go_at_call 27; refine (LW.out).mono ?_; rintro e w4 ⟨v, rfl, hO4, hB4⟩; obtain ⟨ro, cr, rfl, hRd⟩ := rdw_of_owns (n := a.length) (by simp) hO4; have hTx : TxW w4 s a ro a.length cr := ⟨hRd, by omega⟩; have hF1a := (hF1.keep hB4).keep (bal w4 (.cells zA 31)); have hF2a := (hF2.keep hB4).keep (bal w4 (.cells zA 31)); have hX8a := (hX8.keep hB4).keep (bal w4 (.cells zA 31)); have hs4 := (Array.getElem?_eq_some_iff.1 (hX8.keep hB4)).1)
    | (go_at_call 28; refine (runecount_at s _ (by omega)).mono ?_; rintro e w6 ⟨rfl, hB6⟩; have hs6 := hB6.size; rw [World.size_alloc] at hs6; have hF1b := (hF1a.keep hB6).keep (bal w6 (.cells #[.slice ro a.length cr, .int .i64 (s.size : Nat), .int .i64 (cnt s : Nat), .int .i64 0, .int .i64 0, .int .i64 0] 77)); have hF2b := (hF2a.keep hB6).keep (bal w6 (.cells #[.slice ro a.length cr, .int .i64 (s.size : Nat), .int .i64 (cnt s : Nat), .int .i64 0, .int .i64 0, .int .i64 0] 77)); have hX8b := (hX8a.keep hB6).keep (bal w6 (.cells #[.slice ro a.length cr, .int .i64 (s.size : Nat), .int .i64 (cnt s : Nat), .int .i64 0, .int .i64 0, .int .i64 0] 77)); have hRr := rb_new w6 #[.slice ro a.length cr, .int .i64 (s.size : Nat), .int .i64 (cnt s : Nat), .int .i64 0, .int .i64 0, .int .i64 0] 77; have hB7 : Below w4.heap.size w4 (w6.alloc (.cells #[.slice ro a.length cr, .int .i64 (s.size : Nat), .int .i64 (cnt s : Nat), .int .i64 0, .int .i64 0, .int .i64 0] 77)) := bta (bt2 (bal w4 _) hB6) _; have hPs : Ps (⟨w4, s, a, ro, a.length, cr, w6.heap.size⟩ : Rx) (w6.alloc (.cells #[.slice ro a.length cr, .int .i64 (s.size : Nat), .int .i64 (cnt s : Nat), .int .i64 0, .int .i64 0, .int .i64 0] 77)) (.at 0) := Ps.start hTx (by omega) hB7 hRr; have hB7w := bta (bt2 (bta (bt2 hB3 hB4) _) hB6) (.cells #[.slice ro a.length cr, .int .i64 (s.size : Nat), .int .i64 (cnt s : Nat), .int .i64 0, .int .i64 0, .int .i64 0] 77))
    | (go_at_call 15; refine (formula_all (X := (⟨w4, s, a, ro, a.length, cr, w6.heap.size⟩ : Rx)) hWd _ (.at 0) _ hPs (Nat.zero_le _) HG.out).mono ?_; rintro e w8 ⟨o, xs, m, bo, n1, c1, lo, ln, lc, f, rfl, hV8, h8, hC8, hf⟩; have hF1c := (hF1b.but hC8 (by show _ ≠ w6.heap.size; omega)).keep (bal w8 (.cells #[.int .i64 o, .string xs, .int .i64 m, .slice bo n1 c1, .slice lo ln lc] 26)); have hF2c := (hF2b.but hC8 (by show _ ≠ w6.heap.size; omega)).keep (bal w8 (.cells #[.int .i64 o, .string xs, .int .i64 m, .slice bo n1 c1, .slice lo ln lc] 26)); have hX8c := (hX8b.but hC8 (by show _ ≠ w6.heap.size; omega)).keep (bal w8 (.cells #[.int .i64 o, .string xs, .int .i64 m, .slice bo n1 c1, .slice lo ln lc] 26)); have hXt := rb_new w8 #[.int .i64 o, .string xs, .int .i64 m, .slice bo n1 c1, .slice lo ln lc] 26; have hBw8 : Below w.heap.size w (w8.alloc (.cells #[.int .i64 o, .string xs, .int .i64 m, .slice bo n1 c1, .slice lo ln lc] 26)) := (hB7w.trans (hC8.below (by show _ ≤ w6.heap.size; omega) hB7w.size)).alloc (Nat.le_trans hB7w.size hC8.size) _; have hs8 := hC8.size; rw [World.size_alloc] at hs8; obtain ⟨hy0, hRr8⟩ : y ≠ 0 ∧ Rb w8 w6.heap.size (rdC (.slice none 0 0) s.size (cnt s) y (pcB s a q) (pcC s a q)) 77 := (show Ps (⟨w4, s, a, ro, a.length, cr, w6.heap.size⟩ : Rx) w8 (.bad y q) from h8).at'; have hRr9 := hRr8.keep (bal w8 (.cells #[.int .i64 o, .string xs, .int .i64 m, .slice bo n1 c1, .slice lo ln lc] 26)); obtain ⟨t0, -⟩ := txcell hRr9 0 _ rfl; obtain ⟨t3, -⟩ := txcell hRr9 3 _ rfl; obtain ⟨t4, -⟩ := txcell hRr9 4 _ rfl; obtain ⟨t5, -⟩ := txcell hRr9 5 _ rfl; have hy' : ((y : Int) == 0) = false := (by rw [beq_eq_false_iff_ne]; omega); rw [hfb] at t4; rw [hfc] at t5; have hF1z := hF1c; have hF2z := hF2c; have hX8z := hX8c; have hBwz := hBw8))
  have hRa := (rb_five hF1z rfl (.int .i64 0) (.string emp) (.int .i64 0) (.slice none 0 0) (.slice none 0 0)).st3 (X := w.heap.size + 1) (by omega) (.int .i64 (y : Nat)) (.int .i64 (fb : Nat)) (.int .i64 (fc : Nat))
  have hRb := rb_three (hF2z.st5 (X := w.heap.size) (by omega) (.int .i64 0) (.string emp) (.int .i64 0) (.slice none 0 0) (.slice none 0 0)) rfl (.int .i64 (y : Nat)) (.int .i64 (fb : Nat)) (.int .i64 (fc : Nat))
  have hBz := bel_st3 (bel_st5 hBwz (Nat.le_refl _) (.int .i64 0) (.string emp) (.int .i64 0) (.slice none 0 0) (.slice none 0 0)) (Nat.le_succ _) (.int .i64 (y : Nat)) (.int .i64 (fb : Nat)) (.int .i64 (fc : Nat))
  obtain ⟨k0, -⟩ := txcell hRa 0 _ rfl
  obtain ⟨k1, -⟩ := txcell hRa 1 _ rfl
  obtain ⟨k2, -⟩ := txcell hRa 2 _ rfl
  obtain ⟨k3, -⟩ := txcell hRa 3 _ rfl
  obtain ⟨k4, -⟩ := txcell hRa 4 _ rfl
  obtain ⟨l0, -⟩ := txcell hRb 0 _ rfl
  obtain ⟨l1, -⟩ := txcell hRb 1 _ rfl
  obtain ⟨l2, -⟩ := txcell hRb 2 _ rfl
  obtain ⟨x0, -⟩ := txcell hX8z 0 _ rfl
  obtain ⟨x1, -⟩ := txcell hX8z 1 _ rfl
  obtain ⟨x2, -⟩ := txcell hX8z 2 _ rfl
  obtain ⟨x3, -⟩ := txcell hX8z 3 _ rfl
  obtain ⟨x4, -⟩ := txcell hX8z 4 _ rfl
  obtain ⟨a0, g0⟩ := txcell hF1z 0 _ rfl
  obtain ⟨a1, g1⟩ := txcell hF1z 1 _ rfl
  obtain ⟨a2, g2⟩ := txcell hF1z 2 _ rfl
  obtain ⟨a3, g3⟩ := txcell hF1z 3 _ rfl
  obtain ⟨a4, g4⟩ := txcell hF1z 4 _ rfl
  obtain ⟨b0, f0⟩ := txcell hF2z 0 _ rfl
  obtain ⟨b1, f1⟩ := txcell hF2z 1 _ rfl
  obtain ⟨b2, f2⟩ := txcell hF2z 2 _ rfl
  go_region_with (fail)
  all_goals
    go_wp2
    exact bodyPost_ret (v := .tuple #[nilF, fau y fb fc]) (by simp [results, Tryz.results14, go_sem, k0, k1, k2, k3, k4, l0, l1, l2]) rfl ⟨rfl, hBz.drew⟩
set_option maxRecDepth 100000 in
set_option maxHeartbeats 2000000 in
theorem whole_rest (s : ByteArray) (w : World) (a : List Wd) (r0 : Out Fm) (hsz : s.size ≤ 4096) (hlx : Lx s 0 a none) (hGF : GF a (.lev 0) (.at 0) r0) (hS : Sg w)
    (f0 : Fm) (q fb fc : Nat) (hq : q < a.length) (hr0 : r0 = .ok f0 q) (hfb : pcB s a q = fb) (hfc : pcC s a q = fc) :
    Calls Tryz.prog 14 #[.string s, .func (.func 15) #[] #[], .func (.func 16) #[] #[]] w fun e w' => e = .returned (.tuple #[nilF, fau 71 fb fc]) ∧ Below w.heap.size w w' := by
  have LW : Hid (Calls Tryz.prog 27 #[.string s] (((w.alloc (.cells zF 26)).alloc (.cells zA 31)).alloc (.cells zF 26)) fun e w' => ∃ v, e = .returned (.tuple #[v, fau 0 0 0]) ∧ w'.ownsRow ((((w.alloc (.cells zF 26)).alloc (.cells zA 31)).alloc (.cells zF 26))).heap.size 87 5 v a.length ((a.map (full s)).flatMap FW.cells) ∧ Below ((((w.alloc (.cells zF 26)).alloc (.cells zA 31)).alloc (.cells zF 26))).heap.size (((w.alloc (.cells zF 26)).alloc (.cells zA 31)).alloc (.cells zF 26)) w') := lexC.good s a _ (((hS.alloc (.cells zF 26)).alloc (.cells zA 31)).alloc (.cells zF 26)) hsz hlx
  have hWd := hlx.wdok hsz
  have hal := (hlx.fine hsz).2
  have hB3 : Below w.heap.size w (((w.alloc (.cells zF 26)).alloc (.cells zA 31)).alloc (.cells zF 26)) := bta (bta (bal w _) _) _
  have hF1 : Rb (((w.alloc (.cells zF 26)).alloc (.cells zA 31)).alloc (.cells zF 26)) w.heap.size zF 26 := ((rb_new w zF 26).keep (bal _ _)).keep (bal _ _)
  have hF2 : Rb (((w.alloc (.cells zF 26)).alloc (.cells zA 31)).alloc (.cells zF 26)) (w.heap.size + 1) zA 31 := by
    have := (rb_new (w.alloc (.cells zF 26)) zA 31).keep (bal _ (.cells zF 26))
    rwa [World.size_alloc] at this
  have hX8 : Rb (((w.alloc (.cells zF 26)).alloc (.cells zA 31)).alloc (.cells zF 26)) (w.heap.size + 2) zF 26 := by
    have := rb_new ((w.alloc (.cells zF 26)).alloc (.cells zA 31)) zF 26
    rwa [World.size_alloc, World.size_alloc] at this
  have HG := mkHid hGF
  clear hlx hS hGF
  subst hr0
  go_enter Tryz.func14, Tryz.ntmps14
  go_wp2_with (first
    | (go_at_call 27; refine (LW.out).mono ?_; rintro e w4 ⟨v, rfl, hO4, hB4⟩; obtain ⟨ro, cr, rfl, hRd⟩ := rdw_of_owns (n := a.length) (by simp) hO4; have hTx : TxW w4 s a ro a.length cr := ⟨hRd, by omega⟩; have hF1a := (hF1.keep hB4).keep (bal w4 (.cells zA 31)); have hF2a := (hF2.keep hB4).keep (bal w4 (.cells zA 31)); have hX8a := (hX8.keep hB4).keep (bal w4 (.cells zA 31)); have hs4 := (Array.getElem?_eq_some_iff.1 (hX8.keep hB4)).1)
    | (go_at_call 28; refine (runecount_at s _ (by omega)).mono ?_; rintro e w6 ⟨rfl, hB6⟩; have hs6 := hB6.size; rw [World.size_alloc] at hs6; have hF1b := (hF1a.keep hB6).keep (bal w6 (.cells #[.slice ro a.length cr, .int .i64 (s.size : Nat), .int .i64 (cnt s : Nat), .int .i64 0, .int .i64 0, .int .i64 0] 77)); have hF2b := (hF2a.keep hB6).keep (bal w6 (.cells #[.slice ro a.length cr, .int .i64 (s.size : Nat), .int .i64 (cnt s : Nat), .int .i64 0, .int .i64 0, .int .i64 0] 77)); have hX8b := (hX8a.keep hB6).keep (bal w6 (.cells #[.slice ro a.length cr, .int .i64 (s.size : Nat), .int .i64 (cnt s : Nat), .int .i64 0, .int .i64 0, .int .i64 0] 77)); have hRr := rb_new w6 #[.slice ro a.length cr, .int .i64 (s.size : Nat), .int .i64 (cnt s : Nat), .int .i64 0, .int .i64 0, .int .i64 0] 77; have hB7 : Below w4.heap.size w4 (w6.alloc (.cells #[.slice ro a.length cr, .int .i64 (s.size : Nat), .int .i64 (cnt s : Nat), .int .i64 0, .int .i64 0, .int .i64 0] 77)) := bta (bt2 (bal w4 _) hB6) _; have hPs : Ps (⟨w4, s, a, ro, a.length, cr, w6.heap.size⟩ : Rx) (w6.alloc (.cells #[.slice ro a.length cr, .int .i64 (s.size : Nat), .int .i64 (cnt s : Nat), .int .i64 0, .int .i64 0, .int .i64 0] 77)) (.at 0) := Ps.start hTx (by omega) hB7 hRr; have hB7w := bta (bt2 (bta (bt2 hB3 hB4) _) hB6) (.cells #[.slice ro a.length cr, .int .i64 (s.size : Nat), .int .i64 (cnt s : Nat), .int .i64 0, .int .i64 0, .int .i64 0] 77))
    | (go_at_call 15; refine (formula_all (X := (⟨w4, s, a, ro, a.length, cr, w6.heap.size⟩ : Rx)) hWd _ (.at 0) _ hPs (Nat.zero_le _) HG.out).mono ?_; rintro e w8 ⟨o, xs, m, bo, n1, c1, lo, ln, lc, f, rfl, hV8, h8, hC8, hf⟩; have hF1c := (hF1b.but hC8 (by show _ ≠ w6.heap.size; omega)).keep (bal w8 (.cells #[.int .i64 o, .string xs, .int .i64 m, .slice bo n1 c1, .slice lo ln lc] 26)); have hF2c := (hF2b.but hC8 (by show _ ≠ w6.heap.size; omega)).keep (bal w8 (.cells #[.int .i64 o, .string xs, .int .i64 m, .slice bo n1 c1, .slice lo ln lc] 26)); have hX8c := (hX8b.but hC8 (by show _ ≠ w6.heap.size; omega)).keep (bal w8 (.cells #[.int .i64 o, .string xs, .int .i64 m, .slice bo n1 c1, .slice lo ln lc] 26)); have hXt := rb_new w8 #[.int .i64 o, .string xs, .int .i64 m, .slice bo n1 c1, .slice lo ln lc] 26; have hBw8 : Below w.heap.size w (w8.alloc (.cells #[.int .i64 o, .string xs, .int .i64 m, .slice bo n1 c1, .slice lo ln lc] 26)) := (hB7w.trans (hC8.below (by show _ ≤ w6.heap.size; omega) hB7w.size)).alloc (Nat.le_trans hB7w.size hC8.size) _; have hs8 := hC8.size; rw [World.size_alloc] at hs8; obtain ⟨ra, rm, rc, hm0, hmn, hRr8⟩ : ∃ ra rm rc, 0 < rm ∧ rm ≤ a.length ∧ Rb w8 w6.heap.size (rdC (.slice ra rm rc) s.size (cnt s) 0 0 0) 77 := Ps.left (X := (⟨w4, s, a, ro, a.length, cr, w6.heap.size⟩ : Rx)) (p := q) h8 hq; have hRr9 := hRr8.keep (bal w8 (.cells #[.int .i64 o, .string xs, .int .i64 m, .slice bo n1 c1, .slice lo ln lc] 26)); obtain ⟨t0, -⟩ := txcell hRr9 0 _ rfl; have hmm : (0 : Int) < (rm : Int) := (by omega))
    | (go_at_call 29; refine (refuse_at (X := (⟨w4, s, a, ro, a.length, cr, w6.heap.size⟩ : Rx)) (h8.alloc _) 71 (by decide)).mono ?_; rintro e w10 ⟨rfl, h10, hC10⟩; have hF1z := hF1c.but hC10 (by show _ ≠ w6.heap.size; omega); have hF2z := hF2c.but hC10 (by show _ ≠ w6.heap.size; omega); have hX8z := hX8c.but hC10 (by show _ ≠ w6.heap.size; omega); have hBwz : Below w.heap.size w w10 := hBw8.trans (hC10.below (by show _ ≤ w6.heap.size; omega) hBw8.size); obtain ⟨hy0, hRrA⟩ : (71 : Nat) ≠ 0 ∧ Rb w10 w6.heap.size (rdC (.slice none 0 0) s.size (cnt s) 71 (pcB s a q) (pcC s a q)) 77 := h10.at'; obtain ⟨t3, -⟩ := txcell hRrA 3 _ rfl; obtain ⟨t4, -⟩ := txcell hRrA 4 _ rfl; obtain ⟨t5, -⟩ := txcell hRrA 5 _ rfl; rw [hfb] at t4; rw [hfc] at t5))
  have hRa := (rb_five hF1z rfl (.int .i64 0) (.string emp) (.int .i64 0) (.slice none 0 0) (.slice none 0 0)).st3 (X := w.heap.size + 1) (by omega) (.int .i64 71) (.int .i64 (fb : Nat)) (.int .i64 (fc : Nat))
  have hRb := rb_three (hF2z.st5 (X := w.heap.size) (by omega) (.int .i64 0) (.string emp) (.int .i64 0) (.slice none 0 0) (.slice none 0 0)) rfl (.int .i64 71) (.int .i64 (fb : Nat)) (.int .i64 (fc : Nat))
  have hBz := bel_st3 (bel_st5 hBwz (Nat.le_refl _) (.int .i64 0) (.string emp) (.int .i64 0) (.slice none 0 0) (.slice none 0 0)) (Nat.le_succ _) (.int .i64 71) (.int .i64 (fb : Nat)) (.int .i64 (fc : Nat))
  obtain ⟨k0, -⟩ := txcell hRa 0 _ rfl
  obtain ⟨k1, -⟩ := txcell hRa 1 _ rfl
  obtain ⟨k2, -⟩ := txcell hRa 2 _ rfl
  obtain ⟨k3, -⟩ := txcell hRa 3 _ rfl
  obtain ⟨k4, -⟩ := txcell hRa 4 _ rfl
  obtain ⟨l0, -⟩ := txcell hRb 0 _ rfl
  obtain ⟨l1, -⟩ := txcell hRb 1 _ rfl
  obtain ⟨l2, -⟩ := txcell hRb 2 _ rfl
  obtain ⟨x0, -⟩ := txcell hX8z 0 _ rfl
  obtain ⟨x1, -⟩ := txcell hX8z 1 _ rfl
  obtain ⟨x2, -⟩ := txcell hX8z 2 _ rfl
  obtain ⟨x3, -⟩ := txcell hX8z 3 _ rfl
  obtain ⟨x4, -⟩ := txcell hX8z 4 _ rfl
  obtain ⟨a0, g0⟩ := txcell hF1z 0 _ rfl
  obtain ⟨a1, g1⟩ := txcell hF1z 1 _ rfl
  obtain ⟨a2, g2⟩ := txcell hF1z 2 _ rfl
  obtain ⟨a3, g3⟩ := txcell hF1z 3 _ rfl
  obtain ⟨a4, g4⟩ := txcell hF1z 4 _ rfl
  obtain ⟨b0, f0⟩ := txcell hF2z 0 _ rfl
  obtain ⟨b1, f1⟩ := txcell hF2z 1 _ rfl
  obtain ⟨b2, f2⟩ := txcell hF2z 2 _ rfl
  go_region_with (fail)
  all_goals
    go_wp2
    exact bodyPost_ret (v := .tuple #[nilF, fau 71 fb fc]) (by simp [results, Tryz.results14, go_sem, k0, k1, k2, k3, k4, l0, l1, l2]) rfl ⟨rfl, hBz.drew⟩
end Go.Proofs.YtabfhdmcljdjhaaGreatDoor.Gl
