/- The document's Formula, from what its level answers. -/
import Derived.Test.YtabfhdmcljdjhaaGreatDoorDcR
import Derived.Test.YtabfhdmcljdjhaaGreatDoorPaI
import Derived.Test.YtabfhdmcljdjhaaGreatDoorDcO
namespace Go.Proofs.YtabfhdmcljdjhaaGreatDoor.Gl
open Go.RowKit
set_option linter.unusedVariables false
set_option linter.unusedSimpArgs false

set_option maxRecDepth 100000 in
set_option maxHeartbeats 4000000 in
theorem dform_fault (s : ByteArray) (w : World) (c p k : Nat) (hc : c ≠ 0)
    (LW0 : ∀ w, Calls Tryz.prog 17 #[.string s] w fun e w' => ∃ v, e = .returned (.tuple #[v, .agg #[.int .i64 (p : Nat), .int .i64 (k : Nat)], .int .i64 (c : Nat)]) ∧ Below w.heap.size w w') :
    Calls Tryz.prog 6 #[.string s] w fun e w' => e = .returned (.tuple #[nilF, .agg #[.int .i64 (p : Nat), .int .i64 (k : Nat)], .int .i64 (c : Nat)]) ∧ Below w.heap.size w w' := by
  have hc' : ((c : Int) == 0) = false := by rw [beq_eq_false_iff_ne]; omega
  have hc2 : ¬ (c : Int) = 0 := by omega
  have LW := mkHid LW0
  have hB2 : Below w.heap.size w ((w.alloc (.cells zF 26)).alloc (.cells zP 29)) := bta (bal w _) _
  have hF1 : Rb ((w.alloc (.cells zF 26)).alloc (.cells zP 29)) w.heap.size zF 26 := (rb_new w zF 26).keep (bal _ _)
  have hF2 : Rb ((w.alloc (.cells zF 26)).alloc (.cells zP 29)) (w.heap.size + 1) zP 29 := by
    have := rb_new (w.alloc (.cells zF 26)) zP 29
    rwa [World.size_alloc] at this
  clear LW0
  go_enter Tryz.func6, Tryz.ntmps6
  go_wp2_with (fail)
  refine (LW.out _).mono ?_
  rintro e w4 ⟨v, rfl, hB4⟩
  have hF1a := (hF1.keep hB4).keep (bal w4 (.cells #[.int .i64 (p : Nat), .int .i64 (k : Nat)] 29))
  have hF2a := (hF2.keep hB4).keep (bal w4 (.cells #[.int .i64 (p : Nat), .int .i64 (k : Nat)] 29))
  have hP := rb_new w4 #[.int .i64 (p : Nat), .int .i64 (k : Nat)] 29
  have hba := bta (bt2 hB2 hB4) (.cells #[.int .i64 (p : Nat), .int .i64 (k : Nat)] 29)
  have hs4 := hB4.size
  rw [World.size_alloc, World.size_alloc] at hs4
  clear LW hF1 hF2 hB2
  go_wp2_with (fail)
  generalize w4.alloc (.cells #[.int .i64 (p : Nat), .int .i64 (k : Nat)] 29) = w5 at hF1a hF2a hP hba ⊢
  generalize w4.heap.size = z at *
  clear hB4
  obtain ⟨x0, -⟩ := txcell hP 0 _ rfl
  obtain ⟨x1, -⟩ := txcell hP 1 _ rfl
  obtain ⟨a0, g0⟩ := txcell hF1a 0 _ rfl
  obtain ⟨a1, g1⟩ := txcell hF1a 1 _ rfl
  obtain ⟨a2, g2⟩ := txcell hF1a 2 _ rfl
  obtain ⟨a3, g3⟩ := txcell hF1a 3 _ rfl
  obtain ⟨a4, g4⟩ := txcell hF1a 4 _ rfl
  obtain ⟨b0, f0⟩ := txcell hF2a 0 _ rfl
  obtain ⟨b1, f1⟩ := txcell hF2a 1 _ rfl
  have hRa := (rb_five hF1a rfl (.int .i64 0) (.string emp) (.int .i64 0) (.slice none 0 0) (.slice none 0 0)).st2 (X := w.heap.size + 1) (by omega) (.int .i64 (p : Nat)) (.int .i64 (k : Nat))
  have hRb := rb_two (hF2a.st5 (X := w.heap.size) (by omega) (.int .i64 0) (.string emp) (.int .i64 0) (.slice none 0 0) (.slice none 0 0)) rfl (.int .i64 (p : Nat)) (.int .i64 (k : Nat))
  have hBz := bel_st2 (bel_st5 hba (Nat.le_refl _) (.int .i64 0) (.string emp) (.int .i64 0) (.slice none 0 0) (.slice none 0 0)) (Nat.le_succ _) (.int .i64 (p : Nat)) (.int .i64 (k : Nat))
  obtain ⟨k0, -⟩ := txcell hRa 0 _ rfl
  obtain ⟨k1, -⟩ := txcell hRa 1 _ rfl
  obtain ⟨k2, -⟩ := txcell hRa 2 _ rfl
  obtain ⟨k3, -⟩ := txcell hRa 3 _ rfl
  obtain ⟨k4, -⟩ := txcell hRa 4 _ rfl
  obtain ⟨l0, -⟩ := txcell hRb 0 _ rfl
  obtain ⟨l1, -⟩ := txcell hRb 1 _ rfl
  go_region_with (fail)
  all_goals
    go_wp2
    exact bodyPost_ret (v := .tuple #[nilF, .agg #[.int .i64 (p : Nat), .int .i64 (k : Nat)], .int .i64 (c : Nat)]) (by simp [results, Tryz.results6, go_sem, k0, k1, k2, k3, k4, l0, l1]) rfl ⟨rfl, hBz.drew⟩
set_option maxRecDepth 100000 in
set_option maxHeartbeats 4000000 in
theorem dform_bad (L0 : ∀ X : Rx, WdOk X.ws → DLev 0 X 0) (s : ByteArray) (w : World) (a : List Wd) (r0 : Out Fm) (hsz : s.size ≤ 4096) (hlx : Lx s 0 a none) (hGF : GF a (.lev 0) (.at 0) r0)
    (y q fb fc : Nat) (hr0 : r0.pos = .bad y q ∨ ∃ p, r0.pos = .at p ∧ p < a.length ∧ y = 71 ∧ q = p) (hfb : pcB s a q = fb) (hfc : pcC s a q = fc) :
    Calls Tryz.prog 6 #[.string s] w fun e w' => e = .returned (.tuple #[nilF, .agg #[.int .i64 (fb : Nat), .int .i64 (fc : Nat)], .int .i64 (y : Nat)]) ∧ Below w.heap.size w w' := by
  have L := mkHid L0
  have LW := mkHid (fun w => rwords_at s a none w hsz hlx)
  have hWd := hlx.wdok hsz
  have hal : a.length ≤ 4096 := by have := (hlx.fine hsz).2; omega
  have hB2 : Below w.heap.size w ((w.alloc (.cells zF 26)).alloc (.cells zP 29)) := bta (bal w _) _
  have hF1 : Rb ((w.alloc (.cells zF 26)).alloc (.cells zP 29)) w.heap.size zF 26 := (rb_new w zF 26).keep (bal _ _)
  have hF2 : Rb ((w.alloc (.cells zF 26)).alloc (.cells zP 29)) (w.heap.size + 1) zP 29 := by
    have := rb_new (w.alloc (.cells zF 26)) zP 29
    rwa [World.size_alloc] at this
  have HG := mkHid hGF
  clear hlx hGF
  go_enter Tryz.func6, Tryz.ntmps6
  go_wp2_with (fail)
  refine (LW.out _).mono ?_
  rintro e w4 ⟨v, c0, p0, k0, ws, rfl, hA, hO4, hB4⟩
  obtain ⟨rfl, rfl, rfl, rfl⟩ := ans_none hA
  rw [List.length_map] at hO4
  obtain ⟨ro, cr, rfl, hRd⟩ := rdw_of_owns (n := a.length) (by simp) hO4
  have hTx : TxW w4 s a ro a.length cr := ⟨hRd, hal⟩
  have hs4 := hB4.size
  rw [World.size_alloc, World.size_alloc] at hs4
  have hP5 := rb_new w4 zP 29
  have hR6 := rb_new (w4.alloc (.cells zP 29)) #[.slice ro a.length cr, .int .i64 0, .int .i64 0, .int .i64 0] 59
  rw [World.size_alloc] at hR6
  have hDs := Ds.start hTx (Nat.le_succ _) (bta (bal w4 (.cells zP 29)) (.cells #[.slice ro a.length cr, .int .i64 0, .int .i64 0, .int .i64 0] 59)) hR6
  have hP6 := hP5.keep (bal _ (.cells #[.slice ro a.length cr, .int .i64 0, .int .i64 0, .int .i64 0] 59))
  have hF16 := ((hF1.keep hB4).keep (bal _ (.cells zP 29))).keep (bal _ (.cells #[.slice ro a.length cr, .int .i64 0, .int .i64 0, .int .i64 0] 59))
  have hF26 := ((hF2.keep hB4).keep (bal _ (.cells zP 29))).keep (bal _ (.cells #[.slice ro a.length cr, .int .i64 0, .int .i64 0, .int .i64 0] 59))
  have hb6 := bta (bta (bt2 hB2 hB4) (.cells zP 29)) (.cells #[.slice ro a.length cr, .int .i64 0, .int .i64 0, .int .i64 0] 59)
  go_wp2_with (fail)
  refine (L.out (⟨w4, s, a, ro, a.length, cr, w4.heap.size + 1⟩ : Rx) hWd _ (.at 0) _ hDs (Nat.zero_le _) HG.out).mono ?_
  rintro e w8 ⟨o, xs, m, bo, n1, c1, lo, ln, lc, f, rfl, hV8, h8, hC8, hf⟩
  replace hC8 : Bux (w4.heap.size + 1) _ w8 := hC8
  have hF19 := (hF16.but hC8 (by omega)).keep (bal w8 (.cells #[.int .i64 o, .string xs, .int .i64 m, .slice bo n1 c1, .slice lo ln lc] 26))
  have hF29 := (hF26.but hC8 (by omega)).keep (bal w8 (.cells #[.int .i64 o, .string xs, .int .i64 m, .slice bo n1 c1, .slice lo ln lc] 26))
  have hP9 := (hP6.but hC8 (by omega)).keep (bal w8 (.cells #[.int .i64 o, .string xs, .int .i64 m, .slice bo n1 c1, .slice lo ln lc] 26))
  have hX9 := rb_new w8 #[.int .i64 o, .string xs, .int .i64 m, .slice bo n1 c1, .slice lo ln lc] 26
  have hs8 := hC8.size
  rw [World.size_alloc, World.size_alloc] at hs8
  have hb9 := bta (hb6.trans (hC8.below (by omega) (by rw [World.size_alloc, World.size_alloc]; omega))) (.cells #[.int .i64 o, .string xs, .int .i64 m, .slice bo n1 c1, .slice lo ln lc] 26)
  have h9 := h8.alloc (.cells #[.int .i64 o, .string xs, .int .i64 m, .slice bo n1 c1, .slice lo ln lc] 26)
  have hy0 : y ≠ 0 := by
    rcases hr0 with e | ⟨p, _, _, rfl, _⟩
    · rw [e] at h8; exact h8.at'.1
    · decide
  have hy' : ((y : Int) == 0) = false := by rw [beq_eq_false_iff_ne]; omega
  have hy2 : ¬ (y : Int) = 0 := by omega
  have EC := mkHid (dended_bad (X := (⟨w4, s, a, ro, a.length, cr, w4.heap.size + 1⟩ : Rx)) (by show s.size ≤ _; omega) h9 hr0)
  dsimp only at EC
  rw [hfb, hfc] at EC
  go_wp2_with (fail)
  refine (EC.out).mono ?_
  rintro e w10 ⟨rfl, hC10⟩
  have hF1b := hF19.but hC10 (by omega)
  have hF2b := hF29.but hC10 (by omega)
  have hP10 := hP9.but hC10 (by omega)
  have hX10 := hX9.but hC10 (by omega)
  have hs9 : (w8.alloc (.cells #[.int .i64 o, .string xs, .int .i64 m, .slice bo n1 c1, .slice lo ln lc] 26)).heap.size = w8.heap.size + 1 := World.size_alloc ..
  have hb10 := hb9.trans (hC10.below (by omega) (by omega))
  have hs10 := hC10.size
  rw [hs9] at hs10
  obtain ⟨q0, h0⟩ := txcell hP10 0 _ rfl
  obtain ⟨q1, h1⟩ := txcell hP10 1 _ rfl
  have hPx := rb_two hP10 rfl (.int .i64 (fb : Nat)) (.int .i64 (fc : Nat))
  have hF1c := hF1b.st2 (X := w4.heap.size) (by omega) (.int .i64 (fb : Nat)) (.int .i64 (fc : Nat))
  have hF2c := hF2b.st2 (X := w4.heap.size) (by omega) (.int .i64 (fb : Nat)) (.int .i64 (fc : Nat))
  have hbc := bel_st2 hb10 (B := w4.heap.size) (by omega) (.int .i64 (fb : Nat)) (.int .i64 (fc : Nat))
  go_wp2_with (fail)
  generalize (w10.setCell ⟨w4.heap.size, 0, none⟩ (.int .i64 (fb : Nat))).setCell ⟨w4.heap.size, 1, none⟩ (.int .i64 (fc : Nat)) = w11 at hPx hF1c hF2c hbc ⊢
  obtain ⟨x0, -⟩ := txcell hPx 0 _ rfl
  obtain ⟨x1, -⟩ := txcell hPx 1 _ rfl
  obtain ⟨a0, g0⟩ := txcell hF1c 0 _ rfl
  obtain ⟨a1, g1⟩ := txcell hF1c 1 _ rfl
  obtain ⟨a2, g2⟩ := txcell hF1c 2 _ rfl
  obtain ⟨a3, g3⟩ := txcell hF1c 3 _ rfl
  obtain ⟨a4, g4⟩ := txcell hF1c 4 _ rfl
  obtain ⟨b0, f0⟩ := txcell hF2c 0 _ rfl
  obtain ⟨b1, f1⟩ := txcell hF2c 1 _ rfl
  have hRa := (rb_five hF1c rfl (.int .i64 0) (.string emp) (.int .i64 0) (.slice none 0 0) (.slice none 0 0)).st2 (X := w.heap.size + 1) (by omega) (.int .i64 (fb : Nat)) (.int .i64 (fc : Nat))
  have hRb := rb_two (hF2c.st5 (X := w.heap.size) (by omega) (.int .i64 0) (.string emp) (.int .i64 0) (.slice none 0 0) (.slice none 0 0)) rfl (.int .i64 (fb : Nat)) (.int .i64 (fc : Nat))
  have hBz := bel_st2 (bel_st5 hbc (Nat.le_refl _) (.int .i64 0) (.string emp) (.int .i64 0) (.slice none 0 0) (.slice none 0 0)) (Nat.le_succ _) (.int .i64 (fb : Nat)) (.int .i64 (fc : Nat))
  obtain ⟨k0, -⟩ := txcell hRa 0 _ rfl
  obtain ⟨k1, -⟩ := txcell hRa 1 _ rfl
  obtain ⟨k2, -⟩ := txcell hRa 2 _ rfl
  obtain ⟨k3, -⟩ := txcell hRa 3 _ rfl
  obtain ⟨k4, -⟩ := txcell hRa 4 _ rfl
  obtain ⟨l0, -⟩ := txcell hRb 0 _ rfl
  obtain ⟨l1, -⟩ := txcell hRb 1 _ rfl
  go_region_with (fail)
  all_goals
    go_wp2
    exact bodyPost_ret (v := .tuple #[nilF, .agg #[.int .i64 (fb : Nat), .int .i64 (fc : Nat)], .int .i64 (y : Nat)]) (by simp [results, Tryz.results6, go_sem, k0, k1, k2, k3, k4, l0, l1]) rfl ⟨rfl, hBz.drew⟩
set_option maxRecDepth 100000 in
set_option maxHeartbeats 4000000 in
theorem dform_many (L0 : ∀ X : Rx, WdOk X.ws → DLev 0 X 0) (s : ByteArray) (w : World) (a : List Wd) (r0 : Out Fm) (hsz : s.size ≤ 4096) (hlx : Lx s 0 a none) (hGF : GF a (.lev 0) (.at 0) r0)
    (f : Fm) (c : Nat) (hr0 : r0 = .ok f a.length) (hc : chk nmB f = c) (hc0 : c ≠ 0) :
    Calls Tryz.prog 6 #[.string s] w fun e w' => e = .returned (.tuple #[nilF, .agg #[.int .i64 0, .int .i64 0], .int .i64 (c : Nat)]) ∧ Below w.heap.size w w' := by
  have hc' : ((c : Int) == 0) = false := by rw [beq_eq_false_iff_ne]; omega
  have hc2 : ¬ (c : Int) = 0 := by omega
  have L := mkHid L0
  have LW := mkHid (fun w => rwords_at s a none w hsz hlx)
  have hWd := hlx.wdok hsz
  have hal : a.length ≤ 4096 := by have := (hlx.fine hsz).2; omega
  have hB2 : Below w.heap.size w ((w.alloc (.cells zF 26)).alloc (.cells zP 29)) := bta (bal w _) _
  have hF1 : Rb ((w.alloc (.cells zF 26)).alloc (.cells zP 29)) w.heap.size zF 26 := (rb_new w zF 26).keep (bal _ _)
  have hF2 : Rb ((w.alloc (.cells zF 26)).alloc (.cells zP 29)) (w.heap.size + 1) zP 29 := by
    have := rb_new (w.alloc (.cells zF 26)) zP 29
    rwa [World.size_alloc] at this
  have HG := mkHid hGF
  clear hlx hGF
  go_enter Tryz.func6, Tryz.ntmps6
  go_wp2_with (fail)
  refine (LW.out _).mono ?_
  rintro e w4 ⟨v, c0, p0, k0, ws, rfl, hA, hO4, hB4⟩
  obtain ⟨rfl, rfl, rfl, rfl⟩ := ans_none hA
  rw [List.length_map] at hO4
  obtain ⟨ro, cr, rfl, hRd⟩ := rdw_of_owns (n := a.length) (by simp) hO4
  have hTx : TxW w4 s a ro a.length cr := ⟨hRd, hal⟩
  have hs4 := hB4.size
  rw [World.size_alloc, World.size_alloc] at hs4
  have hP5 := rb_new w4 zP 29
  have hR6 := rb_new (w4.alloc (.cells zP 29)) #[.slice ro a.length cr, .int .i64 0, .int .i64 0, .int .i64 0] 59
  rw [World.size_alloc] at hR6
  have hDs := Ds.start hTx (Nat.le_succ _) (bta (bal w4 (.cells zP 29)) (.cells #[.slice ro a.length cr, .int .i64 0, .int .i64 0, .int .i64 0] 59)) hR6
  have hP6 := hP5.keep (bal _ (.cells #[.slice ro a.length cr, .int .i64 0, .int .i64 0, .int .i64 0] 59))
  have hF16 := ((hF1.keep hB4).keep (bal _ (.cells zP 29))).keep (bal _ (.cells #[.slice ro a.length cr, .int .i64 0, .int .i64 0, .int .i64 0] 59))
  have hF26 := ((hF2.keep hB4).keep (bal _ (.cells zP 29))).keep (bal _ (.cells #[.slice ro a.length cr, .int .i64 0, .int .i64 0, .int .i64 0] 59))
  have hb6 := bta (bta (bt2 hB2 hB4) (.cells zP 29)) (.cells #[.slice ro a.length cr, .int .i64 0, .int .i64 0, .int .i64 0] 59)
  go_wp2_with (fail)
  refine (L.out (⟨w4, s, a, ro, a.length, cr, w4.heap.size + 1⟩ : Rx) hWd _ (.at 0) _ hDs (Nat.zero_le _) HG.out).mono ?_
  rintro e w8 ⟨o, xs, m, bo, n1, c1, lo, ln, lc, f1, rfl, hV8, h8, hC8, hf⟩
  replace hC8 : Bux (w4.heap.size + 1) _ w8 := hC8
  have hF19 := (hF16.but hC8 (by omega)).keep (bal w8 (.cells #[.int .i64 o, .string xs, .int .i64 m, .slice bo n1 c1, .slice lo ln lc] 26))
  have hF29 := (hF26.but hC8 (by omega)).keep (bal w8 (.cells #[.int .i64 o, .string xs, .int .i64 m, .slice bo n1 c1, .slice lo ln lc] 26))
  have hP9 := (hP6.but hC8 (by omega)).keep (bal w8 (.cells #[.int .i64 o, .string xs, .int .i64 m, .slice bo n1 c1, .slice lo ln lc] 26))
  have hX9 := rb_new w8 #[.int .i64 o, .string xs, .int .i64 m, .slice bo n1 c1, .slice lo ln lc] 26
  have hs8 := hC8.size
  rw [World.size_alloc, World.size_alloc] at hs8
  have hb9 := bta (hb6.trans (hC8.below (by omega) (by rw [World.size_alloc, World.size_alloc]; omega))) (.cells #[.int .i64 o, .string xs, .int .i64 m, .slice bo n1 c1, .slice lo ln lc] 26)
  have h9 := h8.alloc (.cells #[.int .i64 o, .string xs, .int .i64 m, .slice bo n1 c1, .slice lo ln lc] 26)
  have EC := mkHid (dended_ok (X := (⟨w4, s, a, ro, a.length, cr, w4.heap.size + 1⟩ : Rx)) (w := w8.alloc (.cells #[.int .i64 o, .string xs, .int .i64 m, .slice bo n1 c1, .slice lo ln lc] 26)) (by rw [hr0] at h9; exact h9))
  dsimp only at EC
  have hff : f1 = f := of_is (q := a.length) (by rw [← hr0]; exact hf)
  subst hff
  go_wp2_with (fail)
  refine (EC.out).mono ?_
  rintro e w10 ⟨rfl, hC10⟩
  replace hC10 : Bux (w4.heap.size + 1) _ w10 := hC10
  have hF1b := hF19.but hC10 (by omega)
  have hF2b := hF29.but hC10 (by omega)
  have hP10 := hP9.but hC10 (by omega)
  have hX10 := hX9.but hC10 (by omega)
  have hs9 : (w8.alloc (.cells #[.int .i64 o, .string xs, .int .i64 m, .slice bo n1 c1, .slice lo ln lc] 26)).heap.size = w8.heap.size + 1 := World.size_alloc ..
  have hb10 := hb9.trans (hC10.below (by omega) (by omega))
  have hs10 := hC10.size
  rw [hs9] at hs10
  obtain ⟨q0, h0⟩ := txcell hP10 0 _ rfl
  obtain ⟨q1, h1⟩ := txcell hP10 1 _ rfl
  have hV10 := RdFn.keep (Hi.but hC10 (fun i (hi : _ ≤ i) => by rw [World.size_alloc, World.size_alloc] at hi; omega)) _ _ _ _ _ _ (RdFn.keep (Hi.of (bal w8 (.cells #[.int .i64 o, .string xs, .int .i64 m, .slice bo n1 c1, .slice lo ln lc] 26))) _ _ _ _ _ _ hV8)
  have hPx := rb_two hP10 rfl (.int .i64 0) (.int .i64 0)
  have hF1c := hF1b.st2 (X := w4.heap.size) (by omega) (.int .i64 0) (.int .i64 0)
  have hF2c := hF2b.st2 (X := w4.heap.size) (by omega) (.int .i64 0) (.int .i64 0)
  have hXc := hX10.st2 (X := w4.heap.size) (by omega) (.int .i64 0) (.int .i64 0)
  have hbc := bel_st2 hb10 (B := w4.heap.size) (by omega) (.int .i64 0) (.int .i64 0)
  have hVc := RdFn.keep (((Hi.refl (Ge ((w4.alloc (.cells zP 29)).alloc (.cells #[.slice ro a.length cr, .int .i64 0, .int .i64 0, .int .i64 0] 59)).heap.size) w10).set (g := w4.heap.size) (fun i (hi : _ ≤ i) => by rw [World.size_alloc, World.size_alloc] at hi; omega) 0 (.int .i64 0)).set (g := w4.heap.size) (fun i (hi : _ ≤ i) => by rw [World.size_alloc, World.size_alloc] at hi; omega) 1 (.int .i64 0)) _ _ _ _ _ _ hV10
  have hsz : ((w10.setCell ⟨w4.heap.size, 0, none⟩ (.int .i64 0)).setCell ⟨w4.heap.size, 1, none⟩ (.int .i64 0)).heap.size = w10.heap.size := by simp [World.setCell]
  obtain ⟨y0, -⟩ := txcell hX10 0 _ rfl
  obtain ⟨y1, -⟩ := txcell hX10 1 _ rfl
  obtain ⟨y2, -⟩ := txcell hX10 2 _ rfl
  obtain ⟨y3, -⟩ := txcell hX10 3 _ rfl
  obtain ⟨y4, -⟩ := txcell hX10 4 _ rfl
  go_wp2_with (fail)
  generalize (w10.setCell ⟨w4.heap.size, 0, none⟩ (.int .i64 0)).setCell ⟨w4.heap.size, 1, none⟩ (.int .i64 0) = w11 at hPx hF1c hF2c hXc hbc hVc hsz ⊢
  have CK := mkHid (fun wz hb => rcheck_at w11 f1 (.agg #[.int .i64 o, .string xs, .int .i64 m, .slice bo n1 c1, .slice lo ln lc]) wz ⟨_, _, _, _, _, rfl, hVc.plain⟩ hb)
  rw [hc] at CK
  refine (CK.out _ (Below.refl _ _)).mono ?_
  rintro e w12 ⟨rfl, hB12⟩
  have hPd := hPx.keep hB12
  have hF1d := hF1c.keep hB12
  have hF2d := hF2c.keep hB12
  have hXd := hXc.keep hB12
  have hbd := bt2 hbc hB12
  have hVd := RdFn.keep (Hi.of hB12) _ _ _ _ _ _ hVc
  clear y0 y1 y2 y3 y4 q0 q1 h0 h1
  obtain ⟨x0, -⟩ := txcell hPd 0 _ rfl
  obtain ⟨x1, -⟩ := txcell hPd 1 _ rfl
  obtain ⟨y0, -⟩ := txcell hXd 0 _ rfl
  obtain ⟨y1, -⟩ := txcell hXd 1 _ rfl
  obtain ⟨y2, -⟩ := txcell hXd 2 _ rfl
  obtain ⟨y3, -⟩ := txcell hXd 3 _ rfl
  obtain ⟨y4, -⟩ := txcell hXd 4 _ rfl
  go_wp2_with (fail)
  obtain ⟨a0, g0⟩ := txcell hF1d 0 _ rfl
  obtain ⟨a1, g1⟩ := txcell hF1d 1 _ rfl
  obtain ⟨a2, g2⟩ := txcell hF1d 2 _ rfl
  obtain ⟨a3, g3⟩ := txcell hF1d 3 _ rfl
  obtain ⟨a4, g4⟩ := txcell hF1d 4 _ rfl
  obtain ⟨b0, f0⟩ := txcell hF2d 0 _ rfl
  obtain ⟨b1, f1⟩ := txcell hF2d 1 _ rfl
  have hRa := (rb_five hF1d rfl (.int .i64 0) (.string emp) (.int .i64 0) (.slice none 0 0) (.slice none 0 0)).st2 (X := w.heap.size + 1) (by omega) (.int .i64 0) (.int .i64 0)
  have hRb := rb_two (hF2d.st5 (X := w.heap.size) (by omega) (.int .i64 0) (.string emp) (.int .i64 0) (.slice none 0 0) (.slice none 0 0)) rfl (.int .i64 0) (.int .i64 0)
  have hBz := bel_st2 (bel_st5 hbd (Nat.le_refl _) (.int .i64 0) (.string emp) (.int .i64 0) (.slice none 0 0) (.slice none 0 0)) (Nat.le_succ _) (.int .i64 0) (.int .i64 0)
  obtain ⟨k0, -⟩ := txcell hRa 0 _ rfl
  obtain ⟨k1, -⟩ := txcell hRa 1 _ rfl
  obtain ⟨k2, -⟩ := txcell hRa 2 _ rfl
  obtain ⟨k3, -⟩ := txcell hRa 3 _ rfl
  obtain ⟨k4, -⟩ := txcell hRa 4 _ rfl
  obtain ⟨l0, -⟩ := txcell hRb 0 _ rfl
  obtain ⟨l1, -⟩ := txcell hRb 1 _ rfl
  go_region_with (fail)
  all_goals
    go_wp2
    exact bodyPost_ret (v := .tuple #[nilF, .agg #[.int .i64 0, .int .i64 0], .int .i64 (c : Nat)]) (by simp [results, Tryz.results6, go_sem, k0, k1, k2, k3, k4, l0, l1]) rfl ⟨rfl, hBz.drew⟩
set_option maxRecDepth 100000 in
set_option maxHeartbeats 4000000 in
theorem dform_ok (L0 : ∀ X : Rx, WdOk X.ws → DLev 0 X 0) (s : ByteArray) (w : World) (a : List Wd) (r0 : Out Fm) (hsz : s.size ≤ 4096) (hlx : Lx s 0 a none) (hGF : GF a (.lev 0) (.at 0) r0)
    (f : Fm) (hr0 : r0 = .ok f a.length) (hc : chk nmB f = 0) :
    Calls Tryz.prog 6 #[.string s] w fun e w' => ∃ v, e = .returned (.tuple #[v, .agg #[.int .i64 0, .int .i64 0], .int .i64 0]) ∧ FmA w.heap.size w' (some f) v ∧ Below w.heap.size w w' := by
  have L := mkHid L0
  have LW := mkHid (fun w => rwords_at s a none w hsz hlx)
  have hWd := hlx.wdok hsz
  have hal : a.length ≤ 4096 := by have := (hlx.fine hsz).2; omega
  have hB2 : Below w.heap.size w ((w.alloc (.cells zF 26)).alloc (.cells zP 29)) := bta (bal w _) _
  have hF1 : Rb ((w.alloc (.cells zF 26)).alloc (.cells zP 29)) w.heap.size zF 26 := (rb_new w zF 26).keep (bal _ _)
  have hF2 : Rb ((w.alloc (.cells zF 26)).alloc (.cells zP 29)) (w.heap.size + 1) zP 29 := by
    have := rb_new (w.alloc (.cells zF 26)) zP 29
    rwa [World.size_alloc] at this
  have HG := mkHid hGF
  clear hlx hGF
  go_enter Tryz.func6, Tryz.ntmps6
  go_wp2_with (fail)
  refine (LW.out _).mono ?_
  rintro e w4 ⟨v, c0, p0, k0, ws, rfl, hA, hO4, hB4⟩
  obtain ⟨rfl, rfl, rfl, rfl⟩ := ans_none hA
  rw [List.length_map] at hO4
  obtain ⟨ro, cr, rfl, hRd⟩ := rdw_of_owns (n := a.length) (by simp) hO4
  have hTx : TxW w4 s a ro a.length cr := ⟨hRd, hal⟩
  have hs4 := hB4.size
  rw [World.size_alloc, World.size_alloc] at hs4
  have hP5 := rb_new w4 zP 29
  have hR6 := rb_new (w4.alloc (.cells zP 29)) #[.slice ro a.length cr, .int .i64 0, .int .i64 0, .int .i64 0] 59
  rw [World.size_alloc] at hR6
  have hDs := Ds.start hTx (Nat.le_succ _) (bta (bal w4 (.cells zP 29)) (.cells #[.slice ro a.length cr, .int .i64 0, .int .i64 0, .int .i64 0] 59)) hR6
  have hP6 := hP5.keep (bal _ (.cells #[.slice ro a.length cr, .int .i64 0, .int .i64 0, .int .i64 0] 59))
  have hF16 := ((hF1.keep hB4).keep (bal _ (.cells zP 29))).keep (bal _ (.cells #[.slice ro a.length cr, .int .i64 0, .int .i64 0, .int .i64 0] 59))
  have hF26 := ((hF2.keep hB4).keep (bal _ (.cells zP 29))).keep (bal _ (.cells #[.slice ro a.length cr, .int .i64 0, .int .i64 0, .int .i64 0] 59))
  have hb6 := bta (bta (bt2 hB2 hB4) (.cells zP 29)) (.cells #[.slice ro a.length cr, .int .i64 0, .int .i64 0, .int .i64 0] 59)
  go_wp2_with (fail)
  refine (L.out (⟨w4, s, a, ro, a.length, cr, w4.heap.size + 1⟩ : Rx) hWd _ (.at 0) _ hDs (Nat.zero_le _) HG.out).mono ?_
  rintro e w8 ⟨o, xs, m, bo, n1, c1, lo, ln, lc, f1, rfl, hV8, h8, hC8, hf⟩
  replace hC8 : Bux (w4.heap.size + 1) _ w8 := hC8
  have hF19 := (hF16.but hC8 (by omega)).keep (bal w8 (.cells #[.int .i64 o, .string xs, .int .i64 m, .slice bo n1 c1, .slice lo ln lc] 26))
  have hF29 := (hF26.but hC8 (by omega)).keep (bal w8 (.cells #[.int .i64 o, .string xs, .int .i64 m, .slice bo n1 c1, .slice lo ln lc] 26))
  have hP9 := (hP6.but hC8 (by omega)).keep (bal w8 (.cells #[.int .i64 o, .string xs, .int .i64 m, .slice bo n1 c1, .slice lo ln lc] 26))
  have hX9 := rb_new w8 #[.int .i64 o, .string xs, .int .i64 m, .slice bo n1 c1, .slice lo ln lc] 26
  have hs8 := hC8.size
  rw [World.size_alloc, World.size_alloc] at hs8
  have hb9 := bta (hb6.trans (hC8.below (by omega) (by rw [World.size_alloc, World.size_alloc]; omega))) (.cells #[.int .i64 o, .string xs, .int .i64 m, .slice bo n1 c1, .slice lo ln lc] 26)
  have h9 := h8.alloc (.cells #[.int .i64 o, .string xs, .int .i64 m, .slice bo n1 c1, .slice lo ln lc] 26)
  have EC := mkHid (dended_ok (X := (⟨w4, s, a, ro, a.length, cr, w4.heap.size + 1⟩ : Rx)) (w := w8.alloc (.cells #[.int .i64 o, .string xs, .int .i64 m, .slice bo n1 c1, .slice lo ln lc] 26)) (by rw [hr0] at h9; exact h9))
  dsimp only at EC
  have hff : f1 = f := of_is (q := a.length) (by rw [← hr0]; exact hf)
  subst hff
  go_wp2_with (fail)
  refine (EC.out).mono ?_
  rintro e w10 ⟨rfl, hC10⟩
  replace hC10 : Bux (w4.heap.size + 1) _ w10 := hC10
  have hF1b := hF19.but hC10 (by omega)
  have hF2b := hF29.but hC10 (by omega)
  have hP10 := hP9.but hC10 (by omega)
  have hX10 := hX9.but hC10 (by omega)
  have hs9 : (w8.alloc (.cells #[.int .i64 o, .string xs, .int .i64 m, .slice bo n1 c1, .slice lo ln lc] 26)).heap.size = w8.heap.size + 1 := World.size_alloc ..
  have hb10 := hb9.trans (hC10.below (by omega) (by omega))
  have hs10 := hC10.size
  rw [hs9] at hs10
  obtain ⟨q0, h0⟩ := txcell hP10 0 _ rfl
  obtain ⟨q1, h1⟩ := txcell hP10 1 _ rfl
  have hV10 := RdFn.keep (Hi.but hC10 (fun i (hi : _ ≤ i) => by rw [World.size_alloc, World.size_alloc] at hi; omega)) _ _ _ _ _ _ (RdFn.keep (Hi.of (bal w8 (.cells #[.int .i64 o, .string xs, .int .i64 m, .slice bo n1 c1, .slice lo ln lc] 26))) _ _ _ _ _ _ hV8)
  have hPx := rb_two hP10 rfl (.int .i64 0) (.int .i64 0)
  have hF1c := hF1b.st2 (X := w4.heap.size) (by omega) (.int .i64 0) (.int .i64 0)
  have hF2c := hF2b.st2 (X := w4.heap.size) (by omega) (.int .i64 0) (.int .i64 0)
  have hXc := hX10.st2 (X := w4.heap.size) (by omega) (.int .i64 0) (.int .i64 0)
  have hbc := bel_st2 hb10 (B := w4.heap.size) (by omega) (.int .i64 0) (.int .i64 0)
  have hVc := RdFn.keep (((Hi.refl (Ge ((w4.alloc (.cells zP 29)).alloc (.cells #[.slice ro a.length cr, .int .i64 0, .int .i64 0, .int .i64 0] 59)).heap.size) w10).set (g := w4.heap.size) (fun i (hi : _ ≤ i) => by rw [World.size_alloc, World.size_alloc] at hi; omega) 0 (.int .i64 0)).set (g := w4.heap.size) (fun i (hi : _ ≤ i) => by rw [World.size_alloc, World.size_alloc] at hi; omega) 1 (.int .i64 0)) _ _ _ _ _ _ hV10
  have hsz : ((w10.setCell ⟨w4.heap.size, 0, none⟩ (.int .i64 0)).setCell ⟨w4.heap.size, 1, none⟩ (.int .i64 0)).heap.size = w10.heap.size := by simp [World.setCell]
  obtain ⟨y0, -⟩ := txcell hX10 0 _ rfl
  obtain ⟨y1, -⟩ := txcell hX10 1 _ rfl
  obtain ⟨y2, -⟩ := txcell hX10 2 _ rfl
  obtain ⟨y3, -⟩ := txcell hX10 3 _ rfl
  obtain ⟨y4, -⟩ := txcell hX10 4 _ rfl
  go_wp2_with (fail)
  generalize (w10.setCell ⟨w4.heap.size, 0, none⟩ (.int .i64 0)).setCell ⟨w4.heap.size, 1, none⟩ (.int .i64 0) = w11 at hPx hF1c hF2c hXc hbc hVc hsz ⊢
  have CK := mkHid (fun wz hb => rcheck_at w11 f1 (.agg #[.int .i64 o, .string xs, .int .i64 m, .slice bo n1 c1, .slice lo ln lc]) wz ⟨_, _, _, _, _, rfl, hVc.plain⟩ hb)
  rw [hc] at CK
  refine (CK.out _ (Below.refl _ _)).mono ?_
  rintro e w12 ⟨rfl, hB12⟩
  have hPd := hPx.keep hB12
  have hF1d := hF1c.keep hB12
  have hF2d := hF2c.keep hB12
  have hXd := hXc.keep hB12
  have hbd := bt2 hbc hB12
  have hVd := RdFn.keep (Hi.of hB12) _ _ _ _ _ _ hVc
  clear y0 y1 y2 y3 y4 q0 q1 h0 h1
  obtain ⟨x0, -⟩ := txcell hPd 0 _ rfl
  obtain ⟨x1, -⟩ := txcell hPd 1 _ rfl
  obtain ⟨y0, -⟩ := txcell hXd 0 _ rfl
  obtain ⟨y1, -⟩ := txcell hXd 1 _ rfl
  obtain ⟨y2, -⟩ := txcell hXd 2 _ rfl
  obtain ⟨y3, -⟩ := txcell hXd 3 _ rfl
  obtain ⟨y4, -⟩ := txcell hXd 4 _ rfl
  obtain ⟨a0, g0⟩ := txcell hF1d 0 _ rfl
  obtain ⟨a1, g1⟩ := txcell hF1d 1 _ rfl
  obtain ⟨a2, g2⟩ := txcell hF1d 2 _ rfl
  obtain ⟨a3, g3⟩ := txcell hF1d 3 _ rfl
  obtain ⟨a4, g4⟩ := txcell hF1d 4 _ rfl
  obtain ⟨b0, f0⟩ := txcell hF2d 0 _ rfl
  obtain ⟨b1, f1⟩ := txcell hF2d 1 _ rfl
  go_wp2
  have hRa := (rb_five hF1d rfl (.int .i64 o) (.string xs) (.int .i64 m) (.slice bo n1 c1) (.slice lo ln lc)).st2 (X := w.heap.size + 1) (by omega) (.int .i64 0) (.int .i64 0)
  have hRb := rb_two (hF2d.st5 (X := w.heap.size) (by omega) (.int .i64 o) (.string xs) (.int .i64 m) (.slice bo n1 c1) (.slice lo ln lc)) rfl (.int .i64 0) (.int .i64 0)
  have hBz := bel_st2 (bel_st5 hbd (Nat.le_refl _) (.int .i64 o) (.string xs) (.int .i64 m) (.slice bo n1 c1) (.slice lo ln lc)) (Nat.le_succ _) (.int .i64 0) (.int .i64 0)
  have hge : ∀ i, Ge ((w4.alloc (.cells zP 29)).alloc (.cells #[.slice ro a.length cr, .int .i64 0, .int .i64 0, .int .i64 0] 59)).heap.size i → w.heap.size + 2 ≤ i := fun i (hi : _ ≤ i) => by rw [World.size_alloc, World.size_alloc] at hi; omega
  have hHi := ((Hi.st5 (P := Ge ((w4.alloc (.cells zP 29)).alloc (.cells #[.slice ro a.length cr, .int .i64 0, .int .i64 0, .int .i64 0] 59)).heap.size) (B := w.heap.size) (fun i hi => by have := hge i hi; omega) w12 (.int .i64 o) (.string xs) (.int .i64 m) (.slice bo n1 c1) (.slice lo ln lc)).set (g := w.heap.size + 1) (fun i hi => by have := hge i hi; omega) 0 (.int .i64 0)).set (g := w.heap.size + 1) (fun i hi => by have := hge i hi; omega) 1 (.int .i64 0)
  obtain ⟨k0, -⟩ := txcell hRa 0 _ rfl
  obtain ⟨k1, -⟩ := txcell hRa 1 _ rfl
  obtain ⟨k2, -⟩ := txcell hRa 2 _ rfl
  obtain ⟨k3, -⟩ := txcell hRa 3 _ rfl
  obtain ⟨k4, -⟩ := txcell hRa 4 _ rfl
  obtain ⟨l0, -⟩ := txcell hRb 0 _ rfl
  obtain ⟨l1, -⟩ := txcell hRb 1 _ rfl
  exact bodyPost_ret (v := .tuple #[.agg #[.int .i64 o, .string xs, .int .i64 m, .slice bo n1 c1, .slice lo ln lc], .agg #[.int .i64 0, .int .i64 0], .int .i64 0]) (by simp [results, Tryz.results6, go_sem, k0, k1, k2, k3, k4, l0, l1]) rfl ⟨_, rfl, ⟨_, _, _, _, _, _, _, _, _, rfl, (fun e => by cases e), fun f e => by cases e; exact RdFn.low (fun i _ hi => by have := hge i hi; show w.heap.size ≤ i; omega) _ _ _ _ _ _ (RdFn.keep hHi _ _ _ _ _ _ hVd)⟩, hBz⟩
/-- what the document's Formula answers -/
theorem dform_any (L0 : ∀ X : Rx, WdOk X.ws → DLev 0 X 0) {s : ByteArray} {o : Option Fm} {c b k : Nat} (h : An s o c b k) (w : World) (h64 : s.size ≤ 9223372036854775807) :
    Calls Tryz.prog 6 #[.string s] w fun e w' => ∃ v, e = .returned (.tuple #[v, .agg #[.int .i64 (b : Nat), .int .i64 (k : Nat)], .int .i64 (c : Nat)]) ∧ FmA w.heap.size w' o v ∧ Below w.heap.size w w' := by
  cases h with
  | long hl => exact (dform_fault s w 70 0 0 (by decide) (fun w => (rwords_long s w hl h64).mono fun e w' ⟨h1, h2⟩ => ⟨_, h1, h2⟩)).mono fun e w' ⟨h1, h2⟩ => ⟨_, h1, fma_none _ _, h2⟩
  | @lex a c p hs hl =>
    have hc := hl.cs (c := 0) (q := 0) _ _ rfl
    refine (dform_fault s w c b _ (by omega) (fun w => (rwords_at s a _ w hs hl).mono fun e w' h => ?_)).mono fun e w' ⟨h1, h2⟩ => ⟨_, h1, fma_none _ _, h2⟩
    obtain ⟨v, c', p', k', ws, h1, hA, _, h2⟩ := h
    rcases hA with ⟨e, _⟩ | ⟨e, rfl, _⟩
    · cases e
    · cases e; exact ⟨_, h1, h2⟩
  | @bad a y q hs hl hf =>
    cases hf with
    | bad h => exact (dform_bad L0 s w a _ hs hl (.no h) c q _ _ (.inl rfl) rfl rfl).mono fun e w' ⟨h1, h2⟩ => ⟨_, h1, fma_none _ _, h2⟩
    | rest h hq => exact (dform_bad L0 s w a _ hs hl (.ok h) 71 q _ _ (.inr ⟨_, rfl, hq, rfl, rfl⟩) rfl rfl).mono fun e w' ⟨h1, h2⟩ => ⟨_, h1, fma_none _ _, h2⟩
  | @many a f q hs hl hf hc =>
    cases hf with
    | ok h => exact (dform_many L0 s w a _ hs hl (.ok h) f _ rfl rfl hc).mono fun e w' ⟨h1, h2⟩ => ⟨_, h1, fma_none _ _, h2⟩
  | @ok a f q hs hl hf hc =>
    cases hf with
    | ok h => exact dform_ok L0 s w a _ hs hl (.ok h) f rfl hc
end Go.Proofs.YtabfhdmcljdjhaaGreatDoor.Gl
/- ParseFormulas, from what the document's level answers. -/
namespace Go.Proofs.YtabfhdmcljdjhaaGreatDoor.Gl
open Go.RowKit
set_option linter.unusedVariables false
set_option linter.unusedSimpArgs false

theorem An.ne {s : ByteArray} {c b k : Nat} (h : An s none c b k) : c ≠ 0 := by
  cases h with
  | long _ => decide
  | lex hs hl => have := hl.cs (c := 0) (q := 0) _ _ rfl; omega
  | bad hs hl hf =>
    cases hf with
    | bad h => rcases h.why _ _ rfl with e | e <;> rw [e] <;> decide
    | rest _ _ => decide
  | many _ _ _ hc => exact hc
set_option maxRecDepth 100000 in
set_option maxHeartbeats 4000000 in
theorem pforms_no (L0 : ∀ X : Rx, WdOk X.ws → DLev 0 X 0) (s : ByteArray) (c b k : Nat) (w : World) (h : An s none c b k) (hS : Sg w) (h64 : s.size ≤ 9223372036854775807) :
    Calls Tryz.prog 3 #[.string s] w fun e w' => e = .returned (.bool true) ∧ Below w.heap.size w w' := by
  have hc0 := h.ne
  have hc' : ((c : Int) == 0) = false := by rw [beq_eq_false_iff_ne]; omega
  have hc2 : ¬ (c : Int) = 0 := by omega
  have TA := mkHid (fun w1 (hS : Sg w1) => formula_any h w1 hS h64)
  have TB := mkHid (fun w1 => dform_any L0 h w1 h64)
  clear h
  go_enter Tryz.func3, Tryz.ntmps3
  go_wp2_with (fail)
  refine (TA.out _ hS).mono ?_
  rintro e w2 ⟨v, rfl, ⟨op, xs, m, bo, n1, c1, lo, ln, lc, rfl, hno, hso⟩, hB2⟩
  obtain ⟨rfl, rfl, rfl, rfl, rfl, rfl, rfl, rfl, rfl⟩ : op = 0 ∧ xs = emp ∧ m = 0 ∧ bo = none ∧ n1 = 0 ∧ c1 = 0 ∧ lo = none ∧ ln = 0 ∧ lc = 0 := by have := hno rfl; simpa [and_assoc] using this
  obtain ⟨hX3, hX4⟩ := rb_two_new w2 #[.int .i64 0, .string emp, .int .i64 0, .slice none 0 0, .slice none 0 0] #[.int .i64 (c : Nat), .int .i64 (b : Nat), .int .i64 (k : Nat)] 26 31
  have hb2 := bta (bta hB2 (.cells #[.int .i64 0, .string emp, .int .i64 0, .slice none 0 0, .slice none 0 0] 26)) (.cells #[.int .i64 (c : Nat), .int .i64 (b : Nat), .int .i64 (k : Nat)] 31)
  have hB2z : Below w2.heap.size w2 ((w2.alloc (.cells #[.int .i64 0, .string emp, .int .i64 0, .slice none 0 0, .slice none 0 0] 26)).alloc (.cells #[.int .i64 (c : Nat), .int .i64 (b : Nat), .int .i64 (k : Nat)] 31)) := bta (bal w2 _) _
  go_wp2_with (fail)
  refine (TB.out _).mono ?_
  rintro e w3 ⟨v3, rfl, ⟨op3, xs3, m3, bo3, n13, c13, lo3, ln3, lc3, rfl, hno3, hso3⟩, hB3⟩
  obtain ⟨rfl, rfl, rfl, rfl, rfl, rfl, rfl, rfl, rfl⟩ : op3 = 0 ∧ xs3 = emp ∧ m3 = 0 ∧ bo3 = none ∧ n13 = 0 ∧ c13 = 0 ∧ lo3 = none ∧ ln3 = 0 ∧ lc3 = 0 := by have := hno3 rfl; simpa [and_assoc] using this
  obtain ⟨hX5, hX6⟩ := rb_two_new w3 #[.int .i64 0, .string emp, .int .i64 0, .slice none 0 0, .slice none 0 0] #[.int .i64 (b : Nat), .int .i64 (k : Nat)] 26 29
  have hX3a := ((hX3.keep hB3).keep (bal w3 (.cells #[.int .i64 0, .string emp, .int .i64 0, .slice none 0 0, .slice none 0 0] 26))).keep (bal _ (.cells #[.int .i64 (b : Nat), .int .i64 (k : Nat)] 29))
  have hX4a := ((hX4.keep hB3).keep (bal w3 (.cells #[.int .i64 0, .string emp, .int .i64 0, .slice none 0 0, .slice none 0 0] 26))).keep (bal _ (.cells #[.int .i64 (b : Nat), .int .i64 (k : Nat)] 29))
  have hb3 := bta (bta (bt2 hb2 hB3) (.cells #[.int .i64 0, .string emp, .int .i64 0, .slice none 0 0, .slice none 0 0] 26)) (.cells #[.int .i64 (b : Nat), .int .i64 (k : Nat)] 29)
  have hB3z : Below w3.heap.size w3 ((w3.alloc (.cells #[.int .i64 0, .string emp, .int .i64 0, .slice none 0 0, .slice none 0 0] 26)).alloc (.cells #[.int .i64 (b : Nat), .int .i64 (k : Nat)] 29)) := bta (bal w3 _) _
  go_wp2_with (fail)
  refine (lfixed_at _ (hS.below hb3)).mono ?_
  rintro e w4 ⟨rfl, hB4⟩
  have hX3b := hX3a.keep hB4
  have hX4b := hX4a.keep hB4
  have hX5b := hX5.keep hB4
  have hX6b := hX6.keep hB4
  have hb4 := bt2 hb3 hB4
  have hs2 := hB2.size
  have hs3 := hB3.size
  rw [World.size_alloc, World.size_alloc] at hs3
  have hs4 := hB4.size
  rw [World.size_alloc, World.size_alloc] at hs4
  obtain ⟨a0, -⟩ := txcell hX3b 0 _ rfl
  obtain ⟨a1, -⟩ := txcell hX3b 1 _ rfl
  obtain ⟨a2, -⟩ := txcell hX3b 2 _ rfl
  obtain ⟨a3, -⟩ := txcell hX3b 3 _ rfl
  obtain ⟨a4, -⟩ := txcell hX3b 4 _ rfl
  obtain ⟨b0, f0⟩ := txcell hX4b 0 _ rfl
  obtain ⟨b1, f1⟩ := txcell hX4b 1 _ rfl
  obtain ⟨b2, f2⟩ := txcell hX4b 2 _ rfl
  obtain ⟨d0, -⟩ := txcell hX5b 0 _ rfl
  obtain ⟨d1, -⟩ := txcell hX5b 1 _ rfl
  obtain ⟨d2, -⟩ := txcell hX5b 2 _ rfl
  obtain ⟨d3, -⟩ := txcell hX5b 3 _ rfl
  obtain ⟨d4, -⟩ := txcell hX5b 4 _ rfl
  obtain ⟨e0, -⟩ := txcell hX6b 0 _ rfl
  obtain ⟨e1, -⟩ := txcell hX6b 1 _ rfl
  go_wp2_with (fail)
  refine (lempty_at _).mono ?_
  rintro e w9 ⟨rfl, hB9⟩
  go_wp2
  go_ret
  exact ⟨rfl, bt2 hb4 hB9⟩
set_option maxRecDepth 100000 in
set_option maxHeartbeats 4000000 in
theorem pforms_ok (L0 : ∀ X : Rx, WdOk X.ws → DLev 0 X 0) (s : ByteArray) (f : Fm) (w : World) (h : An s (some f) 0 0 0) (hS : Sg w) (h64 : s.size ≤ 9223372036854775807) (hc : chk nmB f = 0) :
    Calls Tryz.prog 3 #[.string s] w fun e w' => e = .returned (.bool true) ∧ Below w.heap.size w w' := by
  have TA := mkHid (fun w1 (hS : Sg w1) => formula_any h w1 hS h64)
  have TB := mkHid (fun w1 => dform_any L0 h w1 h64)
  have CK := mkHid (fun W u (hu : FmV W f u) w1 h => rcheck_at W f u w1 hu h)
  have SM := mkHid (fun W v u (hv : FmV W f v) (hu : FmV W f u) w1 h => rsameF_at W f f v u w1 hv hu h)
  have hee : eqB f f = true := eqB_yes rfl
  rw [hee] at SM
  rw [hc] at CK
  clear h hee
  go_enter Tryz.func3, Tryz.ntmps3
  go_wp2_with (fail)
  refine (TA.out _ hS).mono ?_
  rintro e w2 ⟨v, rfl, ⟨op, xs, m, bo, n1, c1, lo, ln, lc, rfl, hno, hso⟩, hB2⟩
  have HU := mkHid (hso f rfl).plain
  obtain ⟨hX3, hX4⟩ := rb_two_new w2 #[.int .i64 op, .string xs, .int .i64 m, .slice bo n1 c1, .slice lo ln lc] #[.int .i64 0, .int .i64 0, .int .i64 0] 26 31
  have hb2 := bta (bta hB2 (.cells #[.int .i64 op, .string xs, .int .i64 m, .slice bo n1 c1, .slice lo ln lc] 26)) (.cells #[.int .i64 0, .int .i64 0, .int .i64 0] 31)
  have hB2z : Below w2.heap.size w2 ((w2.alloc (.cells #[.int .i64 op, .string xs, .int .i64 m, .slice bo n1 c1, .slice lo ln lc] 26)).alloc (.cells #[.int .i64 0, .int .i64 0, .int .i64 0] 31)) := bta (bal w2 _) _
  go_wp2_with (fail)
  refine (TB.out _).mono ?_
  rintro e w3 ⟨v3, rfl, ⟨op3, xs3, m3, bo3, n13, c13, lo3, ln3, lc3, rfl, hno3, hso3⟩, hB3⟩
  have HV := mkHid (hso3 f rfl).plain
  obtain ⟨hX5, hX6⟩ := rb_two_new w3 #[.int .i64 op3, .string xs3, .int .i64 m3, .slice bo3 n13 c13, .slice lo3 ln3 lc3] #[.int .i64 0, .int .i64 0] 26 29
  have hX3a := ((hX3.keep hB3).keep (bal w3 (.cells #[.int .i64 op3, .string xs3, .int .i64 m3, .slice bo3 n13 c13, .slice lo3 ln3 lc3] 26))).keep (bal _ (.cells #[.int .i64 0, .int .i64 0] 29))
  have hX4a := ((hX4.keep hB3).keep (bal w3 (.cells #[.int .i64 op3, .string xs3, .int .i64 m3, .slice bo3 n13 c13, .slice lo3 ln3 lc3] 26))).keep (bal _ (.cells #[.int .i64 0, .int .i64 0] 29))
  have hb3 := bta (bta (bt2 hb2 hB3) (.cells #[.int .i64 op3, .string xs3, .int .i64 m3, .slice bo3 n13 c13, .slice lo3 ln3 lc3] 26)) (.cells #[.int .i64 0, .int .i64 0] 29)
  have hB3z : Below w3.heap.size w3 ((w3.alloc (.cells #[.int .i64 op3, .string xs3, .int .i64 m3, .slice bo3 n13 c13, .slice lo3 ln3 lc3] 26)).alloc (.cells #[.int .i64 0, .int .i64 0] 29)) := bta (bal w3 _) _
  go_wp2_with (fail)
  refine (lfixed_at _ (hS.below hb3)).mono ?_
  rintro e w4 ⟨rfl, hB4⟩
  have hX3b := hX3a.keep hB4
  have hX4b := hX4a.keep hB4
  have hX5b := hX5.keep hB4
  have hX6b := hX6.keep hB4
  have hb4 := bt2 hb3 hB4
  have hs2 := hB2.size
  have hs3 := hB3.size
  rw [World.size_alloc, World.size_alloc] at hs3
  have hs4 := hB4.size
  rw [World.size_alloc, World.size_alloc] at hs4
  obtain ⟨a0, -⟩ := txcell hX3b 0 _ rfl
  obtain ⟨a1, -⟩ := txcell hX3b 1 _ rfl
  obtain ⟨a2, -⟩ := txcell hX3b 2 _ rfl
  obtain ⟨a3, -⟩ := txcell hX3b 3 _ rfl
  obtain ⟨a4, -⟩ := txcell hX3b 4 _ rfl
  obtain ⟨b0, f0⟩ := txcell hX4b 0 _ rfl
  obtain ⟨b1, f1⟩ := txcell hX4b 1 _ rfl
  obtain ⟨b2, f2⟩ := txcell hX4b 2 _ rfl
  obtain ⟨d0, -⟩ := txcell hX5b 0 _ rfl
  obtain ⟨d1, -⟩ := txcell hX5b 1 _ rfl
  obtain ⟨d2, -⟩ := txcell hX5b 2 _ rfl
  obtain ⟨d3, -⟩ := txcell hX5b 3 _ rfl
  obtain ⟨d4, -⟩ := txcell hX5b 4 _ rfl
  obtain ⟨e0, -⟩ := txcell hX6b 0 _ rfl
  obtain ⟨e1, -⟩ := txcell hX6b 1 _ rfl
  have hB24 : Below w2.heap.size w2 w4 := bt2 (bta (bta (bt2 hB2z hB3) (.cells #[.int .i64 op3, .string xs3, .int .i64 m3, .slice bo3 n13 c13, .slice lo3 ln3 lc3] 26)) (.cells #[.int .i64 0, .int .i64 0] 29)) hB4
  have U4 := mkHid (⟨_, _, _, _, _, rfl, RdF.kept hB24 _ _ _ _ _ _ HU.out⟩ : FmV w4 f (.agg #[.int .i64 op, .string xs, .int .i64 m, .slice bo n1 c1, .slice lo ln lc]))
  have V4 := mkHid (⟨_, _, _, _, _, rfl, RdF.kept (bt2 hB3z hB4) _ _ _ _ _ _ HV.out⟩ : FmV w4 f (.agg #[.int .i64 op3, .string xs3, .int .i64 m3, .slice bo3 n13 c13, .slice lo3 ln3 lc3]))
  go_wp2_with (fail)
  refine (CK.out w4 _ U4.out _ (Below.refl _ _)).mono ?_
  rintro e w5 ⟨rfl, hB5⟩
  have j3 := hX3b.keep hB5
  have j5 := hX5b.keep hB5
  clear a0 a1 a2 a3 a4 b0 b1 b2 d0 d1 d2 d3 d4 e0 e1
  obtain ⟨y0, -⟩ := txcell j3 0 _ rfl
  obtain ⟨y1, -⟩ := txcell j3 1 _ rfl
  obtain ⟨y2, -⟩ := txcell j3 2 _ rfl
  obtain ⟨y3, -⟩ := txcell j3 3 _ rfl
  obtain ⟨y4, -⟩ := txcell j3 4 _ rfl
  obtain ⟨z0, -⟩ := txcell j5 0 _ rfl
  obtain ⟨z1, -⟩ := txcell j5 1 _ rfl
  obtain ⟨z2, -⟩ := txcell j5 2 _ rfl
  obtain ⟨z3, -⟩ := txcell j5 3 _ rfl
  obtain ⟨z4, -⟩ := txcell j5 4 _ rfl
  go_wp2_with (fail)
  refine (SM.out w4 _ _ U4.out V4.out _ hB5).mono ?_
  rintro e w6 ⟨rfl, hB6⟩
  go_wp2
  go_ret
  exact ⟨rfl, bt2 (bt2 hb4 hB5) hB6⟩
theorem pforms_walk (L0 : ∀ X : Rx, WdOk X.ws → DLev 0 X 0) (s : ByteArray) (w : World) (hS : Sg w) (h64 : s.size ≤ 9223372036854775807) :
    Calls Tryz.prog 3 #[.string s] w fun e w' => e = .returned (.bool true) ∧ Below w.heap.size w w' := by
  obtain ⟨o, c, b, k, h⟩ := An.ex s
  cases o with
  | none => exact pforms_no L0 s c b k w h hS h64
  | some f =>
    cases h with
    | ok hs hl hf hc => exact pforms_ok L0 s f w (.ok hs hl hf hc) hS h64 hc
end Go.Proofs.YtabfhdmcljdjhaaGreatDoor.Gl
