/- The document's Term: a tree that is checked; what it answers. -/
import Derived.Test.YtabfhdmcljdjhaaGreatDoorDcJ
import Derived.Test.YtabfhdmcljdjhaaGreatDoorGlN
import Derived.Test.YtabfhdmcljdjhaaGreatDoorPcA
namespace Go.Proofs.YtabfhdmcljdjhaaGreatDoor.Gl
open Go.RowKit
set_option linter.unusedVariables false
set_option linter.unusedSimpArgs false

set_option maxRecDepth 100000 in
set_option maxHeartbeats 4000000 in
theorem dterm_many (s : ByteArray) (w : World) (a : List Wd) (r0 : Out Tm) (hsz : s.size ≤ 4096) (hlx : Lx s 0 a none) (hGF : GT a .sum (.at 0) r0)
    (f : Tm) (c : Nat) (hr0 : r0 = .ok f a.length) (hc : chkT nmB f = c) (hc0 : c ≠ 0) :
    Calls Tryz.prog 12 #[.string s] w fun e w' => e = .returned (.tuple #[nilT, .agg #[.int .i64 0, .int .i64 0], .int .i64 (c : Nat)]) ∧ Below w.heap.size w w' := by
  have hc' : ((c : Int) == 0) = false := by rw [beq_eq_false_iff_ne]; omega
  have hc2 : ¬ (c : Int) = 0 := by omega
  have LW := mkHid (fun w => rwords_at s a none w hsz hlx)
  have hWd := hlx.wdok hsz
  have hal : a.length ≤ 4096 := by have := (hlx.fine hsz).2; omega
  have hB2 : Below w.heap.size w ((w.alloc (.cells zT 43)).alloc (.cells zP 29)) := bta (bal w _) _
  have hF1 : Rb ((w.alloc (.cells zT 43)).alloc (.cells zP 29)) w.heap.size zT 43 := (rb_new w zT 43).keep (bal _ _)
  have hF2 : Rb ((w.alloc (.cells zT 43)).alloc (.cells zP 29)) (w.heap.size + 1) zP 29 := by
    have := rb_new (w.alloc (.cells zT 43)) zP 29
    rwa [World.size_alloc] at this
  have HG := mkHid hGF
  clear hlx hGF
  go_enter Tryz.func12, Tryz.ntmps12
  go_wp2_with (fail)
  refine (LW.out _).mono ?_
  rintro e w4 ⟨v, c0, p0, k0, ws, rfl, hA, hO4, hB4⟩
  obtain ⟨rfl, rfl, rfl, rfl⟩ := ans_none hA
  rw [List.length_map] at hO4
  obtain ⟨ro, cr, rfl, hRd⟩ := rdw_of_owns (n := a.length) (by simp) hO4
  have hTx : TxW w4 s a ro a.length cr := ⟨hRd, hal⟩
  have hs4 := hB4.size
  rw [World.size_alloc, World.size_alloc] at hs4
  have hP5 := rb_new w4 zP 29
  have hR6 := rb_new (w4.alloc (.cells zP 29)) #[.slice ro a.length cr, .int .i64 0, .int .i64 0, .int .i64 0] 59
  rw [World.size_alloc] at hR6
  have hDs := Ds.start hTx (Nat.le_succ _) (bta (bal w4 (.cells zP 29)) (.cells #[.slice ro a.length cr, .int .i64 0, .int .i64 0, .int .i64 0] 59)) hR6
  have hP6 := hP5.keep (bal _ (.cells #[.slice ro a.length cr, .int .i64 0, .int .i64 0, .int .i64 0] 59))
  have hF16 := ((hF1.keep hB4).keep (bal _ (.cells zP 29))).keep (bal _ (.cells #[.slice ro a.length cr, .int .i64 0, .int .i64 0, .int .i64 0] 59))
  have hF26 := ((hF2.keep hB4).keep (bal _ (.cells zP 29))).keep (bal _ (.cells #[.slice ro a.length cr, .int .i64 0, .int .i64 0, .int .i64 0] 59))
  have hb6 := bta (bta (bt2 hB2 hB4) (.cells zP 29)) (.cells #[.slice ro a.length cr, .int .i64 0, .int .i64 0, .int .i64 0] 59)
  go_wp2_with (fail)
  refine (dsum_all (X := (⟨w4, s, a, ro, a.length, cr, w4.heap.size + 1⟩ : Rx)) hWd _ (.at 0) _ hDs (Nat.zero_le _) HG.out).mono ?_
  rintro e w8 ⟨o, m, xs, lo, ln, lc, f1, rfl, hV8, h8, hC8, hf⟩
  replace hC8 : Bux (w4.heap.size + 1) _ w8 := hC8
  have hF19 := (hF16.but hC8 (by omega)).keep (bal w8 (.cells #[.int .i64 o, .int .i64 m, .string xs, .slice lo ln lc] 43))
  have hF29 := (hF26.but hC8 (by omega)).keep (bal w8 (.cells #[.int .i64 o, .int .i64 m, .string xs, .slice lo ln lc] 43))
  have hP9 := (hP6.but hC8 (by omega)).keep (bal w8 (.cells #[.int .i64 o, .int .i64 m, .string xs, .slice lo ln lc] 43))
  have hX9 := rb_new w8 #[.int .i64 o, .int .i64 m, .string xs, .slice lo ln lc] 43
  have hs8 := hC8.size
  rw [World.size_alloc, World.size_alloc] at hs8
  have hb9 := bta (hb6.trans (hC8.below (by omega) (by rw [World.size_alloc, World.size_alloc]; omega))) (.cells #[.int .i64 o, .int .i64 m, .string xs, .slice lo ln lc] 43)
  have h9 := h8.alloc (.cells #[.int .i64 o, .int .i64 m, .string xs, .slice lo ln lc] 43)
  have EC := mkHid (dended_ok (X := (⟨w4, s, a, ro, a.length, cr, w4.heap.size + 1⟩ : Rx)) (w := w8.alloc (.cells #[.int .i64 o, .int .i64 m, .string xs, .slice lo ln lc] 43)) (by rw [hr0] at h9; exact h9))
  dsimp only at EC
  have hff : f1 = f := of_is (q := a.length) (by rw [← hr0]; exact hf)
  subst hff
  go_wp2_with (fail)
  refine (EC.out).mono ?_
  rintro e w10 ⟨rfl, hC10⟩
  replace hC10 : Bux (w4.heap.size + 1) _ w10 := hC10
  have hF1b := hF19.but hC10 (by omega)
  have hF2b := hF29.but hC10 (by omega)
  have hP10 := hP9.but hC10 (by omega)
  have hX10 := hX9.but hC10 (by omega)
  have hs9 : (w8.alloc (.cells #[.int .i64 o, .int .i64 m, .string xs, .slice lo ln lc] 43)).heap.size = w8.heap.size + 1 := World.size_alloc ..
  have hb10 := hb9.trans (hC10.below (by omega) (by omega))
  have hs10 := hC10.size
  rw [hs9] at hs10
  obtain ⟨q0, h0⟩ := txcell hP10 0 _ rfl
  obtain ⟨q1, h1⟩ := txcell hP10 1 _ rfl
  have hV10 := RdTn.keep (Hi.but hC10 (fun i (hi : _ ≤ i) => by rw [World.size_alloc, World.size_alloc] at hi; omega)) _ _ _ _ _ (RdTn.keep (Hi.of (bal w8 (.cells #[.int .i64 o, .int .i64 m, .string xs, .slice lo ln lc] 43))) _ _ _ _ _ hV8)
  have hPx := rb_two hP10 rfl (.int .i64 0) (.int .i64 0)
  have hF1c := hF1b.st2 (X := w4.heap.size) (by omega) (.int .i64 0) (.int .i64 0)
  have hF2c := hF2b.st2 (X := w4.heap.size) (by omega) (.int .i64 0) (.int .i64 0)
  have hXc := hX10.st2 (X := w4.heap.size) (by omega) (.int .i64 0) (.int .i64 0)
  have hbc := bel_st2 hb10 (B := w4.heap.size) (by omega) (.int .i64 0) (.int .i64 0)
  have hVc := RdTn.keep (((Hi.refl (Ge ((w4.alloc (.cells zP 29)).alloc (.cells #[.slice ro a.length cr, .int .i64 0, .int .i64 0, .int .i64 0] 59)).heap.size) w10).set (g := w4.heap.size) (fun i (hi : _ ≤ i) => by rw [World.size_alloc, World.size_alloc] at hi; omega) 0 (.int .i64 0)).set (g := w4.heap.size) (fun i (hi : _ ≤ i) => by rw [World.size_alloc, World.size_alloc] at hi; omega) 1 (.int .i64 0)) _ _ _ _ _ hV10
  have hsz : ((w10.setCell ⟨w4.heap.size, 0, none⟩ (.int .i64 0)).setCell ⟨w4.heap.size, 1, none⟩ (.int .i64 0)).heap.size = w10.heap.size := by simp [World.setCell]
  obtain ⟨y0, -⟩ := txcell hX10 0 _ rfl
  obtain ⟨y1, -⟩ := txcell hX10 1 _ rfl
  obtain ⟨y2, -⟩ := txcell hX10 2 _ rfl
  obtain ⟨y3, -⟩ := txcell hX10 3 _ rfl
  go_wp2_with (fail)
  generalize (w10.setCell ⟨w4.heap.size, 0, none⟩ (.int .i64 0)).setCell ⟨w4.heap.size, 1, none⟩ (.int .i64 0) = w11 at hPx hF1c hF2c hXc hbc hVc hsz ⊢
  have CK := mkHid (fun wz hb => rcheckT_at w11 f1 (.agg #[.int .i64 o, .int .i64 m, .string xs, .slice lo ln lc]) wz ⟨_, _, _, _, rfl, hVc.plain⟩ hb)
  rw [hc] at CK
  refine (CK.out _ (Below.refl _ _)).mono ?_
  rintro e w12 ⟨rfl, hB12⟩
  have hPd := hPx.keep hB12
  have hF1d := hF1c.keep hB12
  have hF2d := hF2c.keep hB12
  have hXd := hXc.keep hB12
  have hbd := bt2 hbc hB12
  have hVd := RdTn.keep (Hi.of hB12) _ _ _ _ _ hVc
  clear y0 y1 y2 y3 q0 q1 h0 h1
  obtain ⟨x0, -⟩ := txcell hPd 0 _ rfl
  obtain ⟨x1, -⟩ := txcell hPd 1 _ rfl
  obtain ⟨y0, -⟩ := txcell hXd 0 _ rfl
  obtain ⟨y1, -⟩ := txcell hXd 1 _ rfl
  obtain ⟨y2, -⟩ := txcell hXd 2 _ rfl
  obtain ⟨y3, -⟩ := txcell hXd 3 _ rfl
  go_wp2_with (fail)
  obtain ⟨a0, g0⟩ := txcell hF1d 0 _ rfl
  obtain ⟨a1, g1⟩ := txcell hF1d 1 _ rfl
  obtain ⟨a2, g2⟩ := txcell hF1d 2 _ rfl
  obtain ⟨a3, g3⟩ := txcell hF1d 3 _ rfl
  obtain ⟨b0, f0⟩ := txcell hF2d 0 _ rfl
  obtain ⟨b1, f1⟩ := txcell hF2d 1 _ rfl
  have hRa := (rb_four hF1d rfl (.int .i64 0) (.int .i64 0) (.string emp) (.slice none 0 0)).st2 (X := w.heap.size + 1) (by omega) (.int .i64 0) (.int .i64 0)
  have hRb := rb_two (hF2d.st4 (X := w.heap.size) (by omega) (.int .i64 0) (.int .i64 0) (.string emp) (.slice none 0 0)) rfl (.int .i64 0) (.int .i64 0)
  have hBz := bel_st2 (bel_st4 hbd (Nat.le_refl _) (.int .i64 0) (.int .i64 0) (.string emp) (.slice none 0 0)) (Nat.le_succ _) (.int .i64 0) (.int .i64 0)
  obtain ⟨k0, -⟩ := txcell hRa 0 _ rfl
  obtain ⟨k1, -⟩ := txcell hRa 1 _ rfl
  obtain ⟨k2, -⟩ := txcell hRa 2 _ rfl
  obtain ⟨k3, -⟩ := txcell hRa 3 _ rfl
  obtain ⟨l0, -⟩ := txcell hRb 0 _ rfl
  obtain ⟨l1, -⟩ := txcell hRb 1 _ rfl
  go_region_with (fail)
  all_goals
    go_wp2
    exact bodyPost_ret (v := .tuple #[nilT, .agg #[.int .i64 0, .int .i64 0], .int .i64 (c : Nat)]) (by simp [results, Tryz.results12, go_sem, k0, k1, k2, k3, l0, l1]) rfl ⟨rfl, hBz.drew⟩
set_option maxRecDepth 100000 in
set_option maxHeartbeats 4000000 in
theorem dterm_ok (s : ByteArray) (w : World) (a : List Wd) (r0 : Out Tm) (hsz : s.size ≤ 4096) (hlx : Lx s 0 a none) (hGF : GT a .sum (.at 0) r0)
    (f : Tm) (hr0 : r0 = .ok f a.length) (hc : chkT nmB f = 0) :
    Calls Tryz.prog 12 #[.string s] w fun e w' => ∃ v, e = .returned (.tuple #[v, .agg #[.int .i64 0, .int .i64 0], .int .i64 0]) ∧ TmA w.heap.size w' (some f) v ∧ Below w.heap.size w w' := by
  have LW := mkHid (fun w => rwords_at s a none w hsz hlx)
  have hWd := hlx.wdok hsz
  have hal : a.length ≤ 4096 := by have := (hlx.fine hsz).2; omega
  have hB2 : Below w.heap.size w ((w.alloc (.cells zT 43)).alloc (.cells zP 29)) := bta (bal w _) _
  have hF1 : Rb ((w.alloc (.cells zT 43)).alloc (.cells zP 29)) w.heap.size zT 43 := (rb_new w zT 43).keep (bal _ _)
  have hF2 : Rb ((w.alloc (.cells zT 43)).alloc (.cells zP 29)) (w.heap.size + 1) zP 29 := by
    have := rb_new (w.alloc (.cells zT 43)) zP 29
    rwa [World.size_alloc] at this
  have HG := mkHid hGF
  clear hlx hGF
  go_enter Tryz.func12, Tryz.ntmps12
  go_wp2_with (fail)
  refine (LW.out _).mono ?_
  rintro e w4 ⟨v, c0, p0, k0, ws, rfl, hA, hO4, hB4⟩
  obtain ⟨rfl, rfl, rfl, rfl⟩ := ans_none hA
  rw [List.length_map] at hO4
  obtain ⟨ro, cr, rfl, hRd⟩ := rdw_of_owns (n := a.length) (by simp) hO4
  have hTx : TxW w4 s a ro a.length cr := ⟨hRd, hal⟩
  have hs4 := hB4.size
  rw [World.size_alloc, World.size_alloc] at hs4
  have hP5 := rb_new w4 zP 29
  have hR6 := rb_new (w4.alloc (.cells zP 29)) #[.slice ro a.length cr, .int .i64 0, .int .i64 0, .int .i64 0] 59
  rw [World.size_alloc] at hR6
  have hDs := Ds.start hTx (Nat.le_succ _) (bta (bal w4 (.cells zP 29)) (.cells #[.slice ro a.length cr, .int .i64 0, .int .i64 0, .int .i64 0] 59)) hR6
  have hP6 := hP5.keep (bal _ (.cells #[.slice ro a.length cr, .int .i64 0, .int .i64 0, .int .i64 0] 59))
  have hF16 := ((hF1.keep hB4).keep (bal _ (.cells zP 29))).keep (bal _ (.cells #[.slice ro a.length cr, .int .i64 0, .int .i64 0, .int .i64 0] 59))
  have hF26 := ((hF2.keep hB4).keep (bal _ (.cells zP 29))).keep (bal _ (.cells #[.slice ro a.length cr, .int .i64 0, .int .i64 0, .int .i64 0] 59))
  have hb6 := bta (bta (bt2 hB2 hB4) (.cells zP 29)) (.cells #[.slice ro a.length cr, .int .i64 0, .int .i64 0, .int .i64 0] 59)
  go_wp2_with (fail)
  refine (dsum_all (X := (⟨w4, s, a, ro, a.length, cr, w4.heap.size + 1⟩ : Rx)) hWd _ (.at 0) _ hDs (Nat.zero_le _) HG.out).mono ?_
  rintro e w8 ⟨o, m, xs, lo, ln, lc, f1, rfl, hV8, h8, hC8, hf⟩
  replace hC8 : Bux (w4.heap.size + 1) _ w8 := hC8
  have hF19 := (hF16.but hC8 (by omega)).keep (bal w8 (.cells #[.int .i64 o, .int .i64 m, .string xs, .slice lo ln lc] 43))
  have hF29 := (hF26.but hC8 (by omega)).keep (bal w8 (.cells #[.int .i64 o, .int .i64 m, .string xs, .slice lo ln lc] 43))
  have hP9 := (hP6.but hC8 (by omega)).keep (bal w8 (.cells #[.int .i64 o, .int .i64 m, .string xs, .slice lo ln lc] 43))
  have hX9 := rb_new w8 #[.int .i64 o, .int .i64 m, .string xs, .slice lo ln lc] 43
  have hs8 := hC8.size
  rw [World.size_alloc, World.size_alloc] at hs8
  have hb9 := bta (hb6.trans (hC8.below (by omega) (by rw [World.size_alloc, World.size_alloc]; omega))) (.cells #[.int .i64 o, .int .i64 m, .string xs, .slice lo ln lc] 43)
  have h9 := h8.alloc (.cells #[.int .i64 o, .int .i64 m, .string xs, .slice lo ln lc] 43)
  have EC := mkHid (dended_ok (X := (⟨w4, s, a, ro, a.length, cr, w4.heap.size + 1⟩ : Rx)) (w := w8.alloc (.cells #[.int .i64 o, .int .i64 m, .string xs, .slice lo ln lc] 43)) (by rw [hr0] at h9; exact h9))
  dsimp only at EC
  have hff : f1 = f := of_is (q := a.length) (by rw [← hr0]; exact hf)
  subst hff
  go_wp2_with (fail)
  refine (EC.out).mono ?_
  rintro e w10 ⟨rfl, hC10⟩
  replace hC10 : Bux (w4.heap.size + 1) _ w10 := hC10
  have hF1b := hF19.but hC10 (by omega)
  have hF2b := hF29.but hC10 (by omega)
  have hP10 := hP9.but hC10 (by omega)
  have hX10 := hX9.but hC10 (by omega)
  have hs9 : (w8.alloc (.cells #[.int .i64 o, .int .i64 m, .string xs, .slice lo ln lc] 43)).heap.size = w8.heap.size + 1 := World.size_alloc ..
  have hb10 := hb9.trans (hC10.below (by omega) (by omega))
  have hs10 := hC10.size
  rw [hs9] at hs10
  obtain ⟨q0, h0⟩ := txcell hP10 0 _ rfl
  obtain ⟨q1, h1⟩ := txcell hP10 1 _ rfl
  have hV10 := RdTn.keep (Hi.but hC10 (fun i (hi : _ ≤ i) => by rw [World.size_alloc, World.size_alloc] at hi; omega)) _ _ _ _ _ (RdTn.keep (Hi.of (bal w8 (.cells #[.int .i64 o, .int .i64 m, .string xs, .slice lo ln lc] 43))) _ _ _ _ _ hV8)
  have hPx := rb_two hP10 rfl (.int .i64 0) (.int .i64 0)
  have hF1c := hF1b.st2 (X := w4.heap.size) (by omega) (.int .i64 0) (.int .i64 0)
  have hF2c := hF2b.st2 (X := w4.heap.size) (by omega) (.int .i64 0) (.int .i64 0)
  have hXc := hX10.st2 (X := w4.heap.size) (by omega) (.int .i64 0) (.int .i64 0)
  have hbc := bel_st2 hb10 (B := w4.heap.size) (by omega) (.int .i64 0) (.int .i64 0)
  have hVc := RdTn.keep (((Hi.refl (Ge ((w4.alloc (.cells zP 29)).alloc (.cells #[.slice ro a.length cr, .int .i64 0, .int .i64 0, .int .i64 0] 59)).heap.size) w10).set (g := w4.heap.size) (fun i (hi : _ ≤ i) => by rw [World.size_alloc, World.size_alloc] at hi; omega) 0 (.int .i64 0)).set (g := w4.heap.size) (fun i (hi : _ ≤ i) => by rw [World.size_alloc, World.size_alloc] at hi; omega) 1 (.int .i64 0)) _ _ _ _ _ hV10
  have hsz : ((w10.setCell ⟨w4.heap.size, 0, none⟩ (.int .i64 0)).setCell ⟨w4.heap.size, 1, none⟩ (.int .i64 0)).heap.size = w10.heap.size := by simp [World.setCell]
  obtain ⟨y0, -⟩ := txcell hX10 0 _ rfl
  obtain ⟨y1, -⟩ := txcell hX10 1 _ rfl
  obtain ⟨y2, -⟩ := txcell hX10 2 _ rfl
  obtain ⟨y3, -⟩ := txcell hX10 3 _ rfl
  go_wp2_with (fail)
  generalize (w10.setCell ⟨w4.heap.size, 0, none⟩ (.int .i64 0)).setCell ⟨w4.heap.size, 1, none⟩ (.int .i64 0) = w11 at hPx hF1c hF2c hXc hbc hVc hsz ⊢
  have CK := mkHid (fun wz hb => rcheckT_at w11 f1 (.agg #[.int .i64 o, .int .i64 m, .string xs, .slice lo ln lc]) wz ⟨_, _, _, _, rfl, hVc.plain⟩ hb)
  rw [hc] at CK
  refine (CK.out _ (Below.refl _ _)).mono ?_
  rintro e w12 ⟨rfl, hB12⟩
  have hPd := hPx.keep hB12
  have hF1d := hF1c.keep hB12
  have hF2d := hF2c.keep hB12
  have hXd := hXc.keep hB12
  have hbd := bt2 hbc hB12
  have hVd := RdTn.keep (Hi.of hB12) _ _ _ _ _ hVc
  clear y0 y1 y2 y3 q0 q1 h0 h1
  obtain ⟨x0, -⟩ := txcell hPd 0 _ rfl
  obtain ⟨x1, -⟩ := txcell hPd 1 _ rfl
  obtain ⟨y0, -⟩ := txcell hXd 0 _ rfl
  obtain ⟨y1, -⟩ := txcell hXd 1 _ rfl
  obtain ⟨y2, -⟩ := txcell hXd 2 _ rfl
  obtain ⟨y3, -⟩ := txcell hXd 3 _ rfl
  obtain ⟨a0, g0⟩ := txcell hF1d 0 _ rfl
  obtain ⟨a1, g1⟩ := txcell hF1d 1 _ rfl
  obtain ⟨a2, g2⟩ := txcell hF1d 2 _ rfl
  obtain ⟨a3, g3⟩ := txcell hF1d 3 _ rfl
  obtain ⟨b0, f0⟩ := txcell hF2d 0 _ rfl
  obtain ⟨b1, f1⟩ := txcell hF2d 1 _ rfl
  go_wp2
  have hRa := (rb_four hF1d rfl (.int .i64 o) (.int .i64 m) (.string xs) (.slice lo ln lc)).st2 (X := w.heap.size + 1) (by omega) (.int .i64 0) (.int .i64 0)
  have hRb := rb_two (hF2d.st4 (X := w.heap.size) (by omega) (.int .i64 o) (.int .i64 m) (.string xs) (.slice lo ln lc)) rfl (.int .i64 0) (.int .i64 0)
  have hBz := bel_st2 (bel_st4 hbd (Nat.le_refl _) (.int .i64 o) (.int .i64 m) (.string xs) (.slice lo ln lc)) (Nat.le_succ _) (.int .i64 0) (.int .i64 0)
  have hge : ∀ i, Ge ((w4.alloc (.cells zP 29)).alloc (.cells #[.slice ro a.length cr, .int .i64 0, .int .i64 0, .int .i64 0] 59)).heap.size i → w.heap.size + 2 ≤ i := fun i (hi : _ ≤ i) => by rw [World.size_alloc, World.size_alloc] at hi; omega
  have hHi := ((Hi.st4 (P := Ge ((w4.alloc (.cells zP 29)).alloc (.cells #[.slice ro a.length cr, .int .i64 0, .int .i64 0, .int .i64 0] 59)).heap.size) (B := w.heap.size) (fun i hi => by have := hge i hi; omega) w12 (.int .i64 o) (.int .i64 m) (.string xs) (.slice lo ln lc)).set (g := w.heap.size + 1) (fun i hi => by have := hge i hi; omega) 0 (.int .i64 0)).set (g := w.heap.size + 1) (fun i hi => by have := hge i hi; omega) 1 (.int .i64 0)
  obtain ⟨k0, -⟩ := txcell hRa 0 _ rfl
  obtain ⟨k1, -⟩ := txcell hRa 1 _ rfl
  obtain ⟨k2, -⟩ := txcell hRa 2 _ rfl
  obtain ⟨k3, -⟩ := txcell hRa 3 _ rfl
  obtain ⟨l0, -⟩ := txcell hRb 0 _ rfl
  obtain ⟨l1, -⟩ := txcell hRb 1 _ rfl
  exact bodyPost_ret (v := .tuple #[.agg #[.int .i64 o, .int .i64 m, .string xs, .slice lo ln lc], .agg #[.int .i64 0, .int .i64 0], .int .i64 0]) (by simp [results, Tryz.results12, go_sem, k0, k1, k2, k3, l0, l1]) rfl ⟨_, rfl, ⟨_, _, _, _, _, _, rfl, (fun e => by cases e), fun f e => by cases e; exact RdTn.low (fun i _ hi => by have := hge i hi; show w.heap.size ≤ i; omega) _ _ _ _ _ (RdTn.keep hHi _ _ _ _ _ hVd)⟩, hBz⟩
/-- what the document's Term answers -/
theorem dterm_any {s : ByteArray} {o : Option Tm} {c b k : Nat} (h : AnT s o c b k) (w : World) (h64 : s.size ≤ 9223372036854775807) :
    Calls Tryz.prog 12 #[.string s] w fun e w' => ∃ v, e = .returned (.tuple #[v, .agg #[.int .i64 (b : Nat), .int .i64 (k : Nat)], .int .i64 (c : Nat)]) ∧ TmA w.heap.size w' o v ∧ Below w.heap.size w w' := by
  cases h with
  | long hl => exact (dterm_fault s w 70 0 0 (by decide) (fun w => (rwords_long s w hl h64).mono fun e w' ⟨h1, h2⟩ => ⟨_, h1, h2⟩)).mono fun e w' ⟨h1, h2⟩ => ⟨_, h1, tma_none _ _, h2⟩
  | @lex a c p hs hl =>
    have hc := hl.cs (c := 0) (q := 0) _ _ rfl
    refine (dterm_fault s w c b _ (by omega) (fun w => (rwords_at s a _ w hs hl).mono fun e w' h => ?_)).mono fun e w' ⟨h1, h2⟩ => ⟨_, h1, tma_none _ _, h2⟩
    obtain ⟨v, c', p', k', ws, h1, hA, _, h2⟩ := h
    rcases hA with ⟨e, _⟩ | ⟨e, rfl, _⟩
    · cases e
    · cases e; exact ⟨_, h1, h2⟩
  | @bad a y q hs hl hf =>
    cases hf with
    | bad h => exact (dterm_bad s w a _ hs hl (.at h) c q _ _ (.inl rfl) rfl rfl).mono fun e w' ⟨h1, h2⟩ => ⟨_, h1, tma_none _ _, h2⟩
    | rest h hq => exact (dterm_bad s w a _ hs hl (.at h) 71 q _ _ (.inr ⟨_, rfl, hq, rfl, rfl⟩) rfl rfl).mono fun e w' ⟨h1, h2⟩ => ⟨_, h1, tma_none _ _, h2⟩
  | @many a f q hs hl hf hc =>
    cases hf with
    | ok h => exact (dterm_many s w a _ hs hl (.at h) f _ rfl rfl hc).mono fun e w' ⟨h1, h2⟩ => ⟨_, h1, tma_none _ _, h2⟩
  | @ok a f q hs hl hf hc =>
    cases hf with
    | ok h => exact dterm_ok s w a _ hs hl (.at h) f rfl hc
end Go.Proofs.YtabfhdmcljdjhaaGreatDoor.Gl
/- Words of a text that goes on with a byte c that ends a word: plain mathematics. Out of PaE. -/
namespace Go.Proofs.YtabfhdmcljdjhaaGreatDoor.Gl
set_option linter.unusedVariables false

/-- a byte that goes on no word -/
structure Sep (c : Nat) : Prop where
  lt : c < 128
  nr : reN c = false
  nd : isDig c = false
  ns : ∀ x ∈ allSigns, ∀ j, j < x.size → 0 < j → bt x j ≠ c
/-- u from d on goes as s does, and then goes on with the byte c -/
structure SimK (c : Nat) (u : ByteArray) (d : Nat) (s : ByteArray) : Prop where
  sep : Sep c
  size : d + s.size ≤ u.size
  byte : ∀ j, j < s.size → bt u (d + j) = bt s j
  stop : d + s.size = u.size ∨ bt u (d + s.size) = c
theorem acc_simk {u s : ByteArray} {d c : Nat} (h : SimK c u d s) (p x0 : Nat) : ∀ j, p + j < s.size → accB u (d + p) x0 j = accB s p x0 j
  | 0, _ => rfl
  | j + 1, hj => by
    rw [acc_succ, acc_succ, acc_simk h p x0 j (by omega), show d + p + (j + 1) = d + (p + (j + 1)) by omega, h.byte (p + (j + 1)) hj]
theorem cond_simk {u s : ByteArray} {d c : Nat} (h : SimK c u d s) (p x0 m : Nat) (Q : Nat → Prop) (hp : p < s.size) :
    (m < u.size - (d + p) ∧ (∀ k, k < m → 128 ≤ bt u (d + p + (k + 1)) ∧ bt u (d + p + (k + 1)) < 192) ∧ Q (accB u (d + p) x0 m)) ↔
    (m < s.size - p ∧ (∀ k, k < m → 128 ≤ bt s (p + (k + 1)) ∧ bt s (p + (k + 1)) < 192) ∧ Q (accB s p x0 m)) := by
  have hsz := h.size
  have hclt := h.sep.lt
  constructor
  · rintro ⟨h1, h2, h3⟩
    have hm : p + m < s.size := by
      by_cases hc : p + m < s.size
      · exact hc
      · have := h2 (s.size - p - 1) (by omega)
        rw [show d + p + (s.size - p - 1 + 1) = d + s.size by omega] at this
        rcases h.stop with e | e <;> omega
    refine ⟨by omega, fun k hk => ?_, ?_⟩
    · have := h2 k hk
      rwa [show d + p + (k + 1) = d + (p + (k + 1)) by omega, h.byte _ (by omega)] at this
    · rwa [acc_simk h p x0 m hm] at h3
  · rintro ⟨h1, h2, h3⟩
    refine ⟨by omega, fun k hk => ?_, ?_⟩
    · rw [show d + p + (k + 1) = d + (p + (k + 1)) by omega, h.byte _ (by omega)]; exact h2 k hk
    · rw [acc_simk h p x0 m (by omega)]; exact h3
theorem rd_simk {u s : ByteArray} {d c : Nat} (h : SimK c u d s) (p : Nat) (hp : p < s.size) : rdS u (d + p) = rdS s p := by
  have hb := bt_lt s p
  have e0 := h.byte p hp
  by_cases h1 : bt s p < 128
  · rw [rd_one s p h1, rd_one u _ (by rw [e0]; exact h1), e0]
  · by_cases h2 : (128 ≤ bt s p ∧ bt s p < 194) ∨ 245 ≤ bt s p
    · rw [rd_bad0 s p h2, rd_bad0 u _ (by rw [e0]; exact h2)]
    · by_cases h3 : bt s p < 224
      · rw [rd_two s p (by omega), rd_two u _ (by rw [e0]; omega), e0]
        have hq := cond_simk h p (bt s p - 192) 1 (fun x => 128 ≤ x ∧ x ≤ 1114111 ∧ ¬ (55296 ≤ x ∧ x ≤ 57343)) hp
        split
        · rename_i hc
          have hd := hq.1 hc
          have := hd.1
          rw [if_pos hd, acc_simk h p _ 1 (by omega)]
        · rename_i hc
          rw [if_neg (fun e => hc (hq.2 e))]
      · by_cases h4 : bt s p < 240
        · rw [rd_three s p (by omega), rd_three u _ (by rw [e0]; omega), e0]
          have hq := cond_simk h p (bt s p - 224) 2 (fun x => 2048 ≤ x ∧ x ≤ 1114111 ∧ ¬ (55296 ≤ x ∧ x ≤ 57343)) hp
          split
          · rename_i hc
            have hd := hq.1 hc
            have := hd.1
            rw [if_pos hd, acc_simk h p _ 2 (by omega)]
          · rename_i hc
            rw [if_neg (fun e => hc (hq.2 e))]
        · rw [rd_four s p (by omega), rd_four u _ (by rw [e0]; omega), e0]
          have hq := cond_simk h p (bt s p - 240) 3 (fun x => 65536 ≤ x ∧ x ≤ 1114111 ∧ ¬ (55296 ≤ x ∧ x ≤ 57343)) hp
          split
          · rename_i hc
            have hd := hq.1 hc
            have := hd.1
            rw [if_pos hd, acc_simk h p _ 3 (by omega)]
          · rename_i hc
            rw [if_neg (fun e => hc (hq.2 e))]
theorem RunTo.simk {P : Nat → Bool} {u s : ByteArray} {d c : Nat} (h : SimK c u d s) {p q : Nat} (k : RunTo P s p q) : RunTo P u (d + p) (d + q) := by
  induction k with
  | nil => exact .nil _
  | cons a b c _ ih =>
    have e := rd_simk h _ a
    refine .cons (by have := h.size; omega) (by rw [e]; exact b) (by rw [e]; exact c) ?_
    rw [e, Nat.add_assoc]
    exact ih
theorem rd_sep {s : ByteArray} {p c : Nat} (hc : c < 128) (h : bt s p = c) : rdS s p = (c, 1, true) := by rw [rd_one s p (by omega), h]
theorem ends_simk {P : Nat → Bool} {u s : ByteArray} {d c : Nat} (h : SimK c u d s) (hP : P c = false) {q : Nat} (hq : q ≤ s.size) (k : Ends P s q) : Ends P u (d + q) := by
  rintro ⟨a, b, hc3⟩
  by_cases hlt : q < s.size
  · rw [rd_simk h q hlt] at b hc3
    exact k ⟨hlt, b, hc3⟩
  · obtain rfl : q = s.size := by omega
    rcases h.stop with e | e
    · omega
    · rw [rd_sep h.sep.lt e] at hc3
      rw [hP] at hc3; cases hc3
theorem run_simk {P : Nat → Bool} {u s : ByteArray} {d c : Nat} (h : SimK c u d s) (hP : P c = false) {p : Nat} (hp : p ≤ s.size) : run P u (d + p) = d + run P s p :=
  run_is ((run_run P s p).simk h) (ends_simk h hP ((run_run P s p).le_size hp) (run_ends P s p))
theorem fits_simk {u s : ByteArray} {d c : Nat} (h : SimK c u d s) {p : Nat} (hp : p < s.size) (x : ByteArray) (hx : ∀ j, j < x.size → 0 < j → bt x j ≠ c) : fits u (d + p) x = fits s p x := by
  rw [Bool.eq_iff_iff, fits_iff, fits_iff]
  have hsz := h.size
  have hclt := h.sep.lt
  constructor
  · rintro ⟨h1, h2⟩
    have hle : p + x.size ≤ s.size := by
      by_cases hc : p + x.size ≤ s.size
      · exact hc
      · have h3 := h2 (s.size - p) (by omega)
        rw [show d + p + (s.size - p) = d + s.size by omega] at h3
        have h4 := hx (s.size - p) (by omega) (by omega)
        rcases h.stop with e | e <;> omega
    refine ⟨hle, fun j hj => ?_⟩
    have := h2 j hj
    rwa [Nat.add_assoc, h.byte _ (by omega)] at this
  · rintro ⟨h1, h2⟩
    refine ⟨by omega, fun j hj => ?_⟩
    rw [Nat.add_assoc, h.byte _ (by omega)]
    exact h2 j hj
theorem sgn_simk {u s : ByteArray} {d c : Nat} (h : SimK c u d s) {p : Nat} (hp : p < s.size) : sgn u (d + p) = sgn s p :=
  longest_congr _ _ (fun x hx => fits_simk h hp x (fun j hj hj0 => h.sep.ns x hx j hj hj0))
theorem extract_simk {u s : ByteArray} {d c : Nat} (h : SimK c u d s) {p q : Nat} (hq : q ≤ s.size) : u.extract (d + p) (d + q) = s.extract p q :=
  extract_eq hq (by have := h.size; omega) (by omega) (fun k hk => by rw [Nat.add_assoc]; exact h.byte _ (by omega))
theorem tok_simk {u s : ByteArray} {d c : Nat} (h : SimK c u d s) {p : Nat} (hp : p < s.size) : tok u (d + p) = (tok s p).move d := by
  have e := rd_simk h p hp
  have r1 := run_simk h (P := reN) h.sep.nr (Nat.le_of_lt hp)
  have r2 := run_simk h (P := isDig) h.sep.nd (Nat.le_of_lt hp)
  have l1 := (run_run reN s p).le_size (Nat.le_of_lt hp)
  have l2 := (run_run isDig s p).le_size (Nat.le_of_lt hp)
  have g2 := (run_run isDig s p).le
  have x1 := extract_simk h (p := p) l1
  have v2 : valF u (d + p) (d + run isDig s p - (d + p)) = valF s p (run isDig s p - p) := by
    rw [show d + run isDig s p - (d + p) = run isDig s p - p by omega]
    exact valF_congr _ (fun j hj => by rw [Nat.add_assoc]; exact h.byte _ (by omega))
  have s1 := sgn_simk h hp
  unfold tok
  rw [e, r1, r2, x1, v2, s1]
  split
  · rfl
  · split
    · rfl
    · split
      · split
        · rfl
        · split <;> rfl
      · split
        · split <;> rfl
        · split
          · rw [Nat.add_assoc]; rfl
          · split
            · rfl
            · rw [Nat.add_assoc]; rfl
/-- words ahead of what follows -/
theorem Lx.simk {u s : ByteArray} {d c : Nat} (h : SimK c u d s) {p : Nat} {a : List Wd} {f : Option (Nat × Nat)} (k : Lx s p a f) (hp : p ≤ s.size) : 
    (∀ b g, f = none → Lx u (d + s.size) b g → Lx u (d + p) (a.map (Wd.move d) ++ b) g) ∧ (∀ c' e, f = some (c', e) → Lx u (d + p) (a.map (Wd.move d)) (some (c', d + e))) := by
  have hsz := h.size
  have hclt := h.sep.lt
  induction k with
  | done hd =>
    refine ⟨fun b g _ l => ?_, fun c' e he => (by cases he)⟩
    obtain rfl : _ = s.size := Nat.le_antisymm hp hd
    exact l
  | blank a b k ih =>
    have := ih (by omega)
    have ht := tok_simk h a
    rw [b] at ht
    exact ⟨fun b' g e l => .blank (by omega) ht (this.1 b' g e l), fun c' e he => .blank (by omega) ht (this.2 c' e he)⟩
  | bad a b =>
    have ht := tok_simk h a
    rw [b] at ht
    refine ⟨fun b' g e l => (by cases e), fun c' e he => ?_⟩
    cases he
    exact .bad (by omega) ht
  | word a b k ih =>
    have hq := tok_to a b
    have := ih hq.2
    have ht := tok_simk h a
    rw [b] at ht
    exact ⟨fun b' g e l => .word (by omega) ht (this.1 b' g e l), fun c' e he => .word (by omega) ht (this.2 c' e he)⟩
/- the bytes that end words in the laws' texts -/
theorem sep_blank : Sep 32 := ⟨by decide, by decide +kernel, by decide, by decide +kernel⟩
theorem sep_open : Sep 40 := ⟨by decide, by decide +kernel, by decide, by decide +kernel⟩
theorem sep_shut : Sep 41 := ⟨by decide, by decide +kernel, by decide, by decide +kernel⟩
theorem sep_comma : Sep 44 := ⟨by decide, by decide +kernel, by decide, by decide +kernel⟩
theorem sep_dot : Sep 46 := ⟨by decide, by decide +kernel, by decide, by decide +kernel⟩
/- a bracket, whatever follows -/
theorem fits_first {u : ByteArray} {p : Nat} {x : ByteArray} (h : fits u p x = true) (hx : 0 < x.size) : bt u p = bt x 0 := by
  have := ((fits_iff _ _ _).1 h).2 0 hx
  simpa using this
theorem lone_first : ∀ x ∈ allSigns, (bt x 0 = 40 → x = kOpen) ∧ (bt x 0 = 41 → x = kShut) ∧ 0 < x.size := by decide +kernel
theorem sgn_lone {u v : ByteArray} {p : Nat} {b : Nat} (hb : b = 40 ∨ b = 41) (h : p < u.size) (h1 : bt u p = b) (hv : v.size = 1) (hv1 : bt v 0 = b) : sgn u p = sgn v 0 := by
  refine longest_congr _ _ (fun x hx => ?_)
  obtain ⟨ha, hs, hz⟩ := lone_first x hx
  rw [Bool.eq_iff_iff]
  constructor
  · intro hf
    have h0 := fits_first hf hz
    have hx1 : x.size = 1 ∧ bt x 0 = b := by
      rcases hb with rfl | rfl
      · rw [ha (by omega)]; exact ⟨rfl, rfl⟩
      · rw [hs (by omega)]; exact ⟨rfl, rfl⟩
    refine (fits_iff _ _ _).2 ⟨by omega, fun j hj => ?_⟩
    obtain rfl : j = 0 := by omega
    show bt v 0 = _
    omega
  · intro hf
    have h0 := fits_first hf hz
    have hx1 : x.size = 1 ∧ bt x 0 = b := by
      rcases hb with rfl | rfl
      · rw [ha (by omega)]; exact ⟨rfl, rfl⟩
      · rw [hs (by omega)]; exact ⟨rfl, rfl⟩
    refine (fits_iff _ _ _).2 ⟨by omega, fun j hj => ?_⟩
    obtain rfl : j = 0 := by omega
    show bt u (p + 0) = _
    rw [Nat.add_zero]
    omega
theorem tok_lone {u v : ByteArray} {p b : Nat} (hb : b = 40 ∨ b = 41) (h : p < u.size) (h1 : bt u p = b) (hv : v.size = 1) (hv1 : bt v 0 = b) (hsg : sgn v 0 = v) (hne : v ≠ emp) : tok u p = .word 2 v 0 (p + 1) := by
  have hr : rdS u p = (b, 1, true) := rd_sep (by omega) h1
  have hs := (sgn_lone hb h h1 hv hv1).trans hsg
  have e1 : blB ((b : Nat) : Int) = false := by rcases hb with rfl | rfl <;> decide +kernel
  have e2 : stB ((b : Nat) : Int) = false := by rcases hb with rfl | rfl <;> decide +kernel
  have e3 : isDig b = false := by rcases hb with rfl | rfl <;> decide
  have e4 : plB ((b : Nat) : Int) = emp := by rcases hb with rfl | rfl <;> decide +kernel
  unfold tok
  rw [hr]
  dsimp only
  rw [e1, if_neg (by decide), if_neg (by decide), e2, if_neg (by decide), e3, if_neg (by decide), e4, if_neg (by simp), hs, if_neg hne, hv]
theorem Lx.opens {u : ByteArray} {p : Nat} {ws : List Wd} {g : Option (Nat × Nat)} (h : p < u.size) (h1 : bt u p = 40) (k : Lx u (p + 1) ws g) : Lx u p (⟨2, kOpen, 0, p⟩ :: ws) g := .word h (tok_lone (v := kOpen) (.inl rfl) h h1 rfl rfl (by decide +kernel) (by decide)) k
theorem Lx.shuts {u : ByteArray} {p : Nat} {ws : List Wd} {g : Option (Nat × Nat)} (h : p < u.size) (h1 : bt u p = 41) (k : Lx u (p + 1) ws g) : Lx u p (⟨2, kShut, 0, p⟩ :: ws) g := .word h (tok_lone (v := kShut) (.inr rfl) h h1 rfl rfl (by decide +kernel) (by decide)) k
theorem Lx.blanks {u : ByteArray} {p : Nat} {ws : List Wd} {g : Option (Nat × Nat)} (h : p < u.size) (h1 : bt u p = 32) (k : Lx u (p + 1) ws g) : Lx u p ws g := by
  refine .blank h ?_ k
  have hr : rdS u p = (32, 1, true) := rd_sep (by omega) h1
  have e1 : blB ((32 : Nat) : Int) = true := by decide +kernel
  unfold tok
  rw [hr, if_pos e1]
end Go.Proofs.YtabfhdmcljdjhaaGreatDoor.Gl
