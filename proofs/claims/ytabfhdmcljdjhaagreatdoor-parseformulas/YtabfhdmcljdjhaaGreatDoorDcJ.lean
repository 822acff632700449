/- The landed whole, of a term: what parse.Term answers. -/
import Derived.Test.YtabfhdmcljdjhaaGreatDoorPtS
import Derived.Test.YtabfhdmcljdjhaaGreatDoorDcI
namespace Go.Proofs.YtabfhdmcljdjhaaGreatDoor.Gl
open Go.RowKit
set_option linter.unusedVariables false
set_option linter.unusedSimpArgs false

abbrev THC (s : ByteArray) (w : World) (o : Option Tm) (c b k : Nat) : Prop := Calls Tryz.prog 22 #[.string s, .func (.func 23) #[] #[], .func (.func 24) #[] #[]] w fun e w' => ∃ v, e = .returned (.tuple #[v, fau c b k]) ∧ TmA w.heap.size w' o v ∧ Below w.heap.size w w'
theorem tma_none (B : Nat) (w : World) : TmA B w none nilT := ⟨_, _, _, _, _, _, rfl, fun _ => rfl, fun _ e => by cases e⟩
theorem twhole_any {s : ByteArray} {o : Option Tm} {c b k : Nat} (h : AnT s o c b k) (w : World) (hS : Sg w) (h64 : s.size ≤ 9223372036854775807) : THC s w o c b k := by
  cases h with
  | long hl => exact (twhole_fault s w 70 0 0 (by decide) hS (fun w hS => lexC.long s w hS hl h64)).mono fun e w' ⟨h1, h2⟩ => ⟨_, h1, tma_none _ _, h2⟩
  | @lex a c p hs hl =>
    have hc := hl.cs (c := 0) (q := 0) _ _ rfl
    exact (twhole_fault s w c b _ (by omega) hS (fun w hS => lexC.bad s a c b w hS hs hl)).mono fun e w' ⟨h1, h2⟩ => ⟨_, h1, tma_none _ _, h2⟩
  | @bad a y q hs hl hf =>
    cases hf with
    | bad h => exact (twhole_bad s w a _ hs hl (.at h) hS c q _ _ rfl rfl rfl).mono fun e w' ⟨h1, h2⟩ => ⟨_, h1, tma_none _ _, h2⟩
    | rest h hq => exact (twhole_rest s w a _ hs hl (.at h) hS _ q _ _ hq rfl rfl rfl).mono fun e w' ⟨h1, h2⟩ => ⟨_, h1, tma_none _ _, h2⟩
  | @many a f q hs hl hf hc =>
    cases hf with
    | ok h => exact (twhole_many s w a _ hs hl (.at h) hS f _ rfl rfl hc).mono fun e w' ⟨h1, h2⟩ => ⟨_, h1, tma_none _ _, h2⟩
  | @ok a f q hs hl hf hc =>
    cases hf with
    | ok h => exact twhole_ok s w a _ hs hl (.at h) hS f rfl hc
set_option maxRecDepth 100000 in
set_option maxHeartbeats 2000000 in
theorem term_any {s : ByteArray} {o : Option Tm} {c b k : Nat} (h : AnT s o c b k) (w : World) (hS : Sg w) (h64 : s.size ≤ 9223372036854775807) :
    Calls Tryz.prog 11 #[.string s] w fun e w' => ∃ v, e = .returned (.tuple #[v, fau c b k]) ∧ TmA w.heap.size w' o v ∧ Below w.heap.size w w' := by
  have WC := mkHid (twhole_any h ((w.alloc (.cells zT 43)).alloc (.cells zA 31)) ((hS.alloc _).alloc _) h64)
  have hB2 : Below w.heap.size w ((w.alloc (.cells zT 43)).alloc (.cells zA 31)) := bta (bal w _) _
  have hF1 : Rb ((w.alloc (.cells zT 43)).alloc (.cells zA 31)) w.heap.size zT 43 := (rb_new w zT 43).keep (bal _ _)
  have hF2 : Rb ((w.alloc (.cells zT 43)).alloc (.cells zA 31)) (w.heap.size + 1) zA 31 := by
    have := rb_new (w.alloc (.cells zT 43)) zA 31
    rwa [World.size_alloc] at this
  clear h hS h64
  go_enter Tryz.func11, Tryz.ntmps11
  go_wp2_with (go_at_call 22; refine (WC.out).mono ?_; rintro e w4 ⟨v, rfl, ⟨op, m, xs, lo, ln, lc, rfl, hno, hso⟩, hB4⟩; have hF1z := hF1.keep hB4; have hF2z := hF2.keep hB4; have hBwz := bt2 hB2 hB4; have HNO := mkHid hno; have HSO := mkHid hso; clear hno hso; obtain ⟨a0, g0⟩ := txcell hF1z 0 _ rfl; obtain ⟨a1, g1⟩ := txcell hF1z 1 _ rfl; obtain ⟨a2, g2⟩ := txcell hF1z 2 _ rfl; obtain ⟨a3, g3⟩ := txcell hF1z 3 _ rfl; obtain ⟨b0, f0⟩ := txcell hF2z 0 _ rfl; obtain ⟨b1, f1⟩ := txcell hF2z 1 _ rfl; obtain ⟨b2, f2⟩ := txcell hF2z 2 _ rfl)
  have hRa := (rb_four hF1z rfl (.int .i64 op) (.int .i64 m) (.string xs) (.slice lo ln lc)).st3 (X := w.heap.size + 1) (by omega) (.int .i64 (c : Nat)) (.int .i64 (b : Nat)) (.int .i64 (k : Nat))
  have hRb := rb_three (hF2z.st4 (X := w.heap.size) (by omega) (.int .i64 op) (.int .i64 m) (.string xs) (.slice lo ln lc)) rfl (.int .i64 (c : Nat)) (.int .i64 (b : Nat)) (.int .i64 (k : Nat))
  have hBz := bel_st3 (bel_st4 hBwz (Nat.le_refl _) (.int .i64 op) (.int .i64 m) (.string xs) (.slice lo ln lc)) (Nat.le_succ _) (.int .i64 (c : Nat)) (.int .i64 (b : Nat)) (.int .i64 (k : Nat))
  have hne : ∀ i, Ge ((w.alloc (.cells zT 43)).alloc (.cells zA 31)).heap.size i → ∀ j, j ≤ 1 → i ≠ w.heap.size + j := fun i hi j hj => by
    have h2 : ((w.alloc (.cells zT 43)).alloc (.cells zA 31)).heap.size ≤ i := hi
    rw [World.size_alloc, World.size_alloc] at h2
    omega
  have hHi := ((((Hi.st4 (P := Ge ((w.alloc (.cells zT 43)).alloc (.cells zA 31)).heap.size) (B := w.heap.size) (fun i hi => hne i hi 0 (by omega)) w4 (.int .i64 op) (.int .i64 m) (.string xs) (.slice lo ln lc)).set (g := w.heap.size + 1) (fun i hi => hne i hi 1 (by omega)) 0 (.int .i64 (c : Nat))).set (g := w.heap.size + 1) (fun i hi => hne i hi 1 (by omega)) 1 (.int .i64 (b : Nat))).set (g := w.heap.size + 1) (fun i hi => hne i hi 1 (by omega)) 2 (.int .i64 (k : Nat)))
  obtain ⟨k0, -⟩ := txcell hRa 0 _ rfl
  obtain ⟨k1, -⟩ := txcell hRa 1 _ rfl
  obtain ⟨k2, -⟩ := txcell hRa 2 _ rfl
  obtain ⟨k3, -⟩ := txcell hRa 3 _ rfl
  obtain ⟨l0, -⟩ := txcell hRb 0 _ rfl
  obtain ⟨l1, -⟩ := txcell hRb 1 _ rfl
  obtain ⟨l2, -⟩ := txcell hRb 2 _ rfl
  exact bodyPost_ret (v := .tuple #[.agg #[.int .i64 op, .int .i64 m, .string xs, .slice lo ln lc], fau c b k]) (by simp [results, Tryz.results11, go_sem, k0, k1, k2, k3, l0, l1, l2]) rfl ⟨_, rfl, ⟨_, _, _, _, _, _, rfl, HNO.out, fun f e => RdTn.low (fun i _ hi => Nat.le_trans hB2.size hi) _ _ _ _ _ (RdTn.keep hHi _ _ _ _ _ (HSO.out f e))⟩, hBz⟩
theorem TmA.fmv {B : Nat} {w : World} {f : Tm} {v : Value} (h : TmA B w (some f) v) : TmV w f v := by
  obtain ⟨op, m, xs, lo, ln, lc, e, _, hr⟩ := h
  exact ⟨_, _, _, _, e, (hr f rfl).plain⟩
end Go.Proofs.YtabfhdmcljdjhaaGreatDoor.Gl
/- The document's Term. -/
namespace Go.Proofs.YtabfhdmcljdjhaaGreatDoor.Gl
open Go.RowKit
set_option linter.unusedVariables false
set_option linter.unusedSimpArgs false

theorem ans_none {s : ByteArray} {a : List Wd} {c p k : Nat} {ws : List FW} (h : Ans s a none c p k ws) : c = 0 ∧ p = 0 ∧ k = 0 ∧ ws = a.map (full s) := by
  rcases h with ⟨_, h⟩ | ⟨e, _⟩
  · exact h
  · cases e
theorem Ds.start {W w : World} {s : ByteArray} {ws : List Wd} {ao : Option Addr} {n cap b : Nat} (hT : TxW W s ws ao n cap) (hb : W.heap.size ≤ b) (hB : Below W.heap.size W w) (hR : Rb w b #[.slice ao n cap, .int .i64 0, .int .i64 0, .int .i64 0] 59) : Ds ⟨W, s, ws, ao, n, cap, b⟩ w (.at 0) :=
  ⟨hT, hb, hB, Nat.zero_le _, hR⟩
theorem bel_st2 {b B : Nat} {w w' : World} (h : Below b w w') (hB : b ≤ B) (v0 v1 : Value) : Below b w ((w'.setCell ⟨B, 0, none⟩ v0).setCell ⟨B, 1, none⟩ v1) := (h.setCell (p := ⟨B, 0, none⟩) hB v0).setCell (p := ⟨B, 1, none⟩) hB v1
theorem Rb.st2 {w : World} {B X : Nat} {vs : Array Value} {t : TypeId} (h : Rb w B vs t) (hne : B ≠ X) (v0 v1 : Value) : Rb ((w.setCell ⟨X, 0, none⟩ v0).setCell ⟨X, 1, none⟩ v1) B vs t := (h.other hne 0 v0).other hne 1 v1
set_option maxRecDepth 100000 in
set_option maxHeartbeats 4000000 in
theorem dterm_fault (s : ByteArray) (w : World) (c p k : Nat) (hc : c ≠ 0)
    (LW0 : ∀ w, Calls Tryz.prog 17 #[.string s] w fun e w' => ∃ v, e = .returned (.tuple #[v, .agg #[.int .i64 (p : Nat), .int .i64 (k : Nat)], .int .i64 (c : Nat)]) ∧ Below w.heap.size w w') :
    Calls Tryz.prog 12 #[.string s] w fun e w' => e = .returned (.tuple #[nilT, .agg #[.int .i64 (p : Nat), .int .i64 (k : Nat)], .int .i64 (c : Nat)]) ∧ Below w.heap.size w w' := by
  have hc' : ((c : Int) == 0) = false := by rw [beq_eq_false_iff_ne]; omega
  have hc2 : ¬ (c : Int) = 0 := by omega
  have LW := mkHid LW0
  have hB2 : Below w.heap.size w ((w.alloc (.cells zT 43)).alloc (.cells zP 29)) := bta (bal w _) _
  have hF1 : Rb ((w.alloc (.cells zT 43)).alloc (.cells zP 29)) w.heap.size zT 43 := (rb_new w zT 43).keep (bal _ _)
  have hF2 : Rb ((w.alloc (.cells zT 43)).alloc (.cells zP 29)) (w.heap.size + 1) zP 29 := by
    have := rb_new (w.alloc (.cells zT 43)) zP 29
    rwa [World.size_alloc] at this
  clear LW0
  go_enter Tryz.func12, Tryz.ntmps12
  go_wp2_with (fail)
  refine (LW.out _).mono ?_
  rintro e w4 ⟨v, rfl, hB4⟩
  have hF1a := (hF1.keep hB4).keep (bal w4 (.cells #[.int .i64 (p : Nat), .int .i64 (k : Nat)] 29))
  have hF2a := (hF2.keep hB4).keep (bal w4 (.cells #[.int .i64 (p : Nat), .int .i64 (k : Nat)] 29))
  have hP := rb_new w4 #[.int .i64 (p : Nat), .int .i64 (k : Nat)] 29
  have hba := bta (bt2 hB2 hB4) (.cells #[.int .i64 (p : Nat), .int .i64 (k : Nat)] 29)
  have hs4 := hB4.size
  rw [World.size_alloc, World.size_alloc] at hs4
  clear LW hF1 hF2 hB2
  go_wp2_with (fail)
  generalize w4.alloc (.cells #[.int .i64 (p : Nat), .int .i64 (k : Nat)] 29) = w5 at hF1a hF2a hP hba ⊢
  generalize w4.heap.size = z at *
  clear hB4
  obtain ⟨x0, -⟩ := txcell hP 0 _ rfl
  obtain ⟨x1, -⟩ := txcell hP 1 _ rfl
  obtain ⟨a0, g0⟩ := txcell hF1a 0 _ rfl
  obtain ⟨a1, g1⟩ := txcell hF1a 1 _ rfl
  obtain ⟨a2, g2⟩ := txcell hF1a 2 _ rfl
  obtain ⟨a3, g3⟩ := txcell hF1a 3 _ rfl
  obtain ⟨b0, f0⟩ := txcell hF2a 0 _ rfl
  obtain ⟨b1, f1⟩ := txcell hF2a 1 _ rfl
  have hRa := (rb_four hF1a rfl (.int .i64 0) (.int .i64 0) (.string emp) (.slice none 0 0)).st2 (X := w.heap.size + 1) (by omega) (.int .i64 (p : Nat)) (.int .i64 (k : Nat))
  have hRb := rb_two (hF2a.st4 (X := w.heap.size) (by omega) (.int .i64 0) (.int .i64 0) (.string emp) (.slice none 0 0)) rfl (.int .i64 (p : Nat)) (.int .i64 (k : Nat))
  have hBz := bel_st2 (bel_st4 hba (Nat.le_refl _) (.int .i64 0) (.int .i64 0) (.string emp) (.slice none 0 0)) (Nat.le_succ _) (.int .i64 (p : Nat)) (.int .i64 (k : Nat))
  obtain ⟨k0, -⟩ := txcell hRa 0 _ rfl
  obtain ⟨k1, -⟩ := txcell hRa 1 _ rfl
  obtain ⟨k2, -⟩ := txcell hRa 2 _ rfl
  obtain ⟨k3, -⟩ := txcell hRa 3 _ rfl
  obtain ⟨l0, -⟩ := txcell hRb 0 _ rfl
  obtain ⟨l1, -⟩ := txcell hRb 1 _ rfl
  go_region_with (fail)
  all_goals
    go_wp2
    exact bodyPost_ret (v := .tuple #[nilT, .agg #[.int .i64 (p : Nat), .int .i64 (k : Nat)], .int .i64 (c : Nat)]) (by simp [results, Tryz.results12, go_sem, k0, k1, k2, k3, l0, l1]) rfl ⟨rfl, hBz.drew⟩
set_option maxRecDepth 100000 in
set_option maxHeartbeats 4000000 in
theorem dterm_bad (s : ByteArray) (w : World) (a : List Wd) (r0 : Out Tm) (hsz : s.size ≤ 4096) (hlx : Lx s 0 a none) (hGF : GT a .sum (.at 0) r0)
    (y q fb fc : Nat) (hr0 : r0.pos = .bad y q ∨ ∃ p, r0.pos = .at p ∧ p < a.length ∧ y = 71 ∧ q = p) (hfb : pcB s a q = fb) (hfc : pcC s a q = fc) :
    Calls Tryz.prog 12 #[.string s] w fun e w' => e = .returned (.tuple #[nilT, .agg #[.int .i64 (fb : Nat), .int .i64 (fc : Nat)], .int .i64 (y : Nat)]) ∧ Below w.heap.size w w' := by
  have LW := mkHid (fun w => rwords_at s a none w hsz hlx)
  have hWd := hlx.wdok hsz
  have hal : a.length ≤ 4096 := by have := (hlx.fine hsz).2; omega
  have hB2 : Below w.heap.size w ((w.alloc (.cells zT 43)).alloc (.cells zP 29)) := bta (bal w _) _
  have hF1 : Rb ((w.alloc (.cells zT 43)).alloc (.cells zP 29)) w.heap.size zT 43 := (rb_new w zT 43).keep (bal _ _)
  have hF2 : Rb ((w.alloc (.cells zT 43)).alloc (.cells zP 29)) (w.heap.size + 1) zP 29 := by
    have := rb_new (w.alloc (.cells zT 43)) zP 29
    rwa [World.size_alloc] at this
  have HG := mkHid hGF
  clear hlx hGF
  go_enter Tryz.func12, Tryz.ntmps12
  go_wp2_with (fail)
  refine (LW.out _).mono ?_
  rintro e w4 ⟨v, c0, p0, k0, ws, rfl, hA, hO4, hB4⟩
  obtain ⟨rfl, rfl, rfl, rfl⟩ := ans_none hA
  rw [List.length_map] at hO4
  obtain ⟨ro, cr, rfl, hRd⟩ := rdw_of_owns (n := a.length) (by simp) hO4
  have hTx : TxW w4 s a ro a.length cr := ⟨hRd, hal⟩
  have hs4 := hB4.size
  rw [World.size_alloc, World.size_alloc] at hs4
  have hP5 := rb_new w4 zP 29
  have hR6 := rb_new (w4.alloc (.cells zP 29)) #[.slice ro a.length cr, .int .i64 0, .int .i64 0, .int .i64 0] 59
  rw [World.size_alloc] at hR6
  have hDs := Ds.start hTx (Nat.le_succ _) (bta (bal w4 (.cells zP 29)) (.cells #[.slice ro a.length cr, .int .i64 0, .int .i64 0, .int .i64 0] 59)) hR6
  have hP6 := hP5.keep (bal _ (.cells #[.slice ro a.length cr, .int .i64 0, .int .i64 0, .int .i64 0] 59))
  have hF16 := ((hF1.keep hB4).keep (bal _ (.cells zP 29))).keep (bal _ (.cells #[.slice ro a.length cr, .int .i64 0, .int .i64 0, .int .i64 0] 59))
  have hF26 := ((hF2.keep hB4).keep (bal _ (.cells zP 29))).keep (bal _ (.cells #[.slice ro a.length cr, .int .i64 0, .int .i64 0, .int .i64 0] 59))
  have hb6 := bta (bta (bt2 hB2 hB4) (.cells zP 29)) (.cells #[.slice ro a.length cr, .int .i64 0, .int .i64 0, .int .i64 0] 59)
  go_wp2_with (fail)
  refine (dsum_all (X := (⟨w4, s, a, ro, a.length, cr, w4.heap.size + 1⟩ : Rx)) hWd _ (.at 0) _ hDs (Nat.zero_le _) HG.out).mono ?_
  rintro e w8 ⟨o, m, xs, lo, ln, lc, f, rfl, hV8, h8, hC8, hf⟩
  replace hC8 : Bux (w4.heap.size + 1) _ w8 := hC8
  have hF19 := (hF16.but hC8 (by omega)).keep (bal w8 (.cells #[.int .i64 o, .int .i64 m, .string xs, .slice lo ln lc] 43))
  have hF29 := (hF26.but hC8 (by omega)).keep (bal w8 (.cells #[.int .i64 o, .int .i64 m, .string xs, .slice lo ln lc] 43))
  have hP9 := (hP6.but hC8 (by omega)).keep (bal w8 (.cells #[.int .i64 o, .int .i64 m, .string xs, .slice lo ln lc] 43))
  have hX9 := rb_new w8 #[.int .i64 o, .int .i64 m, .string xs, .slice lo ln lc] 43
  have hs8 := hC8.size
  rw [World.size_alloc, World.size_alloc] at hs8
  have hb9 := bta (hb6.trans (hC8.below (by omega) (by rw [World.size_alloc, World.size_alloc]; omega))) (.cells #[.int .i64 o, .int .i64 m, .string xs, .slice lo ln lc] 43)
  have h9 := h8.alloc (.cells #[.int .i64 o, .int .i64 m, .string xs, .slice lo ln lc] 43)
  have hy0 : y ≠ 0 := by
    rcases hr0 with e | ⟨p, _, _, rfl, _⟩
    · rw [e] at h8; exact h8.at'.1
    · decide
  have hy' : ((y : Int) == 0) = false := by rw [beq_eq_false_iff_ne]; omega
  have hy2 : ¬ (y : Int) = 0 := by omega
  have EC := mkHid (dended_bad (X := (⟨w4, s, a, ro, a.length, cr, w4.heap.size + 1⟩ : Rx)) (by show s.size ≤ _; omega) h9 hr0)
  dsimp only at EC
  rw [hfb, hfc] at EC
  go_wp2_with (fail)
  refine (EC.out).mono ?_
  rintro e w10 ⟨rfl, hC10⟩
  have hF1b := hF19.but hC10 (by omega)
  have hF2b := hF29.but hC10 (by omega)
  have hP10 := hP9.but hC10 (by omega)
  have hX10 := hX9.but hC10 (by omega)
  have hs9 : (w8.alloc (.cells #[.int .i64 o, .int .i64 m, .string xs, .slice lo ln lc] 43)).heap.size = w8.heap.size + 1 := World.size_alloc ..
  have hb10 := hb9.trans (hC10.below (by omega) (by omega))
  have hs10 := hC10.size
  rw [hs9] at hs10
  obtain ⟨q0, h0⟩ := txcell hP10 0 _ rfl
  obtain ⟨q1, h1⟩ := txcell hP10 1 _ rfl
  have hPx := rb_two hP10 rfl (.int .i64 (fb : Nat)) (.int .i64 (fc : Nat))
  have hF1c := hF1b.st2 (X := w4.heap.size) (by omega) (.int .i64 (fb : Nat)) (.int .i64 (fc : Nat))
  have hF2c := hF2b.st2 (X := w4.heap.size) (by omega) (.int .i64 (fb : Nat)) (.int .i64 (fc : Nat))
  have hbc := bel_st2 hb10 (B := w4.heap.size) (by omega) (.int .i64 (fb : Nat)) (.int .i64 (fc : Nat))
  go_wp2_with (fail)
  generalize (w10.setCell ⟨w4.heap.size, 0, none⟩ (.int .i64 (fb : Nat))).setCell ⟨w4.heap.size, 1, none⟩ (.int .i64 (fc : Nat)) = w11 at hPx hF1c hF2c hbc ⊢
  obtain ⟨x0, -⟩ := txcell hPx 0 _ rfl
  obtain ⟨x1, -⟩ := txcell hPx 1 _ rfl
  obtain ⟨a0, g0⟩ := txcell hF1c 0 _ rfl
  obtain ⟨a1, g1⟩ := txcell hF1c 1 _ rfl
  obtain ⟨a2, g2⟩ := txcell hF1c 2 _ rfl
  obtain ⟨a3, g3⟩ := txcell hF1c 3 _ rfl
  obtain ⟨b0, f0⟩ := txcell hF2c 0 _ rfl
  obtain ⟨b1, f1⟩ := txcell hF2c 1 _ rfl
  have hRa := (rb_four hF1c rfl (.int .i64 0) (.int .i64 0) (.string emp) (.slice none 0 0)).st2 (X := w.heap.size + 1) (by omega) (.int .i64 (fb : Nat)) (.int .i64 (fc : Nat))
  have hRb := rb_two (hF2c.st4 (X := w.heap.size) (by omega) (.int .i64 0) (.int .i64 0) (.string emp) (.slice none 0 0)) rfl (.int .i64 (fb : Nat)) (.int .i64 (fc : Nat))
  have hBz := bel_st2 (bel_st4 hbc (Nat.le_refl _) (.int .i64 0) (.int .i64 0) (.string emp) (.slice none 0 0)) (Nat.le_succ _) (.int .i64 (fb : Nat)) (.int .i64 (fc : Nat))
  obtain ⟨k0, -⟩ := txcell hRa 0 _ rfl
  obtain ⟨k1, -⟩ := txcell hRa 1 _ rfl
  obtain ⟨k2, -⟩ := txcell hRa 2 _ rfl
  obtain ⟨k3, -⟩ := txcell hRa 3 _ rfl
  obtain ⟨l0, -⟩ := txcell hRb 0 _ rfl
  obtain ⟨l1, -⟩ := txcell hRb 1 _ rfl
  go_region_with (fail)
  all_goals
    go_wp2
    exact bodyPost_ret (v := .tuple #[nilT, .agg #[.int .i64 (fb : Nat), .int .i64 (fc : Nat)], .int .i64 (y : Nat)]) (by simp [results, Tryz.results12, go_sem, k0, k1, k2, k3, l0, l1]) rfl ⟨rfl, hBz.drew⟩
end Go.Proofs.YtabfhdmcljdjhaaGreatDoor.Gl
