/- The landed whole, of a term: what parse.Term answers. -/
import Derived.Test.YtncgmnijgdfenaaGreatDoorPtS
import Derived.Test.YtncgmnijgdfenaaGreatDoorPtQ
namespace Go.Proofs.YtncgmnijgdfenaaGreatDoor.Gl
open Go.RowKit
set_option linter.unusedVariables false
set_option linter.unusedSimpArgs false

abbrev THC (s : ByteArray) (w : World) (o : Option Tm) (c b k : Nat) : Prop := Calls Tryz.prog 24 #[.string s, .func (.func 25) #[] #[], .func (.func 22) #[] #[]] w fun e w' => ∃ v, e = .returned (.tuple #[v, fau c b k]) ∧ TmA w.heap.size w' o v ∧ Below w.heap.size w w'
theorem tma_none (B : Nat) (w : World) : TmA B w none nilT := ⟨_, _, _, _, _, _, rfl, fun _ => rfl, fun _ e => by cases e⟩
theorem twhole_any {s : ByteArray} {o : Option Tm} {c b k : Nat} (h : AnT s o c b k) (w : World) (hS : Sg w) (h64 : s.size ≤ 9223372036854775807) : THC s w o c b k := by
  cases h with
  | long hl => exact (twhole_fault s w 70 0 0 (by decide) hS (fun w hS => lexC.long s w hS hl h64)).mono fun e w' ⟨h1, h2⟩ => ⟨_, h1, tma_none _ _, h2⟩
  | @lex a c p hs hl =>
    have hc := hl.cs (c := 0) (q := 0) _ _ rfl
    exact (twhole_fault s w c b _ (by omega) hS (fun w hS => lexC.bad s a c b w hS hs hl)).mono fun e w' ⟨h1, h2⟩ => ⟨_, h1, tma_none _ _, h2⟩
  | @bad a y q hs hl hf =>
    cases hf with
    | bad h => exact (twhole_bad s w a _ hs hl (.at h) hS c q _ _ rfl rfl rfl).mono fun e w' ⟨h1, h2⟩ => ⟨_, h1, tma_none _ _, h2⟩
    | rest h hq => exact (twhole_rest s w a _ hs hl (.at h) hS _ q _ _ hq rfl rfl rfl).mono fun e w' ⟨h1, h2⟩ => ⟨_, h1, tma_none _ _, h2⟩
  | @many a f q hs hl hf hc =>
    cases hf with
    | ok h => exact (twhole_many s w a _ hs hl (.at h) hS f _ rfl rfl hc).mono fun e w' ⟨h1, h2⟩ => ⟨_, h1, tma_none _ _, h2⟩
  | @ok a f q hs hl hf hc =>
    cases hf with
    | ok h => exact twhole_ok s w a _ hs hl (.at h) hS f rfl hc
set_option maxRecDepth 100000 in
set_option maxHeartbeats 2000000 in
theorem term_any {s : ByteArray} {o : Option Tm} {c b k : Nat} (h : AnT s o c b k) (w : World) (hS : Sg w) (h64 : s.size ≤ 9223372036854775807) :
    Calls Tryz.prog 12 #[.string s] w fun e w' => ∃ v, e = .returned (.tuple #[v, fau c b k]) ∧ TmA w.heap.size w' o v ∧ Below w.heap.size w w' := by
  have WC := mkHid (twhole_any h ((w.alloc (.cells zT 42)).alloc (.cells zA 34)) ((hS.alloc _).alloc _) h64)
  have hB2 : Below w.heap.size w ((w.alloc (.cells zT 42)).alloc (.cells zA 34)) := bta (bal w _) _
  have hF1 : Rb ((w.alloc (.cells zT 42)).alloc (.cells zA 34)) w.heap.size zT 42 := (rb_new w zT 42).keep (bal _ _)
  have hF2 : Rb ((w.alloc (.cells zT 42)).alloc (.cells zA 34)) (w.heap.size + 1) zA 34 := by
    have := rb_new (w.alloc (.cells zT 42)) zA 34
    rwa [World.size_alloc] at this
  clear h hS h64
  go_enter Tryz.func12, Tryz.ntmps12
  go_wp2_with (go_at_call 24; refine (WC.out).mono ?_; rintro e w4 ⟨v, rfl, ⟨op, m, xs, lo, ln, lc, rfl, hno, hso⟩, hB4⟩; have hF1z := hF1.keep hB4; have hF2z := hF2.keep hB4; have hBwz := bt2 hB2 hB4; have HNO := mkHid hno; have HSO := mkHid hso; clear hno hso; obtain ⟨a0, g0⟩ := txcell hF1z 0 _ rfl; obtain ⟨a1, g1⟩ := txcell hF1z 1 _ rfl; obtain ⟨a2, g2⟩ := txcell hF1z 2 _ rfl; obtain ⟨a3, g3⟩ := txcell hF1z 3 _ rfl; obtain ⟨b0, f0⟩ := txcell hF2z 0 _ rfl; obtain ⟨b1, f1⟩ := txcell hF2z 1 _ rfl; obtain ⟨b2, f2⟩ := txcell hF2z 2 _ rfl)
  have hRa := (rb_four hF1z rfl (.int .i64 op) (.int .i64 m) (.string xs) (.slice lo ln lc)).st3 (X := w.heap.size + 1) (by omega) (.int .i64 (c : Nat)) (.int .i64 (b : Nat)) (.int .i64 (k : Nat))
  have hRb := rb_three (hF2z.st4 (X := w.heap.size) (by omega) (.int .i64 op) (.int .i64 m) (.string xs) (.slice lo ln lc)) rfl (.int .i64 (c : Nat)) (.int .i64 (b : Nat)) (.int .i64 (k : Nat))
  have hBz := bel_st3 (bel_st4 hBwz (Nat.le_refl _) (.int .i64 op) (.int .i64 m) (.string xs) (.slice lo ln lc)) (Nat.le_succ _) (.int .i64 (c : Nat)) (.int .i64 (b : Nat)) (.int .i64 (k : Nat))
  have hne : ∀ i, Ge ((w.alloc (.cells zT 42)).alloc (.cells zA 34)).heap.size i → ∀ j, j ≤ 1 → i ≠ w.heap.size + j := fun i hi j hj => by
    have h2 : ((w.alloc (.cells zT 42)).alloc (.cells zA 34)).heap.size ≤ i := hi
    rw [World.size_alloc, World.size_alloc] at h2
    omega
  have hHi := ((((Hi.st4 (P := Ge ((w.alloc (.cells zT 42)).alloc (.cells zA 34)).heap.size) (B := w.heap.size) (fun i hi => hne i hi 0 (by omega)) w4 (.int .i64 op) (.int .i64 m) (.string xs) (.slice lo ln lc)).set (g := w.heap.size + 1) (fun i hi => hne i hi 1 (by omega)) 0 (.int .i64 (c : Nat))).set (g := w.heap.size + 1) (fun i hi => hne i hi 1 (by omega)) 1 (.int .i64 (b : Nat))).set (g := w.heap.size + 1) (fun i hi => hne i hi 1 (by omega)) 2 (.int .i64 (k : Nat)))
  obtain ⟨k0, -⟩ := txcell hRa 0 _ rfl
  obtain ⟨k1, -⟩ := txcell hRa 1 _ rfl
  obtain ⟨k2, -⟩ := txcell hRa 2 _ rfl
  obtain ⟨k3, -⟩ := txcell hRa 3 _ rfl
  obtain ⟨l0, -⟩ := txcell hRb 0 _ rfl
  obtain ⟨l1, -⟩ := txcell hRb 1 _ rfl
  obtain ⟨l2, -⟩ := txcell hRb 2 _ rfl
  exact bodyPost_ret (v := .tuple #[.agg #[.int .i64 op, .int .i64 m, .string xs, .slice lo ln lc], fau c b k]) (by simp [results, Tryz.results12, go_sem, k0, k1, k2, k3, l0, l1, l2]) rfl ⟨_, rfl, ⟨_, _, _, _, _, _, rfl, HNO.out, fun f e => RdTn.low (fun i _ hi => Nat.le_trans hB2.size hi) _ _ _ _ _ (RdTn.keep hHi _ _ _ _ _ (HSO.out f e))⟩, hBz⟩
theorem TmA.fmv {B : Nat} {w : World} {f : Tm} {v : Value} (h : TmA B w (some f) v) : TmV w f v := by
  obtain ⟨op, m, xs, lo, ln, lc, e, _, hr⟩ := h
  exact ⟨_, _, _, _, e, (hr f rfl).plain⟩
end Go.Proofs.YtncgmnijgdfenaaGreatDoor.Gl
/- ShowTermsBack. -/
namespace Go.Proofs.YtncgmnijgdfenaaGreatDoor.Gl
open Go Go.RowKit
set_option linter.unusedVariables false
set_option linter.unusedSimpArgs false

theorem ant_back {t : Tm} (h : chkT nmB t = 0) (hn : t.all nT = true) (hs : (shT t).size ≤ 4096) : AnT (shT t) (some t) 0 0 0 := by
  obtain ⟨_, _, hall⟩ := (chkT_iff nmB t).1 h
  exact .ok hs (tm_words hall hn) (.ok (tm_whole hall)) h
theorem TmV.keep {W W' : World} {t : Tm} {v : Value} (h : TmV W t v) (hb : Below W.heap.size W W') : TmV W' t v := by
  obtain ⟨c0, c1, c2, c3, e, hr⟩ := h
  exact ⟨_, _, _, _, e, RdT.kept hb _ _ _ _ _ hr⟩
abbrev eqF (t : Tm) : Fm := .mk 13 emp 0 [t, .mk 0 0 emp []] []
theorem eqF_fm {W : World} {t : Tm} {k : Nat} {c0 c1 c2 c3 : Value} (hk : W.heap[k]? = some (.cells #[c0, c1, c2, c3, .int .i64 0, .int .i64 0, .string emp, .slice none 0 0] 42)) (hr : RdT W t c0 c1 c2 c3) :
    FmV W (eqF t) (.agg #[.int .i64 13, .string emp, .int .i64 0, .slice (some ⟨k, 0, none⟩) 2 2, .slice none 0 0]) := by
  have hlt := (Array.getElem?_eq_some_iff.1 hk).1
  have k1 : ∀ o, W.cell? ⟨k, o, none⟩ = #[c0, c1, c2, c3, .int .i64 0, .int .i64 0, .string emp, .slice none 0 0][o]? := fun o => by rw [Lib.cell_of_heap hk]
  refine ⟨_, _, _, _, _, rfl, ?_⟩
  rw [RdF]
  refine ⟨rfl, rfl, rfl, ⟨by unfold I64; omega, by unfold I64; omega, by unfold Sz; decide⟩, ⟨some ⟨k, 0, none⟩, 2, rfl, Nat.le_refl _, by unfold Sz; omega, ?_⟩, none, 0, rfl, Nat.le_refl _, by unfold Sz; omega, by rw [RdFL]; trivial⟩
  rw [RdTL, RdTL, RdTL]
  refine ⟨⟨k, 0, _, _, _, _, rfl, hlt, k1 0, k1 1, k1 2, k1 3, hr⟩, ⟨k, 0, _, _, _, _, rfl, hlt, k1 4, k1 5, k1 6, k1 7, ?_⟩, trivial⟩
  rw [RdT]
  exact ⟨rfl, rfl, rfl, ⟨by unfold I64; omega, by unfold I64; omega, by unfold Sz; decide⟩, none, 0, rfl, Nat.le_refl _, by unfold Sz; omega, by rw [RdTL]; trivial⟩
set_option maxRecDepth 100000 in
set_option maxHeartbeats 2000000 in
theorem tback_no (f : Tm) (v : Value) (w : World) (hv : TmV w f v) (hP : Pw w) (hc : chkT nmB f ≠ 0) :
    Calls Tryz.prog 4 #[v] w fun e w' => e = .returned (.bool true) ∧ Below w.heap.size w w' := by
  have S1 := mkHid (fun w1 h => tm_show w f v w1 hv h hP)
  have FX := mkHid (fun w1 (h : Below w.heap.size w w1) => fixed8_at w1 (hP.below h hP.lt))
  rw [if_neg hc] at S1
  have hn : ((chkT nmB f : Int) == 0) = false := by rw [beq_eq_false_iff_ne]; omega
  obtain ⟨c0, c1, c2, c3, rfl, -⟩ := hv
  have HB0 := mkHid ((Below.refl w.heap.size w).alloc (Nat.le_refl _) (.cells #[c0, c1, c2, c3] 42))
  generalize chkT nmB f = c at *
  clear hP hc
  go_enter Tryz.func4, Tryz.ntmps4
  go_wp2_with (fail)
  refine (S1.out _ HB0.out).mono ?_
  rintro e w2 ⟨rfl, hB2⟩
  have H2 := mkHid (HB0.out.trans (hB2.mono (by rw [World.size_alloc]; omega)))
  clear hB2
  go_wp2_with (fail)
  refine (FX.out _ H2.out).mono ?_
  rintro e w3 ⟨rfl, hB3⟩
  have H3 := mkHid (H2.out.trans (hB3.mono H2.out.size))
  clear hB3
  go_wp2_with (fail)
  refine (FX.out _ H3.out).mono ?_
  rintro e w4 ⟨rfl, hB4⟩
  have H4 := mkHid (H3.out.trans (hB4.mono H3.out.size))
  clear hB4
  go_wp2
  go_ret
  exact ⟨rfl, H4.out⟩
set_option maxRecDepth 100000 in
set_option maxHeartbeats 2000000 in
theorem tback_long (f : Tm) (v : Value) (w : World) (hv : TmV w f v) (hP : Pw w) (hS : Sg w) (hc : chkT nmB f = 0) (hl : 4096 < (shT f).size) (h64 : (shT f).size ≤ 9223372036854775807) :
    Calls Tryz.prog 4 #[v] w fun e w' => e = .returned (.bool true) ∧ Below w.heap.size w w' := by
  have S1 := mkHid (fun w1 h => tm_show w f v w1 hv h hP)
  have FX := mkHid (fun w1 (h : Below w.heap.size w w1) => fixed8_at w1 (hP.below h hP.lt))
  have PF := mkHid (fun w1 (h : Below w.heap.size w w1) => term_any (.long hl) w1 (hS.below h) h64)
  rw [if_pos hc, hc] at S1
  obtain ⟨c0, c1, c2, c3, rfl, -⟩ := hv
  have HB0 := mkHid ((Below.refl w.heap.size w).alloc (Nat.le_refl _) (.cells #[c0, c1, c2, c3] 42))
  clear hP hc hS
  go_enter Tryz.func4, Tryz.ntmps4
  go_wp2_with (fail)
  refine (S1.out _ HB0.out).mono ?_
  rintro e w2 ⟨rfl, hB2⟩
  have H2 := mkHid (HB0.out.trans (hB2.mono (by rw [World.size_alloc]; omega)))
  clear hB2
  go_wp2_with (fail)
  refine (FX.out _ H2.out).mono ?_
  rintro e w3 ⟨rfl, hB3⟩
  have H3 := mkHid (H2.out.trans (hB3.mono H2.out.size))
  clear hB3
  go_wp2_with (fail)
  refine (PF.out _ H3.out).mono ?_
  rintro e w4 ⟨v, rfl, ⟨op, m, xs, lo, ln, lc, rfl, -, -⟩, hB4⟩
  have H4 := mkHid (H3.out.trans (hB4.mono H3.out.size))
  clear hB4
  go_wp2
  go_ret
  exact ⟨rfl, bta (bta H4.out _) _⟩
set_option maxRecDepth 100000 in
set_option maxHeartbeats 4000000 in
theorem tback_ok (f : Tm) (v : Value) (w : World) (hv : TmV w f v) (hP : Pw w) (hS : Sg w) (hc : chkT nmB f = 0) (hl : (shT f).size ≤ 4096) :
    Calls Tryz.prog 4 #[v] w fun e w' => e = .returned (.bool true) ∧ Below w.heap.size w w' := by
  have hnum : f.all nT = true := by obtain ⟨c0, c1, c2, c3, _, hr⟩ := hv; exact rdt_nums f _ _ _ _ hr
  have S1 := mkHid (fun w1 h => tm_show w f v w1 hv h hP)
  have FX := mkHid (fun w1 (h : Below w.heap.size w w1) => fixed8_at w1 (hP.below h hP.lt))
  have PF := mkHid (fun w1 (h : Below w.heap.size w w1) => term_any (ant_back hc hnum hl) w1 (hS.below h) (by omega))
  have K2 := mkHid (fun W u (hu : TmV W f u) w1 h => rcheckT_at W f u w1 hu h)
  have E2 := mkHid (fun W v u (hu : FmV W (eqF f) u) (hv' : FmV W (eqF f) v) w1 h => rsameF_at W (eqF f) (eqF f) v u w1 hv' hu h)
  have hee : eqB (eqF f) (eqF f) = true := eqB_yes rfl
  rw [if_pos hc, hc] at S1
  rw [hc] at K2
  rw [hee] at E2
  obtain ⟨c0, c1, c2, c3, rfl, hrd⟩ := hv
  have KV := mkHid (fun W (h : Below w.heap.size w W) => RdT.kept h _ _ _ _ _ hrd)
  have HB0 := mkHid ((Below.refl w.heap.size w).alloc (Nat.le_refl _) (.cells #[c0, c1, c2, c3] 42))
  clear hP hc hS hnum hee hrd
  go_enter Tryz.func4, Tryz.ntmps4
  go_wp2_with (fail)
  refine (S1.out _ HB0.out).mono ?_
  rintro e w2 ⟨rfl, hB2⟩
  have H2 := mkHid (HB0.out.trans (hB2.mono (by rw [World.size_alloc]; omega)))
  have k2 := mkHid (blk_keep (heap_alloc_new w (.cells #[c0, c1, c2, c3] 42)) hB2)
  clear hB2
  go_wp2_with (fail)
  refine (FX.out _ H2.out).mono ?_
  rintro e w3 ⟨rfl, hB3⟩
  have H3 := mkHid (H2.out.trans (hB3.mono H2.out.size))
  have k3 := mkHid (blk_keep k2.out hB3)
  clear hB3
  go_wp2_with (fail)
  refine (PF.out _ H3.out).mono ?_
  rintro e w4 ⟨u, rfl, ⟨op, m, xs, lo, ln, lc, rfl, -, hs⟩, hB4⟩
  have HU := mkHid (hs f rfl).plain
  have H4 := mkHid (H3.out.trans (hB4.mono H3.out.size))
  have k4 := mkHid (blk_alloc (blk_alloc (blk_keep k3.out hB4) (.cells #[.int .i64 op, .int .i64 m, .string xs, .slice lo ln lc] 42)) (.cells #[.int .i64 0, .int .i64 0, .int .i64 0] 34))
  have x0 := blk_cell k4.out 0
  have x1 := blk_cell k4.out 1
  have x2 := blk_cell k4.out 2
  have x3 := blk_cell k4.out 3
  obtain ⟨A, hA⟩ : ∃ A, (w4.alloc (.cells #[.int .i64 op, .int .i64 m, .string xs, .slice lo ln lc] 42)).alloc (.cells #[.int .i64 0, .int .i64 0, .int .i64 0] 34) = A := ⟨_, rfl⟩
  have sA : A.heap.size = w4.heap.size + 2 := by rw [← hA]; simp
  have bA : Below w4.heap.size w4 A := by rw [← hA]; exact bta (bal w4 _) _
  obtain ⟨B, hB⟩ : ∃ B, (((A.alloc (.cells #[c0, c1, c2, c3, .int .i64 0, .int .i64 0, .string emp, .slice none 0 0] 42)).alloc (.cells #[.int .i64 13, .string emp, .int .i64 0, .slice (some ⟨w4.heap.size + 2, 0, none⟩) 2 2, .slice none 0 0] 26)).alloc (.cells #[.int .i64 op, .int .i64 m, .string xs, .slice lo ln lc, .int .i64 0, .int .i64 0, .string emp, .slice none 0 0] 42)).alloc (.cells #[.int .i64 13, .string emp, .int .i64 0, .slice (some ⟨w4.heap.size + 4, 0, none⟩) 2 2, .slice none 0 0] 26) = B := ⟨_, rfl⟩
  have bB : Below w4.heap.size w4 B := by
    rw [← hB]
    exact (((bA.alloc (by omega) _).alloc (by simp; omega) _).alloc (by simp; omega) _).alloc (by simp; omega) _
  have n2 : B.heap[w4.heap.size + 2]? = some (.cells #[c0, c1, c2, c3, .int .i64 0, .int .i64 0, .string emp, .slice none 0 0] 42) := by
    rw [← hB, ← sA]
    exact blk_alloc (blk_alloc (blk_alloc (heap_alloc_new A _) _) _) _
  have n3 : B.heap[w4.heap.size + 3]? = some (.cells #[.int .i64 13, .string emp, .int .i64 0, .slice (some ⟨w4.heap.size + 2, 0, none⟩) 2 2, .slice none 0 0] 26) := by
    have := heap_alloc_new (A.alloc (.cells #[c0, c1, c2, c3, .int .i64 0, .int .i64 0, .string emp, .slice none 0 0] 42)) (.cells #[.int .i64 13, .string emp, .int .i64 0, .slice (some ⟨w4.heap.size + 2, 0, none⟩) 2 2, .slice none 0 0] 26)
    rw [World.size_alloc, sA] at this
    rw [← hB]
    exact blk_alloc (blk_alloc this _) _
  have n4 : B.heap[w4.heap.size + 4]? = some (.cells #[.int .i64 op, .int .i64 m, .string xs, .slice lo ln lc, .int .i64 0, .int .i64 0, .string emp, .slice none 0 0] 42) := by
    have := heap_alloc_new ((A.alloc (.cells #[c0, c1, c2, c3, .int .i64 0, .int .i64 0, .string emp, .slice none 0 0] 42)).alloc (.cells #[.int .i64 13, .string emp, .int .i64 0, .slice (some ⟨w4.heap.size + 2, 0, none⟩) 2 2, .slice none 0 0] 26)) (.cells #[.int .i64 op, .int .i64 m, .string xs, .slice lo ln lc, .int .i64 0, .int .i64 0, .string emp, .slice none 0 0] 42)
    rw [World.size_alloc, World.size_alloc, sA] at this
    rw [← hB]
    exact blk_alloc this _
  have n5 : B.heap[w4.heap.size + 5]? = some (.cells #[.int .i64 13, .string emp, .int .i64 0, .slice (some ⟨w4.heap.size + 4, 0, none⟩) 2 2, .slice none 0 0] 26) := by
    have := heap_alloc_new (((A.alloc (.cells #[c0, c1, c2, c3, .int .i64 0, .int .i64 0, .string emp, .slice none 0 0] 42)).alloc (.cells #[.int .i64 13, .string emp, .int .i64 0, .slice (some ⟨w4.heap.size + 2, 0, none⟩) 2 2, .slice none 0 0] 26)).alloc (.cells #[.int .i64 op, .int .i64 m, .string xs, .slice lo ln lc, .int .i64 0, .int .i64 0, .string emp, .slice none 0 0] 42)) (.cells #[.int .i64 13, .string emp, .int .i64 0, .slice (some ⟨w4.heap.size + 4, 0, none⟩) 2 2, .slice none 0 0] 26)
    rw [World.size_alloc, World.size_alloc, World.size_alloc, sA] at this
    rw [← hB]
    exact this
  have hrB := KV.out B (H4.out.trans (bB.mono H4.out.size))
  have huB : RdT B f (.int .i64 op) (.int .i64 m) (.string xs) (.slice lo ln lc) := RdT.kept bB _ _ _ _ _ HU.out
  have F7 := mkHid (eqF_fm n2 hrB)
  have F8 := mkHid (eqF_fm n4 huB)
  have C4 := mkHid (K2.out B _ (⟨_, _, _, _, rfl, huB⟩ : TmV B f (.agg #[.int .i64 op, .int .i64 m, .string xs, .slice lo ln lc])) _ (Below.refl _ _))
  have D4 := mkHid (fun w1 h => E2.out B _ _ F8.out F7.out w1 h)
  have M3 := mkHid n3
  have M5 := mkHid n5
  have HB := mkHid (H4.out.trans (bB.mono H4.out.size))
  subst hB
  subst hA
  clear hB4 hs bA bB n2 n3 n4 n5 hrB huB sA
  go_wp2_with (fail)
  refine C4.out.mono ?_
  rintro e w5 ⟨rfl, hB5⟩
  have j3 := mkHid (blk_keep M3.out hB5)
  have j5 := mkHid (blk_keep M5.out hB5)
  have y0 := blk_cell j3.out 0
  have y1 := blk_cell j3.out 1
  have y2 := blk_cell j3.out 2
  have y3 := blk_cell j3.out 3
  have y4 := blk_cell j3.out 4
  have z0 := blk_cell j5.out 0
  have z1 := blk_cell j5.out 1
  have z2 := blk_cell j5.out 2
  have z3 := blk_cell j5.out 3
  have z4 := blk_cell j5.out 4
  have C5 := mkHid (D4.out w5 hB5)
  have H5 := mkHid (HB.out.trans (hB5.mono HB.out.size))
  clear hB5 x0 x1 x2 x3
  go_wp2_with (fail)
  refine C5.out.mono ?_
  rintro e w6 ⟨rfl, hB6⟩
  have H6 := mkHid (H5.out.trans (hB6.mono H5.out.size))
  clear hB6 y0 y1 y2 y3 y4 z0 z1 z2 z3 z4
  go_wp2
  go_ret
  exact ⟨rfl, H6.out⟩
theorem showTermsBack_walk (f : Tm) (v : Value) (w : World) (hv : TmV w f v) (hP : Pw w) (hS : Sg w) :
    Calls Tryz.prog 4 #[v] w fun e w' => e = .returned (.bool true) ∧ Below w.heap.size w w' := by
  by_cases hc : chkT nmB f = 0
  · by_cases hl : (shT f).size ≤ 4096
    · exact tback_ok f v w hv hP hS hc hl
    · obtain ⟨hsz, hdp, hall⟩ := (chkT_iff nmB f).1 hc
      have hnum : f.all nT = true := by obtain ⟨c0, c1, c2, c3, _, hr⟩ := hv; exact rdt_nums f _ _ _ _ hr
      have := tm_len f hall hnum
      rw [tb_len] at this
      exact tback_long f v w hv hP hS hc (by omega) (by omega)
  · exact tback_no f v w hv hP hc
end Go.Proofs.YtncgmnijgdfenaaGreatDoor.Gl
