/- ParseTerms. -/
import Derived.Test.YtabfhdmcljdjhaaGreatDoorPaI
import Derived.Test.YtabfhdmcljdjhaaGreatDoorTrI
import Derived.Test.YtabfhdmcljdjhaaGreatDoorTrJ
import Derived.Deep.RegionWith
namespace Go.Proofs.YtabfhdmcljdjhaaGreatDoor.Gl
open Go.RowKit
set_option linter.unusedVariables false
set_option linter.unusedSimpArgs false

theorem AnT.ne {s : ByteArray} {c b k : Nat} (h : AnT s none c b k) : c ≠ 0 := by
  cases h with
  | long _ => decide
  | lex hs hl => have := hl.cs (c := 0) (q := 0) _ _ rfl; omega
  | bad hs hl hf =>
    cases hf with
    | bad h => rw [h.sub71 _ _ rfl]; decide
    | rest _ _ => decide
  | many _ _ _ hc => exact hc
theorem rb_two_new (w : World) (vs us : Array Value) (t u : TypeId) : Rb ((w.alloc (.cells vs t)).alloc (.cells us u)) w.heap.size vs t ∧ Rb ((w.alloc (.cells vs t)).alloc (.cells us u)) (w.heap.size + 1) us u := by
  refine ⟨(rb_new w vs t).keep (bal _ _), ?_⟩
  have := rb_new (w.alloc (.cells vs t)) us u
  rwa [World.size_alloc] at this
theorem lempty_at (w : World) : Calls Tryz.prog 8 #[nilF] w fun e w' => e = .returned (.bool true) ∧ Below w.heap.size w w' := by
  have hX := rb_new w zF 26
  have hB := bal w (.cells zF 26)
  obtain ⟨a0, -⟩ := txcell hX 0 _ rfl
  obtain ⟨a1, -⟩ := txcell hX 1 _ rfl
  obtain ⟨a2, -⟩ := txcell hX 2 _ rfl
  obtain ⟨a3, -⟩ := txcell hX 3 _ rfl
  obtain ⟨a4, -⟩ := txcell hX 4 _ rfl
  go_enter Tryz.func8, Tryz.ntmps8
  go_wp2
  go_ret
  exact ⟨rfl, hB⟩
theorem fmv_keep {W W' : World} {f : Fm} {v : Value} (h : FmV W f v) (hb : Below W.heap.size W W') : FmV W' f v := by
  obtain ⟨c0, c1, c2, c3, c4, e, hr⟩ := h
  exact ⟨_, _, _, _, _, e, RdF.kept hb _ _ _ _ _ _ hr⟩
abbrev eqF (t : Tm) : Fm := .mk 13 emp 0 [t, .mk 0 0 emp []] []
theorem eqF_fm {W : World} {t : Tm} {k : Nat} {c0 c1 c2 c3 : Value} (hk : Rb W k #[c0, c1, c2, c3, .int .i64 0, .int .i64 0, .string emp, .slice none 0 0] 43) (hr : RdT W t c0 c1 c2 c3) :
    FmV W (eqF t) (.agg #[.int .i64 13, .string emp, .int .i64 0, .slice (some ⟨k, 0, none⟩) 2 2, .slice none 0 0]) := by
  have hlt := (Array.getElem?_eq_some_iff.1 hk).1
  refine ⟨_, _, _, _, _, rfl, ?_⟩
  rw [RdF]
  refine ⟨rfl, rfl, rfl, ⟨by unfold I64; omega, by unfold I64; omega, by unfold Sz; decide⟩, ⟨some ⟨k, 0, none⟩, 2, rfl, Nat.le_refl _, by unfold Sz; omega, ?_⟩, none, 0, rfl, Nat.le_refl _, by unfold Sz; omega, by rw [RdFL]; trivial⟩
  rw [RdTL, RdTL, RdTL]
  refine ⟨⟨k, 0, _, _, _, _, rfl, hlt, (txcell hk 0 _ rfl).1, (txcell hk 1 _ rfl).1, (txcell hk 2 _ rfl).1, (txcell hk 3 _ rfl).1, hr⟩, ⟨k, 0, _, _, _, _, rfl, hlt, (txcell hk 4 _ rfl).1, (txcell hk 5 _ rfl).1, (txcell hk 6 _ rfl).1, (txcell hk 7 _ rfl).1, ?_⟩, trivial⟩
  rw [RdT]
  exact ⟨rfl, rfl, rfl, ⟨by unfold I64; omega, by unfold I64; omega, by unfold Sz; decide⟩, none, 0, rfl, Nat.le_refl _, by unfold Sz; omega, by rw [RdTL]; trivial⟩
set_option maxRecDepth 100000 in
set_option maxHeartbeats 4000000 in
theorem pterms_no (s : ByteArray) (c b k : Nat) (w : World) (h : AnT s none c b k) (hS : Sg w) (h64 : s.size ≤ 9223372036854775807) :
    Calls Tryz.prog 4 #[.string s] w fun e w' => e = .returned (.bool true) ∧ Below w.heap.size w w' := by
  have hc0 := h.ne
  have hc' : ((c : Int) == 0) = false := by rw [beq_eq_false_iff_ne]; omega
  have hc2 : ¬ (c : Int) = 0 := by omega
  have TA := mkHid (fun w1 (hS : Sg w1) => term_any h w1 hS h64)
  have TB := mkHid (fun w1 => dterm_any h w1 h64)
  clear h
  go_enter Tryz.func4, Tryz.ntmps4
  go_wp2_with (fail)
  refine (TA.out _ hS).mono ?_
  rintro e w2 ⟨v, rfl, ⟨op, m, xs, lo, ln, lc, rfl, hno, hso⟩, hB2⟩
  obtain ⟨rfl, rfl, rfl, rfl, rfl, rfl⟩ : op = 0 ∧ m = 0 ∧ xs = emp ∧ lo = none ∧ ln = 0 ∧ lc = 0 := by have := hno rfl; simpa using this
  obtain ⟨hX3, hX4⟩ := rb_two_new w2 #[.int .i64 0, .int .i64 0, .string emp, .slice none 0 0] #[.int .i64 (c : Nat), .int .i64 (b : Nat), .int .i64 (k : Nat)] 43 31
  have hb2 := bta (bta hB2 (.cells #[.int .i64 0, .int .i64 0, .string emp, .slice none 0 0] 43)) (.cells #[.int .i64 (c : Nat), .int .i64 (b : Nat), .int .i64 (k : Nat)] 31)
  have hB2z : Below w2.heap.size w2 ((w2.alloc (.cells #[.int .i64 0, .int .i64 0, .string emp, .slice none 0 0] 43)).alloc (.cells #[.int .i64 (c : Nat), .int .i64 (b : Nat), .int .i64 (k : Nat)] 31)) := bta (bal w2 _) _
  go_wp2_with (fail)
  refine (TB.out _).mono ?_
  rintro e w3 ⟨v3, rfl, ⟨op3, m3, xs3, lo3, ln3, lc3, rfl, hno3, hso3⟩, hB3⟩
  obtain ⟨rfl, rfl, rfl, rfl, rfl, rfl⟩ : op3 = 0 ∧ m3 = 0 ∧ xs3 = emp ∧ lo3 = none ∧ ln3 = 0 ∧ lc3 = 0 := by have := hno3 rfl; simpa using this
  obtain ⟨hX5, hX6⟩ := rb_two_new w3 #[.int .i64 0, .int .i64 0, .string emp, .slice none 0 0] #[.int .i64 (b : Nat), .int .i64 (k : Nat)] 43 29
  have hX3a := ((hX3.keep hB3).keep (bal w3 (.cells #[.int .i64 0, .int .i64 0, .string emp, .slice none 0 0] 43))).keep (bal _ (.cells #[.int .i64 (b : Nat), .int .i64 (k : Nat)] 29))
  have hX4a := ((hX4.keep hB3).keep (bal w3 (.cells #[.int .i64 0, .int .i64 0, .string emp, .slice none 0 0] 43))).keep (bal _ (.cells #[.int .i64 (b : Nat), .int .i64 (k : Nat)] 29))
  have hb3 := bta (bta (bt2 hb2 hB3) (.cells #[.int .i64 0, .int .i64 0, .string emp, .slice none 0 0] 43)) (.cells #[.int .i64 (b : Nat), .int .i64 (k : Nat)] 29)
  have hB3z : Below w3.heap.size w3 ((w3.alloc (.cells #[.int .i64 0, .int .i64 0, .string emp, .slice none 0 0] 43)).alloc (.cells #[.int .i64 (b : Nat), .int .i64 (k : Nat)] 29)) := bta (bal w3 _) _
  go_wp2_with (fail)
  refine (lfixed_at _ (hS.below hb3)).mono ?_
  rintro e w4 ⟨rfl, hB4⟩
  have hX3b := hX3a.keep hB4
  have hX4b := hX4a.keep hB4
  have hX5b := hX5.keep hB4
  have hX6b := hX6.keep hB4
  have hb4 := bt2 hb3 hB4
  have hs2 := hB2.size
  have hs3 := hB3.size
  rw [World.size_alloc, World.size_alloc] at hs3
  have hs4 := hB4.size
  rw [World.size_alloc, World.size_alloc] at hs4
  obtain ⟨a0, -⟩ := txcell hX3b 0 _ rfl
  obtain ⟨a1, -⟩ := txcell hX3b 1 _ rfl
  obtain ⟨a2, -⟩ := txcell hX3b 2 _ rfl
  obtain ⟨a3, -⟩ := txcell hX3b 3 _ rfl
  obtain ⟨b0, f0⟩ := txcell hX4b 0 _ rfl
  obtain ⟨b1, f1⟩ := txcell hX4b 1 _ rfl
  obtain ⟨b2, f2⟩ := txcell hX4b 2 _ rfl
  obtain ⟨d0, -⟩ := txcell hX5b 0 _ rfl
  obtain ⟨d1, -⟩ := txcell hX5b 1 _ rfl
  obtain ⟨d2, -⟩ := txcell hX5b 2 _ rfl
  obtain ⟨d3, -⟩ := txcell hX5b 3 _ rfl
  obtain ⟨e0, -⟩ := txcell hX6b 0 _ rfl
  obtain ⟨e1, -⟩ := txcell hX6b 1 _ rfl
  go_wp2
  go_ret
  exact ⟨rfl, hb4⟩
set_option maxRecDepth 100000 in
set_option maxHeartbeats 4000000 in
theorem pterms_long (s : ByteArray) (t : Tm) (w : World) (h : AnT s (some t) 0 0 0) (hS : Sg w) (h64 : (zeq ++ s).size ≤ 9223372036854775807) (ht : chkT nmB t = 0) (c : Nat) (hc : c = 70 ∨ c = 73 ∨ c = 72) (h2 : An (zeq ++ s) none c 0 0) :
    Calls Tryz.prog 4 #[.string s] w fun e w' => e = .returned (.bool true) ∧ Below w.heap.size w w' := by
  have h63 : s.size ≤ 9223372036854775807 := by rw [ByteArray.size_append] at h64; omega
  have hz4 : (zeq ++ s).size = 4 + s.size := by rw [ByteArray.size_append]; rfl
  have TA := mkHid (fun w1 (hS : Sg w1) => term_any h w1 hS h63)
  have TB := mkHid (fun w1 => dterm_any h w1 h63)
  have CK := mkHid (fun W u (hu : TmV W t u) w1 h => rcheckT_at W t u w1 hu h)
  have SM := mkHid (fun W v u (hv : FmV W (eqF t) v) (hu : FmV W (eqF t) u) w1 h => rsameF_at W (eqF t) (eqF t) v u w1 hv hu h)
  have hee : eqB (eqF t) (eqF t) = true := eqB_yes rfl
  rw [hee] at SM
  rw [ht] at CK
  have FA := mkHid (fun w1 (hS : Sg w1) => formula_any h2 w1 hS h64)
  clear h h2 hee
  go_enter Tryz.func4, Tryz.ntmps4
  go_wp2_with (fail)
  refine (TA.out _ hS).mono ?_
  rintro e w2 ⟨v, rfl, ⟨op, m, xs, lo, ln, lc, rfl, hno, hso⟩, hB2⟩
  have HU := mkHid (hso t rfl).plain
  obtain ⟨hX3, hX4⟩ := rb_two_new w2 #[.int .i64 op, .int .i64 m, .string xs, .slice lo ln lc] #[.int .i64 0, .int .i64 0, .int .i64 0] 43 31
  have hb2 := bta (bta hB2 (.cells #[.int .i64 op, .int .i64 m, .string xs, .slice lo ln lc] 43)) (.cells #[.int .i64 0, .int .i64 0, .int .i64 0] 31)
  have hB2z : Below w2.heap.size w2 ((w2.alloc (.cells #[.int .i64 op, .int .i64 m, .string xs, .slice lo ln lc] 43)).alloc (.cells #[.int .i64 0, .int .i64 0, .int .i64 0] 31)) := bta (bal w2 _) _
  go_wp2_with (fail)
  refine (TB.out _).mono ?_
  rintro e w3 ⟨v3, rfl, ⟨op3, m3, xs3, lo3, ln3, lc3, rfl, hno3, hso3⟩, hB3⟩
  have HVn := mkHid (hso3 t rfl)
  have HV := mkHid (hso3 t rfl).plain
  obtain ⟨hX5, hX6⟩ := rb_two_new w3 #[.int .i64 op3, .int .i64 m3, .string xs3, .slice lo3 ln3 lc3] #[.int .i64 0, .int .i64 0] 43 29
  have hX3a := ((hX3.keep hB3).keep (bal w3 (.cells #[.int .i64 op3, .int .i64 m3, .string xs3, .slice lo3 ln3 lc3] 43))).keep (bal _ (.cells #[.int .i64 0, .int .i64 0] 29))
  have hX4a := ((hX4.keep hB3).keep (bal w3 (.cells #[.int .i64 op3, .int .i64 m3, .string xs3, .slice lo3 ln3 lc3] 43))).keep (bal _ (.cells #[.int .i64 0, .int .i64 0] 29))
  have hb3 := bta (bta (bt2 hb2 hB3) (.cells #[.int .i64 op3, .int .i64 m3, .string xs3, .slice lo3 ln3 lc3] 43)) (.cells #[.int .i64 0, .int .i64 0] 29)
  have hB3z : Below w3.heap.size w3 ((w3.alloc (.cells #[.int .i64 op3, .int .i64 m3, .string xs3, .slice lo3 ln3 lc3] 43)).alloc (.cells #[.int .i64 0, .int .i64 0] 29)) := bta (bal w3 _) _
  go_wp2_with (fail)
  refine (lfixed_at _ (hS.below hb3)).mono ?_
  rintro e w4 ⟨rfl, hB4⟩
  have hX3b := hX3a.keep hB4
  have hX4b := hX4a.keep hB4
  have hX5b := hX5.keep hB4
  have hX6b := hX6.keep hB4
  have hb4 := bt2 hb3 hB4
  have hs2 := hB2.size
  have hs3 := hB3.size
  rw [World.size_alloc, World.size_alloc] at hs3
  have hs4 := hB4.size
  rw [World.size_alloc, World.size_alloc] at hs4
  obtain ⟨a0, -⟩ := txcell hX3b 0 _ rfl
  obtain ⟨a1, -⟩ := txcell hX3b 1 _ rfl
  obtain ⟨a2, -⟩ := txcell hX3b 2 _ rfl
  obtain ⟨a3, -⟩ := txcell hX3b 3 _ rfl
  obtain ⟨b0, f0⟩ := txcell hX4b 0 _ rfl
  obtain ⟨b1, f1⟩ := txcell hX4b 1 _ rfl
  obtain ⟨b2, f2⟩ := txcell hX4b 2 _ rfl
  obtain ⟨d0, -⟩ := txcell hX5b 0 _ rfl
  obtain ⟨d1, -⟩ := txcell hX5b 1 _ rfl
  obtain ⟨d2, -⟩ := txcell hX5b 2 _ rfl
  obtain ⟨d3, -⟩ := txcell hX5b 3 _ rfl
  obtain ⟨e0, -⟩ := txcell hX6b 0 _ rfl
  obtain ⟨e1, -⟩ := txcell hX6b 1 _ rfl
  have hB24 : Below w2.heap.size w2 w4 := bt2 (bta (bta (bt2 hB2z hB3) (.cells #[.int .i64 op3, .int .i64 m3, .string xs3, .slice lo3 ln3 lc3] 43)) (.cells #[.int .i64 0, .int .i64 0] 29)) hB4
  have HU4 := mkHid (RdT.kept hB24 _ _ _ _ _ HU.out)
  have HV4 := mkHid (RdT.kept (bt2 hB3z hB4) _ _ _ _ _ HV.out)
  obtain ⟨C, hC⟩ : ∃ C, (((w4.alloc (.cells #[.int .i64 op, .int .i64 m, .string xs, .slice lo ln lc, .int .i64 0, .int .i64 0, .string emp, .slice none 0 0] 43)).alloc (.cells #[.int .i64 13, .string emp, .int .i64 0, .slice (some ⟨w4.heap.size, 0, none⟩) 2 2, .slice none 0 0] 26)).alloc (.cells #[.int .i64 op3, .int .i64 m3, .string xs3, .slice lo3 ln3 lc3, .int .i64 0, .int .i64 0, .string emp, .slice none 0 0] 43)).alloc (.cells #[.int .i64 13, .string emp, .int .i64 0, .slice (some ⟨w4.heap.size + 2, 0, none⟩) 2 2, .slice none 0 0] 26) = C := ⟨_, rfl⟩
  have bC : Below w4.heap.size w4 C := by rw [← hC]; exact bta (bta (bta (bal w4 _) _) _) _
  obtain ⟨n1, n2⟩ := rb_two_new w4 #[.int .i64 op, .int .i64 m, .string xs, .slice lo ln lc, .int .i64 0, .int .i64 0, .string emp, .slice none 0 0] #[.int .i64 13, .string emp, .int .i64 0, .slice (some ⟨w4.heap.size, 0, none⟩) 2 2, .slice none 0 0] 43 26
  have n1 := (n1.keep (bal _ (.cells #[.int .i64 op3, .int .i64 m3, .string xs3, .slice lo3 ln3 lc3, .int .i64 0, .int .i64 0, .string emp, .slice none 0 0] 43))).keep (bal _ (.cells #[.int .i64 13, .string emp, .int .i64 0, .slice (some ⟨w4.heap.size + 2, 0, none⟩) 2 2, .slice none 0 0] 26))
  have n2 := (n2.keep (bal _ (.cells #[.int .i64 op3, .int .i64 m3, .string xs3, .slice lo3 ln3 lc3, .int .i64 0, .int .i64 0, .string emp, .slice none 0 0] 43))).keep (bal _ (.cells #[.int .i64 13, .string emp, .int .i64 0, .slice (some ⟨w4.heap.size + 2, 0, none⟩) 2 2, .slice none 0 0] 26))
  obtain ⟨n3, n4⟩ := rb_two_new ((w4.alloc (.cells #[.int .i64 op, .int .i64 m, .string xs, .slice lo ln lc, .int .i64 0, .int .i64 0, .string emp, .slice none 0 0] 43)).alloc (.cells #[.int .i64 13, .string emp, .int .i64 0, .slice (some ⟨w4.heap.size, 0, none⟩) 2 2, .slice none 0 0] 26)) #[.int .i64 op3, .int .i64 m3, .string xs3, .slice lo3 ln3 lc3, .int .i64 0, .int .i64 0, .string emp, .slice none 0 0] #[.int .i64 13, .string emp, .int .i64 0, .slice (some ⟨w4.heap.size + 2, 0, none⟩) 2 2, .slice none 0 0] 43 26
  rw [World.size_alloc, World.size_alloc] at n3 n4
  rw [hC] at n1 n2 n3 n4
  have hX5m := (hX5b.keep (bal w4 (.cells #[.int .i64 op, .int .i64 m, .string xs, .slice lo ln lc, .int .i64 0, .int .i64 0, .string emp, .slice none 0 0] 43))).keep (bal _ (.cells #[.int .i64 13, .string emp, .int .i64 0, .slice (some ⟨w4.heap.size, 0, none⟩) 2 2, .slice none 0 0] 26))
  have hX3C := hX3b.keep bC
  rw [← hC] at hX3C
  obtain ⟨dd0, -⟩ := txcell hX5m 0 _ rfl
  obtain ⟨dd1, -⟩ := txcell hX5m 1 _ rfl
  obtain ⟨dd2, -⟩ := txcell hX5m 2 _ rfl
  obtain ⟨dd3, -⟩ := txcell hX5m 3 _ rfl
  obtain ⟨aa0, -⟩ := txcell hX3C 0 _ rfl
  obtain ⟨aa1, -⟩ := txcell hX3C 1 _ rfl
  obtain ⟨aa2, -⟩ := txcell hX3C 2 _ rfl
  obtain ⟨aa3, -⟩ := txcell hX3C 3 _ rfl
  clear hX5m hX3C
  have F7 := mkHid (eqF_fm n1 (RdT.kept bC _ _ _ _ _ HU4.out))
  have F8 := mkHid (eqF_fm n3 (RdT.kept bC _ _ _ _ _ HV4.out))
  have C4 := mkHid (CK.out C _ (⟨_, _, _, _, rfl, RdT.kept bC _ _ _ _ _ HU4.out⟩ : TmV C t (.agg #[.int .i64 op, .int .i64 m, .string xs, .slice lo ln lc])) _ (Below.refl _ _))
  have D4 := mkHid (fun w1 h => SM.out C _ _ F7.out F8.out w1 h)
  have hX4c := hX4b.keep bC
  have sC : C.heap.size = w4.heap.size + 4 := by rw [← hC]; simp
  have hbC := bt2 hb4 bC
  have M2 := mkHid n2
  have M3 := mkHid n3
  have M4 := mkHid n4
  have MX := mkHid hX4c
  have HbC := mkHid hbC
  have HbC4 := mkHid bC
  have HC := mkHid hC
  clear n1 n2 n3 n4 bC hX4c hC hbC
  go_wp2_with (fail)
  rw [HC.out]
  refine C4.out.mono ?_
  rintro e w5 ⟨rfl, hB5⟩
  clear aa0 aa1 aa2 aa3 dd0 dd1 dd2 dd3 a0 a1 a2 a3 b0 b1 b2 d0 d1 d2 d3 e0 e1
  have j2 := M2.out.keep hB5
  have j4 := M4.out.keep hB5
  obtain ⟨y0, -⟩ := txcell j2 0 _ rfl
  obtain ⟨y1, -⟩ := txcell j2 1 _ rfl
  obtain ⟨y2, -⟩ := txcell j2 2 _ rfl
  obtain ⟨y3, -⟩ := txcell j2 3 _ rfl
  obtain ⟨y4, -⟩ := txcell j2 4 _ rfl
  obtain ⟨z0, -⟩ := txcell j4 0 _ rfl
  obtain ⟨z1, -⟩ := txcell j4 1 _ rfl
  obtain ⟨z2, -⟩ := txcell j4 2 _ rfl
  obtain ⟨z3, -⟩ := txcell j4 3 _ rfl
  obtain ⟨z4, -⟩ := txcell j4 4 _ rfl
  go_wp2_with (fail)
  refine (D4.out w5 hB5).mono ?_
  rintro e w6 ⟨rfl, hB6⟩
  clear y0 y1 y2 y3 y4 z0 z1 z2 z3 z4
  have hB56 := bt2 hB5 hB6
  have hb6 := bt2 HbC.out hB56
  have hX4d := MX.out.keep hB56
  have hP4 := M4.out.keep hB56
  have HF8 := mkHid (fmv_keep F8.out hB56)
  have hs6 := hB56.size
  rw [sC] at hs6
  go_wp2_with (fail)
  refine (FA.out _ (hS.below hb6)).mono ?_
  rintro e w7 ⟨v7, rfl, ⟨op7, xs7, m7, bo7, n7, c7, lo7, ln7, lc7, rfl, hn7, -⟩, hB7⟩
  obtain ⟨rfl, rfl, rfl, rfl, rfl, rfl, rfl, rfl, rfl⟩ : op7 = 0 ∧ xs7 = emp ∧ m7 = 0 ∧ bo7 = none ∧ n7 = 0 ∧ c7 = 0 ∧ lo7 = none ∧ ln7 = 0 ∧ lc7 = 0 := by have := hn7 rfl; simpa [and_assoc] using this
  have hs7 := hB7.size
  have hX4e := (hX4d.keep hB7).keep (bal w7 (.cells zF 26))
  have hX10 := rb_new w7 zF 26
  have hb7 := bta (bt2 hb6 hB7) (.cells zF 26)
  obtain ⟨p0, q0⟩ := txcell hX4e 0 _ rfl
  obtain ⟨p1, q1⟩ := txcell hX4e 1 _ rfl
  obtain ⟨p2, q2⟩ := txcell hX4e 2 _ rfl
  obtain ⟨r0, -⟩ := txcell hX10 0 _ rfl
  obtain ⟨r1, -⟩ := txcell hX10 1 _ rfl
  obtain ⟨r2, -⟩ := txcell hX10 2 _ rfl
  obtain ⟨r3, -⟩ := txcell hX10 3 _ rfl
  obtain ⟨r4, -⟩ := txcell hX10 4 _ rfl
  rcases hc with rfl | rfl | rfl
  all_goals
    go_wp2_with (fail)
    refine (lempty_at _).mono ?_
    rintro e w9 ⟨rfl, hB9⟩
    go_wp2
    go_ret
    exact ⟨rfl, bt2 (by repeat first | exact hb7 | refine Below.setCell ?_ (by simp; omega) _) hB9⟩
end Go.Proofs.YtabfhdmcljdjhaaGreatDoor.Gl
/- ParseTerms, the way where all is right. -/
namespace Go.Proofs.YtabfhdmcljdjhaaGreatDoor.Gl
open Go.RowKit
set_option linter.unusedVariables false
set_option linter.unusedSimpArgs false

set_option maxRecDepth 100000 in
set_option maxHeartbeats 4000000 in
theorem pterms_ok (s : ByteArray) (t : Tm) (w : World) (h : AnT s (some t) 0 0 0) (hS : Sg w) (h64 : (zeq ++ s).size ≤ 9223372036854775807) (ht : chkT nmB t = 0) (h2 : An (zeq ++ s) (some (atomF t)) 0 0 0) :
    Calls Tryz.prog 4 #[.string s] w fun e w' => e = .returned (.bool true) ∧ Below w.heap.size w w' := by
  have h63 : s.size ≤ 9223372036854775807 := by rw [ByteArray.size_append] at h64; omega
  have hz4 : (zeq ++ s).size = 4 + s.size := by rw [ByteArray.size_append]; rfl
  have TA := mkHid (fun w1 (hS : Sg w1) => term_any h w1 hS h63)
  have TB := mkHid (fun w1 => dterm_any h w1 h63)
  have CK := mkHid (fun W u (hu : TmV W t u) w1 h => rcheckT_at W t u w1 hu h)
  have SM := mkHid (fun W v u (hv : FmV W (eqF t) v) (hu : FmV W (eqF t) u) w1 h => rsameF_at W (eqF t) (eqF t) v u w1 hv hu h)
  have hee : eqB (eqF t) (eqF t) = true := eqB_yes rfl
  rw [hee] at SM
  rw [ht] at CK
  have FA := mkHid (fun w1 (hS : Sg w1) => formula_any h2 w1 hS h64)
  clear h h2 hee
  go_enter Tryz.func4, Tryz.ntmps4
  go_wp2_with (fail)
  refine (TA.out _ hS).mono ?_
  rintro e w2 ⟨v, rfl, ⟨op, m, xs, lo, ln, lc, rfl, hno, hso⟩, hB2⟩
  have HU := mkHid (hso t rfl).plain
  obtain ⟨hX3, hX4⟩ := rb_two_new w2 #[.int .i64 op, .int .i64 m, .string xs, .slice lo ln lc] #[.int .i64 0, .int .i64 0, .int .i64 0] 43 31
  have hb2 := bta (bta hB2 (.cells #[.int .i64 op, .int .i64 m, .string xs, .slice lo ln lc] 43)) (.cells #[.int .i64 0, .int .i64 0, .int .i64 0] 31)
  have hB2z : Below w2.heap.size w2 ((w2.alloc (.cells #[.int .i64 op, .int .i64 m, .string xs, .slice lo ln lc] 43)).alloc (.cells #[.int .i64 0, .int .i64 0, .int .i64 0] 31)) := bta (bal w2 _) _
  go_wp2_with (fail)
  refine (TB.out _).mono ?_
  rintro e w3 ⟨v3, rfl, ⟨op3, m3, xs3, lo3, ln3, lc3, rfl, hno3, hso3⟩, hB3⟩
  have HVn := mkHid (hso3 t rfl)
  have HV := mkHid (hso3 t rfl).plain
  obtain ⟨hX5, hX6⟩ := rb_two_new w3 #[.int .i64 op3, .int .i64 m3, .string xs3, .slice lo3 ln3 lc3] #[.int .i64 0, .int .i64 0] 43 29
  have hX3a := ((hX3.keep hB3).keep (bal w3 (.cells #[.int .i64 op3, .int .i64 m3, .string xs3, .slice lo3 ln3 lc3] 43))).keep (bal _ (.cells #[.int .i64 0, .int .i64 0] 29))
  have hX4a := ((hX4.keep hB3).keep (bal w3 (.cells #[.int .i64 op3, .int .i64 m3, .string xs3, .slice lo3 ln3 lc3] 43))).keep (bal _ (.cells #[.int .i64 0, .int .i64 0] 29))
  have hb3 := bta (bta (bt2 hb2 hB3) (.cells #[.int .i64 op3, .int .i64 m3, .string xs3, .slice lo3 ln3 lc3] 43)) (.cells #[.int .i64 0, .int .i64 0] 29)
  have hB3z : Below w3.heap.size w3 ((w3.alloc (.cells #[.int .i64 op3, .int .i64 m3, .string xs3, .slice lo3 ln3 lc3] 43)).alloc (.cells #[.int .i64 0, .int .i64 0] 29)) := bta (bal w3 _) _
  go_wp2_with (fail)
  refine (lfixed_at _ (hS.below hb3)).mono ?_
  rintro e w4 ⟨rfl, hB4⟩
  have hX3b := hX3a.keep hB4
  have hX4b := hX4a.keep hB4
  have hX5b := hX5.keep hB4
  have hX6b := hX6.keep hB4
  have hb4 := bt2 hb3 hB4
  have hs2 := hB2.size
  have hs3 := hB3.size
  rw [World.size_alloc, World.size_alloc] at hs3
  have hs4 := hB4.size
  rw [World.size_alloc, World.size_alloc] at hs4
  obtain ⟨a0, -⟩ := txcell hX3b 0 _ rfl
  obtain ⟨a1, -⟩ := txcell hX3b 1 _ rfl
  obtain ⟨a2, -⟩ := txcell hX3b 2 _ rfl
  obtain ⟨a3, -⟩ := txcell hX3b 3 _ rfl
  obtain ⟨b0, f0⟩ := txcell hX4b 0 _ rfl
  obtain ⟨b1, f1⟩ := txcell hX4b 1 _ rfl
  obtain ⟨b2, f2⟩ := txcell hX4b 2 _ rfl
  obtain ⟨d0, -⟩ := txcell hX5b 0 _ rfl
  obtain ⟨d1, -⟩ := txcell hX5b 1 _ rfl
  obtain ⟨d2, -⟩ := txcell hX5b 2 _ rfl
  obtain ⟨d3, -⟩ := txcell hX5b 3 _ rfl
  obtain ⟨e0, -⟩ := txcell hX6b 0 _ rfl
  obtain ⟨e1, -⟩ := txcell hX6b 1 _ rfl
  have hB24 : Below w2.heap.size w2 w4 := bt2 (bta (bta (bt2 hB2z hB3) (.cells #[.int .i64 op3, .int .i64 m3, .string xs3, .slice lo3 ln3 lc3] 43)) (.cells #[.int .i64 0, .int .i64 0] 29)) hB4
  have HU4 := mkHid (RdT.kept hB24 _ _ _ _ _ HU.out)
  have HV4 := mkHid (RdT.kept (bt2 hB3z hB4) _ _ _ _ _ HV.out)
  obtain ⟨C, hC⟩ : ∃ C, (((w4.alloc (.cells #[.int .i64 op, .int .i64 m, .string xs, .slice lo ln lc, .int .i64 0, .int .i64 0, .string emp, .slice none 0 0] 43)).alloc (.cells #[.int .i64 13, .string emp, .int .i64 0, .slice (some ⟨w4.heap.size, 0, none⟩) 2 2, .slice none 0 0] 26)).alloc (.cells #[.int .i64 op3, .int .i64 m3, .string xs3, .slice lo3 ln3 lc3, .int .i64 0, .int .i64 0, .string emp, .slice none 0 0] 43)).alloc (.cells #[.int .i64 13, .string emp, .int .i64 0, .slice (some ⟨w4.heap.size + 2, 0, none⟩) 2 2, .slice none 0 0] 26) = C := ⟨_, rfl⟩
  have bC : Below w4.heap.size w4 C := by rw [← hC]; exact bta (bta (bta (bal w4 _) _) _) _
  obtain ⟨n1, n2⟩ := rb_two_new w4 #[.int .i64 op, .int .i64 m, .string xs, .slice lo ln lc, .int .i64 0, .int .i64 0, .string emp, .slice none 0 0] #[.int .i64 13, .string emp, .int .i64 0, .slice (some ⟨w4.heap.size, 0, none⟩) 2 2, .slice none 0 0] 43 26
  have n1 := (n1.keep (bal _ (.cells #[.int .i64 op3, .int .i64 m3, .string xs3, .slice lo3 ln3 lc3, .int .i64 0, .int .i64 0, .string emp, .slice none 0 0] 43))).keep (bal _ (.cells #[.int .i64 13, .string emp, .int .i64 0, .slice (some ⟨w4.heap.size + 2, 0, none⟩) 2 2, .slice none 0 0] 26))
  have n2 := (n2.keep (bal _ (.cells #[.int .i64 op3, .int .i64 m3, .string xs3, .slice lo3 ln3 lc3, .int .i64 0, .int .i64 0, .string emp, .slice none 0 0] 43))).keep (bal _ (.cells #[.int .i64 13, .string emp, .int .i64 0, .slice (some ⟨w4.heap.size + 2, 0, none⟩) 2 2, .slice none 0 0] 26))
  obtain ⟨n3, n4⟩ := rb_two_new ((w4.alloc (.cells #[.int .i64 op, .int .i64 m, .string xs, .slice lo ln lc, .int .i64 0, .int .i64 0, .string emp, .slice none 0 0] 43)).alloc (.cells #[.int .i64 13, .string emp, .int .i64 0, .slice (some ⟨w4.heap.size, 0, none⟩) 2 2, .slice none 0 0] 26)) #[.int .i64 op3, .int .i64 m3, .string xs3, .slice lo3 ln3 lc3, .int .i64 0, .int .i64 0, .string emp, .slice none 0 0] #[.int .i64 13, .string emp, .int .i64 0, .slice (some ⟨w4.heap.size + 2, 0, none⟩) 2 2, .slice none 0 0] 43 26
  rw [World.size_alloc, World.size_alloc] at n3 n4
  rw [hC] at n1 n2 n3 n4
  have hX5m := (hX5b.keep (bal w4 (.cells #[.int .i64 op, .int .i64 m, .string xs, .slice lo ln lc, .int .i64 0, .int .i64 0, .string emp, .slice none 0 0] 43))).keep (bal _ (.cells #[.int .i64 13, .string emp, .int .i64 0, .slice (some ⟨w4.heap.size, 0, none⟩) 2 2, .slice none 0 0] 26))
  have hX3C := hX3b.keep bC
  rw [← hC] at hX3C
  obtain ⟨dd0, -⟩ := txcell hX5m 0 _ rfl
  obtain ⟨dd1, -⟩ := txcell hX5m 1 _ rfl
  obtain ⟨dd2, -⟩ := txcell hX5m 2 _ rfl
  obtain ⟨dd3, -⟩ := txcell hX5m 3 _ rfl
  obtain ⟨aa0, -⟩ := txcell hX3C 0 _ rfl
  obtain ⟨aa1, -⟩ := txcell hX3C 1 _ rfl
  obtain ⟨aa2, -⟩ := txcell hX3C 2 _ rfl
  obtain ⟨aa3, -⟩ := txcell hX3C 3 _ rfl
  clear hX5m hX3C
  have F7 := mkHid (eqF_fm n1 (RdT.kept bC _ _ _ _ _ HU4.out))
  have F8 := mkHid (eqF_fm n3 (RdT.kept bC _ _ _ _ _ HV4.out))
  have C4 := mkHid (CK.out C _ (⟨_, _, _, _, rfl, RdT.kept bC _ _ _ _ _ HU4.out⟩ : TmV C t (.agg #[.int .i64 op, .int .i64 m, .string xs, .slice lo ln lc])) _ (Below.refl _ _))
  have D4 := mkHid (fun w1 h => SM.out C _ _ F7.out F8.out w1 h)
  have hX4c := hX4b.keep bC
  have sC : C.heap.size = w4.heap.size + 4 := by rw [← hC]; simp
  have hbC := bt2 hb4 bC
  have M2 := mkHid n2
  have M3 := mkHid n3
  have M4 := mkHid n4
  have MX := mkHid hX4c
  have HbC := mkHid hbC
  have HbC4 := mkHid bC
  have HC := mkHid hC
  clear n1 n2 n3 n4 bC hX4c hC hbC
  go_wp2_with (fail)
  rw [HC.out]
  refine C4.out.mono ?_
  rintro e w5 ⟨rfl, hB5⟩
  clear aa0 aa1 aa2 aa3 dd0 dd1 dd2 dd3 a0 a1 a2 a3 b0 b1 b2 d0 d1 d2 d3 e0 e1
  have j2 := M2.out.keep hB5
  have j4 := M4.out.keep hB5
  obtain ⟨y0, -⟩ := txcell j2 0 _ rfl
  obtain ⟨y1, -⟩ := txcell j2 1 _ rfl
  obtain ⟨y2, -⟩ := txcell j2 2 _ rfl
  obtain ⟨y3, -⟩ := txcell j2 3 _ rfl
  obtain ⟨y4, -⟩ := txcell j2 4 _ rfl
  obtain ⟨z0, -⟩ := txcell j4 0 _ rfl
  obtain ⟨z1, -⟩ := txcell j4 1 _ rfl
  obtain ⟨z2, -⟩ := txcell j4 2 _ rfl
  obtain ⟨z3, -⟩ := txcell j4 3 _ rfl
  obtain ⟨z4, -⟩ := txcell j4 4 _ rfl
  go_wp2_with (fail)
  refine (D4.out w5 hB5).mono ?_
  rintro e w6 ⟨rfl, hB6⟩
  clear y0 y1 y2 y3 y4 z0 z1 z2 z3 z4
  have hB56 := bt2 hB5 hB6
  have hb6 := bt2 HbC.out hB56
  have hX4d := MX.out.keep hB56
  have hP4 := M4.out.keep hB56
  have HF8 := mkHid (fmv_keep F8.out hB56)
  have hs6 := hB56.size
  rw [sC] at hs6
  go_wp2_with (fail)
  refine (FA.out _ (hS.below hb6)).mono ?_
  rintro e w7 ⟨v7, rfl, ⟨op7, xs7, m7, bo7, n7, c7, lo7, ln7, lc7, rfl, -, hs⟩, hB7⟩
  have hr := hs _ rfl
  rw [RdFn] at hr
  obtain ⟨h0, h1, h2, h3, ⟨ao, cap, h4, h5, h6, h7⟩, a2, c2, h8, -, -, -⟩ := hr
  rw [RdTnL, RdTnL] at h7
  obtain ⟨⟨g, of, u0, u1, u2, u3, e1, -, -, -, -, -, -, -⟩, ⟨g', of', v0, v1, v2, v3, e1', hPg, hg', j0, j1, j2, j3, hr'⟩, -⟩ := h7
  rw [e1] at e1'
  cases e1'
  cases h0; cases h1; cases h2
  subst e1
  cases h4; cases h8
  have hs7 := hB7.size
  have hX4e := (hX4d.keep hB7).keep (bal w7 (.cells #[.int .i64 13, .string emp, .int .i64 0, .slice (some ⟨g, of, none⟩) 2 c7, .slice lo7 0 lc7] 26))
  have hX10 := rb_new w7 #[.int .i64 13, .string emp, .int .i64 0, .slice (some ⟨g, of, none⟩) 2 c7, .slice lo7 0 lc7] 26
  have hP4e := (hP4.keep hB7).keep (bal w7 (.cells #[.int .i64 13, .string emp, .int .i64 0, .slice (some ⟨g, of, none⟩) 2 c7, .slice lo7 0 lc7] 26))
  have hb7 := bta (bt2 hb6 hB7) (.cells #[.int .i64 13, .string emp, .int .i64 0, .slice (some ⟨g, of, none⟩) 2 c7, .slice lo7 0 lc7] 26)
  obtain ⟨p0, q0⟩ := txcell hX4e 0 _ rfl
  obtain ⟨p1, q1⟩ := txcell hX4e 1 _ rfl
  obtain ⟨p2, q2⟩ := txcell hX4e 2 _ rfl
  have hHi7 := (((Hi.of (P := Ge w6.heap.size) (bal w7 (.cells #[.int .i64 13, .string emp, .int .i64 0, .slice (some ⟨g, of, none⟩) 2 c7, .slice lo7 0 lc7] 26))).set (g := w2.heap.size + 1) (fun i (hi : _ ≤ i) => by omega) 0 (.int .i64 0)).set (g := w2.heap.size + 1) (fun i (hi : _ ≤ i) => by omega) 1 (.int .i64 0)).set (g := w2.heap.size + 1) (fun i (hi : _ ≤ i) => by omega) 2 (.int .i64 0)
  have hB37 : Below w3.heap.size w3 (w7.alloc (.cells #[.int .i64 13, .string emp, .int .i64 0, .slice (some ⟨g, of, none⟩) 2 c7, .slice lo7 0 lc7] 26)) := bta (bt2 (bt2 (bt2 (bt2 hB3z hB4) HbC4.out) hB56) hB7) _
  have hge : ∀ i, Ge ((w2.alloc (.cells #[.int .i64 op, .int .i64 m, .string xs, .slice lo ln lc] 43)).alloc (.cells #[.int .i64 0, .int .i64 0, .int .i64 0] 31)).heap.size i → i ≠ w2.heap.size + 1 := fun i (hi : _ ≤ i) => by rw [World.size_alloc, World.size_alloc] at hi; omega
  have hHi3 := (((Hi.of (P := Ge ((w2.alloc (.cells #[.int .i64 op, .int .i64 m, .string xs, .slice lo ln lc] 43)).alloc (.cells #[.int .i64 0, .int .i64 0, .int .i64 0] 31)).heap.size) hB37).set (g := w2.heap.size + 1) hge 0 (.int .i64 0)).set (g := w2.heap.size + 1) hge 1 (.int .i64 0)).set (g := w2.heap.size + 1) hge 2 (.int .i64 0)
  have hX4f := rb_three hX4e rfl (.int .i64 0) (.int .i64 0) (.int .i64 0)
  have hX10f := hX10.st3 (X := w2.heap.size + 1) (by omega) (.int .i64 0) (.int .i64 0) (.int .i64 0)
  have hP4f := hP4e.st3 (X := w2.heap.size + 1) (by omega) (.int .i64 0) (.int .i64 0) (.int .i64 0)
  have hP3f := (((M3.out.keep hB56).keep hB7).keep (bal w7 (.cells #[.int .i64 13, .string emp, .int .i64 0, .slice (some ⟨g, of, none⟩) 2 c7, .slice lo7 0 lc7] 26))).st3 (X := w2.heap.size + 1) (by omega) (.int .i64 0) (.int .i64 0) (.int .i64 0)
  have hb8 := bel_st3 hb7 (B := w2.heap.size + 1) (by omega) (.int .i64 0) (.int .i64 0) (.int .i64 0)
  go_wp2_with (fail)
  dsimp only [st3] at hX4f hX10f hP4f hP3f hb8
  generalize (((w7.alloc (.cells #[.int .i64 13, .string emp, .int .i64 0, .slice (some ⟨g, of, none⟩) 2 c7, .slice lo7 0 lc7] 26)).setCell ⟨w2.heap.size + 1, 0, none⟩ (.int .i64 0)).setCell ⟨w2.heap.size + 1, 1, none⟩ (.int .i64 0)).setCell ⟨w2.heap.size + 1, 2, none⟩ (.int .i64 0) = w8 at hHi7 hHi3 hX4f hX10f hP4f hP3f hb8 ⊢
  have R8 := mkHid (RdTn.keep hHi7 _ _ _ _ _ hr').plain
  have V8 := mkHid (RdTn.keep hHi3 _ _ _ _ _ HVn.out).plain
  have hg8 : g < w8.heap.size := Nat.lt_of_lt_of_le hg' hHi7.size
  have cc : ∀ o, w8.cell? ⟨g, o, none⟩ = w7.cell? ⟨g, o, none⟩ := fun o => World.cell?_of_block (w := w7) (hHi7.block g hPg hg')
  have i0 : w8.cell? ⟨g, of + 4, none⟩ = some v0 := (cc _).trans (by simpa using j0)
  have i1 : w8.cell? ⟨g, of + 5, none⟩ = some v1 := (cc _).trans (by simpa using j1)
  have i2 : w8.cell? ⟨g, of + 6, none⟩ = some v2 := (cc _).trans (by simpa using j2)
  have i3 : w8.cell? ⟨g, of + 7, none⟩ = some v3 := (cc _).trans (by simpa using j3)
  have G8 := mkHid (eqF_fm hP3f V8.out)
  clear p0 p1 p2 q0 q1 q2 cc j0 j1 j2 j3
  obtain ⟨p0, -⟩ := txcell hX4f 0 _ rfl
  obtain ⟨p1, -⟩ := txcell hX4f 1 _ rfl
  obtain ⟨p2, -⟩ := txcell hX4f 2 _ rfl
  obtain ⟨r0, -⟩ := txcell hX10f 0 _ rfl
  obtain ⟨r3, -⟩ := txcell hX10f 3 _ rfl
  obtain ⟨z0, -⟩ := txcell hP4f 0 _ rfl
  obtain ⟨z1, -⟩ := txcell hP4f 1 _ rfl
  obtain ⟨z2, -⟩ := txcell hP4f 2 _ rfl
  obtain ⟨z3, -⟩ := txcell hP4f 3 _ rfl
  obtain ⟨z4, -⟩ := txcell hP4f 4 _ rfl
  generalize w2.heap.size + 1 = zz at p0 p1 p2 ⊢
  go_region_with (first
    | (go_at_call 13
       refine (CK.out w8 _ (⟨_, _, _, _, rfl, R8.out⟩ : TmV w8 t (.agg #[v0, v1, v2, v3])) _ (Below.refl _ _).drew).mono ?_
       rintro e w9 ⟨rfl, hB9⟩
       have hB89 : Below w8.heap.size w8 w9 := (Below.refl _ w8).drew.trans hB9
       have hX10g := hX10f.keep hB89
       have hP4g := hP4f.keep hB89
       have k0 := (hB89.cell (p := ⟨g, of + 4, none⟩) hg8).trans i0
       have k1 := (hB89.cell (p := ⟨g, of + 5, none⟩) hg8).trans i1
       have k2 := (hB89.cell (p := ⟨g, of + 6, none⟩) hg8).trans i2
       have k3 := (hB89.cell (p := ⟨g, of + 7, none⟩) hg8).trans i3
       have l3 := (txcell hX10g 3 _ rfl).1
       have m0 := (txcell hP4g 0 _ rfl).1
       have m1 := (txcell hP4g 1 _ rfl).1
       have m2 := (txcell hP4g 2 _ rfl).1
       have m3 := (txcell hP4g 3 _ rfl).1
       have m4 := (txcell hP4g 4 _ rfl).1
       have hP4h := hP4g.keep (bal w9 (.cells #[v0, v1, v2, v3, .int .i64 0, .int .i64 0, .string emp, .slice none 0 0] 43))
       have o0 := (txcell hP4h 0 _ rfl).1
       have o1 := (txcell hP4h 1 _ rfl).1
       have o2 := (txcell hP4h 2 _ rfl).1
       have o3 := (txcell hP4h 3 _ rfl).1
       have o4 := (txcell hP4h 4 _ rfl).1
       have hb9 := bt2 hb8 hB89)
    | (go_at_call 10
       refine (SM.out (w9.alloc (.cells #[v0, v1, v2, v3, .int .i64 0, .int .i64 0, .string emp, .slice none 0 0] 43)) _ _ (eqF_fm (rb_new w9 #[v0, v1, v2, v3, .int .i64 0, .int .i64 0, .string emp, .slice none 0 0] 43) (RdT.kept (bta hB89 _) _ _ _ _ _ R8.out)) (fmv_keep G8.out (bta hB89 _)) _ (Below.refl _ _)).mono ?_
       rintro e w11 ⟨rfl, hB11⟩))
  all_goals
    go_wp2
    go_ret
    exact ⟨rfl, bt2 (bta hb9 _) hB11⟩
end Go.Proofs.YtabfhdmcljdjhaaGreatDoor.Gl
/- ParseTerms: every way. -/
namespace Go.Proofs.YtabfhdmcljdjhaaGreatDoor.Gl
open Go.RowKit

theorem pterms_walk (s : ByteArray) (w : World) (hS : Sg w) (h64 : s.size + 4 ≤ 9223372036854775807) :
    Calls Tryz.prog 4 #[.string s] w fun e w' => e = .returned (.bool true) ∧ Below w.heap.size w w' := by
  have hz : (zeq ++ s).size ≤ 9223372036854775807 := by
    rw [ByteArray.size_append]
    have : zeq.size = 4 := by decide
    omega
  obtain ⟨o, c, b, k, h⟩ := AnT.ex s
  cases o with
  | none => exact pterms_no s c b k w h hS (by omega)
  | some t =>
    obtain ⟨⟨rfl, rfl, rfl, ht⟩, h2⟩ := eq_an h
    rcases h2 with ⟨c', hc, h2⟩ | h2
    · exact pterms_long s t w h hS hz ht c' hc h2
    · exact pterms_ok s t w h hS hz ht h2
end Go.Proofs.YtabfhdmcljdjhaaGreatDoor.Gl
