/- ParseFormulas, from what the document's level answers. -/
import Derived.Test.YtabfhdmcljdjhaaGreatDoorDcS
import Derived.Test.YtabfhdmcljdjhaaGreatDoorDcO
namespace Go.Proofs.YtabfhdmcljdjhaaGreatDoor.Gl
open Go.RowKit
set_option linter.unusedVariables false
set_option linter.unusedSimpArgs false

theorem An.ne {s : ByteArray} {c b k : Nat} (h : An s none c b k) : c ≠ 0 := by
  cases h with
  | long _ => decide
  | lex hs hl => have := hl.cs (c := 0) (q := 0) _ _ rfl; omega
  | bad hs hl hf =>
    cases hf with
    | bad h => rcases h.why _ _ rfl with e | e <;> rw [e] <;> decide
    | rest _ _ => decide
  | many _ _ _ hc => exact hc
set_option maxRecDepth 100000 in
set_option maxHeartbeats 4000000 in
theorem pforms_no (L0 : ∀ X : Rx, WdOk X.ws → DLev 0 X 0) (s : ByteArray) (c b k : Nat) (w : World) (h : An s none c b k) (hS : Sg w) (h64 : s.size ≤ 9223372036854775807) :
    Calls Tryz.prog 3 #[.string s] w fun e w' => e = .returned (.bool true) ∧ Below w.heap.size w w' := by
  have hc0 := h.ne
  have hc' : ((c : Int) == 0) = false := by rw [beq_eq_false_iff_ne]; omega
  have hc2 : ¬ (c : Int) = 0 := by omega
  have TA := mkHid (fun w1 (hS : Sg w1) => formula_any h w1 hS h64)
  have TB := mkHid (fun w1 => dform_any L0 h w1 h64)
  clear h
  go_enter Tryz.func3, Tryz.ntmps3
  go_wp2_with (fail)
  refine (TA.out _ hS).mono ?_
  rintro e w2 ⟨v, rfl, ⟨op, xs, m, bo, n1, c1, lo, ln, lc, rfl, hno, hso⟩, hB2⟩
  obtain ⟨rfl, rfl, rfl, rfl, rfl, rfl, rfl, rfl, rfl⟩ : op = 0 ∧ xs = emp ∧ m = 0 ∧ bo = none ∧ n1 = 0 ∧ c1 = 0 ∧ lo = none ∧ ln = 0 ∧ lc = 0 := by have := hno rfl; simpa [and_assoc] using this
  obtain ⟨hX3, hX4⟩ := rb_two_new w2 #[.int .i64 0, .string emp, .int .i64 0, .slice none 0 0, .slice none 0 0] #[.int .i64 (c : Nat), .int .i64 (b : Nat), .int .i64 (k : Nat)] 26 31
  have hb2 := bta (bta hB2 (.cells #[.int .i64 0, .string emp, .int .i64 0, .slice none 0 0, .slice none 0 0] 26)) (.cells #[.int .i64 (c : Nat), .int .i64 (b : Nat), .int .i64 (k : Nat)] 31)
  have hB2z : Below w2.heap.size w2 ((w2.alloc (.cells #[.int .i64 0, .string emp, .int .i64 0, .slice none 0 0, .slice none 0 0] 26)).alloc (.cells #[.int .i64 (c : Nat), .int .i64 (b : Nat), .int .i64 (k : Nat)] 31)) := bta (bal w2 _) _
  go_wp2_with (fail)
  refine (TB.out _).mono ?_
  rintro e w3 ⟨v3, rfl, ⟨op3, xs3, m3, bo3, n13, c13, lo3, ln3, lc3, rfl, hno3, hso3⟩, hB3⟩
  obtain ⟨rfl, rfl, rfl, rfl, rfl, rfl, rfl, rfl, rfl⟩ : op3 = 0 ∧ xs3 = emp ∧ m3 = 0 ∧ bo3 = none ∧ n13 = 0 ∧ c13 = 0 ∧ lo3 = none ∧ ln3 = 0 ∧ lc3 = 0 := by have := hno3 rfl; simpa [and_assoc] using this
  obtain ⟨hX5, hX6⟩ := rb_two_new w3 #[.int .i64 0, .string emp, .int .i64 0, .slice none 0 0, .slice none 0 0] #[.int .i64 (b : Nat), .int .i64 (k : Nat)] 26 29
  have hX3a := ((hX3.keep hB3).keep (bal w3 (.cells #[.int .i64 0, .string emp, .int .i64 0, .slice none 0 0, .slice none 0 0] 26))).keep (bal _ (.cells #[.int .i64 (b : Nat), .int .i64 (k : Nat)] 29))
  have hX4a := ((hX4.keep hB3).keep (bal w3 (.cells #[.int .i64 0, .string emp, .int .i64 0, .slice none 0 0, .slice none 0 0] 26))).keep (bal _ (.cells #[.int .i64 (b : Nat), .int .i64 (k : Nat)] 29))
  have hb3 := bta (bta (bt2 hb2 hB3) (.cells #[.int .i64 0, .string emp, .int .i64 0, .slice none 0 0, .slice none 0 0] 26)) (.cells #[.int .i64 (b : Nat), .int .i64 (k : Nat)] 29)
  have hB3z : Below w3.heap.size w3 ((w3.alloc (.cells #[.int .i64 0, .string emp, .int .i64 0, .slice none 0 0, .slice none 0 0] 26)).alloc (.cells #[.int .i64 (b : Nat), .int .i64 (k : Nat)] 29)) := bta (bal w3 _) _
  go_wp2_with (fail)
  refine (lfixed_at _ (hS.below hb3)).mono ?_
  rintro e w4 ⟨rfl, hB4⟩
  have hX3b := hX3a.keep hB4
  have hX4b := hX4a.keep hB4
  have hX5b := hX5.keep hB4
  have hX6b := hX6.keep hB4
  have hb4 := bt2 hb3 hB4
  have hs2 := hB2.size
  have hs3 := hB3.size
  rw [World.size_alloc, World.size_alloc] at hs3
  have hs4 := hB4.size
  rw [World.size_alloc, World.size_alloc] at hs4
  obtain ⟨a0, -⟩ := txcell hX3b 0 _ rfl
  obtain ⟨a1, -⟩ := txcell hX3b 1 _ rfl
  obtain ⟨a2, -⟩ := txcell hX3b 2 _ rfl
  obtain ⟨a3, -⟩ := txcell hX3b 3 _ rfl
  obtain ⟨a4, -⟩ := txcell hX3b 4 _ rfl
  obtain ⟨b0, f0⟩ := txcell hX4b 0 _ rfl
  obtain ⟨b1, f1⟩ := txcell hX4b 1 _ rfl
  obtain ⟨b2, f2⟩ := txcell hX4b 2 _ rfl
  obtain ⟨d0, -⟩ := txcell hX5b 0 _ rfl
  obtain ⟨d1, -⟩ := txcell hX5b 1 _ rfl
  obtain ⟨d2, -⟩ := txcell hX5b 2 _ rfl
  obtain ⟨d3, -⟩ := txcell hX5b 3 _ rfl
  obtain ⟨d4, -⟩ := txcell hX5b 4 _ rfl
  obtain ⟨e0, -⟩ := txcell hX6b 0 _ rfl
  obtain ⟨e1, -⟩ := txcell hX6b 1 _ rfl
  go_wp2_with (fail)
  refine (lempty_at _).mono ?_
  rintro e w9 ⟨rfl, hB9⟩
  go_wp2
  go_ret
  exact ⟨rfl, bt2 hb4 hB9⟩
set_option maxRecDepth 100000 in
set_option maxHeartbeats 4000000 in
theorem pforms_ok (L0 : ∀ X : Rx, WdOk X.ws → DLev 0 X 0) (s : ByteArray) (f : Fm) (w : World) (h : An s (some f) 0 0 0) (hS : Sg w) (h64 : s.size ≤ 9223372036854775807) (hc : chk nmB f = 0) :
    Calls Tryz.prog 3 #[.string s] w fun e w' => e = .returned (.bool true) ∧ Below w.heap.size w w' := by
  have TA := mkHid (fun w1 (hS : Sg w1) => formula_any h w1 hS h64)
  have TB := mkHid (fun w1 => dform_any L0 h w1 h64)
  have CK := mkHid (fun W u (hu : FmV W f u) w1 h => rcheck_at W f u w1 hu h)
  have SM := mkHid (fun W v u (hv : FmV W f v) (hu : FmV W f u) w1 h => rsameF_at W f f v u w1 hv hu h)
  have hee : eqB f f = true := eqB_yes rfl
  rw [hee] at SM
  rw [hc] at CK
  clear h hee
  go_enter Tryz.func3, Tryz.ntmps3
  go_wp2_with (fail)
  refine (TA.out _ hS).mono ?_
  rintro e w2 ⟨v, rfl, ⟨op, xs, m, bo, n1, c1, lo, ln, lc, rfl, hno, hso⟩, hB2⟩
  have HU := mkHid (hso f rfl).plain
  obtain ⟨hX3, hX4⟩ := rb_two_new w2 #[.int .i64 op, .string xs, .int .i64 m, .slice bo n1 c1, .slice lo ln lc] #[.int .i64 0, .int .i64 0, .int .i64 0] 26 31
  have hb2 := bta (bta hB2 (.cells #[.int .i64 op, .string xs, .int .i64 m, .slice bo n1 c1, .slice lo ln lc] 26)) (.cells #[.int .i64 0, .int .i64 0, .int .i64 0] 31)
  have hB2z : Below w2.heap.size w2 ((w2.alloc (.cells #[.int .i64 op, .string xs, .int .i64 m, .slice bo n1 c1, .slice lo ln lc] 26)).alloc (.cells #[.int .i64 0, .int .i64 0, .int .i64 0] 31)) := bta (bal w2 _) _
  go_wp2_with (fail)
  refine (TB.out _).mono ?_
  rintro e w3 ⟨v3, rfl, ⟨op3, xs3, m3, bo3, n13, c13, lo3, ln3, lc3, rfl, hno3, hso3⟩, hB3⟩
  have HV := mkHid (hso3 f rfl).plain
  obtain ⟨hX5, hX6⟩ := rb_two_new w3 #[.int .i64 op3, .string xs3, .int .i64 m3, .slice bo3 n13 c13, .slice lo3 ln3 lc3] #[.int .i64 0, .int .i64 0] 26 29
  have hX3a := ((hX3.keep hB3).keep (bal w3 (.cells #[.int .i64 op3, .string xs3, .int .i64 m3, .slice bo3 n13 c13, .slice lo3 ln3 lc3] 26))).keep (bal _ (.cells #[.int .i64 0, .int .i64 0] 29))
  have hX4a := ((hX4.keep hB3).keep (bal w3 (.cells #[.int .i64 op3, .string xs3, .int .i64 m3, .slice bo3 n13 c13, .slice lo3 ln3 lc3] 26))).keep (bal _ (.cells #[.int .i64 0, .int .i64 0] 29))
  have hb3 := bta (bta (bt2 hb2 hB3) (.cells #[.int .i64 op3, .string xs3, .int .i64 m3, .slice bo3 n13 c13, .slice lo3 ln3 lc3] 26)) (.cells #[.int .i64 0, .int .i64 0] 29)
  have hB3z : Below w3.heap.size w3 ((w3.alloc (.cells #[.int .i64 op3, .string xs3, .int .i64 m3, .slice bo3 n13 c13, .slice lo3 ln3 lc3] 26)).alloc (.cells #[.int .i64 0, .int .i64 0] 29)) := bta (bal w3 _) _
  go_wp2_with (fail)
  refine (lfixed_at _ (hS.below hb3)).mono ?_
  rintro e w4 ⟨rfl, hB4⟩
  have hX3b := hX3a.keep hB4
  have hX4b := hX4a.keep hB4
  have hX5b := hX5.keep hB4
  have hX6b := hX6.keep hB4
  have hb4 := bt2 hb3 hB4
  have hs2 := hB2.size
  have hs3 := hB3.size
  rw [World.size_alloc, World.size_alloc] at hs3
  have hs4 := hB4.size
  rw [World.size_alloc, World.size_alloc] at hs4
  obtain ⟨a0, -⟩ := txcell hX3b 0 _ rfl
  obtain ⟨a1, -⟩ := txcell hX3b 1 _ rfl
  obtain ⟨a2, -⟩ := txcell hX3b 2 _ rfl
  obtain ⟨a3, -⟩ := txcell hX3b 3 _ rfl
  obtain ⟨a4, -⟩ := txcell hX3b 4 _ rfl
  obtain ⟨b0, f0⟩ := txcell hX4b 0 _ rfl
  obtain ⟨b1, f1⟩ := txcell hX4b 1 _ rfl
  obtain ⟨b2, f2⟩ := txcell hX4b 2 _ rfl
  obtain ⟨d0, -⟩ := txcell hX5b 0 _ rfl
  obtain ⟨d1, -⟩ := txcell hX5b 1 _ rfl
  obtain ⟨d2, -⟩ := txcell hX5b 2 _ rfl
  obtain ⟨d3, -⟩ := txcell hX5b 3 _ rfl
  obtain ⟨d4, -⟩ := txcell hX5b 4 _ rfl
  obtain ⟨e0, -⟩ := txcell hX6b 0 _ rfl
  obtain ⟨e1, -⟩ := txcell hX6b 1 _ rfl
  have hB24 : Below w2.heap.size w2 w4 := bt2 (bta (bta (bt2 hB2z hB3) (.cells #[.int .i64 op3, .string xs3, .int .i64 m3, .slice bo3 n13 c13, .slice lo3 ln3 lc3] 26)) (.cells #[.int .i64 0, .int .i64 0] 29)) hB4
  have U4 := mkHid (⟨_, _, _, _, _, rfl, RdF.kept hB24 _ _ _ _ _ _ HU.out⟩ : FmV w4 f (.agg #[.int .i64 op, .string xs, .int .i64 m, .slice bo n1 c1, .slice lo ln lc]))
  have V4 := mkHid (⟨_, _, _, _, _, rfl, RdF.kept (bt2 hB3z hB4) _ _ _ _ _ _ HV.out⟩ : FmV w4 f (.agg #[.int .i64 op3, .string xs3, .int .i64 m3, .slice bo3 n13 c13, .slice lo3 ln3 lc3]))
  go_wp2_with (fail)
  refine (CK.out w4 _ U4.out _ (Below.refl _ _)).mono ?_
  rintro e w5 ⟨rfl, hB5⟩
  have j3 := hX3b.keep hB5
  have j5 := hX5b.keep hB5
  clear a0 a1 a2 a3 a4 b0 b1 b2 d0 d1 d2 d3 d4 e0 e1
  obtain ⟨y0, -⟩ := txcell j3 0 _ rfl
  obtain ⟨y1, -⟩ := txcell j3 1 _ rfl
  obtain ⟨y2, -⟩ := txcell j3 2 _ rfl
  obtain ⟨y3, -⟩ := txcell j3 3 _ rfl
  obtain ⟨y4, -⟩ := txcell j3 4 _ rfl
  obtain ⟨z0, -⟩ := txcell j5 0 _ rfl
  obtain ⟨z1, -⟩ := txcell j5 1 _ rfl
  obtain ⟨z2, -⟩ := txcell j5 2 _ rfl
  obtain ⟨z3, -⟩ := txcell j5 3 _ rfl
  obtain ⟨z4, -⟩ := txcell j5 4 _ rfl
  go_wp2_with (fail)
  refine (SM.out w4 _ _ U4.out V4.out _ hB5).mono ?_
  rintro e w6 ⟨rfl, hB6⟩
  go_wp2
  go_ret
  exact ⟨rfl, bt2 (bt2 hb4 hB5) hB6⟩
theorem pforms_walk (L0 : ∀ X : Rx, WdOk X.ws → DLev 0 X 0) (s : ByteArray) (w : World) (hS : Sg w) (h64 : s.size ≤ 9223372036854775807) :
    Calls Tryz.prog 3 #[.string s] w fun e w' => e = .returned (.bool true) ∧ Below w.heap.size w w' := by
  obtain ⟨o, c, b, k, h⟩ := An.ex s
  cases o with
  | none => exact pforms_no L0 s c b k w h hS h64
  | some f =>
    cases h with
    | ok hs hl hf hc => exact pforms_ok L0 s f w (.ok hs hl hf hc) hS h64 hc
end Go.Proofs.YtabfhdmcljdjhaaGreatDoor.Gl
