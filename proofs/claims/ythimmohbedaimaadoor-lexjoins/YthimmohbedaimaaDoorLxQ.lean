/- The walk of LexJoins where the second text has a fault. -/
import Derived.Test.YthimmohbedaimaaDoorLxP
namespace Go.Proofs.YthimmohbedaimaaDoor.Gl
open Go.RowKit
set_option linter.unusedVariables false

set_option maxRecDepth 100000 in
set_option maxHeartbeats 2000000 in
theorem joins_g (C : LexC) (s t : ByteArray) (w : World) (hS : Sg w) (a b : List Wd) (c p : Nat) (hs : s.size + 1 + t.size ≤ 4096) (h : Lx s 0 a none) (h' : Lx t 0 b (some (c, p))) :
    Calls Tryd.prog 6 #[.string s, .string t] w fun e w' => e = .returned (.bool true) ∧ Below w.heap.size w w' := by
  have hz := join_size s t
  have hp := (h'.bd.2 c p rfl).2
  have hc0 := h'.code c p rfl
  have WS := WA.good C s a (by omega) h
  have WT := WA.bad C t b c p (by omega) h'
  have WU := WA.bad C (s ++ blk ++ t) _ c (s.size + 1 + p) (by omega) (join_lx h h')
  rw [cnt_right s t p (Nat.le_of_lt hp)] at WU
  have c1 : ((c : Int) == 0) = false := by simp; omega
  have c2 : ((c : Int) != 0) = true := by simp; omega
  have AT : Hid (∀ w, Calls Tryd.prog 10 #[.string s, .int .i64 (s.size : Nat)] w fun e w' => e = .returned (.tuple #[.agg #[.int .i64 (s.size : Nat), .int .i64 (cnt s : Nat)], .int .i64 0]) ∧ Below w.heap.size w w') := fun w => at_in s s.size _ w (by omega) (Nat.le_refl _) (by rw [extract_all]; exact cnt_cnt s)
  have m1 := cnt_le s
  have m2 := cnt_le (t.extract 0 p)
  rw [ByteArray.size_extract] at m2
  generalize cnt (t.extract 0 p) = k at *
  generalize cnt s = q at *
  generalize hL : a.map (full s) = L at *
  generalize hP : s.size + 1 + p = P at *
  generalize hQ : q + 1 + k = Q at *
  have hPi : (s.size : Int) + 1 + (p : Int) = (P : Int) := by omega
  have hQi : (q : Int) + 1 + (k : Int) = (Q : Int) := by omega
  have m3 : p ≤ 4096 := by omega
  have m4 : k ≤ 4096 := by omega
  have m5 : q ≤ 4096 := by omega
  have WS' : Hid _ := WS
  have WT' : Hid _ := WT
  have WU' : Hid _ := WU
  have FX : Hid (∀ w, Sg w → Calls Tryd.prog 7 #[] w fun e w' => e = .returned (.bool true) ∧ Below w.heap.size w w') := fun w hS => lfixed_at C w hS
  clear C WS WT WU h h' hc0 hL hP hQ m2 m1
  have hbk : blk.size = 1 := rfl
  have hz1 : (s ++ blk).size = s.size + 1 := by rw [ByteArray.size_append]; rfl
  go_enter Tryd.func6, Tryd.ntmps6
  go_wp2_with (go_at_call 7; refine (FX.out _ hS).mono ?_; rintro e w1 ⟨rfl, hB1⟩; have hS1 := hS.below hB1)
  refine (WS'.out _ hS1).mono ?_
  rintro e w2 ⟨v2, rfl, hO2, hB2⟩
  obtain ⟨a2, c2, rfl, hR2⟩ := rdw_of_owns rfl hO2
  go_wp2_with (fail)
  refine (WT'.out _ ((hS1.below hB2).alloc _)).mono ?_
  rintro e w3 ⟨v3, rfl, hO3, hB3⟩
  obtain ⟨a3, c3, rfl, hR3⟩ := rdw_of_owns rfl hO3
  go_wp2_with (fail)
  refine (WU'.out _ ((((hS1.below hB2).alloc _).below hB3).alloc _)).mono ?_
  rintro e w4 ⟨v4, rfl, hO4, hB4⟩
  obtain ⟨a4, c4, rfl, hR4⟩ := rdw_of_owns rfl hO4
  obtain ⟨⟨x0, x1, x2⟩, y0, y1, y2⟩ := three_kept (.cells #[.int .i64 (c : Nat), .int .i64 (P : Nat), .int .i64 (Q : Nat)] 29) hB3 hB4
  have hBw := bta (bt2 (bta (bt2 (bta (bt2 hB1 hB2) _) hB3) _) hB4) (.cells #[.int .i64 (c : Nat), .int .i64 (P : Nat), .int .i64 (Q : Nat)] 29)
  clear FX WS' WT' WU' hB1 hB2 hO2 hO3 hO4 hB3 hB4
  go_wp2_with (fail)
  refine (AT.out _).mono ?_
  rintro e w5 ⟨rfl, hB5⟩
  obtain ⟨z0, z1, z2⟩ := cell_keep3 hB5
  have hl := World.block_lt_of_cell? _ _ y0
  have y0' := ((bcell hB5).1 _ 0 hl).trans y0
  have y1' := ((bcell hB5).1 _ 1 hl).trans y1
  have y2' := ((bcell hB5).1 _ 2 hl).trans y2
  have hl1 := lt_al (o := .cells #[.int .i64 (s.size : Nat), .int .i64 q] 27) (World.block_lt_of_cell? _ _ z0)
  have hl2 := lt_al (o := .cells #[.int .i64 (s.size : Nat), .int .i64 q] 27) (World.block_lt_of_cell? _ _ y0')
  have u0 := al_keep z0 hl1 ()
  have u1 := al_keep z1 hl1 ()
  have u2 := al_keep z2 hl1 ()
  have v0 := al_keep y0' hl2 ()
  have v1 := al_keep y1' hl2 ()
  have v2 := al_keep y2' hl2 ()
  have hBw5 := bta (bt2 hBw hB5) (.cells #[.int .i64 (s.size : Nat), .int .i64 q] 27)
  clear z0 z1 z2 y0 y1 y2 y0' y1' y2' x0 x1 x2 hB5 hBw AT hl hl1 hl2
  go_wp2
  go_ret
  exact ⟨rfl, hBw5⟩
end Go.Proofs.YthimmohbedaimaaDoor.Gl
