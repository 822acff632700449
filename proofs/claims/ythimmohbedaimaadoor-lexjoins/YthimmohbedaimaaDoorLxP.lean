/- The walk of LexJoins, out of what lex.Words answers. -/
import Derived.Test.YthimmohbedaimaaDoorLxO
namespace Go.Proofs.YthimmohbedaimaaDoor.Gl
open Go.RowKit
set_option linter.unusedVariables false

def WA (s : ByteArray) (c p k : Nat) (L : List FW) : Prop := ∀ w, Sg w → Calls Tryd.prog 8 #[.string s] w fun e w' => ∃ v, e = .returned (.tuple #[v, fau c p k]) ∧ w'.ownsRow w.heap.size 35 5 v L.length (L.flatMap FW.cells) ∧ Below w.heap.size w w'
theorem WA.long (C : LexC) (s : ByteArray) (h : 4096 < s.size) (hs : s.size ≤ 9223372036854775807) : WA s 70 0 0 [] := fun w hS => C.long s w hS h hs
theorem WA.good (C : LexC) (s : ByteArray) (a : List Wd) (hs : s.size ≤ 4096) (h : Lx s 0 a none) : WA s 0 0 0 (a.map (full s)) := fun w hS => by
  have := C.good s a w hS hs h
  rwa [← List.length_map (full s)] at this
theorem WA.bad (C : LexC) (s : ByteArray) (a : List Wd) (c p : Nat) (hs : s.size ≤ 4096) (h : Lx s 0 a (some (c, p))) : WA s c p (cnt (s.extract 0 p)) [] := fun w hS => C.bad s a c p w hS hs h
theorem WA.any (C : LexC) (s : ByteArray) (hs : s.size ≤ 9223372036854775807) : ∃ c p k L, WA s c p k L := by
  by_cases h : 4096 < s.size
  · exact ⟨_, _, _, _, WA.long C s h hs⟩
  · obtain ⟨a, f, hl⟩ := Lx.ex s
    cases f with
    | none => exact ⟨_, _, _, _, WA.good C s a (by omega) hl⟩
    | some x => exact ⟨_, _, _, _, WA.bad C s a x.1 x.2 (by omega) hl⟩
theorem three_kept {w2 w3 w4 : World} {x y z x' y' z' : Value} {t t' : TypeId} (o : Obj) (hB3 : Below (w2.alloc (.cells #[x, y, z] t)).heap.size (w2.alloc (.cells #[x, y, z] t)) w3) (hB4 : Below (w3.alloc (.cells #[x', y', z'] t')).heap.size (w3.alloc (.cells #[x', y', z'] t')) w4) :
    ((w4.alloc o).cell? ⟨w2.heap.size, 0, none⟩ = some x ∧ (w4.alloc o).cell? ⟨w2.heap.size, 1, none⟩ = some y ∧ (w4.alloc o).cell? ⟨w2.heap.size, 2, none⟩ = some z) ∧
    ((w4.alloc o).cell? ⟨w3.heap.size, 0, none⟩ = some x' ∧ (w4.alloc o).cell? ⟨w3.heap.size, 1, none⟩ = some y' ∧ (w4.alloc o).cell? ⟨w3.heap.size, 2, none⟩ = some z') := by
  obtain ⟨a0, a1, a2⟩ := cell_keep3 hB3
  obtain ⟨b0, b1, b2⟩ := cell_keep3 hB4
  have hl := lt_al (o := .cells #[x', y', z'] t') (World.block_lt_of_cell? _ _ a0)
  have d0 := ((bcell hB4).1 _ 0 hl).trans (al_keep a0 hl ())
  have d1 := ((bcell hB4).1 _ 1 hl).trans (al_keep a1 hl ())
  have d2 := ((bcell hB4).1 _ 2 hl).trans (al_keep a2 hl ())
  have hl1 := lt_al (o := o) (World.block_lt_of_cell? _ _ d0)
  have hl2 := lt_al (o := o) (World.block_lt_of_cell? _ _ b0)
  exact ⟨⟨al_keep d0 hl1 (), al_keep d1 hl1 (), al_keep d2 hl1 ()⟩, al_keep b0 hl2 (), al_keep b1 hl2 (), al_keep b2 hl2 ()⟩
theorem cnt_le (s : ByteArray) : cnt s ≤ s.size := by
  have h := cnt_cnt s
  have := (pos_ge s (cnt s) h.2).1
  have := h.1
  omega
set_option maxRecDepth 100000 in
set_option maxHeartbeats 2000000 in
theorem joins_long (C : LexC) (s t : ByteArray) (w : World) (hS : Sg w) (h : 4096 < s.size + 1 + t.size) (hs : s.size + 1 + t.size ≤ 9223372036854775807) :
    Calls Tryd.prog 6 #[.string s, .string t] w fun e w' => e = .returned (.bool true) ∧ Below w.heap.size w w' := by
  have hz := join_size s t
  obtain ⟨c, p, k, L, WS⟩ := WA.any C s (by omega)
  obtain ⟨c', p', k', L', WT⟩ := WA.any C t (by omega)
  have WU := WA.long C (s ++ blk ++ t) (by omega) (by omega)
  have WS' : Hid _ := WS
  have WT' : Hid _ := WT
  have WU' : Hid _ := WU
  have FX : Hid (∀ w, Sg w → Calls Tryd.prog 7 #[] w fun e w' => e = .returned (.bool true) ∧ Below w.heap.size w w') := fun w hS => lfixed_at C w hS
  clear C WS WT WU 
  have hbk : blk.size = 1 := rfl
  have hz1 : (s ++ blk).size = s.size + 1 := by rw [ByteArray.size_append]; rfl
  go_enter Tryd.func6, Tryd.ntmps6
  go_wp2_with (go_at_call 7; refine (FX.out _ hS).mono ?_; rintro e w1 ⟨rfl, hB1⟩; have hS1 := hS.below hB1)
  refine (WS'.out _ hS1).mono ?_
  rintro e w2 ⟨v2, rfl, hO2, hB2⟩
  obtain ⟨a2, c2, rfl, hR2⟩ := rdw_of_owns rfl hO2
  go_wp2_with (fail)
  refine (WT'.out _ ((hS1.below hB2).alloc _)).mono ?_
  rintro e w3 ⟨v3, rfl, hO3, hB3⟩
  obtain ⟨a3, c3, rfl, hR3⟩ := rdw_of_owns rfl hO3
  go_wp2_with (fail)
  refine (WU'.out _ ((((hS1.below hB2).alloc _).below hB3).alloc _)).mono ?_
  rintro e w4 ⟨v4, rfl, hO4, hB4⟩
  obtain ⟨a4, c4, rfl, hR4⟩ := rdw_of_owns rfl hO4
  obtain ⟨⟨x0, x1, x2⟩, y0, y1, y2⟩ := three_kept (.cells #[.int .i64 (70 : Nat), .int .i64 (0 : Nat), .int .i64 (0 : Nat)] 29) hB3 hB4
  have hBw := bta (bt2 (bta (bt2 (bta (bt2 hB1 hB2) _) hB3) _) hB4) (.cells #[.int .i64 (70 : Nat), .int .i64 (0 : Nat), .int .i64 (0 : Nat)] 29)
  clear FX WS' WT' WU' hB1 hB2 hO2 hO3 hO4 hB3 hB4
  go_wp2
  go_ret
  exact ⟨rfl, hBw⟩
set_option maxRecDepth 100000 in
set_option maxHeartbeats 2000000 in
theorem joins_f (C : LexC) (s t : ByteArray) (w : World) (hS : Sg w) (a : List Wd) (c p : Nat) (hs : s.size + 1 + t.size ≤ 4096) (h : Lx s 0 a (some (c, p))) :
    Calls Tryd.prog 6 #[.string s, .string t] w fun e w' => e = .returned (.bool true) ∧ Below w.heap.size w w' := by
  have hz := join_size s t
  have hp := (h.bd.2 c p rfl).2
  have hc0 := h.code c p rfl
  have WS := WA.bad C s a c p (by omega) h
  obtain ⟨c', p', k', L', WT⟩ := WA.any C t (by omega)
  have WU := WA.bad C (s ++ blk ++ t) a c p (by omega) (join_bad h)
  rw [cnt_left s t p (Nat.le_of_lt hp)] at WU
  have c1 : ((c : Int) == 0) = false := by simp; omega
  have c2 : ((c : Int) != 0) = true := by simp; omega
  generalize cnt (s.extract 0 p) = k at *
  have WS' : Hid _ := WS
  have WT' : Hid _ := WT
  have WU' : Hid _ := WU
  have FX : Hid (∀ w, Sg w → Calls Tryd.prog 7 #[] w fun e w' => e = .returned (.bool true) ∧ Below w.heap.size w w') := fun w hS => lfixed_at C w hS
  clear C WS WT WU h hc0
  have hbk : blk.size = 1 := rfl
  have hz1 : (s ++ blk).size = s.size + 1 := by rw [ByteArray.size_append]; rfl
  go_enter Tryd.func6, Tryd.ntmps6
  go_wp2_with (go_at_call 7; refine (FX.out _ hS).mono ?_; rintro e w1 ⟨rfl, hB1⟩; have hS1 := hS.below hB1)
  refine (WS'.out _ hS1).mono ?_
  rintro e w2 ⟨v2, rfl, hO2, hB2⟩
  obtain ⟨a2, c2, rfl, hR2⟩ := rdw_of_owns rfl hO2
  go_wp2_with (fail)
  refine (WT'.out _ ((hS1.below hB2).alloc _)).mono ?_
  rintro e w3 ⟨v3, rfl, hO3, hB3⟩
  obtain ⟨a3, c3, rfl, hR3⟩ := rdw_of_owns rfl hO3
  go_wp2_with (fail)
  refine (WU'.out _ ((((hS1.below hB2).alloc _).below hB3).alloc _)).mono ?_
  rintro e w4 ⟨v4, rfl, hO4, hB4⟩
  obtain ⟨a4, c4, rfl, hR4⟩ := rdw_of_owns rfl hO4
  obtain ⟨⟨x0, x1, x2⟩, y0, y1, y2⟩ := three_kept (.cells #[.int .i64 (c : Nat), .int .i64 (p : Nat), .int .i64 (k : Nat)] 29) hB3 hB4
  have hBw := bta (bt2 (bta (bt2 (bta (bt2 hB1 hB2) _) hB3) _) hB4) (.cells #[.int .i64 (c : Nat), .int .i64 (p : Nat), .int .i64 (k : Nat)] 29)
  clear FX WS' WT' WU' hB1 hB2 hO2 hO3 hO4 hB3 hB4
  go_wp2
  go_ret
  exact ⟨rfl, hBw⟩
end Go.Proofs.YthimmohbedaimaaDoor.Gl
