/- The walk of LexPlaces where a fault comes. -/
import Derived.Test.YthimmohbedaimaaDoorLxL
namespace Go.Proofs.YthimmohbedaimaaDoor.Gl
open Go.RowKit
set_option linter.unusedVariables false

set_option maxRecDepth 100000 in
set_option maxHeartbeats 2000000 in
theorem places_bad (C : LexC) (s : ByteArray) (w : World) (hS : Sg w) (a : List Wd) (c p : Nat) (hs : s.size ≤ 4096) (h : Lx s 0 a (some (c, p))) :
    Calls Tryd.prog 5 #[.string s] w fun e w' => e = .returned (.bool true) ∧ Below w.heap.size w w' := by
  have hp := (h.bd.2 c p rfl).2
  have hc0 := h.code c p rfl
  have hc7 := h.code2 c p rfl
  have LW : Hid (∀ w, Sg w → Calls Tryd.prog 8 #[.string s] w fun e w' => ∃ v, e = .returned (.tuple #[v, fau c p (cnt (s.extract 0 p))]) ∧ w'.ownsRow w.heap.size 35 5 v 0 [] ∧ Below w.heap.size w w') := fun w hS => C.bad s a c p w hS hs h
  have LX : Hid (∀ w, Sg w → Calls Tryd.prog 8 #[.string (s.extract 0 p)] w fun e w' => ∃ v, e = .returned (.tuple #[v, fau 0 0 0]) ∧ w'.ownsRow w.heap.size 35 5 v a.length ((a.map (full (s.extract 0 p))).flatMap FW.cells) ∧ Below w.heap.size w w') := fun w hS => C.good (s.extract 0 p) a w hS (by rw [ByteArray.size_extract]; omega) (h.cut (Nat.le_of_lt hp) c rfl)
  have LE : Hid (¬ 0 < p → ∀ w, Sg w → Calls Tryd.prog 8 #[.string ByteArray.empty] w fun e w' => ∃ v, e = .returned (.tuple #[v, fau 0 0 0]) ∧ w'.ownsRow w.heap.size 35 5 v a.length ((a.map (full (s.extract 0 p))).flatMap FW.cells) ∧ Below w.heap.size w w') := fun h0 w hS => by
    have := LX.out w hS
    have h1 : s.extract 0 p = ByteArray.empty := by
      obtain rfl : p = 0 := by omega
      apply ByteArray.ext
      simp
    rw [h1] at this ⊢
    exact this
  have AT : Hid (∀ w, Calls Tryd.prog 10 #[.string s, .int .i64 p] w fun e w' => e = .returned (.tuple #[.agg #[.int .i64 p, .int .i64 (cnt (s.extract 0 p) : Nat)], .int .i64 0]) ∧ Below w.heap.size w w') := fun w => at_in s p _ w (by omega) (Nat.le_of_lt hp) (cnt_cnt _)
  have FX : Hid (∀ w, Sg w → Calls Tryd.prog 7 #[] w fun e w' => e = .returned (.bool true) ∧ Below w.heap.size w w') := fun w hS => lfixed_at C w hS
  have hma : (a.map (full (s.extract 0 p))).length = a.length := List.length_map _
  have c1 : ((c : Int) == 70) = false := by simp; omega
  have c2 : ((c : Int) != 0) = true := by simp; omega
  have m1 : min (p : Int) (s.size : Int) = (p : Int) := by omega
  have m2 : max (0 : Int) (p : Int) = (p : Int) := by omega
  clear C h hc0 hc7
  generalize cnt (s.extract 0 p) = q at *
  go_enter Tryd.func5, Tryd.ntmps5
  go_wp2_with (first
    | (go_at_call 7; refine (FX.out _ hS).mono ?_; rintro e w1 ⟨rfl, hB1⟩; have hS1 := hS.below hB1)
    | (go_at_call 8; refine (LW.out _ hS1).mono ?_; rintro e w2 ⟨v2, rfl, hO2, hB2⟩; obtain ⟨a2, c2, rfl, hR2⟩ := rdw_of_owns (n := 0) (ws := []) rfl hO2))
  have hBw2 := bt2 hB1 hB2
  have hBA := bta hBw2 (.cells #[.int .i64 c, .int .i64 p, .int .i64 q] 29)
  refine (AT.out _).mono ?_
  rintro e w3 ⟨rfl, hB3⟩
  obtain ⟨x0, x1, x2⟩ := cell_keep3 hB3
  have hlF := lt_al (o := .cells #[.int .i64 p, .int .i64 q] 27) (World.block_lt_of_cell? _ _ x0)
  have u0 := al_keep x0 hlF ()
  have u1 := al_keep x1 hlF ()
  have u2 := al_keep x2 hlF ()
  have hBw3 := bta (bt2 hBA hB3) (.cells #[.int .i64 p, .int .i64 q] 27)
  have hS3 := hS.below hBw3
  clear hBA hB3 hB1 hB2 hO2 FX LW AT hS1
  go_wp2_with (fail)
  rotate_left
  refine (LE.out ‹¬ 0 < p› _ hS3).mono ?_
  rotate_left
  refine (LX.out _ hS3).mono ?_
  all_goals
    rintro e w4 ⟨v4, rfl, hO4, hB4⟩
    obtain ⟨a4, c4, rfl, hR4⟩ := rdw_of_owns hma hO4
    obtain ⟨y0, y1⟩ := cell_keep hB4
    obtain ⟨hz, _⟩ := bcell hB4
    have z0 := (hz _ 0 hlF).trans u0
    have z1 := (hz _ 1 hlF).trans u1
    have z2 := (hz _ 2 hlF).trans u2
    have hBw4 := bta (bt2 hBw3 hB4) (.cells #[.int .i64 0, .int .i64 0, .int .i64 0] 29)
    have hl0 := lt_al (o := .cells #[.int .i64 0, .int .i64 0, .int .i64 0] 29) (World.block_lt_of_cell? _ _ y0)
    have hl1 := lt_al (o := .cells #[.int .i64 0, .int .i64 0, .int .i64 0] 29) (World.block_lt_of_cell? _ _ z0)
    have v0 := al_keep y0 hl0 ()
    have v1 := al_keep y1 hl0 ()
    have v2 := al_keep z0 hl1 ()
    have v3 := al_keep z1 hl1 ()
    have v4 := al_keep z2 hl1 ()
    clear hz hB4 hO4 hBw3 y0 y1 z0 z1 z2 u0 u1 u2 x0 x1 x2 LX LE
    go_wp2
    go_ret
    exact ⟨rfl, hBw4⟩
end Go.Proofs.YthimmohbedaimaaDoor.Gl
