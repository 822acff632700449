/- The walk of LexPlaces, out of what lex.Words answers. -/
import Derived.Test.YthimmohbedaimaaDoorLxK
namespace Go.Proofs.YthimmohbedaimaaDoor.Gl
open Go.RowKit
set_option linter.unusedVariables false

theorem Lx.code2 {s : ByteArray} {p : Nat} {ws : List Wd} {f : Option (Nat × Nat)} (h : Lx s p ws f) : ∀ c e, f = some (c, e) → c ≠ 70 := by
  induction h with
  | done => intro c e he; cases he
  | blank _ _ _ ih => exact ih
  | word _ _ _ ih => exact ih
  | @bad p e a b =>
    intro c e' he
    cases he
    rintro rfl
    rcases tok_cases s p with ⟨_, k⟩ | ⟨_, ⟨_, k⟩ | ⟨_, ⟨_, ⟨_, k⟩ | ⟨_, _, k⟩ | ⟨_, _, k⟩⟩ | ⟨_, _, ⟨_, k⟩ | ⟨_, k⟩⟩ | ⟨_, _, _, k⟩ | ⟨_, _, _, ⟨_, k⟩ | ⟨_, k⟩⟩⟩⟩
    all_goals rw [b] at k
    all_goals cases k
theorem bl_byte {s : ByteArray} {p : Nat} (h : blB ((rdS s p).1 : Nat) = false) : blB (bt s p : Nat) = false := by
  by_cases h1 : bt s p < 128
  · rw [rd_one s p h1] at h; exact h
  · exact decide_eq_false (by omega)
set_option maxRecDepth 100000 in
set_option maxHeartbeats 2000000 in
theorem places_long (C : LexC) (s : ByteArray) (w : World) (hS : Sg w) (h : 4096 < s.size) (hs : s.size ≤ 9223372036854775807) :
    Calls Tryd.prog 5 #[.string s] w fun e w' => e = .returned (.bool true) ∧ Below w.heap.size w w' := by
  have LW : Hid (∀ w, Sg w → Calls Tryd.prog 8 #[.string s] w fun e w' => ∃ v, e = .returned (.tuple #[v, fau 70 0 0]) ∧ w'.ownsRow w.heap.size 35 5 v 0 [] ∧ Below w.heap.size w w') := fun w hS => C.long s w hS h hs
  have FX : Hid (∀ w, Sg w → Calls Tryd.prog 7 #[] w fun e w' => e = .returned (.bool true) ∧ Below w.heap.size w w') := fun w hS => lfixed_at C w hS
  have hd : decide ((4096 : Int) < (s.size : Int)) = true := decide_eq_true (by omega)
  clear C
  go_enter Tryd.func5, Tryd.ntmps5
  go_wp2_with (first
    | (go_at_call 7; refine (FX.out _ hS).mono ?_; rintro e w1 ⟨rfl, hB1⟩; have hS1 := hS.below hB1)
    | (go_at_call 8; refine (LW.out _ hS1).mono ?_; rintro e w2 ⟨v2, rfl, hO2, hB2⟩; obtain ⟨a2, c2, rfl, hR2⟩ := rdw_of_owns (n := 0) (ws := []) rfl hO2))
  go_ret
  exact ⟨rfl, bta (bt2 hB1 hB2) _⟩
theorem cell_keep3 {W w1 : World} {x y z : Value} {t : TypeId} (hb : Below (W.alloc (.cells #[x, y, z] t)).heap.size (W.alloc (.cells #[x, y, z] t)) w1) : w1.cell? ⟨W.heap.size, 0, none⟩ = some x ∧ w1.cell? ⟨W.heap.size, 1, none⟩ = some y ∧ w1.cell? ⟨W.heap.size, 2, none⟩ = some z := by
  obtain ⟨hc, _⟩ := bcell hb
  refine ⟨?_, ?_, ?_⟩
  · rw [hc _ _ (by simp)]; simp
  · rw [hc _ _ (by simp)]; simp
  · rw [hc _ _ (by simp)]; simp
theorem al_keep {W : World} {b o : Nat} {v : Value} (h : W.cell? ⟨b, o, none⟩ = some v) {ob : Obj} (hl : b < (W.alloc ob).heap.size) (_u : Unit) : (W.alloc ob).cell? ⟨b, o, none⟩ = some v :=
  (World.cell?_of_block (Below.heap_alloc _ _ _ (World.block_lt_of_cell? _ _ h))).trans h
theorem lt_al {W : World} {b : Nat} {o : Obj} (h : b < W.heap.size) : b < (W.alloc o).heap.size := by rw [World.size_alloc]; omega
end Go.Proofs.YthimmohbedaimaaDoor.Gl
