/- The landed whole, of a formula. -/
import Derived.Test.YtabfhdmcljdjhaaDoorPcP
namespace Go.Proofs.YtabfhdmcljdjhaaDoor.Gl
open Go.RowKit
set_option linter.unusedVariables false
set_option linter.unusedSimpArgs false

abbrev zA : Array Value := #[.int .i64 0, .int .i64 0, .int .i64 0]
abbrev st3 (w : World) (B : Nat) (v0 v1 v2 : Value) : World := ((w.setCell ⟨B, 0, none⟩ v0).setCell ⟨B, 1, none⟩ v1).setCell ⟨B, 2, none⟩ v2
theorem rb_three {w : World} {B : Nat} {vs : Array Value} {t : TypeId} (h : Rb w B vs t) (hs : vs.size = 3) (v0 v1 v2 : Value) : Rb (st3 w B v0 v1 v2) B #[v0, v1, v2] t := by
  have h1 := tx_set (tx_set (tx_set h 0 v0) 1 v1) 2 v2
  have e : ((vs.setIfInBounds 0 v0).setIfInBounds 1 v1).setIfInBounds 2 v2 = #[v0, v1, v2] := by
    apply Array.ext
    · simp [hs]
    · intro i hi1 hi2
      simp only [Array.size_setIfInBounds, hs] at hi1
      rcases (show i = 0 ∨ i = 1 ∨ i = 2 by omega) with rfl | rfl | rfl <;> simp [hs]
  rw [e] at h1
  exact h1
theorem Rb.st3 {w : World} {B X : Nat} {vs : Array Value} {t : TypeId} (h : Rb w B vs t) (hne : B ≠ X) (v0 v1 v2 : Value) : Rb (st3 w X v0 v1 v2) B vs t := ((h.other hne 0 v0).other hne 1 v1).other hne 2 v2
theorem bel_st3 {b B : Nat} {w w' : World} (h : Below b w w') (hB : b ≤ B) (v0 v1 v2 : Value) : Below b w (st3 w' B v0 v1 v2) := ((h.setCell (p := ⟨B, 0, none⟩) hB v0).setCell (p := ⟨B, 1, none⟩) hB v1).setCell (p := ⟨B, 2, none⟩) hB v2
theorem bel_st5 {b B : Nat} {w w' : World} (h : Below b w w') (hB : b ≤ B) (v0 v1 v2 v3 v4 : Value) : Below b w (st5 w' B v0 v1 v2 v3 v4) := ((((h.setCell (p := ⟨B, 0, none⟩) hB v0).setCell (p := ⟨B, 1, none⟩) hB v1).setCell (p := ⟨B, 2, none⟩) hB v2).setCell (p := ⟨B, 3, none⟩) hB v3).setCell (p := ⟨B, 4, none⟩) hB v4
theorem fault_field (w : World) (c b k : Nat) : True := trivial
set_option maxRecDepth 100000 in
set_option maxHeartbeats 1000000 in
theorem whole_fault (s : ByteArray) (w : World) (c b k : Nat) (hc : c ≠ 0) (hS : Sg w)
    (LW0 : ∀ w, Sg w → Calls Tryd.prog 19 #[.string s] w fun e w' => ∃ v, e = .returned (.tuple #[v, fau c b k]) ∧ w'.ownsRow w.heap.size 76 5 v 0 [] ∧ Below w.heap.size w w') :
    Calls Tryd.prog 13 #[.string s, .func (.func 14) #[] #[], .func (.func 12) #[] #[]] w fun e w' => e = .returned (.tuple #[nilF, fau c b k]) ∧ Below w.heap.size w w' := by
  have hc' : ((c : Int) == 0) = false := by rw [beq_eq_false_iff_ne]; omega
  have LW := mkHid (LW0 _ (((hS.alloc (.cells zF 27)).alloc (.cells zA 36)).alloc (.cells zF 27)))
  have hB3 : Below w.heap.size w (((w.alloc (.cells zF 27)).alloc (.cells zA 36)).alloc (.cells zF 27)) := bta (bta (bal w _) _) _
  have hF1 : Rb (((w.alloc (.cells zF 27)).alloc (.cells zA 36)).alloc (.cells zF 27)) w.heap.size zF 27 := ((rb_new w zF 27).keep (bal _ _)).keep (bal _ _)
  have hF2 : Rb (((w.alloc (.cells zF 27)).alloc (.cells zA 36)).alloc (.cells zF 27)) (w.heap.size + 1) zA 36 := by
    have := (rb_new (w.alloc (.cells zF 27)) zA 36).keep (bal _ (.cells zF 27))
    rwa [World.size_alloc] at this
  have hX8 : Rb (((w.alloc (.cells zF 27)).alloc (.cells zA 36)).alloc (.cells zF 27)) (w.heap.size + 2) zF 27 := by
    have := rb_new ((w.alloc (.cells zF 27)).alloc (.cells zA 36)) zF 27
    rwa [World.size_alloc, World.size_alloc] at this
  clear LW0
  go_enter Tryd.func13, Tryd.ntmps13
  go_wp2_with (go_at_call 19; refine (LW.out).mono ?_; rintro e w4 ⟨v, rfl, -, hB4⟩; have hF1' := (hF1.keep hB4).keep (bal w4 (.cells #[.int .i64 (c : Nat), .int .i64 (b : Nat), .int .i64 (k : Nat)] 36)); have hF2' := (hF2.keep hB4).keep (bal w4 (.cells #[.int .i64 (c : Nat), .int .i64 (b : Nat), .int .i64 (k : Nat)] 36)); have hX8' := (hX8.keep hB4).keep (bal w4 (.cells #[.int .i64 (c : Nat), .int .i64 (b : Nat), .int .i64 (k : Nat)] 36)); have hs4 := (Array.getElem?_eq_some_iff.1 (hX8.keep hB4)).1; obtain ⟨x0, -⟩ := txcell hX8' 0 _ rfl; obtain ⟨x1, -⟩ := txcell hX8' 1 _ rfl; obtain ⟨x2, -⟩ := txcell hX8' 2 _ rfl; obtain ⟨x3, -⟩ := txcell hX8' 3 _ rfl; obtain ⟨x4, -⟩ := txcell hX8' 4 _ rfl; obtain ⟨a0, g0⟩ := txcell hF1' 0 _ rfl; obtain ⟨a1, g1⟩ := txcell hF1' 1 _ rfl; obtain ⟨a2, g2⟩ := txcell hF1' 2 _ rfl; obtain ⟨a3, g3⟩ := txcell hF1' 3 _ rfl; obtain ⟨a4, g4⟩ := txcell hF1' 4 _ rfl; obtain ⟨b0, f0⟩ := txcell hF2' 0 _ rfl; obtain ⟨b1, f1⟩ := txcell hF2' 1 _ rfl; obtain ⟨b2, f2⟩ := txcell hF2' 2 _ rfl)
  have hRa := (rb_five hF1' rfl (.int .i64 0) (.string emp) (.int .i64 0) (.slice none 0 0) (.slice none 0 0)).st3 (X := w.heap.size + 1) (by omega) (.int .i64 (c : Nat)) (.int .i64 (b : Nat)) (.int .i64 (k : Nat))
  have hRb := rb_three (hF2'.st5 (X := w.heap.size) (by omega) (.int .i64 0) (.string emp) (.int .i64 0) (.slice none 0 0) (.slice none 0 0)) rfl (.int .i64 (c : Nat)) (.int .i64 (b : Nat)) (.int .i64 (k : Nat))
  have hBz := bel_st3 (bel_st5 (bta (bt2 hB3 hB4) (.cells #[.int .i64 (c : Nat), .int .i64 (b : Nat), .int .i64 (k : Nat)] 36)) (Nat.le_refl _) (.int .i64 0) (.string emp) (.int .i64 0) (.slice none 0 0) (.slice none 0 0)) (Nat.le_succ _) (.int .i64 (c : Nat)) (.int .i64 (b : Nat)) (.int .i64 (k : Nat))
  obtain ⟨k0, -⟩ := txcell hRa 0 _ rfl
  obtain ⟨k1, -⟩ := txcell hRa 1 _ rfl
  obtain ⟨k2, -⟩ := txcell hRa 2 _ rfl
  obtain ⟨k3, -⟩ := txcell hRa 3 _ rfl
  obtain ⟨k4, -⟩ := txcell hRa 4 _ rfl
  obtain ⟨l0, -⟩ := txcell hRb 0 _ rfl
  obtain ⟨l1, -⟩ := txcell hRb 1 _ rfl
  obtain ⟨l2, -⟩ := txcell hRb 2 _ rfl
  go_region_with (fail)
  all_goals
    go_wp2
    exact bodyPost_ret (v := .tuple #[nilF, fau c b k]) (by simp [results, Tryd.results13, go_sem, k0, k1, k2, k3, k4, l0, l1, l2]) rfl ⟨rfl, hBz.drew⟩
end Go.Proofs.YtabfhdmcljdjhaaDoor.Gl
