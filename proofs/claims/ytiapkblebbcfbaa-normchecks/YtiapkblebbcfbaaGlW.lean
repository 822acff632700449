/- slices.Concat; Union, the program's and the document's. -/
import Derived.Test.YtiapkblebbcfbaaGlV
namespace Go.Proofs.Ytiapkblebbcfbaa.Gl
open Go.RowKit
set_option linter.unusedVariables false

theorem tl_un (L : List L8) : tl (un L) = L := by
  unfold un tl
  rw [List.map_map]
  exact (List.map_congr_left (g := id) (fun x _ => by simp)).trans (List.map_id _)
theorem grow_at (k : Nat) (w : World) (hk : (k + 2) * 16 ≤ 140737488355328) :
    Calls Try.prog 75 #[.slice none 0 0, .int .i64 k] w fun e w' => ∃ v, e = .returned v ∧ w'.ownsRow w.heap.size 9 1 v 0 [] ∧ Below w.heap.size w w' := by
  obtain ⟨i0, hi, hz0, hz1, hz2⟩ := info_parts Try.infoStr
  by_cases h0 : k = 0
  · subst h0
    refine (Any8.slices_Grow_room laysGrow none 0 0 0 w (Nat.le_refl _) (by omega) (by omega) (Nat.le_refl _)).mono ?_
    rintro e w' ⟨rfl, rfl⟩
    exact ⟨_, rfl, World.ownsRow_nil _ _ _ _, Below.refl _ _⟩
  · have K := Any8.slices_Grow_grow laysGrow i0 (.string emp) hi hz0 (by omega) none 0 0 k [] w (Nat.le_refl _) (by omega) (by rw [hz2]; omega) (by omega) (by simp) (fun _ => rfl) (fun a h => by cases h)
    refine K.mono ?_
    rintro e w' ⟨rfl, rfl⟩
    have hcap := grownCap_le_maxLen w (0 + k) 0 9 (by unfold maxLen; omega)
    have hge := grownCap_ge w (0 + k) 0 9
    refine ⟨_, rfl, ?_, ((Below.refl _ _).drew).alloc (Nat.le_refl _) _⟩
    refine World.ownsRow_made (base := w.heap.size) (e := 9) (size := 1) w.drew _ _ (Nat.le_refl _) hcap ?_
    rw [Array.size_append, Array.size_append, size_zeroCells, size_zeroCells]
    show 0 + (0 + k - 0) * 1 + (grownCap w (0 + k) 0 9 - (0 + k)) * 1 = grownCap w (0 + k) 0 9 * 1
    omega
set_option maxHeartbeats 4000000 in
theorem concat_at (g : Nat) (ao bo : Option Addr) (n c m c' : Nat) (A B : List ByteArray) (w : World) (hc0 : w.cell? ⟨g, 0, none⟩ = some (.slice ao n c)) (hc1 : w.cell? ⟨g, 1, none⟩ = some (.slice bo m c')) (hA : RdS w ao n c A) (hB : RdS w bo m c' B) (hn : (n + m + 2) * 16 ≤ 140737488355328) :
    Calls Try.prog 63 #[.slice (some ⟨g, 0, none⟩) 2 2] w fun e w' => ∃ v, e = .returned v ∧ w'.ownsRow w.heap.size 9 1 v (n + m) (cellsS (A ++ B)) ∧ Below w.heap.size w w' := by
  have hgl := World.block_lt_of_cell? _ _ hc0
  have GR : Hid (∀ w, Calls Try.prog 75 #[.slice none 0 0, .int .i64 ((n + m : Nat) : Int)] w fun e w' => ∃ v, e = .returned v ∧ w'.ownsRow w.heap.size 9 1 v 0 [] ∧ Below w.heap.size w w') := fun w => grow_at (n + m) w (by omega)
  go_enter Try.func63, Try.ntmps63
  go_wp2
  go_loop [3, 11] (fun s i => (i = .int .i64 0 ∧ s = .int .i64 0) ∨ (i = .int .i64 1 ∧ s = .int .i64 n) ∨ (i = .int .i64 2 ∧ s = .int .i64 ((n + m : Nat) : Int))) (fun _ i => 2 - (intOf i).toNat)
  case atStart => exact .inl ⟨rfl, rfl⟩
  case round =>
    rcases hrel with ⟨rfl, rfl⟩ | ⟨rfl, rfl⟩ | ⟨rfl, rfl⟩
    · have hnn : decide ((n : Int) < 0) = false := decide_eq_false (by omega)
      go_wp2
      go_round
      case rel => exact .inr (.inl ⟨rfl, rfl⟩)
      case measure => simp [intOf]
    · have hnn : decide (((n + m : Nat) : Int) < 0) = false := decide_eq_false (by omega)
      have hnn2 : decide ((n : Int) + (m : Int) < 0) = false := decide_eq_false (by omega)
      go_wp2
      go_round
      case rel => exact .inr (.inr ⟨rfl, congrArg (Value.int .i64) (by omega)⟩)
      case measure => simp [intOf]
    · go_wp2_with (go_at_call 75; refine (GR.out _).mono ?_; rintro e w1 ⟨v1, rfl, hO1, hB1⟩)
      go_loopw [6, 27] (fun v i wr => ∃ (j : Nat) (O : List ByteArray), wr.ownsRow w.heap.size 9 1 v j (cellsS O) ∧ Below w.heap.size w wr ∧ ((i = .int .i64 0 ∧ j = 0 ∧ O = []) ∨ (i = .int .i64 1 ∧ j = n ∧ O = A) ∨ (i = .int .i64 2 ∧ j = n + m ∧ O = A ++ B))) (fun _ i _ => 2 - (intOf i).toNat)
      case atStart => exact ⟨0, [], hO1, hB1, .inl ⟨rfl, rfl, rfl⟩⟩
      case round =>
        obtain ⟨j, O, hO, hBr, hcase⟩ := hrel
        have d0 := (hBr.cell (p := ⟨g, 0, none⟩) hgl).trans hc0
        have d1 := (hBr.cell (p := ⟨g, 1, none⟩) hgl).trans hc1
        rcases hcase with ⟨rfl, rfl, rfl⟩ | ⟨rfl, rfl, rfl⟩ | ⟨rfl, rfl, rfl⟩
        · go_wp2_with (at_builtin; refine wp_joinS w _ w.heap.size w.heap.size rfl (.tmp 31) (.tmp 32) rfl _ 0 [] rfl ao n c A rfl hO (hA.below (Nat.le_refl _) hBr) hBr.size (by omega) hBr (Nat.le_refl _) ?_; intro v2 w2 hO2 hB2 _)
          go_roundw
          case rel =>
            go_light
            exact ⟨n, A, by simpa using hO2, hB2, .inr (.inl ⟨rfl, rfl, rfl⟩)⟩
          case measure => simp [intOf]
        · go_wp2_with (at_builtin; refine wp_joinS w _ w.heap.size w.heap.size rfl (.tmp 31) (.tmp 32) rfl _ j O rfl bo m c' B rfl hO (hB.below (Nat.le_refl _) hBr) hBr.size (by omega) hBr (Nat.le_refl _) ?_; intro v2 w2 hO2 hB2 _)
          go_roundw
          case rel =>
            go_light
            exact ⟨j + m, O ++ B, hO2, hB2, .inr (.inr ⟨rfl, rfl, rfl⟩)⟩
          case measure => simp [intOf]
        · go_wp2
          go_ret
          exact ⟨_, rfl, hO, hBr⟩
theorem owns_trans {w w1 w2 : World} {v : Value} {n : Nat} {xs : List Value} (h : Below w.heap.size w w1) (k : w2.ownsRow w1.heap.size 9 1 v n xs) : w2.ownsRow w.heap.size 9 1 v n xs := owns_mono k h.size
end Go.Proofs.Ytiapkblebbcfbaa.Gl
