/- The program's Sorted. -/
import Derived.Test.YtiapkblebbcfbaaGreatGlU
namespace Go.Proofs.YtiapkblebbcfbaaGreat.Gl
open Go.RowKit
set_option linter.unusedVariables false

theorem sizeStr : (Tryz.prog.info? 9).map (·.size) = some 1 := by kernel_rfl
/-- 'copy(row, names)' into a row of the call's own, of the same length -/
theorem copy_runS (w0 W : World) (B base g2 m : Nat) (T : List ByteArray) (Z : List Value) (ao : Option Addr) (sc : Nat)
    (hown : W.ownsRow base 9 1 (.slice (some ⟨g2, 0, none⟩) m m) m Z) (hR : RdS W ao m sc T) (hb : Below B w0 W) (hBg : B ≤ g2) :
    ∃ w', (Builtin.copy_ #[26, 26] 3 #[.slice (some ⟨g2, 0, none⟩) m m, .slice ao m sc]).run Tryz.prog W = .ok (goInt m) w' ∧ w'.ownsRow base 9 1 (.slice (some ⟨g2, 0, none⟩) m m) m (cellsS T) ∧ Below B w0 w' := by
  have hzl := hR.eqlen
  cases ao with
  | none =>
    have hc0 := hR.isnil rfl
    have hl := hR.lecap
    obtain rfl : sc = 0 := hc0
    obtain rfl : m = 0 := by omega
    have hz : T = [] := List.length_eq_zero_iff.1 hzl
    subst hz
    have hZ : Z = [] := List.length_eq_zero_iff.1 (by have := hown.1; omega)
    subst hZ
    exact ⟨W, run_copy_nil (P := Tryz.prog) W 26 26 3 9 ⟨g2, 0, none⟩ 0 0 Tryz.underlying26 (by kernel_rfl), hown, hb⟩
  | some ad =>
    rcases hown.2 with ⟨e, _⟩ | ⟨g', cap, cur, e, hbg, hh, _, hcm, hcs, _⟩
    · cases e
    · simp only [Value.slice.injEq, Option.some.injEq, Addr.mk.injEq, and_true, true_and] at e
      obtain ⟨rfl, rfl⟩ := e
      have hl : (cellsS T).length = m := by rw [List.length_map, hzl]
      have hrun := run_copy_row (P := Tryz.prog) W 26 26 3 9 g2 0 m m ad m sc cur 9 (cellsS T) Tryz.underlying26 sizeStr hh (by rw [hl]; exact (Nat.min_self m).symm) (cells_argA hR) (by omega) (strs_oneCell T)
      rw [hl] at hrun
      refine ⟨_, hrun, ?_, below_setRow hb hBg _⟩
      have hw := setRow_heap W g2 cur (cur.toList.take 0 ++ cellsS T ++ cur.toList.drop (0 + m)).toArray 9 (0, 0) hh
      have he : cur.toList.take 0 ++ cellsS T ++ cur.toList.drop (0 + m) = cellsS T := by
        rw [List.take_zero, List.nil_append, Nat.zero_add, List.drop_of_length_le (by simp only [Array.length_toList]; omega), List.append_nil]
      rw [he] at hw ⊢
      refine ⟨by omega, .inr ⟨g2, m, _, rfl, hbg, hw, Nat.le_refl _, hcm, by simpa using hl, ?_⟩⟩
      simp only [Nat.mul_one]
      exact List.take_of_length_le (by omega)
theorem owns_below2 {W0 w w' : World} {B base : Nat} {v : Value} {n : Nat} {xs : List Value} (hb : Below B W0 w) (h : w.ownsRow base 9 1 v n xs) (hB : B ≤ base) (hg : w.grownBy w' v.ownBlock) (hs : B ≤ w.heap.size) : Below B W0 w' :=
  hb.grown hg hs (fun k hk => by have := h.lt k hk; omega)
theorem rds_of_own2 {w : World} {base : Nat} {ro : Option Addr} {n c : Nat} {ss : List ByteArray} (h : w.ownsRow base 9 1 (.slice ro n c) n (cellsS ss)) : RdS w ro n c ss := by
  obtain ⟨ro', cr, hv, hR⟩ := rds_of_owns h
  obtain ⟨rfl, _, rfl⟩ := Value.slice.inj hv
  exact hR
end Go.Proofs.YtiapkblebbcfbaaGreat.Gl
/- slices.Concat; Union, the program's and the document's. -/
namespace Go.Proofs.YtiapkblebbcfbaaGreat.Gl
open Go.RowKit
set_option linter.unusedVariables false

theorem tl_un (L : List L8) : tl (un L) = L := by
  unfold un tl
  rw [List.map_map]
  exact (List.map_congr_left (g := id) (fun x _ => by simp)).trans (List.map_id _)
theorem grow_at (k : Nat) (w : World) (hk : (k + 2) * 16 ≤ 140737488355328) :
    Calls Tryz.prog 84 #[.slice none 0 0, .int .i64 k] w fun e w' => ∃ v, e = .returned v ∧ w'.ownsRow w.heap.size 9 1 v 0 [] ∧ Below w.heap.size w w' := by
  obtain ⟨i0, hi, hz0, hz1, hz2⟩ := info_parts Tryz.infoStr
  by_cases h0 : k = 0
  · subst h0
    refine (Any8.slices_Grow_room laysGrow none 0 0 0 w (Nat.le_refl _) (by omega) (by omega) (Nat.le_refl _)).mono ?_
    rintro e w' ⟨rfl, rfl⟩
    exact ⟨_, rfl, World.ownsRow_nil _ _ _ _, Below.refl _ _⟩
  · have K := Any8.slices_Grow_grow laysGrow i0 (.string emp) hi hz0 (by omega) none 0 0 k [] w (Nat.le_refl _) (by omega) (by rw [hz2]; omega) (by omega) (by simp) (fun _ => rfl) (fun a h => by cases h)
    refine K.mono ?_
    rintro e w' ⟨rfl, rfl⟩
    have hcap := grownCap_le_maxLen w (0 + k) 0 9 (by unfold maxLen; omega)
    have hge := grownCap_ge w (0 + k) 0 9
    refine ⟨_, rfl, ?_, ((Below.refl _ _).drew).alloc (Nat.le_refl _) _⟩
    refine World.ownsRow_made (base := w.heap.size) (e := 9) (size := 1) w.drew _ _ (Nat.le_refl _) hcap ?_
    rw [Array.size_append, Array.size_append, size_zeroCells, size_zeroCells]
    show 0 + (0 + k - 0) * 1 + (grownCap w (0 + k) 0 9 - (0 + k)) * 1 = grownCap w (0 + k) 0 9 * 1
    omega
set_option maxHeartbeats 4000000 in
theorem concat_at (g : Nat) (ao bo : Option Addr) (n c m c' : Nat) (A B : List ByteArray) (w : World) (hc0 : w.cell? ⟨g, 0, none⟩ = some (.slice ao n c)) (hc1 : w.cell? ⟨g, 1, none⟩ = some (.slice bo m c')) (hA : RdS w ao n c A) (hB : RdS w bo m c' B) (hn : (n + m + 2) * 16 ≤ 140737488355328) :
    Calls Tryz.prog 62 #[.slice (some ⟨g, 0, none⟩) 2 2] w fun e w' => ∃ v, e = .returned v ∧ w'.ownsRow w.heap.size 9 1 v (n + m) (cellsS (A ++ B)) ∧ Below w.heap.size w w' := by
  have hgl := World.block_lt_of_cell? _ _ hc0
  have GR : Hid (∀ w, Calls Tryz.prog 84 #[.slice none 0 0, .int .i64 ((n + m : Nat) : Int)] w fun e w' => ∃ v, e = .returned v ∧ w'.ownsRow w.heap.size 9 1 v 0 [] ∧ Below w.heap.size w w') := fun w => grow_at (n + m) w (by omega)
  go_enter Tryz.func62, Tryz.ntmps62
  go_wp2
  go_loop [3, 11] (fun s i => (i = .int .i64 0 ∧ s = .int .i64 0) ∨ (i = .int .i64 1 ∧ s = .int .i64 n) ∨ (i = .int .i64 2 ∧ s = .int .i64 ((n + m : Nat) : Int))) (fun _ i => 2 - (intOf i).toNat)
  case atStart => exact .inl ⟨rfl, rfl⟩
  case round =>
    rcases hrel with ⟨rfl, rfl⟩ | ⟨rfl, rfl⟩ | ⟨rfl, rfl⟩
    · have hnn : decide ((n : Int) < 0) = false := decide_eq_false (by omega)
      go_wp2
      go_round
      case rel => exact .inr (.inl ⟨rfl, rfl⟩)
      case measure => simp [intOf]
    · have hnn : decide (((n + m : Nat) : Int) < 0) = false := decide_eq_false (by omega)
      have hnn2 : decide ((n : Int) + (m : Int) < 0) = false := decide_eq_false (by omega)
      go_wp2
      go_round
      case rel => exact .inr (.inr ⟨rfl, congrArg (Value.int .i64) (by omega)⟩)
      case measure => simp [intOf]
    · go_wp2_with (go_at_call 84; refine (GR.out _).mono ?_; rintro e w1 ⟨v1, rfl, hO1, hB1⟩)
      go_loopw [6, 27] (fun v i wr => ∃ (j : Nat) (O : List ByteArray), wr.ownsRow w.heap.size 9 1 v j (cellsS O) ∧ Below w.heap.size w wr ∧ ((i = .int .i64 0 ∧ j = 0 ∧ O = []) ∨ (i = .int .i64 1 ∧ j = n ∧ O = A) ∨ (i = .int .i64 2 ∧ j = n + m ∧ O = A ++ B))) (fun _ i _ => 2 - (intOf i).toNat)
      case atStart => exact ⟨0, [], hO1, hB1, .inl ⟨rfl, rfl, rfl⟩⟩
      case round =>
        obtain ⟨j, O, hO, hBr, hcase⟩ := hrel
        have d0 := (hBr.cell (p := ⟨g, 0, none⟩) hgl).trans hc0
        have d1 := (hBr.cell (p := ⟨g, 1, none⟩) hgl).trans hc1
        rcases hcase with ⟨rfl, rfl, rfl⟩ | ⟨rfl, rfl, rfl⟩ | ⟨rfl, rfl, rfl⟩
        · go_wp2_with (at_builtin; refine wp_joinS w _ w.heap.size w.heap.size rfl (.tmp 31) (.tmp 32) rfl _ 0 [] rfl ao n c A rfl hO (hA.below (Nat.le_refl _) hBr) hBr.size (by omega) hBr (Nat.le_refl _) ?_; intro v2 w2 hO2 hB2 _)
          go_roundw
          case rel =>
            go_light
            exact ⟨n, A, by simpa using hO2, hB2, .inr (.inl ⟨rfl, rfl, rfl⟩)⟩
          case measure => simp [intOf]
        · go_wp2_with (at_builtin; refine wp_joinS w _ w.heap.size w.heap.size rfl (.tmp 31) (.tmp 32) rfl _ j O rfl bo m c' B rfl hO (hB.below (Nat.le_refl _) hBr) hBr.size (by omega) hBr (Nat.le_refl _) ?_; intro v2 w2 hO2 hB2 _)
          go_roundw
          case rel =>
            go_light
            exact ⟨j + m, O ++ B, hO2, hB2, .inr (.inr ⟨rfl, rfl, rfl⟩)⟩
          case measure => simp [intOf]
        · go_wp2
          go_ret
          exact ⟨_, rfl, hO, hBr⟩
theorem owns_trans {w w1 w2 : World} {v : Value} {n : Nat} {xs : List Value} (h : Below w.heap.size w w1) (k : w2.ownsRow w1.heap.size 9 1 v n xs) : w2.ownsRow w.heap.size 9 1 v n xs := owns_mono k h.size
end Go.Proofs.YtiapkblebbcfbaaGreat.Gl
