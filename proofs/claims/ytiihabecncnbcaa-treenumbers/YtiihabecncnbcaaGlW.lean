/- The program's Sorted. -/
import Derived.Test.YtiihabecncnbcaaGlU
namespace Go.Proofs.Ytiihabecncnbcaa.Gl
open Go.RowKit
set_option linter.unusedVariables false

theorem sizeStr : (Try.prog.info? 9).map (·.size) = some 1 := by kernel_rfl
/-- 'copy(row, names)' into a row of the call's own, of the same length -/
theorem copy_runS (w0 W : World) (B base g2 m : Nat) (T : List ByteArray) (Z : List Value) (ao : Option Addr) (sc : Nat)
    (hown : W.ownsRow base 9 1 (.slice (some ⟨g2, 0, none⟩) m m) m Z) (hR : RdS W ao m sc T) (hb : Below B w0 W) (hBg : B ≤ g2) :
    ∃ w', (Builtin.copy_ #[28, 28] 3 #[.slice (some ⟨g2, 0, none⟩) m m, .slice ao m sc]).run Try.prog W = .ok (goInt m) w' ∧ w'.ownsRow base 9 1 (.slice (some ⟨g2, 0, none⟩) m m) m (cellsS T) ∧ Below B w0 w' := by
  have hzl := hR.eqlen
  cases ao with
  | none =>
    have hc0 := hR.isnil rfl
    have hl := hR.lecap
    obtain rfl : sc = 0 := hc0
    obtain rfl : m = 0 := by omega
    have hz : T = [] := List.length_eq_zero_iff.1 hzl
    subst hz
    have hZ : Z = [] := List.length_eq_zero_iff.1 (by have := hown.1; omega)
    subst hZ
    exact ⟨W, run_copy_nil (P := Try.prog) W 28 28 3 9 ⟨g2, 0, none⟩ 0 0 Try.underlying28 (by kernel_rfl), hown, hb⟩
  | some ad =>
    rcases hown.2 with ⟨e, _⟩ | ⟨g', cap, cur, e, hbg, hh, _, hcm, hcs, _⟩
    · cases e
    · simp only [Value.slice.injEq, Option.some.injEq, Addr.mk.injEq, and_true, true_and] at e
      obtain ⟨rfl, rfl⟩ := e
      have hl : (cellsS T).length = m := by rw [List.length_map, hzl]
      have hrun := run_copy_row (P := Try.prog) W 28 28 3 9 g2 0 m m ad m sc cur 9 (cellsS T) Try.underlying28 sizeStr hh (by rw [hl]; exact (Nat.min_self m).symm) (cells_argA hR) (by omega) (strs_oneCell T)
      rw [hl] at hrun
      refine ⟨_, hrun, ?_, below_setRow hb hBg _⟩
      have hw := setRow_heap W g2 cur (cur.toList.take 0 ++ cellsS T ++ cur.toList.drop (0 + m)).toArray 9 (0, 0) hh
      have he : cur.toList.take 0 ++ cellsS T ++ cur.toList.drop (0 + m) = cellsS T := by
        rw [List.take_zero, List.nil_append, Nat.zero_add, List.drop_of_length_le (by simp only [Array.length_toList]; omega), List.append_nil]
      rw [he] at hw ⊢
      refine ⟨by omega, .inr ⟨g2, m, _, rfl, hbg, hw, Nat.le_refl _, hcm, by simpa using hl, ?_⟩⟩
      simp only [Nat.mul_one]
      exact List.take_of_length_le (by omega)
theorem owns_below2 {W0 w w' : World} {B base : Nat} {v : Value} {n : Nat} {xs : List Value} (hb : Below B W0 w) (h : w.ownsRow base 9 1 v n xs) (hB : B ≤ base) (hg : w.grownBy w' v.ownBlock) (hs : B ≤ w.heap.size) : Below B W0 w' :=
  hb.grown hg hs (fun k hk => by have := h.lt k hk; omega)
theorem rds_of_own2 {w : World} {base : Nat} {ro : Option Addr} {n c : Nat} {ss : List ByteArray} (h : w.ownsRow base 9 1 (.slice ro n c) n (cellsS ss)) : RdS w ro n c ss := by
  obtain ⟨ro', cr, hv, hR⟩ := rds_of_owns h
  obtain ⟨rfl, _, rfl⟩ := Value.slice.inj hv
  exact hR
end Go.Proofs.Ytiihabecncnbcaa.Gl
/- slices.Concat; Union, the program's and the document's. -/
namespace Go.Proofs.Ytiihabecncnbcaa.Gl
open Go.RowKit
set_option linter.unusedVariables false

theorem tl_un (L : List L8) : tl (un L) = L := by
  unfold un tl
  rw [List.map_map]
  exact (List.map_congr_left (g := id) (fun x _ => by simp)).trans (List.map_id _)
theorem grow_at (k : Nat) (w : World) (hk : (k + 2) * 16 ≤ 140737488355328) :
    Calls Try.prog 51 #[.slice none 0 0, .int .i64 k] w fun e w' => ∃ v, e = .returned v ∧ w'.ownsRow w.heap.size 9 1 v 0 [] ∧ Below w.heap.size w w' := by
  obtain ⟨i0, hi, hz0, hz1, hz2⟩ := info_parts Try.infoStr
  by_cases h0 : k = 0
  · subst h0
    refine (Any8.slices_Grow_room laysGrow none 0 0 0 w (Nat.le_refl _) (by omega) (by omega) (Nat.le_refl _)).mono ?_
    rintro e w' ⟨rfl, rfl⟩
    exact ⟨_, rfl, World.ownsRow_nil _ _ _ _, Below.refl _ _⟩
  · have K := Any8.slices_Grow_grow laysGrow i0 (.string emp) hi hz0 (by omega) none 0 0 k [] w (Nat.le_refl _) (by omega) (by rw [hz2]; omega) (by omega) (by simp) (fun _ => rfl) (fun a h => by cases h)
    refine K.mono ?_
    rintro e w' ⟨rfl, rfl⟩
    have hcap := grownCap_le_maxLen w (0 + k) 0 9 (by unfold maxLen; omega)
    have hge := grownCap_ge w (0 + k) 0 9
    refine ⟨_, rfl, ?_, ((Below.refl _ _).drew).alloc (Nat.le_refl _) _⟩
    refine World.ownsRow_made (base := w.heap.size) (e := 9) (size := 1) w.drew _ _ (Nat.le_refl _) hcap ?_
    rw [Array.size_append, Array.size_append, size_zeroCells, size_zeroCells]
    show 0 + (0 + k - 0) * 1 + (grownCap w (0 + k) 0 9 - (0 + k)) * 1 = grownCap w (0 + k) 0 9 * 1
    omega
set_option maxHeartbeats 4000000 in
theorem concat_at (g : Nat) (ao bo : Option Addr) (n c m c' : Nat) (A B : List ByteArray) (w : World) (hc0 : w.cell? ⟨g, 0, none⟩ = some (.slice ao n c)) (hc1 : w.cell? ⟨g, 1, none⟩ = some (.slice bo m c')) (hA : RdS w ao n c A) (hB : RdS w bo m c' B) (hn : (n + m + 2) * 16 ≤ 140737488355328) :
    Calls Try.prog 35 #[.slice (some ⟨g, 0, none⟩) 2 2] w fun e w' => ∃ v, e = .returned v ∧ w'.ownsRow w.heap.size 9 1 v (n + m) (cellsS (A ++ B)) ∧ Below w.heap.size w w' := by
  have hgl := World.block_lt_of_cell? _ _ hc0
  have GR : Hid (∀ w, Calls Try.prog 51 #[.slice none 0 0, .int .i64 ((n + m : Nat) : Int)] w fun e w' => ∃ v, e = .returned v ∧ w'.ownsRow w.heap.size 9 1 v 0 [] ∧ Below w.heap.size w w') := fun w => grow_at (n + m) w (by omega)
  go_enter Try.func35, Try.ntmps35
  go_wp2
  go_loop [3, 11] (fun s i => (i = .int .i64 0 ∧ s = .int .i64 0) ∨ (i = .int .i64 1 ∧ s = .int .i64 n) ∨ (i = .int .i64 2 ∧ s = .int .i64 ((n + m : Nat) : Int))) (fun _ i => 2 - (intOf i).toNat)
  case atStart => exact .inl ⟨rfl, rfl⟩
  case round =>
    rcases hrel with ⟨rfl, rfl⟩ | ⟨rfl, rfl⟩ | ⟨rfl, rfl⟩
    · have hnn : decide ((n : Int) < 0) = false := decide_eq_false (by omega)
      go_wp2
      go_round
      case rel => exact .inr (.inl ⟨rfl, rfl⟩)
      case measure => simp [intOf]
    · have hnn : decide (((n + m : Nat) : Int) < 0) = false := decide_eq_false (by omega)
      have hnn2 : decide ((n : Int) + (m : Int) < 0) = false := decide_eq_false (by omega)
      go_wp2
      go_round
      case rel => exact .inr (.inr ⟨rfl, congrArg (Value.int .i64) (by omega)⟩)
      case measure => simp [intOf]
    · go_wp2_with (go_at_call 51; refine (GR.out _).mono ?_; rintro e w1 ⟨v1, rfl, hO1, hB1⟩)
      go_loopw [6, 27] (fun v i wr => ∃ (j : Nat) (O : List ByteArray), wr.ownsRow w.heap.size 9 1 v j (cellsS O) ∧ Below w.heap.size w wr ∧ ((i = .int .i64 0 ∧ j = 0 ∧ O = []) ∨ (i = .int .i64 1 ∧ j = n ∧ O = A) ∨ (i = .int .i64 2 ∧ j = n + m ∧ O = A ++ B))) (fun _ i _ => 2 - (intOf i).toNat)
      case atStart => exact ⟨0, [], hO1, hB1, .inl ⟨rfl, rfl, rfl⟩⟩
      case round =>
        obtain ⟨j, O, hO, hBr, hcase⟩ := hrel
        have d0 := (hBr.cell (p := ⟨g, 0, none⟩) hgl).trans hc0
        have d1 := (hBr.cell (p := ⟨g, 1, none⟩) hgl).trans hc1
        rcases hcase with ⟨rfl, rfl, rfl⟩ | ⟨rfl, rfl, rfl⟩ | ⟨rfl, rfl, rfl⟩
        · go_wp2_with (at_builtin; refine wp_joinS w _ w.heap.size w.heap.size rfl (.tmp 31) (.tmp 32) rfl _ 0 [] rfl ao n c A rfl hO (hA.below (Nat.le_refl _) hBr) hBr.size (by omega) hBr (Nat.le_refl _) ?_; intro v2 w2 hO2 hB2 _)
          go_roundw
          case rel =>
            go_light
            exact ⟨n, A, by simpa using hO2, hB2, .inr (.inl ⟨rfl, rfl, rfl⟩)⟩
          case measure => simp [intOf]
        · go_wp2_with (at_builtin; refine wp_joinS w _ w.heap.size w.heap.size rfl (.tmp 31) (.tmp 32) rfl _ j O rfl bo m c' B rfl hO (hB.below (Nat.le_refl _) hBr) hBr.size (by omega) hBr (Nat.le_refl _) ?_; intro v2 w2 hO2 hB2 _)
          go_roundw
          case rel =>
            go_light
            exact ⟨j + m, O ++ B, hO2, hB2, .inr (.inr ⟨rfl, rfl, rfl⟩)⟩
          case measure => simp [intOf]
        · go_wp2
          go_ret
          exact ⟨_, rfl, hO, hBr⟩
theorem owns_trans {w w1 w2 : World} {v : Value} {n : Nat} {xs : List Value} (h : Below w.heap.size w w1) (k : w2.ownsRow w1.heap.size 9 1 v n xs) : w2.ownsRow w.heap.size 9 1 v n xs := owns_mono k h.size
set_option maxHeartbeats 4000000 in
theorem punion_at (ao bo : Option Addr) (n c m c' : Nat) (A B r : List ByteArray) (er : Nat) (w : World) (hA : RdS w ao n c A) (hB : RdS w bo m c' B) (sA : Short A) (sB : Short B) (hr : UnionIs A B r er) (hn : (n + m + 2) * 16 ≤ 140737488355328) :
    Calls Try.prog 20 #[.slice ao n c, .slice bo m c'] w fun e w' => ∃ v, e = .returned (.tuple #[v, .int .i64 er]) ∧ w'.ownsRow w.heap.size 9 1 v r.length (cellsS r) ∧ Below w.heap.size w w' := by
  have RI : ∀ (b1 : Bool) (ao : Option Addr) (n c : Nat) (T : List ByteArray), Short T → (b1 = true ↔ Rise T) → Hid (∀ w, RdS w ao n c T → Calls Try.prog 24 #[.slice ao n c] w fun e w' => e = .returned (.bool b1) ∧ Below w.heap.size w w') := fun b1 ao n c T hs hb w h => rises_at ao n c T b1 w h hs hb
  obtain ⟨b1, hb1⟩ := bool_for (Rise A)
  obtain ⟨b2, hb2⟩ := bool_for (Rise B)
  have R1 := RI b1 ao n c A sA hb1
  have R2 := RI b2 bo m c' B sB hb2
  clear RI sA sB
  have hcase : (b1 = false ∧ r = [] ∧ er = 3) ∨ (b1 = true ∧ b2 = false ∧ r = [] ∧ er = 3) ∨ (b1 = true ∧ b2 = true ∧ r = togL (A ++ B) ∧ er = 0) := by
    rcases hr with ⟨h, rfl, rfl⟩ | ⟨h, rfl, rfl⟩
    · cases hq : b1 with
      | false => exact .inl ⟨rfl, rfl, rfl⟩
      | true =>
        cases hq2 : b2 with
        | false => exact .inr (.inl ⟨rfl, rfl, rfl, rfl⟩)
        | true => exact absurd ⟨hb1.1 hq, hb2.1 hq2⟩ h
    · exact .inr (.inr ⟨hb1.2 h.1, hb2.2 h.2, rfl, rfl⟩)
  clear hb1 hb2 hr
  rcases hcase with ⟨rfl, rfl, rfl⟩ | ⟨rfl, rfl, rfl, rfl⟩ | ⟨rfl, rfl, rfl, rfl⟩
  · go_enter Try.func20, Try.ntmps20
    go_wp2_with (go_at_call 24; refine (R1.out _ hA).mono ?_; rintro e w1 ⟨rfl, hB1⟩)
    go_ret2
    exact ⟨_, rfl, World.ownsRow_nil _ _ _ _, hB1⟩
  · go_enter Try.func20, Try.ntmps20
    go_wp2_with (first
      | (have _t := q1; go_at_call 24; refine (R2.out _ (hB.below (Nat.le_refl _) hB1)).mono ?_; rintro e w2 ⟨rfl, hB2⟩)
      | (go_at_call 24; refine (R1.out _ hA).mono ?_; rintro e w1 ⟨rfl, hB1⟩; have q1 : Hid True := trivial))
    go_ret2
    exact ⟨_, rfl, World.ownsRow_nil _ _ _ _, bt2 hB1 hB2⟩
  · have hAl := hA.eqlen
    have hBl := hB.eqlen
    have HF : Hid (cmpt (tl (srt (A ++ B))) = togL (A ++ B)) := by
      show _ = _
      rw [← cmpt_tog (A ++ B)]
      unfold srt
      rw [tl_un]
    go_enter Try.func20, Try.ntmps20
    go_wp2_with (first
      | (have _t := q1; go_at_call 24; refine (R2.out _ (hB.below (Nat.le_refl _) hB1)).mono ?_; rintro e w2 ⟨rfl, hB2⟩; have hB12 := bt2 hB1 hB2; have hBa := bta hB12 (.cells #[.slice ao n c, .slice bo m c'] 28); have q2 : Hid True := trivial)
      | (go_at_call 24; refine (R1.out _ hA).mono ?_; rintro e w1 ⟨rfl, hB1⟩; have q1 : Hid True := trivial)
      | (go_at_call 35; refine (concat_at w2.heap.size ao bo n c m c' A B _ (by simp) (by simp) (hA.below (Nat.le_refl _) hBa) (hB.below (Nat.le_refl _) hBa) hn).mono ?_; rintro e w3 ⟨v3, rfl, hO3, hB3⟩; have hB13 := bt2 hBa hB3; have hO3' := owns_trans hBa hO3)
      | (go_at_call 36; refine (sort_own w.heap.size (n + m) _ (A ++ B) _ hO3' (by omega)).mono ?_; rintro e w4 ⟨rfl, hO4, hg4⟩; have hB14 := owns_below2 hB13 hO3' (Nat.le_refl _) hg4 hB13.size)
      | (go_at_call 37; refine (compact_own w.heap.size (n + m) _ (srt (A ++ B)) _ hO4 (by omega)).mono ?_; rintro e w5 ⟨v5, rfl, hO5, hg5⟩; have hB15 := owns_below2 hB14 hO4 (Nat.le_refl _) hg5 hB14.size))
    go_ret2
    exact ⟨_, rfl, by rw [← HF.out]; exact hO5, hB15⟩
end Go.Proofs.Ytiihabecncnbcaa.Gl
