/- The program's Sorted. -/
import Derived.Test.YtdfdbhjgighkpabGlU
namespace Go.Proofs.Ytdfdbhjgighkpab.Gl
open Go.RowKit
set_option linter.unusedVariables false

theorem sizeStr : (Try.prog.info? 9).map (·.size) = some 1 := by kernel_rfl
/-- 'copy(row, names)' into a row of the call's own, of the same length -/
theorem copy_runS (w0 W : World) (B base g2 m : Nat) (T : List ByteArray) (Z : List Value) (ao : Option Addr) (sc : Nat)
    (hown : W.ownsRow base 9 1 (.slice (some ⟨g2, 0, none⟩) m m) m Z) (hR : RdS W ao m sc T) (hb : Below B w0 W) (hBg : B ≤ g2) :
    ∃ w', (Builtin.copy_ #[22, 22] 3 #[.slice (some ⟨g2, 0, none⟩) m m, .slice ao m sc]).run Try.prog W = .ok (goInt m) w' ∧ w'.ownsRow base 9 1 (.slice (some ⟨g2, 0, none⟩) m m) m (cellsS T) ∧ Below B w0 w' := by
  have hzl := hR.eqlen
  cases ao with
  | none =>
    have hc0 := hR.isnil rfl
    have hl := hR.lecap
    obtain rfl : sc = 0 := hc0
    obtain rfl : m = 0 := by omega
    have hz : T = [] := List.length_eq_zero_iff.1 hzl
    subst hz
    have hZ : Z = [] := List.length_eq_zero_iff.1 (by have := hown.1; omega)
    subst hZ
    exact ⟨W, run_copy_nil (P := Try.prog) W 22 22 3 9 ⟨g2, 0, none⟩ 0 0 Try.underlying22 (by kernel_rfl), hown, hb⟩
  | some ad =>
    rcases hown.2 with ⟨e, _⟩ | ⟨g', cap, cur, e, hbg, hh, _, hcm, hcs, _⟩
    · cases e
    · simp only [Value.slice.injEq, Option.some.injEq, Addr.mk.injEq, and_true, true_and] at e
      obtain ⟨rfl, rfl⟩ := e
      have hl : (cellsS T).length = m := by rw [List.length_map, hzl]
      have hrun := run_copy_row (P := Try.prog) W 22 22 3 9 g2 0 m m ad m sc cur 9 (cellsS T) Try.underlying22 sizeStr hh (by rw [hl]; exact (Nat.min_self m).symm) (cells_argA hR) (by omega) (strs_oneCell T)
      rw [hl] at hrun
      refine ⟨_, hrun, ?_, below_setRow hb hBg _⟩
      have hw := setRow_heap W g2 cur (cur.toList.take 0 ++ cellsS T ++ cur.toList.drop (0 + m)).toArray 9 (0, 0) hh
      have he : cur.toList.take 0 ++ cellsS T ++ cur.toList.drop (0 + m) = cellsS T := by
        rw [List.take_zero, List.nil_append, Nat.zero_add, List.drop_of_length_le (by simp only [Array.length_toList]; omega), List.append_nil]
      rw [he] at hw ⊢
      refine ⟨by omega, .inr ⟨g2, m, _, rfl, hbg, hw, Nat.le_refl _, hcm, by simpa using hl, ?_⟩⟩
      simp only [Nat.mul_one]
      exact List.take_of_length_le (by omega)
theorem owns_below2 {W0 w w' : World} {B base : Nat} {v : Value} {n : Nat} {xs : List Value} (hb : Below B W0 w) (h : w.ownsRow base 9 1 v n xs) (hB : B ≤ base) (hg : w.grownBy w' v.ownBlock) (hs : B ≤ w.heap.size) : Below B W0 w' :=
  hb.grown hg hs (fun k hk => by have := h.lt k hk; omega)
theorem rds_of_own2 {w : World} {base : Nat} {ro : Option Addr} {n c : Nat} {ss : List ByteArray} (h : w.ownsRow base 9 1 (.slice ro n c) n (cellsS ss)) : RdS w ro n c ss := by
  obtain ⟨ro', cr, hv, hR⟩ := rds_of_owns h
  obtain ⟨rfl, _, rfl⟩ := Value.slice.inj hv
  exact hR
set_option maxHeartbeats 2000000 in
theorem psorted_at (ao : Option Addr) (n c : Nat) (T r : List ByteArray) (er : Nat) (w : World) (h : RdS w ao n c T) (hT : Short T) (hr : SortedIs T r er) (hn : (n + 2) * 16 ≤ 140737488355328) :
    Calls Try.prog 9 #[.slice ao n c] w fun e w' => ∃ v, e = .returned (.tuple #[v, .int .i64 er]) ∧ w'.ownsRow w.heap.size 9 1 v r.length (cellsS r) ∧ Below w.heap.size w w' := by
  have hcn := h.lecap
  have hcx := h.lemax
  have HT : Hid (T.length = n) := h.eqlen
  rcases hr with ⟨h1, rfl, rfl⟩ | ⟨h1, h2, rfl, rfl⟩ | ⟨h1, h2, rfl, rfl⟩
  · have CF : Hid (Calls Try.prog 17 #[.slice ao n c, .func (.func 18) #[] #[]] w fun e w' => e = .returned (.bool true) ∧ Below w.heap.size w w') := containsfunc_at ao n c T true w h hT ⟨fun e => (by cases e), fun e => absurd e h1⟩
    clear h1 hT
    go_enter Try.func9, Try.ntmps9
    go_wp2_with (go_at_call 17; refine CF.out.mono ?_; rintro e w1 ⟨rfl, hB1⟩)
    go_ret2
    exact ⟨_, rfl, World.ownsRow_nil _ _ _ _, hB1⟩
  all_goals
    have CF : Hid (Calls Try.prog 17 #[.slice ao n c, .func (.func 18) #[] #[]] w fun e w' => e = .returned (.bool false) ∧ Below w.heap.size w w') := containsfunc_at ao n c T false w h hT ⟨fun _ => h1, fun _ => rfl⟩
    obtain ⟨ii, hi, hi0, hi1, hi2⟩ := info_parts Try.infoStr
    have hRi := srt_rise h1
    have hSH := hT.srt
    have hsl := srt_length T
  · have RI : Hid (∀ ro c w, RdS w ro n c (srt T) → Calls Try.prog 7 #[.slice ro n c] w fun e w' => e = .returned (.bool false) ∧ Below w.heap.size w w') := fun ro c w h => rises_at ro n c (srt T) false w h hSH ⟨fun e => (by cases e), fun e => absurd (hRi.1 e) h2⟩
    clear h1 hT hRi h2 hSH
    go_enter Try.func9, Try.ntmps9
    go_wp2_with (first
      | (go_at_call 17; refine CF.out.mono ?_; rintro e w1 ⟨rfl, hB1⟩)
      | (at_make; refine wpList_make_full _ rfl _ _ 22 rfl w.heap.size 9 ii (.string emp) 1 Try.underlying22 hi hi0 hi1 _ _ _ _ n rfl rfl (by go_num) (by go_num) (by rw [hi2]; omega) (by unfold maxLen; omega) hB1.size ?_; intro w2 hown2 hg2))
    have hB2 := hB1.grown hg2 hB1.size (fun k h => by cases h)
    obtain ⟨w3, hrun, hown3, hB3⟩ := copy_runS w w2 w.heap.size w.heap.size _ n T _ ao c hown2 (h.below (Nat.le_refl _) hB2) hB2 hB1.size
    rw [hrun]
    clear hrun hown2 hg2
    go_wp2_with (first
      | (go_at_call 14; refine (sort_own w.heap.size n _ T _ hown3 (by omega)).mono ?_; rintro e w4 ⟨rfl, hown4, hg4⟩; have hB4 := owns_below2 hB3 hown3 (Nat.le_refl _) hg4 hB3.size)
      | (go_at_call 7; refine (RI.out _ _ _ (rds_of_own2 hown4)).mono ?_; rintro e w5 ⟨rfl, hB5⟩))
    go_ret2
    exact ⟨_, rfl, World.ownsRow_nil _ _ _ _, bt2 hB4 hB5⟩
  · have RI : Hid (∀ ro c w, RdS w ro n c (srt T) → Calls Try.prog 7 #[.slice ro n c] w fun e w' => e = .returned (.bool true) ∧ Below w.heap.size w w') := fun ro c w h => rises_at ro n c (srt T) true w h hSH ⟨fun _ => hRi.2 h2, fun _ => rfl⟩
    have HST : Hid (srt T = togL T) := srt_tog h2
    have HSL : Hid ((togL T).length = n) := by show _ = _; rw [← srt_tog h2, hsl, HT.out]
    clear h1 hT hRi h2 hSH
    go_enter Try.func9, Try.ntmps9
    go_wp2_with (first
      | (go_at_call 17; refine CF.out.mono ?_; rintro e w1 ⟨rfl, hB1⟩)
      | (at_make; refine wpList_make_full _ rfl _ _ 22 rfl w.heap.size 9 ii (.string emp) 1 Try.underlying22 hi hi0 hi1 _ _ _ _ n rfl rfl (by go_num) (by go_num) (by rw [hi2]; omega) (by unfold maxLen; omega) hB1.size ?_; intro w2 hown2 hg2))
    have hB2 := hB1.grown hg2 hB1.size (fun k h => by cases h)
    obtain ⟨w3, hrun, hown3, hB3⟩ := copy_runS w w2 w.heap.size w.heap.size _ n T _ ao c hown2 (h.below (Nat.le_refl _) hB2) hB2 hB1.size
    rw [hrun]
    clear hrun hown2 hg2
    go_wp2_with (first
      | (go_at_call 14; refine (sort_own w.heap.size n _ T _ hown3 (by omega)).mono ?_; rintro e w4 ⟨rfl, hown4, hg4⟩; have hB4 := owns_below2 hB3 hown3 (Nat.le_refl _) hg4 hB3.size)
      | (go_at_call 7; refine (RI.out _ _ _ (rds_of_own2 hown4)).mono ?_; rintro e w5 ⟨rfl, hB5⟩))
    go_ret2
    refine ⟨_, rfl, ?_, bt2 hB4 hB5⟩
    have hfin := owns_below hown4 hB5
    rw [HST.out] at hfin
    rw [HSL.out]
    exact hfin
end Go.Proofs.Ytdfdbhjgighkpab.Gl
