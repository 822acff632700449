/- The law's atom, fixed; TreeNumbers, TreeFree. -/
import Derived.Test.YtiihabecncnbcaaTrN
namespace Go.Proofs.Ytiihabecncnbcaa.Gl
open Go.RowKit
set_option linter.unusedVariables false

theorem latom_at (w : World) : Calls Try.prog 25 #[] w fun e w' => ∃ v, e = .returned v ∧ FmV w' atomF v ∧ Below w.heap.size w w' := by
  go_enter Try.func25, Try.ntmps25
  go_wp2
  refine bodyPost_ret (v := .agg #[.int .i64 9, .string emp, .int .i64 0, .slice (some ⟨w.heap.size + 1, 0, none⟩) 2 2, .slice none 0 0]) (by simp [results, Try.results25, go_sem]) rfl ⟨_, rfl, ?_, ?_⟩
  · refine ⟨_, _, _, _, _, rfl, ?_⟩
    rw [RdF]
    refine ⟨rfl, rfl, rfl, ⟨by decide, by decide, by decide⟩, ⟨some ⟨w.heap.size + 1, 0, none⟩, 2, rfl, by decide, by decide, ?_⟩, none, 0, rfl, by decide, by decide, by rw [RdFL]; trivial⟩
    rw [RdTL, RdTL, RdTL]
    refine ⟨⟨w.heap.size + 1, 0, .int .i64 1, .int .i64 0, .string exx, .slice none 0 0, rfl, by simp, by simp, by simp, by simp, by simp, ?_⟩, ⟨w.heap.size + 1, 0, .int .i64 0, .int .i64 1, .string emp, .slice none 0 0, rfl, by simp, by simp, by simp, by simp, by simp, ?_⟩, trivial⟩
    · rw [RdT]
      exact ⟨rfl, rfl, rfl, ⟨by decide, by decide, by decide⟩, none, 0, rfl, by decide, by decide, by rw [RdTL]; trivial⟩
    · rw [RdT]
      exact ⟨rfl, rfl, rfl, ⟨by decide, by decide, by decide⟩, none, 0, rfl, by decide, by decide, by rw [RdTL]; trivial⟩
  · exact bta (bta0 _ _) _
theorem bad_val (w : World) : FmV w (.mk 99 emp 0 [] []) (.agg #[.int .i64 99, .string emp, .int .i64 0, .slice none 0 0, .slice none 0 0]) := by
  refine ⟨_, _, _, _, _, rfl, ?_⟩
  rw [RdF]
  exact ⟨rfl, rfl, rfl, ⟨by decide, by decide, by decide⟩, ⟨none, 0, rfl, by decide, by decide, by rw [RdTL]; trivial⟩, none, 0, rfl, by decide, by decide, by rw [RdFL]; trivial⟩
set_option maxHeartbeats 1000000 in
theorem lfixed6_at (C : TreeC) (w : World) : Calls Try.prog 9 #[] w fun e w' => e = .returned (.bool true) ∧ Below w.heap.size w w' := by
  have AT : Hid (∀ w, Calls Try.prog 25 #[] w fun e w' => ∃ v, e = .returned v ∧ FmV w' atomF v ∧ Below w.heap.size w w') := latom_at
  have SZ : Hid (∀ v w, FmV w atomF v → Calls Try.prog 18 #[v] w fun e w' => e = .returned (.tuple #[.int .i64 3, .int .i64 0]) ∧ Below w.heap.size w w') := fun v w h => by
    have := C.size w atomF v w h (Below.refl _ _)
    rw [ok0, atom_chk, if_pos rfl] at this
    exact this
  have FR : Hid (∀ v w, FmV w atomF v → Calls Try.prog 10 #[v] w fun e w' => ∃ v', e = .returned (.tuple #[v', .int .i64 0]) ∧ w'.ownsRow w.heap.size 9 1 v' 1 (cellsS [exx]) ∧ Below w.heap.size w w') := fun v w h => by
    have := C.free w atomF v w h (Below.refl _ _)
    rw [frOf, atom_chk, if_pos rfl, atom_free] at this
    exact this
  have CK : Hid (∀ w, Calls Try.prog 16 #[.agg #[.int .i64 99, .string emp, .int .i64 0, .slice none 0 0, .slice none 0 0]] w fun e w' => e = .returned (.int .i64 3) ∧ Below w.heap.size w w') := fun w => by
    have := C.check w _ _ w (bad_val w) (Below.refl _ _)
    rw [bad_chk] at this
    exact this
  clear C
  go_enter Try.func9, Try.ntmps9
  go_wp2_with (fail)
  refine (AT.out _).mono ?_
  rintro e w1 ⟨v1, rfl, hF1, hB1⟩
  go_wp2_with (fail)
  refine (SZ.out _ _ hF1).mono ?_
  rintro e w2 ⟨rfl, hB2⟩
  go_wp2_with (fail)
  refine (AT.out _).mono ?_
  rintro e w3 ⟨v3, rfl, hF3, hB3⟩
  go_wp2_with (fail)
  refine (FR.out _ _ hF3).mono ?_
  rintro e w4 ⟨v4, rfl, hO4, hB4⟩
  obtain ⟨ro, cr, rfl, hR4⟩ := rds_of_owns hO4
  have hR5 := hR4.below (B := w4.heap.size) (Nat.le_refl _) (bta0 w4 (.cells #[.string exx] 9))
  have hR6 := rds_built w4 [exx] 1 9 _ rfl rfl (by decide)
  have SM : Hid (Calls Try.prog 12 #[.slice ro 1 cr, .slice (some ⟨w4.heap.size, 0, none⟩) 1 1] (w4.alloc (.cells #[.string exx] 9)) fun e w' => e = .returned (.bool true) ∧ Below (w4.alloc (.cells #[.string exx] 9)).heap.size (w4.alloc (.cells #[.string exx] 9)) w') := lsame_at _ _ _ _ _ _ _ _ true _ hR5 hR6 (by simp)
  clear hR4 hR5 hR6 AT SZ FR hO4
  go_wp2_with (fail)
  refine SM.out.mono ?_
  rintro e w5 ⟨rfl, hB5⟩
  go_wp2_with (fail)
  refine (CK.out _).mono ?_
  rintro e w6 ⟨rfl, hB6⟩
  go_wp2
  go_ret
  exact ⟨rfl, bt2 (bt2 (bt2 (bt2 (bt2 hB1 hB2) hB3) hB4) (ba2 hB5)) hB6⟩
theorem numbers_walk (C : TreeC) (w : World) : Calls Try.prog 3 #[] w fun e w' => e = .returned (.bool true) ∧ Below w.heap.size w w' := by
  have FX : Hid (∀ w, Calls Try.prog 9 #[] w fun e w' => e = .returned (.bool true) ∧ Below w.heap.size w w') := fun w => lfixed6_at C w
  clear C
  go_enter Try.func3, Try.ntmps3
  go_wp2_with (go_at_call 9; refine (FX.out _).mono ?_; rintro e w1 ⟨rfl, hB1⟩)
  go_ret
  exact ⟨rfl, hB1⟩
set_option maxHeartbeats 2000000 in
theorem free_walk (C : TreeC) (f : Fm) (v : Value) (w : World) (hv : FmV w f v) : Calls Try.prog 4 #[v] w fun e w' => e = .returned (.bool true) ∧ Below w.heap.size w w' := by
  have FX : Hid (∀ w, Calls Try.prog 9 #[] w fun e w' => e = .returned (.bool true) ∧ Below w.heap.size w w') := fun w => lfixed6_at C w
  have FR : Hid (∀ w1, Below w.heap.size w w1 → Calls Try.prog 10 #[v] w1 fun e w' => ∃ v', e = .returned (.tuple #[v', .int .i64 (chk nmB f)]) ∧ w'.ownsRow w1.heap.size 9 1 v' (frOf f).length (cellsS (frOf f)) ∧ Below w1.heap.size w1 w') := fun w1 h => C.free w f v w1 hv h
  have CK : Hid (∀ w1, Below w.heap.size w w1 → Calls Try.prog 11 #[v] w1 fun e w' => e = .returned (.int .i64 (chk nmB f)) ∧ Below w1.heap.size w1 w') := fun w1 h => rcheck_at w f v w1 hv h
  have RF : Hid (chk nmB f = 0 → ∀ w1, Below w.heap.size w w1 → Calls Try.prog 13 #[v] w1 fun e w' => ∃ v', e = .returned v' ∧ w'.ownsRow w1.heap.size 9 1 v' (freeF f).length (cellsS (freeF f)) ∧ Below w1.heap.size w1 w') := fun h0 w1 h => rfree_at w f v w1 hv h (by have := ((chk_iff nmB f).1 h0).1; omega)
  obtain ⟨c0, c1, c2, c3, c4, rfl, _⟩ := hv
  clear C
  have hWa := bta0 w (.cells #[c0, c1, c2, c3, c4] 27)
  by_cases h0 : chk nmB f = 0
  · have RF0 : Hid _ := RF.out h0
    have e0 : frOf f = freeF f := by rw [frOf, if_pos h0]
    rw [h0] at FR CK
    rw [e0] at FR
    clear RF e0 h0
    go_enter Try.func4, Try.ntmps4
    go_wp2_with (fail)
    refine (FR.out _ hWa).mono ?_
    rintro e w1 ⟨v1, rfl, hO1, hB1⟩
    obtain ⟨ro, cr, rfl, hR1⟩ := rds_of_owns hO1
    obtain ⟨_, _, hd1, _⟩ := res_keep hB1
    have hb1 := ba2 hB1
    go_wp2_with (fail)
    refine (FX.out _).mono ?_
    rintro e w2 ⟨rfl, hB2⟩
    obtain ⟨_, _, hd2, _⟩ := res_keep (bt2 hB1 hB2)
    have hb2 := bt2 hb1 hB2
    go_wp2_with (fail)
    refine (CK.out _ hb2).mono ?_
    rintro e w3 ⟨rfl, hB3⟩
    obtain ⟨_, _, hd3, _⟩ := res_keep (bt2 (bt2 hB1 hB2) hB3)
    have hb3 := bt2 hb2 hB3
    go_wp2_with (fail)
    refine (RF0.out _ hb3).mono ?_
    rintro e w4 ⟨v4, rfl, hO4, hB4⟩
    obtain ⟨ro4, cr4, rfl, hR4⟩ := rds_of_owns hO4
    have hR5 := hR1.below (Nat.le_refl _) (bt2 (bt2 hB2 hB3) hB4)
    have SM : Hid (Calls Try.prog 12 #[.slice ro (freeF f).length cr, .slice ro4 (freeF f).length cr4] w4 fun e w' => e = .returned (.bool true) ∧ Below w4.heap.size w4 w') := lsame_at _ _ _ _ _ _ _ _ true _ hR5 hR4 (by simp)
    clear FR CK FX RF0 hR1 hR4 hR5 hO1 hO4
    go_wp2_with (fail)
    refine SM.out.mono ?_
    rintro e w5 ⟨rfl, hB5⟩
    go_wp2
    go_ret
    exact ⟨rfl, bt2 (bt2 hb3 hB4) hB5⟩
  · have e0 : frOf f = [] := by rw [frOf, if_neg h0]
    rw [e0] at FR
    have hne : ((chk nmB f : Int) != 0) = true := by simp; omega
    have hne2 : ((chk nmB f : Int) == 0) = false := by simp; omega
    generalize chk nmB f = c at *
    clear RF e0
    go_enter Try.func4, Try.ntmps4
    go_wp2_with (fail)
    refine (FR.out _ hWa).mono ?_
    rintro e w1 ⟨v1, rfl, hO1, hB1⟩
    obtain ⟨ro, cr, rfl, hR1⟩ := rds_of_owns hO1
    obtain ⟨_, _, hd1, _⟩ := res_keep hB1
    have hb1 := ba2 hB1
    go_wp2_with (fail)
    refine (FX.out _).mono ?_
    rintro e w2 ⟨rfl, hB2⟩
    obtain ⟨_, _, hd2, _⟩ := res_keep (bt2 hB1 hB2)
    have hb2 := bt2 hb1 hB2
    go_wp2_with (fail)
    refine (CK.out _ hb2).mono ?_
    rintro e w3 ⟨rfl, hB3⟩
    clear FR CK FX hO1
    go_wp2
    go_ret
    exact ⟨rfl, bt2 hb2 hB3⟩
end Go.Proofs.Ytiihabecncnbcaa.Gl
