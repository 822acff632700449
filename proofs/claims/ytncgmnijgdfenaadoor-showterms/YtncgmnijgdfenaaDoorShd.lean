/- ShowFormulas and ShowTerms. -/
import Derived.Test.YtncgmnijgdfenaaDoorShc
namespace Go.Proofs.YtncgmnijgdfenaaDoor.Gl
open Go Go.RowKit
set_option linter.unusedVariables false
set_option linter.unusedSimpArgs false

set_option maxRecDepth 100000 in
set_option maxHeartbeats 2000000 in
theorem showFormulas_walk (f : Fm) (v : Value) (w : World) (hv : FmV w f v) (hP : Pw w) :
    Calls Tryd.prog 3 #[v] w fun e w' => e = .returned (.bool true) ∧ Below w.heap.size w w' := by
  have S1 := mkHid (fun w1 h => fm_show w f v w1 hv h hP)
  have K1 := mkHid (fun w1 h => rcheck_at w f v w1 hv h)
  have FX := mkHid (fun w1 (h : Below w.heap.size w w1) => fixed8_at w1 (hP.below h hP.lt))
  have RT := mkHid (fun (h : chk nmB f = 0) => show ∀ w1, Below w.heap.size w w1 → Calls Tryd.prog 8 #[v] w1 fun e w' => e = .returned (.string (shF f)) ∧ Below w1.heap.size w1 w' by
    obtain ⟨hsz, hdp, hall⟩ := (chk_iff nmB f).1 h
    obtain ⟨c0, c1, c2, c3, c4, rfl, hr⟩ := hv
    exact rformula_txt w f hall (rdf_nums f _ _ _ _ _ hr) hsz _ _ _ _ _ hr)
  obtain ⟨c0, c1, c2, c3, c4, rfl, -⟩ := hv
  have HB0 := mkHid ((Below.refl w.heap.size w).alloc (Nat.le_refl _) (.cells #[c0, c1, c2, c3, c4] 26))
  clear hP
  by_cases hc : chk nmB f = 0
  · rw [if_pos hc] at S1
    have RT' := mkHid (RT.out hc)
    rw [hc] at S1 K1
    clear RT hc
    go_enter Tryd.func3, Tryd.ntmps3
    go_wp2_with (fail)
    refine (S1.out _ HB0.out).mono ?_
    rintro e w2 ⟨rfl, hB2⟩
    have hs2 := hB2.size
    rw [World.size_alloc] at hs2
    have k2 := mkHid ((hB2.block w.heap.size (by rw [World.size_alloc]; omega)).trans (heap_alloc_new w _))
    have bx2 : ∀ o, w2.cell? ⟨w.heap.size, o, none⟩ = #[c0, c1, c2, c3, c4][o]? := fun o => by rw [Lib.cell_of_heap k2.out]
    have x20 := bx2 0
    have x21 := bx2 1
    have x22 := bx2 2
    have x23 := bx2 3
    have x24 := bx2 4
    have H2 := mkHid (HB0.out.trans (hB2.mono (by rw [World.size_alloc]; omega)))
    clear hB2 bx2
    go_wp2_with (fail)
    refine (K1.out _ H2.out).mono ?_
    rintro e w3 ⟨rfl, hB3⟩
    have hs3 := hB3.size
    have k3 := mkHid ((hB3.block w.heap.size (by omega)).trans k2.out)
    have H3 := mkHid (H2.out.trans (hB3.mono (by omega)))
    clear hB3 x20 x21 x22 x23 x24
    go_wp2_with (fail)
    refine (FX.out _ H3.out).mono ?_
    rintro e w4 ⟨rfl, hB4⟩
    have hs4 := hB4.size
    have k4 := mkHid ((hB4.block w.heap.size (by omega)).trans k3.out)
    have bx4 : ∀ o, w4.cell? ⟨w.heap.size, o, none⟩ = #[c0, c1, c2, c3, c4][o]? := fun o => by rw [Lib.cell_of_heap k4.out]
    have x40 := bx4 0
    have x41 := bx4 1
    have x42 := bx4 2
    have x43 := bx4 3
    have x44 := bx4 4
    have H4 := mkHid (H3.out.trans (hB4.mono (by omega)))
    clear hB4 bx4
    go_wp2_with (fail)
    refine (RT'.out _ H4.out).mono ?_
    rintro e w5 ⟨rfl, hB5⟩
    have H5 := mkHid (H4.out.trans (hB5.mono (by omega)))
    clear hB5 x40 x41 x42 x43 x44
    go_wp2
    go_ret
    exact ⟨rfl, H5.out⟩
  · rw [if_neg hc] at S1
    have hn : ((chk nmB f : Int) == 0) = false := by rw [beq_eq_false_iff_ne]; omega
    clear RT
    generalize chk nmB f = c at *
    go_enter Tryd.func3, Tryd.ntmps3
    go_wp2_with (fail)
    refine (S1.out _ HB0.out).mono ?_
    rintro e w2 ⟨rfl, hB2⟩
    have hs2 := hB2.size
    rw [World.size_alloc] at hs2
    have k2 := mkHid ((hB2.block w.heap.size (by rw [World.size_alloc]; omega)).trans (heap_alloc_new w _))
    have bx2 : ∀ o, w2.cell? ⟨w.heap.size, o, none⟩ = #[c0, c1, c2, c3, c4][o]? := fun o => by rw [Lib.cell_of_heap k2.out]
    have x20 := bx2 0
    have x21 := bx2 1
    have x22 := bx2 2
    have x23 := bx2 3
    have x24 := bx2 4
    have H2 := mkHid (HB0.out.trans (hB2.mono (by rw [World.size_alloc]; omega)))
    clear hB2 bx2
    go_wp2_with (fail)
    refine (K1.out _ H2.out).mono ?_
    rintro e w3 ⟨rfl, hB3⟩
    have H3 := mkHid (H2.out.trans (hB3.mono (by omega)))
    clear hB3 x20 x21 x22 x23 x24
    go_wp2_with (fail)
    refine (FX.out _ H3.out).mono ?_
    rintro e w4 ⟨rfl, hB4⟩
    have H4 := mkHid (H3.out.trans (hB4.mono (by have := H3.out.size; omega)))
    clear hB4
    go_wp2
    go_ret
    exact ⟨rfl, H4.out⟩
set_option maxRecDepth 100000 in
set_option maxHeartbeats 2000000 in
theorem showTerms_walk (f : Tm) (v : Value) (w : World) (hv : TmV w f v) (hP : Pw w) :
    Calls Tryd.prog 4 #[v] w fun e w' => e = .returned (.bool true) ∧ Below w.heap.size w w' := by
  have S1 := mkHid (fun w1 h => tm_show w f v w1 hv h hP)
  have K1 := mkHid (fun w1 h => rcheckT_at w f v w1 hv h)
  have FX := mkHid (fun w1 (h : Below w.heap.size w w1) => fixed8_at w1 (hP.below h hP.lt))
  have RT := mkHid (fun (h : chkT nmB f = 0) => show ∀ w1, Below w.heap.size w w1 → Calls Tryd.prog 11 #[v] w1 fun e w' => e = .returned (.string (shT f)) ∧ Below w1.heap.size w1 w' by
    obtain ⟨hsz, hdp, hall⟩ := (chkT_iff nmB f).1 h
    obtain ⟨c0, c1, c2, c3, rfl, hr⟩ := hv
    exact rterm_txt w f hall (rdt_nums f _ _ _ _ hr) hsz _ _ _ _ hr)
  obtain ⟨c0, c1, c2, c3, rfl, -⟩ := hv
  have HB0 := mkHid ((Below.refl w.heap.size w).alloc (Nat.le_refl _) (.cells #[c0, c1, c2, c3] 36))
  clear hP
  by_cases hc : chkT nmB f = 0
  · rw [if_pos hc] at S1
    have RT' := mkHid (RT.out hc)
    rw [hc] at S1 K1
    clear RT hc
    go_enter Tryd.func4, Tryd.ntmps4
    go_wp2_with (fail)
    refine (S1.out _ HB0.out).mono ?_
    rintro e w2 ⟨rfl, hB2⟩
    have hs2 := hB2.size
    rw [World.size_alloc] at hs2
    have k2 := mkHid ((hB2.block w.heap.size (by rw [World.size_alloc]; omega)).trans (heap_alloc_new w _))
    have bx2 : ∀ o, w2.cell? ⟨w.heap.size, o, none⟩ = #[c0, c1, c2, c3][o]? := fun o => by rw [Lib.cell_of_heap k2.out]
    have x20 := bx2 0
    have x21 := bx2 1
    have x22 := bx2 2
    have x23 := bx2 3
    have H2 := mkHid (HB0.out.trans (hB2.mono (by rw [World.size_alloc]; omega)))
    clear hB2 bx2
    go_wp2_with (fail)
    refine (K1.out _ H2.out).mono ?_
    rintro e w3 ⟨rfl, hB3⟩
    have hs3 := hB3.size
    have k3 := mkHid ((hB3.block w.heap.size (by omega)).trans k2.out)
    have H3 := mkHid (H2.out.trans (hB3.mono (by omega)))
    clear hB3 x20 x21 x22 x23
    go_wp2_with (fail)
    refine (FX.out _ H3.out).mono ?_
    rintro e w4 ⟨rfl, hB4⟩
    have hs4 := hB4.size
    have k4 := mkHid ((hB4.block w.heap.size (by omega)).trans k3.out)
    have bx4 : ∀ o, w4.cell? ⟨w.heap.size, o, none⟩ = #[c0, c1, c2, c3][o]? := fun o => by rw [Lib.cell_of_heap k4.out]
    have x40 := bx4 0
    have x41 := bx4 1
    have x42 := bx4 2
    have x43 := bx4 3
    have H4 := mkHid (H3.out.trans (hB4.mono (by omega)))
    clear hB4 bx4
    go_wp2_with (fail)
    refine (RT'.out _ H4.out).mono ?_
    rintro e w5 ⟨rfl, hB5⟩
    have H5 := mkHid (H4.out.trans (hB5.mono (by omega)))
    clear hB5 x40 x41 x42 x43
    go_wp2
    go_ret
    exact ⟨rfl, H5.out⟩
  · rw [if_neg hc] at S1
    have hn : ((chkT nmB f : Int) == 0) = false := by rw [beq_eq_false_iff_ne]; omega
    clear RT
    generalize chkT nmB f = c at *
    go_enter Tryd.func4, Tryd.ntmps4
    go_wp2_with (fail)
    refine (S1.out _ HB0.out).mono ?_
    rintro e w2 ⟨rfl, hB2⟩
    have hs2 := hB2.size
    rw [World.size_alloc] at hs2
    have k2 := mkHid ((hB2.block w.heap.size (by rw [World.size_alloc]; omega)).trans (heap_alloc_new w _))
    have bx2 : ∀ o, w2.cell? ⟨w.heap.size, o, none⟩ = #[c0, c1, c2, c3][o]? := fun o => by rw [Lib.cell_of_heap k2.out]
    have x20 := bx2 0
    have x21 := bx2 1
    have x22 := bx2 2
    have x23 := bx2 3
    have H2 := mkHid (HB0.out.trans (hB2.mono (by rw [World.size_alloc]; omega)))
    clear hB2 bx2
    go_wp2_with (fail)
    refine (K1.out _ H2.out).mono ?_
    rintro e w3 ⟨rfl, hB3⟩
    have H3 := mkHid (H2.out.trans (hB3.mono (by omega)))
    clear hB3 x20 x21 x22 x23
    go_wp2_with (fail)
    refine (FX.out _ H3.out).mono ?_
    rintro e w4 ⟨rfl, hB4⟩
    have H4 := mkHid (H3.out.trans (hB4.mono (by have := H3.out.size; omega)))
    clear hB4
    go_wp2
    go_ret
    exact ⟨rfl, H4.out⟩
end Go.Proofs.YtncgmnijgdfenaaDoor.Gl
