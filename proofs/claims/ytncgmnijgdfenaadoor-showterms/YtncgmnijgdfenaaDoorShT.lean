/- The document's held. -/
import Derived.Test.YtncgmnijgdfenaaDoorShR
namespace Go.Proofs.YtncgmnijgdfenaaDoor.Gl
open Go Go.RowKit
set_option linter.unusedVariables false
set_option linter.unusedSimpArgs false

theorem need_no {o v : Int} {pl : Nat} (h3 : o ≠ 3) (h4 : o ≠ 4) (h5 : o ≠ 5) : needB o v pl = false := by
  unfold needB
  rw [decide_eq_false (by omega : ¬ (o = 3 ∨ o = 4)), decide_eq_false h5]
  rfl
/-- where a part may stand -/
def Pls (v : Int) (pl : Nat) : Prop := (v = 2 ∧ pl = 0) ∨ (v = 3 ∧ pl = 0) ∨ (v = 3 ∧ pl = 1) ∨ (v = 4 ∧ pl = 0) ∨ (v = 4 ∧ pl = 1) ∨ (v = 5 ∧ pl = 0) ∨ (v = 5 ∧ pl = 1)
set_option maxHeartbeats 4000000 in
set_option maxRecDepth 100000 in
theorem rheld_at (W : World) (t : Tm) (c1 c2 c3 : Value) (HT : ∀ w, Below W.heap.size W w → Calls Tryd.prog 11 #[.agg #[.int .i64 t.op, c1, c2, c3]] w fun e w' => e = .returned (.string (shT t)) ∧ Below w.heap.size w w') (hz : (shT t).size ≤ 1000000) (v : Int) (pl : Nat) (hv : Pls v pl) (w : World) (hW : Below W.heap.size W w) :
    Calls Tryd.prog 21 #[.agg #[.int .i64 t.op, c1, c2, c3], .int .i64 v, .int .i64 pl] w fun e w' => e = .returned (.string (hlB v pl t)) ∧ Below w.heap.size w w' := by
  have hWs := hW.size
  have hWa := mkHid (hW.alloc hWs (.cells #[.int .i64 t.op, c1, c2, c3] 36))
  have TH := mkHid HT
  have hB0 := mkHid ((Below.refl w.heap.size w).alloc (Nat.le_refl _) (.cells #[.int .i64 t.op, c1, c2, c3] 36))
  have HI := mkHid (fun h => hlB_in (v := v) (pl := pl) (t := t) h)
  have HN := mkHid (fun h => hlB_no (v := v) (pl := pl) (t := t) h)
  have Hno := mkHid (need_no (o := t.op) (v := v) (pl := pl))
  generalize t.op = o at *
  generalize shT t = s at *
  generalize hlB v pl t = r at *
  clear HT hW
  by_cases h3 : o = 3
  · subst h3
    clear Hno
    rcases hv with ⟨rfl, rfl⟩ | ⟨rfl, rfl⟩ | ⟨rfl, rfl⟩ | ⟨rfl, rfl⟩ | ⟨rfl, rfl⟩ | ⟨rfl, rfl⟩ | ⟨rfl, rfl⟩
    all_goals
      go_enter Tryd.func21, Tryd.ntmps21
      go_wp2_with (fail)
      refine (TH.out _ hWa.out).mono ?_
      rintro e w2 ⟨rfl, hB2⟩
      have hbx : ∀ q, w2.cell? ⟨w.heap.size, q, none⟩ = #[.int .i64 3, c1, c2, c3][q]? := fun q => by
        rw [Lib.cell_of_heap ((hB2.block w.heap.size (by rw [World.size_alloc]; omega)).trans (heap_alloc_new w _))]
      have x0 := hbx 0
      have hBz := mkHid (hB0.out.trans (hB2.mono (by rw [World.size_alloc]; omega)))
      clear hbx hB2
      go_wp2
      go_ret
      exact ⟨by first | (rw [← HI.out rfl]; done) | (rw [← HN.out rfl]; done) | (rw [← HI.out rfl]; rfl) | (rw [← HN.out rfl]; rfl), hBz.out⟩
  · by_cases h4 : o = 4
    · subst h4
      clear Hno h3
      rcases hv with ⟨rfl, rfl⟩ | ⟨rfl, rfl⟩ | ⟨rfl, rfl⟩ | ⟨rfl, rfl⟩ | ⟨rfl, rfl⟩ | ⟨rfl, rfl⟩ | ⟨rfl, rfl⟩
      all_goals
        go_enter Tryd.func21, Tryd.ntmps21
        go_wp2_with (fail)
        refine (TH.out _ hWa.out).mono ?_
        rintro e w2 ⟨rfl, hB2⟩
        have hbx : ∀ q, w2.cell? ⟨w.heap.size, q, none⟩ = #[.int .i64 4, c1, c2, c3][q]? := fun q => by
          rw [Lib.cell_of_heap ((hB2.block w.heap.size (by rw [World.size_alloc]; omega)).trans (heap_alloc_new w _))]
        have x0 := hbx 0
        have hBz := mkHid (hB0.out.trans (hB2.mono (by rw [World.size_alloc]; omega)))
        clear hbx hB2
        go_wp2
        go_ret
        exact ⟨by first | (rw [← HI.out rfl]; done) | (rw [← HN.out rfl]; done) | (rw [← HI.out rfl]; rfl) | (rw [← HN.out rfl]; rfl), hBz.out⟩
    · by_cases h5 : o = 5
      · subst h5
        clear Hno h3 h4
        rcases hv with ⟨rfl, rfl⟩ | ⟨rfl, rfl⟩ | ⟨rfl, rfl⟩ | ⟨rfl, rfl⟩ | ⟨rfl, rfl⟩ | ⟨rfl, rfl⟩ | ⟨rfl, rfl⟩
        all_goals
          go_enter Tryd.func21, Tryd.ntmps21
          go_wp2_with (fail)
          refine (TH.out _ hWa.out).mono ?_
          rintro e w2 ⟨rfl, hB2⟩
          have hbx : ∀ q, w2.cell? ⟨w.heap.size, q, none⟩ = #[.int .i64 5, c1, c2, c3][q]? := fun q => by
            rw [Lib.cell_of_heap ((hB2.block w.heap.size (by rw [World.size_alloc]; omega)).trans (heap_alloc_new w _))]
          have x0 := hbx 0
          have hBz := mkHid (hB0.out.trans (hB2.mono (by rw [World.size_alloc]; omega)))
          clear hbx hB2
          go_wp2
          go_ret
          exact ⟨by first | (rw [← HI.out rfl]; done) | (rw [← HN.out rfl]; done) | (rw [← HI.out rfl]; rfl) | (rw [← HN.out rfl]; rfl), hBz.out⟩
      · have e3 : (o == 3) = false := by rw [beq_eq_false_iff_ne]; exact h3
        have e4 : (o == 4) = false := by rw [beq_eq_false_iff_ne]; exact h4
        have e5 : (o == 5) = false := by rw [beq_eq_false_iff_ne]; exact h5
        have HE := mkHid (HN.out (Hno.out h3 h4 h5))
        clear Hno HI HN h3 h4 h5
        rcases hv with ⟨rfl, rfl⟩ | ⟨rfl, rfl⟩ | ⟨rfl, rfl⟩ | ⟨rfl, rfl⟩ | ⟨rfl, rfl⟩ | ⟨rfl, rfl⟩ | ⟨rfl, rfl⟩
        all_goals
          go_enter Tryd.func21, Tryd.ntmps21
          go_wp2_with (fail)
          refine (TH.out _ hWa.out).mono ?_
          rintro e w2 ⟨rfl, hB2⟩
          have hbx : ∀ q, w2.cell? ⟨w.heap.size, q, none⟩ = #[.int .i64 o, c1, c2, c3][q]? := fun q => by
            rw [Lib.cell_of_heap ((hB2.block w.heap.size (by rw [World.size_alloc]; omega)).trans (heap_alloc_new w _))]
          have x0 := hbx 0
          have hBz := mkHid (hB0.out.trans (hB2.mono (by rw [World.size_alloc]; omega)))
          clear hbx hB2
          go_wp2
          go_ret
          exact ⟨by rw [← HE.out]; rfl, hBz.out⟩
end Go.Proofs.YtncgmnijgdfenaaDoor.Gl
