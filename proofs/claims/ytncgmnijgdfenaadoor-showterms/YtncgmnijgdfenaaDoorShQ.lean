/- show.Formula and show.Term. -/
import Derived.Test.YtncgmnijgdfenaaDoorShN
import Derived.Test.YtncgmnijgdfenaaDoorShO
namespace Go.Proofs.YtncgmnijgdfenaaDoor.Gl
open Go Go.RowKit
set_option linter.unusedVariables false
set_option linter.unusedSimpArgs false

set_option maxRecDepth 100000 in
set_option maxHeartbeats 2000000 in
theorem whole_fm_no (W : World) (f : Fm) (v : Value) (w : World) (hv : FmV W f v) (hW : Below W.heap.size W w) (h : chk nmB f ≠ 0) :
    Calls Tryd.prog 12 #[v, .func (.func 13) #[] #[], .func (.func 14) #[] #[]] w fun e w' => e = .returned (.tuple #[.string emp, .int .i64 (chk nmB f : Nat)]) ∧ Below w.heap.size w w' := by
  have CK := mkHid (fun w h => check_run W f v w hv h)
  have hWs := hW.size
  obtain ⟨c0, c1, c2, c3, c4, rfl, -⟩ := hv
  generalize chk nmB f = c at *
  have hWa := mkHid (bel_alloc hW hWs (.cells #[c0, c1, c2, c3, c4] 26))
  have hn : ((c : Int) == 0) = false := by rw [beq_eq_false_iff_ne]; omega
  have hB0 := mkHid ((Below.refl w.heap.size w).alloc (Nat.le_refl _) (.cells #[c0, c1, c2, c3, c4] 26))
  clear hW h
  go_enter Tryd.func12, Tryd.ntmps12
  go_wp2_with (go_at_call 13; refine (CK.out _ hWa.out).mono ?_; rintro e w2 ⟨rfl, hB2⟩)
  go_ret2
  exact ⟨rfl, hB0.out.trans (hB2.mono (by rw [World.size_alloc]; omega))⟩
set_option maxRecDepth 100000 in
set_option maxHeartbeats 2000000 in
theorem whole_fm_yes (W : World) (f : Fm) (v : Value) (w : World) (hv : FmV W f v) (hW : Below W.heap.size W w) (hP : Pw W) (h : chk nmB f = 0) :
    Calls Tryd.prog 12 #[v, .func (.func 13) #[] #[], .func (.func 14) #[] #[]] w fun e w' => e = .returned (.tuple #[.string (shF f), .int .i64 0]) ∧ Below w.heap.size w w' := by
  have CK := mkHid (fun w h => check_run W f v w hv h)
  have hWs := hW.size
  obtain ⟨hsz, hdp, hall⟩ := (chk_iff nmB f).1 h
  rw [h] at CK
  obtain ⟨c0, c1, c2, c3, c4, rfl, hr⟩ := hv
  have hnum := rdf_nums f _ _ _ _ _ hr
  have hln := fm_len f hall hnum
  have WR := mkHid (fun (b : Nat) (hb : W.heap.size ≤ b) w hW hB => formula_show hb hP f hall hnum _ _ _ _ _ hr w [] hW hB (by simp only [List.length_nil]; omega))
  have hne := mkHid (pos_len (fm_some f hall))
  have hEQ := mkHid (tb_mk (shF f))
  generalize tbs (shF f) = bs at *
  have hWa := mkHid (bel_alloc hW hWs (.cells #[c0, c1, c2, c3, c4] 26))
  have hB0 := mkHid ((Below.refl w.heap.size w).alloc (Nat.le_refl _) (.cells #[c0, c1, c2, c3, c4] 26))
  clear hW h hr hall hnum hln hP hsz hdp
  go_enter Tryd.func12, Tryd.ntmps12
  go_wp2_with (fail)
  refine (CK.out _ hWa.out).mono ?_
  rintro e w2 ⟨rfl, hB2⟩
  have hs2 := hB2.size
  rw [World.size_alloc] at hs2
  have hK2 := mkHid (Kw.of (b := w.heap.size) hB2 (by rw [World.size_alloc]; omega))
  have hbx : ∀ o, (w2.alloc (.cells #[.pointer none, .slice none 0 0] WT)).cell? ⟨w.heap.size, o, none⟩ = #[c0, c1, c2, c3, c4][o]? := fun o => by
    rw [Lib.cell_of_heap ((heap_alloc_old w2 _ (by omega)).trans ((hB2.block w.heap.size (by rw [World.size_alloc]; omega)).trans (heap_alloc_new w _)))]
  have x0 := hbx 0
  have x1 := hbx 1
  have x2 := hbx 2
  have x3 := hbx 3
  have x4 := hbx 4
  have hW2 := mkHid (hWa.out.trans (hB2.mono (by rw [World.size_alloc]; omega)))
  have hW3 := mkHid (bel_alloc hW2.out (by omega) (.cells #[.pointer none, .slice none 0 0] WT))
  have W1 := mkHid (WR.out w2.heap.size (by omega) _ hW3.out (bw_new w2))
  have hB2' := mkHid (hB0.out.trans (hB2.mono (by rw [World.size_alloc]; omega)))
  clear hB2 hbx
  go_wp2_with (fail)
  refine W1.out.mono ?_
  rintro e w4 ⟨rfl, hb4, hk4⟩
  rw [List.nil_append] at hb4
  have S1 := mkHid (str_at w2.heap.size bs w4 hb4 hne.out)
  have hk4' := mkHid hk4
  clear hb4 hk4
  go_wp2_with (fail)
  refine S1.out.mono ?_
  rintro e w5 ⟨rfl, hB5⟩
  have hB6 := mkHid (((hB2'.out.alloc (by omega) (.cells #[.pointer none, .slice none 0 0] WT)).trans (hk4'.out.1.mono (by omega))).trans (hB5.mono (by omega)))
  clear hB5
  go_wp2
  go_ret2
  exact ⟨by rw [hEQ.out]; rfl, hB6.out⟩
set_option maxRecDepth 100000 in
set_option maxHeartbeats 2000000 in
theorem fm_show (W : World) (f : Fm) (v : Value) (w : World) (hv : FmV W f v) (hW : Below W.heap.size W w) (hP : Pw W) :
    Calls Tryd.prog 5 #[v] w fun e w' => e = .returned (.tuple #[.string (if chk nmB f = 0 then shF f else emp), .int .i64 (chk nmB f : Nat)]) ∧ Below w.heap.size w w' := by
  have WC := mkHid (fun w (hW : Below W.heap.size W w) => show Calls Tryd.prog 12 #[v, .func (.func 13) #[] #[], .func (.func 14) #[] #[]] w fun e w' => e = .returned (.tuple #[.string (if chk nmB f = 0 then shF f else emp), .int .i64 (chk nmB f : Nat)]) ∧ Below w.heap.size w w' by
    by_cases h : chk nmB f = 0
    · rw [if_pos h, h]; exact whole_fm_yes W f v w hv hW hP h
    · rw [if_neg h]; exact whole_fm_no W f v w hv hW h)
  have hWs := hW.size
  obtain ⟨c0, c1, c2, c3, c4, rfl, -⟩ := hv
  generalize (if chk nmB f = 0 then shF f else emp) = s at *
  generalize chk nmB f = c at *
  have hWa := mkHid (bel_alloc hW hWs (.cells #[c0, c1, c2, c3, c4] 26))
  have hB0 := mkHid ((Below.refl w.heap.size w).alloc (Nat.le_refl _) (.cells #[c0, c1, c2, c3, c4] 26))
  clear hW hP
  go_enter Tryd.func5, Tryd.ntmps5
  go_wp2_with (go_at_call 12; refine (WC.out _ hWa.out).mono ?_; rintro e w2 ⟨rfl, hB2⟩)
  go_ret2
  exact ⟨rfl, hB0.out.trans (hB2.mono (by rw [World.size_alloc]; omega))⟩
set_option maxRecDepth 100000 in
set_option maxHeartbeats 2000000 in
theorem whole_tm_no (W : World) (f : Tm) (v : Value) (w : World) (hv : TmV W f v) (hW : Below W.heap.size W w) (h : chkT nmB f ≠ 0) :
    Calls Tryd.prog 17 #[v, .func (.func 18) #[] #[], .func (.func 19) #[] #[]] w fun e w' => e = .returned (.tuple #[.string emp, .int .i64 (chkT nmB f : Nat)]) ∧ Below w.heap.size w w' := by
  have CK := mkHid (fun w h => checkT_run W f v w hv h)
  have hWs := hW.size
  obtain ⟨c0, c1, c2, c3, rfl, -⟩ := hv
  generalize chkT nmB f = c at *
  have hWa := mkHid (bel_alloc hW hWs (.cells #[c0, c1, c2, c3] 36))
  have hn : ((c : Int) == 0) = false := by rw [beq_eq_false_iff_ne]; omega
  have hB0 := mkHid ((Below.refl w.heap.size w).alloc (Nat.le_refl _) (.cells #[c0, c1, c2, c3] 36))
  clear hW h
  go_enter Tryd.func17, Tryd.ntmps17
  go_wp2_with (go_at_call 18; refine (CK.out _ hWa.out).mono ?_; rintro e w2 ⟨rfl, hB2⟩)
  go_ret2
  exact ⟨rfl, hB0.out.trans (hB2.mono (by rw [World.size_alloc]; omega))⟩
set_option maxRecDepth 100000 in
set_option maxHeartbeats 2000000 in
theorem whole_tm_yes (W : World) (f : Tm) (v : Value) (w : World) (hv : TmV W f v) (hW : Below W.heap.size W w) (hP : Pw W) (h : chkT nmB f = 0) :
    Calls Tryd.prog 17 #[v, .func (.func 18) #[] #[], .func (.func 19) #[] #[]] w fun e w' => e = .returned (.tuple #[.string (shT f), .int .i64 0]) ∧ Below w.heap.size w w' := by
  have CK := mkHid (fun w h => checkT_run W f v w hv h)
  have hWs := hW.size
  obtain ⟨hsz, hdp, hall⟩ := (chkT_iff nmB f).1 h
  rw [h] at CK
  obtain ⟨c0, c1, c2, c3, rfl, hr⟩ := hv
  have hnum := rdt_nums f _ _ _ _ hr
  have hln := tm_len f hall hnum
  have WR := mkHid (fun (b : Nat) (hb : W.heap.size ≤ b) w hW hB => term_at hb hP f hall hnum _ _ _ _ hr w [] hW hB (by simp only [List.length_nil]; omega))
  have hne := mkHid (pos_len (tm_some f hall))
  have hEQ := mkHid (tb_mk (shT f))
  generalize tbs (shT f) = bs at *
  have hWa := mkHid (bel_alloc hW hWs (.cells #[c0, c1, c2, c3] 36))
  have hB0 := mkHid ((Below.refl w.heap.size w).alloc (Nat.le_refl _) (.cells #[c0, c1, c2, c3] 36))
  clear hW h hr hall hnum hln hP hsz hdp
  go_enter Tryd.func17, Tryd.ntmps17
  go_wp2_with (fail)
  refine (CK.out _ hWa.out).mono ?_
  rintro e w2 ⟨rfl, hB2⟩
  have hs2 := hB2.size
  rw [World.size_alloc] at hs2
  have hK2 := mkHid (Kw.of (b := w.heap.size) hB2 (by rw [World.size_alloc]; omega))
  have hbx : ∀ o, (w2.alloc (.cells #[.pointer none, .slice none 0 0] WT)).cell? ⟨w.heap.size, o, none⟩ = #[c0, c1, c2, c3][o]? := fun o => by
    rw [Lib.cell_of_heap ((heap_alloc_old w2 _ (by omega)).trans ((hB2.block w.heap.size (by rw [World.size_alloc]; omega)).trans (heap_alloc_new w _)))]
  have x0 := hbx 0
  have x1 := hbx 1
  have x2 := hbx 2
  have x3 := hbx 3
  have hW2 := mkHid (hWa.out.trans (hB2.mono (by rw [World.size_alloc]; omega)))
  have hW3 := mkHid (bel_alloc hW2.out (by omega) (.cells #[.pointer none, .slice none 0 0] WT))
  have W1 := mkHid (WR.out w2.heap.size (by omega) _ hW3.out (bw_new w2))
  have hB2' := mkHid (hB0.out.trans (hB2.mono (by rw [World.size_alloc]; omega)))
  clear hB2 hbx
  go_wp2_with (fail)
  refine W1.out.mono ?_
  rintro e w4 ⟨rfl, hb4, hk4⟩
  rw [List.nil_append] at hb4
  have S1 := mkHid (str_at w2.heap.size bs w4 hb4 hne.out)
  have hk4' := mkHid hk4
  clear hb4 hk4
  go_wp2_with (fail)
  refine S1.out.mono ?_
  rintro e w5 ⟨rfl, hB5⟩
  have hB6 := mkHid (((hB2'.out.alloc (by omega) (.cells #[.pointer none, .slice none 0 0] WT)).trans (hk4'.out.1.mono (by omega))).trans (hB5.mono (by omega)))
  clear hB5
  go_wp2
  go_ret2
  exact ⟨by rw [hEQ.out]; rfl, hB6.out⟩
set_option maxRecDepth 100000 in
set_option maxHeartbeats 2000000 in
theorem tm_show (W : World) (f : Tm) (v : Value) (w : World) (hv : TmV W f v) (hW : Below W.heap.size W w) (hP : Pw W) :
    Calls Tryd.prog 9 #[v] w fun e w' => e = .returned (.tuple #[.string (if chkT nmB f = 0 then shT f else emp), .int .i64 (chkT nmB f : Nat)]) ∧ Below w.heap.size w w' := by
  have WC := mkHid (fun w (hW : Below W.heap.size W w) => show Calls Tryd.prog 17 #[v, .func (.func 18) #[] #[], .func (.func 19) #[] #[]] w fun e w' => e = .returned (.tuple #[.string (if chkT nmB f = 0 then shT f else emp), .int .i64 (chkT nmB f : Nat)]) ∧ Below w.heap.size w w' by
    by_cases h : chkT nmB f = 0
    · rw [if_pos h, h]; exact whole_tm_yes W f v w hv hW hP h
    · rw [if_neg h]; exact whole_tm_no W f v w hv hW h)
  have hWs := hW.size
  obtain ⟨c0, c1, c2, c3, rfl, -⟩ := hv
  generalize (if chkT nmB f = 0 then shT f else emp) = s at *
  generalize chkT nmB f = c at *
  have hWa := mkHid (bel_alloc hW hWs (.cells #[c0, c1, c2, c3] 36))
  have hB0 := mkHid ((Below.refl w.heap.size w).alloc (Nat.le_refl _) (.cells #[c0, c1, c2, c3] 36))
  clear hW hP
  go_enter Tryd.func9, Tryd.ntmps9
  go_wp2_with (go_at_call 17; refine (WC.out _ hWa.out).mono ?_; rintro e w2 ⟨rfl, hB2⟩)
  go_ret2
  exact ⟨rfl, hB0.out.trans (hB2.mono (by rw [World.size_alloc]; omega))⟩
end Go.Proofs.YtncgmnijgdfenaaDoor.Gl
