/- Size, Depth, Plain. -/
import Derived.Test.YtiihabecncnbcaaNdH
import Derived.Test.YtiihabecncnbcaaNdM
namespace Go.Proofs.Ytiihabecncnbcaa.Gl
open Go.RowKit Go.Shelf
set_option linter.unusedVariables false
attribute [local go_sem] Oper.semAt_some

/- a formula's value, written out -/
theorem fm_open {W : World} {f : Fm} {v : Value} (hv : FmV W f v) : ∃ o x m bo n1 c1 ao n2 c2, v = .agg #[.int .i64 o, .string x, .int .i64 m, .slice bo n1 c1, .slice ao n2 c2] ∧ RdF W f (.int .i64 o) (.string x) (.int .i64 m) (.slice bo n1 c1) (.slice ao n2 c2) := by
  obtain ⟨c0, c1, c2, c3, c4, rfl, hr⟩ := hv
  obtain ⟨o, x, m, t, a⟩ := f
  have hr' := hr
  rw [RdF] at hr
  obtain ⟨rfl, rfl, rfl, -, ⟨bo, ct, rfl, -⟩, ao, ca, rfl, -⟩ := hr
  exact ⟨o, x, m, bo, _, ct, ao, _, ca, rfl, hr'⟩
theorem ok0_no {f : Fm} (h : ¬ chk nmB f = 0) (n : Nat) : ok0 f n = 0 := by unfold ok0; rw [if_neg h]
theorem ok0_yes {f : Fm} (h : chk nmB f = 0) (n : Nat) : ok0 f n = n := by unfold ok0; rw [if_pos h]
set_option maxHeartbeats 2000000 in
theorem quant_at (o : Int) (w : World) : Calls Try.prog 41 #[.int .i64 o] w fun e w' => e = .returned (.bool (quant o)) ∧ w = w' := by
  have HQ : Hid (quant o = decide (o = 7 ∨ o = 8)) := rfl
  go_enter Try.func41, Try.ntmps41
  go_wp2
  all_goals
    go_ret
    refine ⟨retb ?_, rfl⟩
    rw [HQ.out]
    by_cases h7 : o = 7
    · subst h7; first | rfl | contradiction
    · by_cases h8 : o = 8
      · subst h8; first | rfl | contradiction
      · have e7 : (o == 7) = false := by simpa using h7
        have e8 : (o == 8) = false := by simpa using h8
        first | contradiction | simp [h7, h8]
set_option maxRecDepth 100000 in
set_option maxHeartbeats 4000000 in
theorem size_run (W : World) (f : Fm) (v : Value) (w : World) (hv : FmV W f v) (hW : Below W.heap.size W w) :
    Calls Try.prog 18 #[v] w fun e w' => e = .returned (.tuple #[.int .i64 (ok0 f f.size : Nat), .int .i64 (chk nmB f : Nat)]) ∧ Below w.heap.size w w' := by
  obtain ⟨o, x, m, bo, n1, c1, ao, n2, c2, rfl, hr⟩ := fm_open hv
  obtain ⟨b, hb⟩ : ∃ b, Obj.cells #[.int .i64 o, .string x, .int .i64 m, .slice bo n1 c1, .slice ao n2 c2] 27 = b := ⟨_, rfl⟩
  have hB1 : Below w.heap.size w (w.alloc b) := (Below.refl _ _).alloc (Nat.le_refl _) _
  have hn1 : (w.alloc b).heap[w.heap.size]? = some b := World.alloc_heap_new w b
  have RC : Hid (Calls Try.prog 16 #[.agg #[.int .i64 o, .string x, .int .i64 m, .slice bo n1 c1, .slice ao n2 c2]] (w.alloc b) fun e w' => e = .returned (.int .i64 (chk nmB f : Nat)) ∧ Below w.heap.size w w' ∧ w'.heap[w.heap.size]? = some b) :=
    (check_run W f _ (w.alloc b) hv (hW.trans (hB1.mono hW.size))).mono (fun e w' h => ⟨h.1, hB1.trans (h.2.mono hB1.size), (h.2.block _ (by simp)).trans hn1⟩)
  subst hb
  refine (callsIn_wide (n := 8)).1 ?_
  by_cases hk : chk nmB f = 0
  · rw [hk, ok0_yes hk]
    rw [hk] at RC
    obtain ⟨hz1, hz2⟩ := right_of hk
    refine callsIn_of_wp_marks Try.func18 rfl trivial ?_ rfl
    simp only [Try.ntmps18, List.size_toArray, List.length_cons, List.length_nil, Nat.reduceAdd, Nat.reduceSub, Array.replicate_succ, Array.replicate_zero, List.push_toArray, List.append_toArray, List.nil_append, List.cons_append]
    gi_wp2
    refine ⟨trivial, ?_⟩
    refine (callsIn_wide.2 RC.out).mono ?_
    rintro e w2 ⟨rfl, hB2, hbx2⟩
    have hlt2 := (Array.getElem?_eq_some_iff.1 hbx2).1
    have q0 : ∀ ob, (w2.alloc ob).cell? ⟨w.heap.size, 0, none⟩ = some (.int .i64 o) := fun ob => cells_at ((Below.heap_alloc _ _ _ hlt2).trans hbx2) 0 _ rfl
    have q1 : ∀ ob, (w2.alloc ob).cell? ⟨w.heap.size, 1, none⟩ = some (.string x) := fun ob => cells_at ((Below.heap_alloc _ _ _ hlt2).trans hbx2) 1 _ rfl
    have q2 : ∀ ob, (w2.alloc ob).cell? ⟨w.heap.size, 2, none⟩ = some (.int .i64 m) := fun ob => cells_at ((Below.heap_alloc _ _ _ hlt2).trans hbx2) 2 _ rfl
    have q3 : ∀ ob, (w2.alloc ob).cell? ⟨w.heap.size, 3, none⟩ = some (.slice bo n1 c1) := fun ob => cells_at ((Below.heap_alloc _ _ _ hlt2).trans hbx2) 3 _ rfl
    have q4 : ∀ ob, (w2.alloc ob).cell? ⟨w.heap.size, 4, none⟩ = some (.slice ao n2 c2) := fun ob => cells_at ((Below.heap_alloc _ _ _ hlt2).trans hbx2) 4 _ rfl
    gi_wp2
    refine ⟨trivial, ?_⟩
    obtain ⟨w3, hw3⟩ : ∃ w3, w2.alloc (.cells #[.int .i64 0] 3) = w3 := ⟨_, rfl⟩
    have hB23 : Below w2.heap.size w2 w3 := by rw [← hw3]; exact (Below.refl _ _).alloc (Nat.le_refl _) _
    have hbc3 : Boxed w3 w2.heap.size 3 (.int .i64 0) := by rw [← hw3]; exact Boxed.new w2 _ _
    have hB3 : Below w.heap.size w w3 := hB2.trans (hB23.mono hB2.size)
    have hbx := (hB23.block _ hlt2).trans hbx2
    have hsz3 : w3.heap.size = w2.heap.size + 1 := by rw [← hw3]; simp
    rw [hw3]
    clear q0 q1 q2 q3 q4
    refine (callsIn_wide.2 (nodes_at o m x bo ao n1 c1 n2 c2 w3)).mono ?_
    rintro e w4 ⟨rfl, hw4⟩
    have hB34 : Below w3.heap.size w3 w4 := by rw [hw4]; exact (Below.refl _ _).alloc (Nat.le_refl _) _
    have hbc4 := box_keep hbc3 hB34
    have hB4 : Below w.heap.size w w4 := hB3.trans (hB34.mono hB3.size)
    have hsz4 : w4.heap.size = w3.heap.size + 1 := by rw [hw4]; simp
    have hbf : BoxF w4 (w2.heap.size + 1) f W := ⟨_, _, _, _, _, by rw [← hsz3, hw4]; exact World.alloc_heap_new w3 _, hr⟩
    have hle2 := hB2.size
    clear hw4 hw3
    gi_wp2
    refine wpIn_rangeFunc_ownH rfl (by omega) (gf := 48) (lb := #[.pointer (some ⟨w2.heap.size + 1, 0, none⟩)]) rfl trivial (enters_of Try.func48 (by kernel_rfl) rfl)
      (nodes_stops (fun x => Sz x.name.size) W _ w.heap.size (w2.heap.size + 1) f w4 hW.size (hW.trans (hB4.mono hW.size)) hB4.size hbf hbf.sz) (fun h k => h.trans k) (Kp.put hB4.size) (Below.refl _ _) (fun _ => rfl)
      (fun pre W' => Boxed W' w2.heap.size 3 (.int .i64 (pre.length : Nat)) ∧ Below w.heap.size w W')
      (fun c pre W' => False)
      (OwnFrom.and (Own.from (boxed_own _ _ _) _) (ownFrom_below (Nat.le_refl _) hB4.size))
      (fun c => ownFrom_pure _ _)
      ⟨hbc4, hB4⟩
      (fun y a' W' => a' = { tmps := #[.agg #[.int .i64 o, .string x, .int .i64 m, .slice bo n1 c1, .slice ao n2 c2], .pointer (some ⟨w.heap.size, 0, none⟩), .int .i64 0, .int .i64 0, .int .i64 0, .pointer (some ⟨w2.heap.size, 0, none⟩), .agg #[.int .i64 o, .string x, .int .i64 m, .slice bo n1 c1, .slice ao n2 c2], .int .i64 0, .int .i64 0, .bool false, undef, .agg #[.int .i64 o, .string x, .int .i64 m, .slice bo n1 c1, .slice ao n2 c2], .func (.func 48) #[] #[.pointer (some ⟨w2.heap.size + 1, 0, none⟩)], ndV y.1, undef, undef, undef], defers := [] })
      ?hAx ?assign ?body ?done ?stop
    case hAx => exact fun x a' => ownFrom_pure _ _
    case assign =>
      rintro l pre x W' K hi hK
      gi_wp2
      exact hK _ _ (KeepsFrom.refl _ _) (Kp.refl _ _) hi (by simp)
    case body =>
      rintro l pre x a' W' hl _ ⟨hc, hB⟩ rfl hlt
      rw [ndF_len] at hlt
      have hcc := hc.cell
      have hcf := hc.frozen
      gi_wp2
      exact ⟨(KeepsOthers.setCell _ _ _).from _, kp_set hc (by unfold WalkTy; decide) (by omega) _, by have := hc.set (.int .i64 ((pre.length : Int) + 1)); simpa using this, hB.setCell (p := ⟨w2.heap.size, 0, none⟩) (by omega) _⟩
    case done =>
      rintro D ys W' hD hS ⟨hc, hB⟩ hK
      have hcc := hc.cell
      have HE : Hid (ys.length = f.size) := by
        show _ = _
        rw [← ndF_len f 1, ← hS, List.length_map]
      gi_wp2
      refine ⟨by simp, .inl ⟨_, _, rfl, run_takeDeferred hK, ?_⟩⟩
      exact ⟨_, results_tmp2 rfl _ _ _, by rw [HE.out]; rfl, below_put hB (by omega)⟩
    case stop =>
      rintro D c ys W' hD hS h hK
      exact h.elim
  · rw [ok0_no hk]
    generalize chk nmB f = r at *
    have hk' : ¬ (r : Int) = 0 := by omega
    refine callsIn_of_wp_marks Try.func18 rfl trivial ?_ rfl
    simp only [Try.ntmps18, List.size_toArray, List.length_cons, List.length_nil, Nat.reduceAdd, Nat.reduceSub, Array.replicate_succ, Array.replicate_zero, List.push_toArray, List.append_toArray, List.nil_append, List.cons_append]
    gi_wp2
    refine ⟨trivial, ?_⟩
    refine (callsIn_wide.2 RC.out).mono ?_
    rintro e w2 ⟨rfl, hB2, hbx2⟩
    gi_wp2
    exact ⟨_, results_tmp2 rfl _ _ _, rfl, hB2⟩
set_option maxRecDepth 100000 in
set_option maxHeartbeats 4000000 in
theorem depth_run (W : World) (f : Fm) (v : Value) (w : World) (hv : FmV W f v) (hW : Below W.heap.size W w) :
    Calls Try.prog 19 #[v] w fun e w' => e = .returned (.tuple #[.int .i64 (ok0 f f.deep : Nat), .int .i64 (chk nmB f : Nat)]) ∧ Below w.heap.size w w' := by
  obtain ⟨o, x, m, bo, n1, c1, ao, n2, c2, rfl, hr⟩ := fm_open hv
  obtain ⟨b, hb⟩ : ∃ b, Obj.cells #[.int .i64 o, .string x, .int .i64 m, .slice bo n1 c1, .slice ao n2 c2] 27 = b := ⟨_, rfl⟩
  have hB1 : Below w.heap.size w (w.alloc b) := (Below.refl _ _).alloc (Nat.le_refl _) _
  have hn1 : (w.alloc b).heap[w.heap.size]? = some b := World.alloc_heap_new w b
  have RC : Hid (Calls Try.prog 16 #[.agg #[.int .i64 o, .string x, .int .i64 m, .slice bo n1 c1, .slice ao n2 c2]] (w.alloc b) fun e w' => e = .returned (.int .i64 (chk nmB f : Nat)) ∧ Below w.heap.size w w' ∧ w'.heap[w.heap.size]? = some b) :=
    (check_run W f _ (w.alloc b) hv (hW.trans (hB1.mono hW.size))).mono (fun e w' h => ⟨h.1, hB1.trans (h.2.mono hB1.size), (h.2.block _ (by simp)).trans hn1⟩)
  subst hb
  refine (callsIn_wide (n := 8)).1 ?_
  by_cases hk : chk nmB f = 0
  · rw [hk, ok0_yes hk]
    rw [hk] at RC
    obtain ⟨hz1, hz2⟩ := right_of hk
    refine callsIn_of_wp_marks Try.func19 rfl trivial ?_ rfl
    simp only [Try.ntmps19, List.size_toArray, List.length_cons, List.length_nil, Nat.reduceAdd, Nat.reduceSub, Array.replicate_succ, Array.replicate_zero, List.push_toArray, List.append_toArray, List.nil_append, List.cons_append]
    gi_wp2
    refine ⟨trivial, ?_⟩
    refine (callsIn_wide.2 RC.out).mono ?_
    rintro e w2 ⟨rfl, hB2, hbx2⟩
    have hlt2 := (Array.getElem?_eq_some_iff.1 hbx2).1
    have q0 : ∀ ob, (w2.alloc ob).cell? ⟨w.heap.size, 0, none⟩ = some (.int .i64 o) := fun ob => cells_at ((Below.heap_alloc _ _ _ hlt2).trans hbx2) 0 _ rfl
    have q1 : ∀ ob, (w2.alloc ob).cell? ⟨w.heap.size, 1, none⟩ = some (.string x) := fun ob => cells_at ((Below.heap_alloc _ _ _ hlt2).trans hbx2) 1 _ rfl
    have q2 : ∀ ob, (w2.alloc ob).cell? ⟨w.heap.size, 2, none⟩ = some (.int .i64 m) := fun ob => cells_at ((Below.heap_alloc _ _ _ hlt2).trans hbx2) 2 _ rfl
    have q3 : ∀ ob, (w2.alloc ob).cell? ⟨w.heap.size, 3, none⟩ = some (.slice bo n1 c1) := fun ob => cells_at ((Below.heap_alloc _ _ _ hlt2).trans hbx2) 3 _ rfl
    have q4 : ∀ ob, (w2.alloc ob).cell? ⟨w.heap.size, 4, none⟩ = some (.slice ao n2 c2) := fun ob => cells_at ((Below.heap_alloc _ _ _ hlt2).trans hbx2) 4 _ rfl
    gi_wp2
    refine ⟨trivial, ?_⟩
    obtain ⟨w3, hw3⟩ : ∃ w3, w2.alloc (.cells #[.int .i64 0] 3) = w3 := ⟨_, rfl⟩
    have hB23 : Below w2.heap.size w2 w3 := by rw [← hw3]; exact (Below.refl _ _).alloc (Nat.le_refl _) _
    have hbc3 : Boxed w3 w2.heap.size 3 (.int .i64 0) := by rw [← hw3]; exact Boxed.new w2 _ _
    have hB3 : Below w.heap.size w w3 := hB2.trans (hB23.mono hB2.size)
    have hbx := (hB23.block _ hlt2).trans hbx2
    have hsz3 : w3.heap.size = w2.heap.size + 1 := by rw [← hw3]; simp
    rw [hw3]
    clear q0 q1 q2 q3 q4
    refine (callsIn_wide.2 (nodes_at o m x bo ao n1 c1 n2 c2 w3)).mono ?_
    rintro e w4 ⟨rfl, hw4⟩
    have hB34 : Below w3.heap.size w3 w4 := by rw [hw4]; exact (Below.refl _ _).alloc (Nat.le_refl _) _
    have hbc4 := box_keep hbc3 hB34
    have hB4 : Below w.heap.size w w4 := hB3.trans (hB34.mono hB3.size)
    have hsz4 : w4.heap.size = w3.heap.size + 1 := by rw [hw4]; simp
    have hbf : BoxF w4 (w2.heap.size + 1) f W := ⟨_, _, _, _, _, by rw [← hsz3, hw4]; exact World.alloc_heap_new w3 _, hr⟩
    have hle2 := hB2.size
    clear hw4 hw3
    gi_wp2
    refine wpIn_rangeFunc_ownH rfl (by omega) (gf := 48) (lb := #[.pointer (some ⟨w2.heap.size + 1, 0, none⟩)]) rfl trivial (enters_of Try.func48 (by kernel_rfl) rfl)
      (nodes_stops (fun x => Sz x.name.size) W _ w.heap.size (w2.heap.size + 1) f w4 hW.size (hW.trans (hB4.mono hW.size)) hB4.size hbf hbf.sz) (fun h k => h.trans k) (Kp.put hB4.size) (Below.refl _ _) (fun _ => rfl)
      (fun pre W' => Boxed W' w2.heap.size 3 (.int .i64 (mxd 0 (vals pre))) ∧ Below w.heap.size w W')
      (fun c pre W' => False)
      (OwnFrom.and (Own.from (boxed_own _ _ _) _) (ownFrom_below (Nat.le_refl _) hB4.size))
      (fun c => ownFrom_pure _ _)
      ⟨hbc4, hB4⟩
      (fun y a' W' => ∃ Bx, w2.heap.size < Bx ∧ W'.heap[Bx]? = some (Obj.cells (ndC y.1) 65) ∧ a' = { tmps := #[.agg #[.int .i64 o, .string x, .int .i64 m, .slice bo n1 c1, .slice ao n2 c2], .pointer (some ⟨w.heap.size, 0, none⟩), .int .i64 0, .int .i64 0, .int .i64 0, .pointer (some ⟨w2.heap.size, 0, none⟩), .pointer (some ⟨Bx, 0, none⟩), .agg #[.int .i64 o, .string x, .int .i64 m, .slice bo n1 c1, .slice ao n2 c2], .int .i64 0, .int .i64 0, .bool false, undef, .agg #[.int .i64 o, .string x, .int .i64 m, .slice bo n1 c1, .slice ao n2 c2], .func (.func 48) #[] #[.pointer (some ⟨w2.heap.size + 1, 0, none⟩)], ndV y.1, undef, undef, undef, undef, undef], defers := [] })
      ?hAx ?assign ?body ?done ?stop
    case hAx =>
      rintro x a' s X Y row ⟨Bx, h1, h2, h3⟩ hg hr
      exact ⟨Bx, h1, cells_own 0 (fun _ : Unit => Bx) (fun _ => ndC x.1) _ _ s X Y row h2 hg hr, h3⟩
    case assign =>
      rintro l pre x W' K ⟨h1, h4⟩ hK
      have hBa : Below W'.heap.size W' (W'.alloc (Obj.cells (ndC x.1) 65)) := (Below.refl _ _).alloc (Nat.le_refl _) _
      gi_wp2
      exact hK _ _ (keeps_of hBa) (Kp.of hBa h4.size) ⟨box_keep h1 hBa, h4.trans (hBa.mono h4.size)⟩ ⟨W'.heap.size, h1.lt, World.alloc_heap_new _ _, rfl⟩
    case body =>
      rintro l pre x a' W' hl _ ⟨hc, hB⟩ ⟨Bx, hBx, hx, rfl⟩ hlt
      have HM : Hid (mxd 0 (vals (pre ++ [x])) = max (mxd 0 (vals pre)) x.1.dp) := by show _ = _; rw [vals_snoc]; simp [mxd, List.foldl_append]
      generalize mxd 0 (vals pre) = k at *
      have hcc := hc.cell
      have hcf := hc.frozen
      have e0 := cells_at hx 0 _ rfl
      gi_wp2
      · exact ⟨(KeepsOthers.setCell _ _ _).from _, kp_set hc (by unfold WalkTy; decide) (by omega) _, by rw [HM.out, show max k x.1.dp = x.1.dp by omega]; exact hc.set _, hB.setCell (p := ⟨w2.heap.size, 0, none⟩) (by omega) _⟩
      · exact ⟨(KeepsOthers.setCell _ _ _).from _, kp_set hc (by unfold WalkTy; decide) (by omega) _, by rw [HM.out, show max k x.1.dp = k by omega]; exact hc.set _, hB.setCell (p := ⟨w2.heap.size, 0, none⟩) (by omega) _⟩
    case done =>
      rintro D ys W' hD hS ⟨hc, hB⟩ hK
      have hcc := hc.cell
      have HE : Hid (mxd 0 (vals ys) = f.deep) := by
        show _ = _
        rw [show vals ys = ndF f 1 from hS]
        exact mxd_all f hz2
      generalize mxd 0 (vals ys) = k at *
      gi_wp2
      refine ⟨by simp, .inl ⟨_, _, rfl, run_takeDeferred hK, ?_⟩⟩
      exact ⟨_, results_tmp2 rfl _ _ _, by rw [← HE.out]; rfl, below_put hB (by omega)⟩
    case stop =>
      rintro D c ys W' hD hS h hK
      exact h.elim
  · rw [ok0_no hk]
    generalize chk nmB f = r at *
    have hk' : ¬ (r : Int) = 0 := by omega
    refine callsIn_of_wp_marks Try.func19 rfl trivial ?_ rfl
    simp only [Try.ntmps19, List.size_toArray, List.length_cons, List.length_nil, Nat.reduceAdd, Nat.reduceSub, Array.replicate_succ, Array.replicate_zero, List.push_toArray, List.append_toArray, List.nil_append, List.cons_append]
    gi_wp2
    refine ⟨trivial, ?_⟩
    refine (callsIn_wide.2 RC.out).mono ?_
    rintro e w2 ⟨rfl, hB2, hbx2⟩
    gi_wp2
    exact ⟨_, results_tmp2 rfl _ _ _, rfl, hB2⟩
end Go.Proofs.Ytiihabecncnbcaa.Gl
/- Plain. -/
namespace Go.Proofs.Ytiihabecncnbcaa.Gl
open Go.RowKit Go.Shelf
set_option linter.unusedVariables false
attribute [local go_sem] Oper.semAt_some

def NoQ (l : List Nd) (b : Bool) : Prop := l.all noq = b
set_option maxRecDepth 100000 in
set_option maxHeartbeats 4000000 in
theorem plain_run (W : World) (f : Fm) (v : Value) (w : World) (hv : FmV W f v) (hW : Below W.heap.size W w) :
    Calls Try.prog 23 #[v] w fun e w' => e = .returned (.tuple #[.bool (decide (chk nmB f = 0) && plainF f), .int .i64 (chk nmB f : Nat)]) ∧ Below w.heap.size w w' := by
  obtain ⟨o, x, m, bo, n1, c1, ao, n2, c2, rfl, hr⟩ := fm_open hv
  obtain ⟨b, hb⟩ : ∃ b, Obj.cells #[.int .i64 o, .string x, .int .i64 m, .slice bo n1 c1, .slice ao n2 c2] 27 = b := ⟨_, rfl⟩
  obtain ⟨w1, hw1⟩ : ∃ w1, ((w.alloc b).alloc (.cells #[.bool false] 4)).alloc (.cells #[.int .i64 0] 29) = w1 := ⟨_, rfl⟩
  have hB1 : Below w.heap.size w w1 := by rw [← hw1]; exact (((Below.refl _ _).alloc (Nat.le_refl _) _).alloc (by simp) _).alloc (by simp; omega) _
  have hn1 : w1.heap[w.heap.size]? = some b := by
    rw [← hw1]; exact (Below.heap_alloc _ _ _ (by simp; omega)).trans ((Below.heap_alloc _ _ _ (by simp)).trans (World.alloc_heap_new w b))
  have hb1 : Boxed w1 (w.heap.size + 1) 4 (.bool false) := by
    rw [← hw1]; have := (Boxed.new (w.alloc b) 4 (.bool false)).alloc (.cells #[.int .i64 0] 29); rwa [World.size_alloc] at this
  have he1 : Boxed w1 (w.heap.size + 2) 29 (.int .i64 0) := by
    rw [← hw1]; have := Boxed.new ((w.alloc b).alloc (.cells #[.bool false] 4)) 29 (.int .i64 0); rwa [World.size_alloc, World.size_alloc] at this
  have RC : Hid (Calls Try.prog 16 #[.agg #[.int .i64 o, .string x, .int .i64 m, .slice bo n1 c1, .slice ao n2 c2]] w1 fun e w' => e = .returned (.int .i64 (chk nmB f : Nat)) ∧ Below w.heap.size w w' ∧ w'.heap[w.heap.size]? = some b ∧ Boxed w' (w.heap.size + 1) 4 (.bool false) ∧ Boxed w' (w.heap.size + 2) 29 (.int .i64 0)) :=
    (check_run W f _ w1 hv (hW.trans (hB1.mono hW.size))).mono (fun e w' h => ⟨h.1, hB1.trans (h.2.mono hB1.size), (h.2.block _ (Array.getElem?_eq_some_iff.1 hn1).1).trans hn1, box_keep hb1 h.2, box_keep he1 h.2⟩)
  rw [← hw1] at RC
  subst hb
  clear hw1 hB1 hn1 hb1 he1
  refine (callsIn_wide (n := 8)).1 ?_
  by_cases hk : chk nmB f = 0
  · rw [hk, show (decide ((0 : Nat) = 0) && plainF f) = plainF f from by simp]
    rw [hk] at RC
    refine callsIn_of_wp_marks Try.func23 rfl trivial ?_ rfl
    simp only [Try.ntmps23, List.size_toArray, List.length_cons, List.length_nil, Nat.reduceAdd, Nat.reduceSub, Array.replicate_succ, Array.replicate_zero, List.push_toArray, List.append_toArray, List.nil_append, List.cons_append]
    gi_wp2
    refine ⟨trivial, ?_⟩
    refine (callsIn_wide.2 RC.out).mono ?_
    rintro e w2 ⟨rfl, hB2, hbx2, hbb2, hbe2⟩
    have hlt2 := (Array.getElem?_eq_some_iff.1 hbx2).1
    have q0 := cells_at hbx2 0 _ rfl
    have q1 := cells_at hbx2 1 _ rfl
    have q2 := cells_at hbx2 2 _ rfl
    have q3 := cells_at hbx2 3 _ rfl
    have q4 := cells_at hbx2 4 _ rfl
    gi_wp2
    refine ⟨trivial, ?_⟩
    refine (callsIn_wide.2 (nodes_at o m x bo ao n1 c1 n2 c2 w2)).mono ?_
    rintro e w4 ⟨rfl, hw4⟩
    have hB24 : Below w2.heap.size w2 w4 := by rw [hw4]; exact (Below.refl _ _).alloc (Nat.le_refl _) _
    have hbb4 := box_keep hbb2 hB24
    have hbe4 := box_keep hbe2 hB24
    have hB4 : Below w.heap.size w w4 := hB2.trans (hB24.mono hB2.size)
    have hbf : BoxF w4 w2.heap.size f W := ⟨_, _, _, _, _, by rw [hw4]; exact World.alloc_heap_new w2 _, hr⟩
    have hle2 := hB2.size
    have hle4 := hB24.size
    have hltb := hbe2.lt
    clear hw4 q0 q1 q2 q3 q4
    gi_wp2
    refine wpIn_rangeFunc_ownH rfl (by omega) (gf := 48) (lb := #[.pointer (some ⟨w2.heap.size, 0, none⟩)]) rfl trivial (enters_of Try.func48 (by kernel_rfl) rfl)
      (nodes_stops (fun x => Sz x.name.size) W _ w.heap.size w2.heap.size f w4 hW.size (hW.trans (hB4.mono hW.size)) hB4.size hbf hbf.sz) (fun h k => h.trans k) (Kp.put hB4.size) (Below.refl _ _) (fun _ => rfl)
      (fun pre W' => Boxed W' (w.heap.size + 1) 4 (.bool false) ∧ Boxed W' (w.heap.size + 2) 29 (.int .i64 0) ∧ NoQ (vals pre) true ∧ Below w.heap.size w W')
      (fun c pre W' => c = .ret ∧ Boxed W' (w.heap.size + 1) 4 (.bool false) ∧ Boxed W' (w.heap.size + 2) 29 (.int .i64 0) ∧ NoQ (vals pre) false ∧ Below w.heap.size w W')
      (OwnFrom.and (Own.from (boxed_own _ _ _) _) (OwnFrom.and (Own.from (boxed_own _ _ _) _) (OwnFrom.and (ownFrom_pure _ _) (ownFrom_below (Nat.le_refl _) hB4.size))))
      (fun c => OwnFrom.and (ownFrom_pure _ _) (OwnFrom.and (Own.from (boxed_own _ _ _) _) (OwnFrom.and (Own.from (boxed_own _ _ _) _) (OwnFrom.and (ownFrom_pure _ _) (ownFrom_below (Nat.le_refl _) hB4.size)))))
      ⟨hbb4, hbe4, rfl, hB4⟩
      (fun y a' W' => ∃ Bx, w.heap.size + 2 < Bx ∧ W'.heap[Bx]? = some (Obj.cells (ndC y.1) 65) ∧ a' = { tmps := #[.agg #[.int .i64 o, .string x, .int .i64 m, .slice bo n1 c1, .slice ao n2 c2], .pointer (some ⟨w.heap.size, 0, none⟩), .pointer (some ⟨w.heap.size + 1, 0, none⟩), .pointer (some ⟨w.heap.size + 1 + 1, 0, none⟩), .int .i64 0, .pointer (some ⟨Bx, 0, none⟩), .agg #[.int .i64 o, .string x, .int .i64 m, .slice bo n1 c1, .slice ao n2 c2], .int .i64 0, .int .i64 0, .bool false, undef, .agg #[.int .i64 o, .string x, .int .i64 m, .slice bo n1 c1, .slice ao n2 c2], .func (.func 48) #[] #[.pointer (some ⟨w2.heap.size, 0, none⟩)], ndV y.1, undef, undef, undef, undef, undef, undef, undef, undef], defers := [] })
      ?hAx ?assign ?body ?done ?stop
    case hAx =>
      rintro x a' s X Y row ⟨Bx, h1, h2, h3⟩ hg hr
      exact ⟨Bx, h1, cells_own 0 (fun _ : Unit => Bx) (fun _ => ndC x.1) _ _ s X Y row h2 hg hr, h3⟩
    case assign =>
      rintro l pre x W' K ⟨h1, h2, h3, h4⟩ hK
      have hBa : Below W'.heap.size W' (W'.alloc (Obj.cells (ndC x.1) 65)) := (Below.refl _ _).alloc (Nat.le_refl _) _
      gi_wp2
      exact hK _ _ (keeps_of hBa) (Kp.of hBa h4.size) ⟨box_keep h1 hBa, box_keep h2 hBa, h3, h4.trans (hBa.mono h4.size)⟩ ⟨W'.heap.size, h2.lt, World.alloc_heap_new _ _, rfl⟩
    case body =>
      rintro l pre x a' W' hl _ ⟨hc, he, hno, hB⟩ ⟨Bx, hBx, hx, rfl⟩ hlt
      have HV : Hid ((vals (pre ++ [x])).all noq = noq x.1) := by show _ = _; rw [vals_snoc, List.all_append, (show List.all _ noq = _ from hno)]; simp
      obtain ⟨⟨dp, isT, op, top, nm, num, terms, args⟩, hz⟩ := x
      have e1 := cells_at hx 1 _ rfl
      have e2 := cells_at hx 2 _ rfl
      have hcc := hc.cell
      have hcf := hc.frozen
      have hec := he.cell
      have hef := he.frozen
      have QC : Hid (∀ w, Calls Try.prog 41 #[.int .i64 op] w fun e w' => e = .returned (.bool (quant op)) ∧ w = w') := quant_at op
      clear hno
      cases isT with
      | true =>
        have HE : Hid ((vals (pre ++ [⟨⟨dp, true, op, top, nm, num, terms, args⟩, hz⟩])).all noq = true) := HV.out
        clear HV QC
        gi_wp2
        refine ⟨trivial, ?_⟩
        gi_wp2
        exact ⟨KeepsFrom.refl _ _, Kp.refl _ _, hc, he, HE.out, hB⟩
      | false =>
        cases hq : quant op with
        | false =>
          have HE : Hid ((vals (pre ++ [⟨⟨dp, false, op, top, nm, num, terms, args⟩, hz⟩])).all noq = true) := by show _ = _; rw [HV.out]; simp [noq, hq]
          rw [hq] at QC
          clear HV
          gi_wp2
          refine ⟨trivial, ?_⟩
          refine (CallsIn.inRound l (callsIn_wide.2 (QC.out _))).mono ?_
          rintro e w5 ⟨rfl, rfl⟩
          gi_wp2
          exact ⟨KeepsFrom.refl _ _, Kp.refl _ _, hc, he, HE.out, hB⟩
        | true =>
          have HE : Hid ((vals (pre ++ [⟨⟨dp, false, op, top, nm, num, terms, args⟩, hz⟩])).all noq = false) := by show _ = _; rw [HV.out]; simp [noq, hq]
          rw [hq] at QC
          clear HV
          have hbX : Boxed (W'.setCell ⟨w.heap.size + 1, 0, none⟩ (.bool false)) (w.heap.size + 2) 29 (.int .i64 0) := he.other (by omega) _
          have hec2 := hbX.cell
          have hef2 := hbX.frozen
          gi_wp2
          refine ⟨trivial, ?_⟩
          refine (CallsIn.inRound l (callsIn_wide.2 (QC.out _))).mono ?_
          rintro e w5 ⟨rfl, rfl⟩
          gi_wp2
          exact ⟨((KeepsOthers.setCell _ _ _).trans (KeepsOthers.setCell _ _ _)).from _, rfl, (hc.set _).other (by omega) _, hbX.set _, HE.out, (hB.setCell (p := ⟨w.heap.size + 1, 0, none⟩) (by simp) _).setCell (p := ⟨w.heap.size + 1 + 1, 0, none⟩) (by simp; omega) _⟩
    case done =>
      rintro D ys W' hD hS ⟨hc, he, hno, hB⟩ hK
      have HE : Hid (plainF f = true) := by
        show _ = _
        rw [← noq_F f 1, ← show vals ys = ndF f 1 from hS]
        exact hno
      have hbX : Boxed (W'.setCell ⟨w.heap.size + 1, 0, none⟩ (.bool true)) (w.heap.size + 2) 29 (.int .i64 0) := he.other (by omega) _
      have hec2 := hbX.cell
      have hef2 := hbX.frozen
      have hcc := hc.cell
      have hcf := hc.frozen
      have hK' := def_set (def_set hK rfl ⟨w.heap.size + 1, 0, none⟩ (.bool true)) rfl ⟨w.heap.size + 1 + 1, 0, none⟩ (.int .i64 0)
      have hB' := (hB.setCell (p := ⟨w.heap.size + 1, 0, none⟩) (by simp) (.bool true)).setCell (p := ⟨w.heap.size + 1 + 1, 0, none⟩) (by simp; omega) (.int .i64 0)
      have k0 := (box_put ((hc.set (.bool true)).other (B' := w.heap.size + 1 + 1) (by omega) (.int .i64 0)) hK').cell
      have k1 := (box_put (hbX.set (.int .i64 0)) hK').cell
      clear hS hno
      gi_wp2
      refine ⟨by simp, .inl ⟨_, _, rfl, run_takeDeferred hK', ?_⟩⟩
      refine ⟨.tuple #[.bool true, .int .i64 0], ?_, by rw [HE.out]; rfl, below_put hB' (by omega)⟩
      simp [results, Try.results23, go_sem, k0, k1]
    case stop =>
      rintro D c ys W' hD hS ⟨rfl, hc, he, hno, hB⟩ hK
      have HE : Hid (plainF f = false) := by
        show _ = _
        rw [← noq_F f 1]
        obtain ⟨r, hr⟩ := show vals ys <+: ndF f 1 from hS
        rw [← hr, List.all_append, (show List.all _ noq = _ from hno)]
        rfl
      have k0 := (box_put hc hK).cell
      have k1 := (box_put he hK).cell
      clear hS hno
      gi_wp2
      refine ⟨by simp, .inl ⟨_, _, rfl, run_takeDeferred hK, ?_⟩⟩
      refine ⟨.tuple #[.bool false, .int .i64 0], ?_, by rw [HE.out]; rfl, below_put hB (by omega)⟩
      simp [results, Try.results23, go_sem, k0, k1]
  · have HD : Hid ((decide (chk nmB f = 0) && plainF f) = false) := by show _ = _; simp [hk]
    rw [HD.out]
    clear HD
    generalize chk nmB f = r at *
    have hk' : ¬ (r : Int) = 0 := by omega
    refine callsIn_of_wp_marks Try.func23 rfl trivial ?_ rfl
    simp only [Try.ntmps23, List.size_toArray, List.length_cons, List.length_nil, Nat.reduceAdd, Nat.reduceSub, Array.replicate_succ, Array.replicate_zero, List.push_toArray, List.append_toArray, List.nil_append, List.cons_append]
    gi_wp2
    refine ⟨trivial, ?_⟩
    refine (callsIn_wide.2 RC.out).mono ?_
    rintro e w2 ⟨rfl, hB2, hbx2, hc, he⟩
    have hbX : Boxed (w2.setCell ⟨w.heap.size + 1, 0, none⟩ (.bool false)) (w.heap.size + 2) 29 (.int .i64 0) := he.other (by omega) _
    have hec2 := hbX.cell
    have hef2 := hbX.frozen
    have hcc := hc.cell
    have hcf := hc.frozen
    have k0 := ((hc.set (.bool false)).other (B' := w.heap.size + 1 + 1) (by omega) (.int .i64 r)).cell
    have k1 := (hbX.set (.int .i64 r)).cell
    have hB' := (hB2.setCell (p := ⟨w.heap.size + 1, 0, none⟩) (by simp) (.bool false)).setCell (p := ⟨w.heap.size + 1 + 1, 0, none⟩) (by simp; omega) (.int .i64 r)
    gi_wp2
    refine ⟨.tuple #[.bool false, .int .i64 r], ?_, rfl, hB'⟩
    simp [results, Try.results23, go_sem, k0, k1]
end Go.Proofs.Ytiihabecncnbcaa.Gl
