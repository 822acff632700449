/- TreeSames out of what tree answers. -/
import Derived.Test.YtiihabecncnbcaaTrO
namespace Go.Proofs.Ytiihabecncnbcaa.Gl
open Go.RowKit
set_option linter.unusedVariables false

structure ClW (W : World) where
  w : World
  bel : Below W.heap.size W w
theorem clw_call {W : World} {f : FuncId} {args : Array Value} {v : Value} (h : ∀ w, Below W.heap.size W w → Calls Try.prog f args w fun e w' => e = .returned v ∧ Below w.heap.size w w') (n : ClW W) :
    Calls Try.prog f args n.w fun e w'' => e = .returned v ∧ ∃ m : ClW W, w'' = m.w :=
  (h n.w n.bel).mono fun e w' ⟨he, hb⟩ => ⟨he, ⟨w', bt2 n.bel hb⟩, rfl⟩
theorem box_cells {W2 w1 : World} {b : Nat} {A : Array Value} (h : ∀ o, W2.cell? ⟨b, o, none⟩ = A[o]?) (hb : b < W2.heap.size) (hB : Below W2.heap.size W2 w1) : ∀ o, w1.cell? ⟨b, o, none⟩ = A[o]? :=
  fun o => (hB.cell (p := ⟨b, o, none⟩) hb).trans (h o)
set_option maxHeartbeats 4000000 in
set_option maxRecDepth 100000 in
theorem sames_tt (C : TreeC) (f g : Fm) (v v' : Value) (w : World) (hv : FmV w f v) (hv' : FmV w g v') (hf : chk nmB f = 0) (hg : chk nmB g = 0) : Calls Try.prog 5 #[v, v'] w fun e w' => e = .returned (.bool true) ∧ Below w.heap.size w w' := by
  have FX : Hid (∀ w, Calls Try.prog 9 #[] w fun e w' => e = .returned (.bool true) ∧ Below w.heap.size w w') := fun w => lfixed6_at C w
  have CF : Hid (∀ w1, Below w.heap.size w w1 → Calls Try.prog 11 #[v] w1 fun e w' => e = .returned (.int .i64 (chk nmB f)) ∧ Below w1.heap.size w1 w') := fun w1 h => rcheck_at w f v w1 hv h
  have CG : Hid (∀ w1, Below w.heap.size w w1 → Calls Try.prog 11 #[v'] w1 fun e w' => e = .returned (.int .i64 (chk nmB g)) ∧ Below w1.heap.size w1 w') := fun w1 h => rcheck_at w g v' w1 hv' h
  have SFG : Hid (∀ w1, Below w.heap.size w w1 → Calls Try.prog 14 #[v, v'] w1 fun e w' => e = .returned (.bool (eqB f g)) ∧ Below w1.heap.size w1 w') := fun w1 h => by
    have := C.same w f g v v' w1 hv hv' h
    rwa [show (decide (chk nmB f = 0) && decide (chk nmB g = 0) && eqB f g) = (eqB f g) by simp [hf, hg]] at this
  have SFF : Hid (∀ w1, Below w.heap.size w w1 → Calls Try.prog 14 #[v, v] w1 fun e w' => e = .returned (.bool true) ∧ Below w1.heap.size w1 w') := fun w1 h => by
    have := C.same w f f v v w1 hv hv h
    rwa [show (decide (chk nmB f = 0) && decide (chk nmB f = 0) && eqB f f) = true by simp [hf, eqB_yes (rfl : f = f)]] at this
  have SGG : Hid (∀ w1, Below w.heap.size w w1 → Calls Try.prog 14 #[v', v'] w1 fun e w' => e = .returned (.bool true) ∧ Below w1.heap.size w1 w') := fun w1 h => by
    have := C.same w g g v' v' w1 hv' hv' h
    rwa [show (decide (chk nmB g = 0) && decide (chk nmB g = 0) && eqB g g) = true by simp [hg, eqB_yes (rfl : g = g)]] at this
  have RS : Hid (∀ w1, Below w.heap.size w w1 → Calls Try.prog 15 #[v, v'] w1 fun e w' => e = .returned (.bool (eqB f g)) ∧ Below w1.heap.size w1 w') := fun w1 h => rsameF_at w f g v v' w1 hv hv' h
  rw [hf] at CF
  rw [hg] at CG
  obtain ⟨c0, c1, c2, c3, c4, rfl, _⟩ := hv
  obtain ⟨d0, d1, d2, d3, d4, rfl, _⟩ := hv'
  clear C hf hg
  generalize eqB f g = r at *
  obtain ⟨t1, t2⟩ := two_boxes w #[c0, c1, c2, c3, c4] #[d0, d1, d2, d3, d4] 27 27
  have hb1 : Below w.heap.size w ((w.alloc (.cells #[c0, c1, c2, c3, c4] 27)).alloc (.cells #[d0, d1, d2, d3, d4] 27)) := bta (bta0 _ _) _
  have hs2 : ((w.alloc (.cells #[c0, c1, c2, c3, c4] 27)).alloc (.cells #[d0, d1, d2, d3, d4] 27)).heap.size = w.heap.size + 2 := by simp
  generalize hW2 : (w.alloc (.cells #[c0, c1, c2, c3, c4] 27)).alloc (.cells #[d0, d1, d2, d3, d4] 27) = W2 at t1 t2 hb1 hs2
  go_enter Try.func5, Try.ntmps5
  go_wp2
  clear hW2
  haveI : Nonempty (ClW W2) := ⟨⟨W2, Below.refl _ _⟩⟩
  have F1 : ∀ (n : ClW W2) o, n.w.cell? ⟨w.heap.size, o, none⟩ = #[c0, c1, c2, c3, c4][o]? := fun n => box_cells t1 (by omega) n.bel
  have F2 : ∀ (n : ClW W2) o, n.w.cell? ⟨w.heap.size + 1, o, none⟩ = #[d0, d1, d2, d3, d4][o]? := fun n => box_cells t2 (by omega) n.bel
  refine wp_region_cls (fun w' => ∃ n : ClW W2, w' = n.w) (by kernel_rfl) (by kernel_rfl) ⟨⟨W2.drew, (Below.refl _ _).drew⟩, rfl⟩ ?_
  repeat (first
    | go_big_quiet_step ((go_at_call 11; first | exact clw_call (fun w1 h => CF.out w1 (bt2 hb1 h)) _ | exact clw_call (fun w1 h => CG.out w1 (bt2 hb1 h)) _))
    | quiet_step ((go_at_call 11; first | exact clw_call (fun w1 h => CF.out w1 (bt2 hb1 h)) _ | exact clw_call (fun w1 h => CG.out w1 (bt2 hb1 h)) _)))
  refine wpQuiet_nil ?_
  intro _ hw'
  obtain ⟨n1, hw''⟩ := hw'
  subst hw''
  have hB1 := n1.bel
  clear F1 F2
  generalize n1.w = w1 at *
  have x1 := box_cells t1 (by omega) hB1
  have y1 := box_cells t2 (by omega) hB1
  go_wp2_with (fail)
  refine (FX.out _).mono ?_
  rintro e w2 ⟨rfl, hB2⟩
  have hb2 := bt2 hB1 hB2
  have x2 := box_cells t1 (by omega) hb2
  have y2 := box_cells t2 (by omega) hb2
  go_wp2_with (fail)
  refine (SFG.out _ (bt2 hb1 hb2)).mono ?_
  rintro e w3 ⟨rfl, hB3⟩
  have hb3 := bt2 hb2 hB3
  have x3 := box_cells t1 (by omega) hb3
  have y3 := box_cells t2 (by omega) hb3
  go_wp2_with (fail)
  refine (RS.out _ (bt2 hb1 hb3)).mono ?_
  rintro e w4 ⟨rfl, hB4⟩
  have hb4 := bt2 hb3 hB4
  have hrr : (r == r) = true := by cases r <;> rfl
  have x4 := box_cells t1 (by omega) hb4
  have y4 := box_cells t2 (by omega) hb4
  go_wp2_with (fail)
  refine (SFF.out _ (bt2 hb1 hb4)).mono ?_
  rintro e w5 ⟨rfl, hB5⟩
  have hb5 := bt2 hb4 hB5
  have x5 := box_cells t1 (by omega) hb5
  have y5 := box_cells t2 (by omega) hb5
  go_wp2_with (fail)
  refine (SGG.out _ (bt2 hb1 hb5)).mono ?_
  rintro e w6 ⟨rfl, hB6⟩
  go_wp2
  go_ret
  exact ⟨rfl, bt2 hb1 (bt2 hb5 hB6)⟩
set_option maxHeartbeats 4000000 in
set_option maxRecDepth 100000 in
theorem sames_tf (C : TreeC) (f g : Fm) (v v' : Value) (w : World) (hv : FmV w f v) (hv' : FmV w g v') (hf : chk nmB f = 0) (hg : ¬ chk nmB g = 0) : Calls Try.prog 5 #[v, v'] w fun e w' => e = .returned (.bool true) ∧ Below w.heap.size w w' := by
  have FX : Hid (∀ w, Calls Try.prog 9 #[] w fun e w' => e = .returned (.bool true) ∧ Below w.heap.size w w') := fun w => lfixed6_at C w
  have CF : Hid (∀ w1, Below w.heap.size w w1 → Calls Try.prog 11 #[v] w1 fun e w' => e = .returned (.int .i64 (chk nmB f)) ∧ Below w1.heap.size w1 w') := fun w1 h => rcheck_at w f v w1 hv h
  have CG : Hid (∀ w1, Below w.heap.size w w1 → Calls Try.prog 11 #[v'] w1 fun e w' => e = .returned (.int .i64 (chk nmB g)) ∧ Below w1.heap.size w1 w') := fun w1 h => rcheck_at w g v' w1 hv' h
  have SFG : Hid (∀ w1, Below w.heap.size w w1 → Calls Try.prog 14 #[v, v'] w1 fun e w' => e = .returned (.bool false) ∧ Below w1.heap.size w1 w') := fun w1 h => by
    have := C.same w f g v v' w1 hv hv' h
    rwa [show (decide (chk nmB f = 0) && decide (chk nmB g = 0) && eqB f g) = false by simp [hf, hg]] at this
  have SFF : Hid (∀ w1, Below w.heap.size w w1 → Calls Try.prog 14 #[v, v] w1 fun e w' => e = .returned (.bool true) ∧ Below w1.heap.size w1 w') := fun w1 h => by
    have := C.same w f f v v w1 hv hv h
    rwa [show (decide (chk nmB f = 0) && decide (chk nmB f = 0) && eqB f f) = true by simp [hf, eqB_yes (rfl : f = f)]] at this
  have SGG : Hid (∀ w1, Below w.heap.size w w1 → Calls Try.prog 14 #[v', v'] w1 fun e w' => e = .returned (.bool false) ∧ Below w1.heap.size w1 w') := fun w1 h => by
    have := C.same w g g v' v' w1 hv' hv' h
    rwa [show (decide (chk nmB g = 0) && decide (chk nmB g = 0) && eqB g g) = false by simp [hg, eqB_yes (rfl : g = g)]] at this
  have RS : Hid (∀ w1, Below w.heap.size w w1 → Calls Try.prog 15 #[v, v'] w1 fun e w' => e = .returned (.bool (eqB f g)) ∧ Below w1.heap.size w1 w') := fun w1 h => rsameF_at w f g v v' w1 hv hv' h
  rw [hf] at CF
  have kg : ((chk nmB g : Int) == 0) = false := by simp; omega
  obtain ⟨c0, c1, c2, c3, c4, rfl, _⟩ := hv
  obtain ⟨d0, d1, d2, d3, d4, rfl, _⟩ := hv'
  clear C hf hg
  generalize chk nmB g = cg at *
  generalize eqB f g = r at *
  obtain ⟨t1, t2⟩ := two_boxes w #[c0, c1, c2, c3, c4] #[d0, d1, d2, d3, d4] 27 27
  have hb1 : Below w.heap.size w ((w.alloc (.cells #[c0, c1, c2, c3, c4] 27)).alloc (.cells #[d0, d1, d2, d3, d4] 27)) := bta (bta0 _ _) _
  have hs2 : ((w.alloc (.cells #[c0, c1, c2, c3, c4] 27)).alloc (.cells #[d0, d1, d2, d3, d4] 27)).heap.size = w.heap.size + 2 := by simp
  generalize hW2 : (w.alloc (.cells #[c0, c1, c2, c3, c4] 27)).alloc (.cells #[d0, d1, d2, d3, d4] 27) = W2 at t1 t2 hb1 hs2
  go_enter Try.func5, Try.ntmps5
  go_wp2
  clear hW2
  haveI : Nonempty (ClW W2) := ⟨⟨W2, Below.refl _ _⟩⟩
  have F1 : ∀ (n : ClW W2) o, n.w.cell? ⟨w.heap.size, o, none⟩ = #[c0, c1, c2, c3, c4][o]? := fun n => box_cells t1 (by omega) n.bel
  have F2 : ∀ (n : ClW W2) o, n.w.cell? ⟨w.heap.size + 1, o, none⟩ = #[d0, d1, d2, d3, d4][o]? := fun n => box_cells t2 (by omega) n.bel
  refine wp_region_cls (fun w' => ∃ n : ClW W2, w' = n.w) (by kernel_rfl) (by kernel_rfl) ⟨⟨W2.drew, (Below.refl _ _).drew⟩, rfl⟩ ?_
  repeat (first
    | go_big_quiet_step ((go_at_call 11; first | exact clw_call (fun w1 h => CF.out w1 (bt2 hb1 h)) _ | exact clw_call (fun w1 h => CG.out w1 (bt2 hb1 h)) _))
    | quiet_step ((go_at_call 11; first | exact clw_call (fun w1 h => CF.out w1 (bt2 hb1 h)) _ | exact clw_call (fun w1 h => CG.out w1 (bt2 hb1 h)) _)))
  refine wpQuiet_nil ?_
  intro _ hw'
  obtain ⟨n1, hw''⟩ := hw'
  subst hw''
  have hB1 := n1.bel
  clear F1 F2
  generalize n1.w = w1 at *
  have x1 := box_cells t1 (by omega) hB1
  have y1 := box_cells t2 (by omega) hB1
  go_wp2_with (fail)
  refine (FX.out _).mono ?_
  rintro e w2 ⟨rfl, hB2⟩
  have hb2 := bt2 hB1 hB2
  have x2 := box_cells t1 (by omega) hb2
  have y2 := box_cells t2 (by omega) hb2
  go_wp2_with (fail)
  refine (SFG.out _ (bt2 hb1 hb2)).mono ?_
  rintro e w3 ⟨rfl, hB3⟩
  have hb3 := bt2 hb2 hB3
  have x3 := box_cells t1 (by omega) hb3
  have y3 := box_cells t2 (by omega) hb3
  have hb4 := hb3
  have hB4 := hB3
  clear hB3
  have x4 := box_cells t1 (by omega) hb4
  have y4 := box_cells t2 (by omega) hb4
  go_wp2_with (fail)
  refine (SFF.out _ (bt2 hb1 hb4)).mono ?_
  rintro e w5 ⟨rfl, hB5⟩
  have hb5 := bt2 hb4 hB5
  have x5 := box_cells t1 (by omega) hb5
  have y5 := box_cells t2 (by omega) hb5
  go_wp2_with (fail)
  refine (SGG.out _ (bt2 hb1 hb5)).mono ?_
  rintro e w6 ⟨rfl, hB6⟩
  go_wp2
  go_ret
  exact ⟨rfl, bt2 hb1 (bt2 hb5 hB6)⟩
set_option maxHeartbeats 4000000 in
set_option maxRecDepth 100000 in
theorem sames_ft (C : TreeC) (f g : Fm) (v v' : Value) (w : World) (hv : FmV w f v) (hv' : FmV w g v') (hf : ¬ chk nmB f = 0) (hg : chk nmB g = 0) : Calls Try.prog 5 #[v, v'] w fun e w' => e = .returned (.bool true) ∧ Below w.heap.size w w' := by
  have FX : Hid (∀ w, Calls Try.prog 9 #[] w fun e w' => e = .returned (.bool true) ∧ Below w.heap.size w w') := fun w => lfixed6_at C w
  have CF : Hid (∀ w1, Below w.heap.size w w1 → Calls Try.prog 11 #[v] w1 fun e w' => e = .returned (.int .i64 (chk nmB f)) ∧ Below w1.heap.size w1 w') := fun w1 h => rcheck_at w f v w1 hv h
  have CG : Hid (∀ w1, Below w.heap.size w w1 → Calls Try.prog 11 #[v'] w1 fun e w' => e = .returned (.int .i64 (chk nmB g)) ∧ Below w1.heap.size w1 w') := fun w1 h => rcheck_at w g v' w1 hv' h
  have SFG : Hid (∀ w1, Below w.heap.size w w1 → Calls Try.prog 14 #[v, v'] w1 fun e w' => e = .returned (.bool false) ∧ Below w1.heap.size w1 w') := fun w1 h => by
    have := C.same w f g v v' w1 hv hv' h
    rwa [show (decide (chk nmB f = 0) && decide (chk nmB g = 0) && eqB f g) = false by simp [hf, hg]] at this
  have SFF : Hid (∀ w1, Below w.heap.size w w1 → Calls Try.prog 14 #[v, v] w1 fun e w' => e = .returned (.bool false) ∧ Below w1.heap.size w1 w') := fun w1 h => by
    have := C.same w f f v v w1 hv hv h
    rwa [show (decide (chk nmB f = 0) && decide (chk nmB f = 0) && eqB f f) = false by simp [hf, eqB_yes (rfl : f = f)]] at this
  have SGG : Hid (∀ w1, Below w.heap.size w w1 → Calls Try.prog 14 #[v', v'] w1 fun e w' => e = .returned (.bool true) ∧ Below w1.heap.size w1 w') := fun w1 h => by
    have := C.same w g g v' v' w1 hv' hv' h
    rwa [show (decide (chk nmB g = 0) && decide (chk nmB g = 0) && eqB g g) = true by simp [hg, eqB_yes (rfl : g = g)]] at this
  have RS : Hid (∀ w1, Below w.heap.size w w1 → Calls Try.prog 15 #[v, v'] w1 fun e w' => e = .returned (.bool (eqB f g)) ∧ Below w1.heap.size w1 w') := fun w1 h => rsameF_at w f g v v' w1 hv hv' h
  have kf : ((chk nmB f : Int) == 0) = false := by simp; omega
  rw [hg] at CG
  obtain ⟨c0, c1, c2, c3, c4, rfl, _⟩ := hv
  obtain ⟨d0, d1, d2, d3, d4, rfl, _⟩ := hv'
  clear C hf hg
  generalize chk nmB f = cf at *
  generalize eqB f g = r at *
  obtain ⟨t1, t2⟩ := two_boxes w #[c0, c1, c2, c3, c4] #[d0, d1, d2, d3, d4] 27 27
  have hb1 : Below w.heap.size w ((w.alloc (.cells #[c0, c1, c2, c3, c4] 27)).alloc (.cells #[d0, d1, d2, d3, d4] 27)) := bta (bta0 _ _) _
  have hs2 : ((w.alloc (.cells #[c0, c1, c2, c3, c4] 27)).alloc (.cells #[d0, d1, d2, d3, d4] 27)).heap.size = w.heap.size + 2 := by simp
  generalize hW2 : (w.alloc (.cells #[c0, c1, c2, c3, c4] 27)).alloc (.cells #[d0, d1, d2, d3, d4] 27) = W2 at t1 t2 hb1 hs2
  go_enter Try.func5, Try.ntmps5
  go_wp2
  clear hW2
  haveI : Nonempty (ClW W2) := ⟨⟨W2, Below.refl _ _⟩⟩
  have F1 : ∀ (n : ClW W2) o, n.w.cell? ⟨w.heap.size, o, none⟩ = #[c0, c1, c2, c3, c4][o]? := fun n => box_cells t1 (by omega) n.bel
  have F2 : ∀ (n : ClW W2) o, n.w.cell? ⟨w.heap.size + 1, o, none⟩ = #[d0, d1, d2, d3, d4][o]? := fun n => box_cells t2 (by omega) n.bel
  refine wp_region_cls (fun w' => ∃ n : ClW W2, w' = n.w) (by kernel_rfl) (by kernel_rfl) ⟨⟨W2.drew, (Below.refl _ _).drew⟩, rfl⟩ ?_
  repeat (first
    | go_big_quiet_step ((go_at_call 11; first | exact clw_call (fun w1 h => CF.out w1 (bt2 hb1 h)) _ | exact clw_call (fun w1 h => CG.out w1 (bt2 hb1 h)) _))
    | quiet_step ((go_at_call 11; first | exact clw_call (fun w1 h => CF.out w1 (bt2 hb1 h)) _ | exact clw_call (fun w1 h => CG.out w1 (bt2 hb1 h)) _)))
  refine wpQuiet_nil ?_
  intro _ hw'
  obtain ⟨n1, hw''⟩ := hw'
  subst hw''
  have hB1 := n1.bel
  clear F1 F2
  generalize n1.w = w1 at *
  have x1 := box_cells t1 (by omega) hB1
  have y1 := box_cells t2 (by omega) hB1
  go_wp2_with (fail)
  refine (FX.out _).mono ?_
  rintro e w2 ⟨rfl, hB2⟩
  have hb2 := bt2 hB1 hB2
  have x2 := box_cells t1 (by omega) hb2
  have y2 := box_cells t2 (by omega) hb2
  go_wp2_with (fail)
  refine (SFG.out _ (bt2 hb1 hb2)).mono ?_
  rintro e w3 ⟨rfl, hB3⟩
  have hb3 := bt2 hb2 hB3
  have x3 := box_cells t1 (by omega) hb3
  have y3 := box_cells t2 (by omega) hb3
  have hb4 := hb3
  have hB4 := hB3
  clear hB3
  have x4 := box_cells t1 (by omega) hb4
  have y4 := box_cells t2 (by omega) hb4
  go_wp2_with (fail)
  refine (SFF.out _ (bt2 hb1 hb4)).mono ?_
  rintro e w5 ⟨rfl, hB5⟩
  have hb5 := bt2 hb4 hB5
  have x5 := box_cells t1 (by omega) hb5
  have y5 := box_cells t2 (by omega) hb5
  go_wp2_with (fail)
  refine (SGG.out _ (bt2 hb1 hb5)).mono ?_
  rintro e w6 ⟨rfl, hB6⟩
  go_wp2
  go_ret
  exact ⟨rfl, bt2 hb1 (bt2 hb5 hB6)⟩
set_option maxHeartbeats 4000000 in
set_option maxRecDepth 100000 in
theorem sames_ff (C : TreeC) (f g : Fm) (v v' : Value) (w : World) (hv : FmV w f v) (hv' : FmV w g v') (hf : ¬ chk nmB f = 0) (hg : ¬ chk nmB g = 0) : Calls Try.prog 5 #[v, v'] w fun e w' => e = .returned (.bool true) ∧ Below w.heap.size w w' := by
  have FX : Hid (∀ w, Calls Try.prog 9 #[] w fun e w' => e = .returned (.bool true) ∧ Below w.heap.size w w') := fun w => lfixed6_at C w
  have CF : Hid (∀ w1, Below w.heap.size w w1 → Calls Try.prog 11 #[v] w1 fun e w' => e = .returned (.int .i64 (chk nmB f)) ∧ Below w1.heap.size w1 w') := fun w1 h => rcheck_at w f v w1 hv h
  have CG : Hid (∀ w1, Below w.heap.size w w1 → Calls Try.prog 11 #[v'] w1 fun e w' => e = .returned (.int .i64 (chk nmB g)) ∧ Below w1.heap.size w1 w') := fun w1 h => rcheck_at w g v' w1 hv' h
  have SFG : Hid (∀ w1, Below w.heap.size w w1 → Calls Try.prog 14 #[v, v'] w1 fun e w' => e = .returned (.bool false) ∧ Below w1.heap.size w1 w') := fun w1 h => by
    have := C.same w f g v v' w1 hv hv' h
    rwa [show (decide (chk nmB f = 0) && decide (chk nmB g = 0) && eqB f g) = false by simp [hf, hg]] at this
  have SFF : Hid (∀ w1, Below w.heap.size w w1 → Calls Try.prog 14 #[v, v] w1 fun e w' => e = .returned (.bool false) ∧ Below w1.heap.size w1 w') := fun w1 h => by
    have := C.same w f f v v w1 hv hv h
    rwa [show (decide (chk nmB f = 0) && decide (chk nmB f = 0) && eqB f f) = false by simp [hf, eqB_yes (rfl : f = f)]] at this
  have SGG : Hid (∀ w1, Below w.heap.size w w1 → Calls Try.prog 14 #[v', v'] w1 fun e w' => e = .returned (.bool false) ∧ Below w1.heap.size w1 w') := fun w1 h => by
    have := C.same w g g v' v' w1 hv' hv' h
    rwa [show (decide (chk nmB g = 0) && decide (chk nmB g = 0) && eqB g g) = false by simp [hg, eqB_yes (rfl : g = g)]] at this
  have RS : Hid (∀ w1, Below w.heap.size w w1 → Calls Try.prog 15 #[v, v'] w1 fun e w' => e = .returned (.bool (eqB f g)) ∧ Below w1.heap.size w1 w') := fun w1 h => rsameF_at w f g v v' w1 hv hv' h
  have kf : ((chk nmB f : Int) == 0) = false := by simp; omega
  have kg : ((chk nmB g : Int) == 0) = false := by simp; omega
  obtain ⟨c0, c1, c2, c3, c4, rfl, _⟩ := hv
  obtain ⟨d0, d1, d2, d3, d4, rfl, _⟩ := hv'
  clear C hf hg
  generalize chk nmB f = cf at *
  generalize chk nmB g = cg at *
  generalize eqB f g = r at *
  obtain ⟨t1, t2⟩ := two_boxes w #[c0, c1, c2, c3, c4] #[d0, d1, d2, d3, d4] 27 27
  have hb1 : Below w.heap.size w ((w.alloc (.cells #[c0, c1, c2, c3, c4] 27)).alloc (.cells #[d0, d1, d2, d3, d4] 27)) := bta (bta0 _ _) _
  have hs2 : ((w.alloc (.cells #[c0, c1, c2, c3, c4] 27)).alloc (.cells #[d0, d1, d2, d3, d4] 27)).heap.size = w.heap.size + 2 := by simp
  generalize hW2 : (w.alloc (.cells #[c0, c1, c2, c3, c4] 27)).alloc (.cells #[d0, d1, d2, d3, d4] 27) = W2 at t1 t2 hb1 hs2
  go_enter Try.func5, Try.ntmps5
  go_wp2
  clear hW2
  haveI : Nonempty (ClW W2) := ⟨⟨W2, Below.refl _ _⟩⟩
  have F1 : ∀ (n : ClW W2) o, n.w.cell? ⟨w.heap.size, o, none⟩ = #[c0, c1, c2, c3, c4][o]? := fun n => box_cells t1 (by omega) n.bel
  have F2 : ∀ (n : ClW W2) o, n.w.cell? ⟨w.heap.size + 1, o, none⟩ = #[d0, d1, d2, d3, d4][o]? := fun n => box_cells t2 (by omega) n.bel
  refine wp_region_cls (fun w' => ∃ n : ClW W2, w' = n.w) (by kernel_rfl) (by kernel_rfl) ⟨⟨W2.drew, (Below.refl _ _).drew⟩, rfl⟩ ?_
  repeat (first
    | go_big_quiet_step ((go_at_call 11; first | exact clw_call (fun w1 h => CF.out w1 (bt2 hb1 h)) _ | exact clw_call (fun w1 h => CG.out w1 (bt2 hb1 h)) _))
    | quiet_step ((go_at_call 11; first | exact clw_call (fun w1 h => CF.out w1 (bt2 hb1 h)) _ | exact clw_call (fun w1 h => CG.out w1 (bt2 hb1 h)) _)))
  refine wpQuiet_nil ?_
  intro _ hw'
  obtain ⟨n1, hw''⟩ := hw'
  subst hw''
  have hB1 := n1.bel
  clear F1 F2
  generalize n1.w = w1 at *
  have x1 := box_cells t1 (by omega) hB1
  have y1 := box_cells t2 (by omega) hB1
  go_wp2_with (fail)
  refine (FX.out _).mono ?_
  rintro e w2 ⟨rfl, hB2⟩
  have hb2 := bt2 hB1 hB2
  have x2 := box_cells t1 (by omega) hb2
  have y2 := box_cells t2 (by omega) hb2
  go_wp2_with (fail)
  refine (SFG.out _ (bt2 hb1 hb2)).mono ?_
  rintro e w3 ⟨rfl, hB3⟩
  have hb3 := bt2 hb2 hB3
  have x3 := box_cells t1 (by omega) hb3
  have y3 := box_cells t2 (by omega) hb3
  have hb4 := hb3
  have hB4 := hB3
  clear hB3
  have x4 := box_cells t1 (by omega) hb4
  have y4 := box_cells t2 (by omega) hb4
  go_wp2_with (fail)
  refine (SFF.out _ (bt2 hb1 hb4)).mono ?_
  rintro e w5 ⟨rfl, hB5⟩
  have hb5 := bt2 hb4 hB5
  have x5 := box_cells t1 (by omega) hb5
  have y5 := box_cells t2 (by omega) hb5
  go_wp2_with (fail)
  refine (SGG.out _ (bt2 hb1 hb5)).mono ?_
  rintro e w6 ⟨rfl, hB6⟩
  go_wp2
  go_ret
  exact ⟨rfl, bt2 hb1 (bt2 hb5 hB6)⟩
theorem sames_walk (C : TreeC) (f g : Fm) (v v' : Value) (w : World) (hv : FmV w f v) (hv' : FmV w g v') : Calls Try.prog 5 #[v, v'] w fun e w' => e = .returned (.bool true) ∧ Below w.heap.size w w' := by
  by_cases hf : chk nmB f = 0
  · by_cases hg : chk nmB g = 0
    · exact sames_tt C f g v v' w hv hv' hf hg
    · exact sames_tf C f g v v' w hv hv' hf hg
  · by_cases hg : chk nmB g = 0
    · exact sames_ft C f g v v' w hv hv' hf hg
    · exact sames_ff C f g v v' w hv hv' hf hg
end Go.Proofs.Ytiihabecncnbcaa.Gl
