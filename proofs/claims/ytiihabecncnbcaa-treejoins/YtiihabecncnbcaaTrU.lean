/- TreeJoins: the law's joined. -/
import Derived.Test.YtiihabecncnbcaaTrS
import Derived.Test.YtiihabecncnbcaaGlW
namespace Go.Proofs.Ytiihabecncnbcaa.Gl
open Go.RowKit
set_option linter.unusedVariables false

theorem join_cells (w : World) (A B C : Obj) (vs : Array Value) (t : TypeId) (o : Nat) : ((((w.alloc A).alloc B).alloc C).alloc (.cells vs t)).cell? ⟨w.heap.size + 3, o, none⟩ = vs[o]? := cell_newO _ _ _ _ (by simp) o
set_option maxHeartbeats 1000000 in
theorem joined_at (W : World) (f g : Fm) (k : Int) (v v' : Value) (w : World) (hk : 3 ≤ k ∧ k ≤ 6) (hv : FmV W f v) (hv' : FmV W g v') (hW : Below W.heap.size W w) :
    Calls Try.prog 17 #[.int .i64 k, v, v'] w fun e w' => ∃ G : Nat, e = .returned (.agg #[.int .i64 k, .string emp, .int .i64 0, .slice none 0 0, .slice (some ⟨G, 0, none⟩) 2 2]) ∧ RdF w' (.mk k emp 0 [] [f, g]) (.int .i64 k) (.string emp) (.int .i64 0) (.slice none 0 0) (.slice (some ⟨G, 0, none⟩) 2 2) ∧ Below w.heap.size w w' := by
  obtain ⟨c0, c1, c2, c3, c4, rfl, hr⟩ := hv
  obtain ⟨d0, d1, d2, d3, d4, rfl, hr'⟩ := hv'
  have hWs := hW.size
  go_enter Try.func17, Try.ntmps17
  go_wp2
  refine bodyPost_ret (v := .agg #[.int .i64 k, .string emp, .int .i64 0, .slice none 0 0, .slice (some ⟨w.heap.size + 3, 0, none⟩) 2 2]) (by simp [results, Try.results17, go_sem]) rfl ⟨_, rfl, ?_, bta (bta (bta (bta0 _ _) _) _) _⟩
  rw [RdF]
  refine ⟨rfl, rfl, rfl, ⟨by unfold I64; omega, by decide, by decide⟩, ⟨none, 0, rfl, by decide, by decide, by rw [RdTL]; trivial⟩, some ⟨w.heap.size + 3, 0, none⟩, 2, rfl, Nat.le_refl _, by decide, ?_⟩
  rw [RdFL, RdFL, RdFL]
  refine ⟨⟨w.heap.size + 3, 0, c0, c1, c2, c3, c4, rfl, by simp, join_cells _ _ _ _ _ _ 0, join_cells _ _ _ _ _ _ 1, join_cells _ _ _ _ _ _ 2, join_cells _ _ _ _ _ _ 3, join_cells _ _ _ _ _ _ 4, hr.keep (hW.trans ((bta (bta (bta (bta0 _ _) _) _) _).mono hWs))⟩,
    ⟨w.heap.size + 3, 0, d0, d1, d2, d3, d4, rfl, by simp, join_cells _ _ _ _ _ _ 5, join_cells _ _ _ _ _ _ 6, join_cells _ _ _ _ _ _ 7, join_cells _ _ _ _ _ _ 8, join_cells _ _ _ _ _ _ 9, hr'.keep (hW.trans ((bta (bta (bta (bta0 _ _) _) _) _).mono hWs))⟩, trivial⟩
theorem op_k (z : Int) : 3 ≤ wrap64 (3 + wrap64 ((IntKind.u64.wrap z).tmod 4)) ∧ wrap64 (3 + wrap64 ((IntKind.u64.wrap z).tmod 4)) ≤ 6 := by
  have h0 : 0 ≤ IntKind.u64.wrap z := by
    rw [IntKind.wrap_u64]; omega
  have h1 : (IntKind.u64.wrap z).tmod 4 = (IntKind.u64.wrap z) % 4 := Int.tmod_eq_emod_of_nonneg h0
  rw [h1]
  have h2 : 0 ≤ IntKind.u64.wrap z % 4 ∧ IntKind.u64.wrap z % 4 ≤ 3 := by omega
  generalize IntKind.u64.wrap z % 4 = y at *
  unfold wrap64
  omega
theorem ite_max (a b : Nat) : (if a < b then (b : Int) else (a : Int)) = ((max a b : Nat) : Int) := by
  split <;> omega
set_option maxRecDepth 100000 in
set_option maxHeartbeats 8000000 in
theorem joins_a1 (C : TreeC) (f g : Fm) (v v' : Value) (z k : Int) (w : World) (hv : FmV w f v) (hv' : FmV w g v') (hk : 3 ≤ k ∧ k ≤ 6) (hke : wrap64 (3 + wrap64 ((IntKind.u64.wrap z).tmod 4)) = k) (hf : ¬ chk nmB f = 0) (hh : ¬ chk nmB (.mk k emp 0 [] [f, g]) = 0) : Calls Try.prog 7 #[v, v', .int .i64 z] w fun e w' => e = .returned (.bool true) ∧ Below w.heap.size w w' := by
  have FX : Hid (∀ w, Calls Try.prog 9 #[] w fun e w' => e = .returned (.bool true) ∧ Below w.heap.size w w') := fun w => lfixed6_at C w
  have CF : Hid (∀ w1, Below w.heap.size w w1 → Calls Try.prog 16 #[v] w1 fun e w' => e = .returned (.int .i64 (chk nmB f)) ∧ Below w1.heap.size w1 w') := fun w1 h => C.check w f v w1 hv h
  have CG : Hid (∀ w1, Below w.heap.size w w1 → Calls Try.prog 16 #[v'] w1 fun e w' => e = .returned (.int .i64 (chk nmB g)) ∧ Below w1.heap.size w1 w') := fun w1 h => C.check w g v' w1 hv' h
  have JN : Hid (∀ w1, Below w.heap.size w w1 → Calls Try.prog 17 #[.int .i64 k, v, v'] w1 fun e w' => ∃ G : Nat, e = .returned (.agg #[.int .i64 k, .string emp, .int .i64 0, .slice none 0 0, .slice (some ⟨G, 0, none⟩) 2 2]) ∧ RdF w' (.mk k emp 0 [] [f, g]) (.int .i64 k) (.string emp) (.int .i64 0) (.slice none 0 0) (.slice (some ⟨G, 0, none⟩) 2 2) ∧ Below w1.heap.size w1 w') := fun w1 h => joined_at w f g k v v' w1 hk hv hv' h
  have CH : Hid (∀ W u, FmV W (.mk k emp 0 [] [f, g]) u → ∀ w1, Below W.heap.size W w1 → Calls Try.prog 16 #[u] w1 fun e w' => e = .returned (.int .i64 (chk nmB (.mk k emp 0 [] [f, g]))) ∧ Below w1.heap.size w1 w') := fun W u h w1 hb => by
    have := C.check W _ u w1 h hb
    exact this
  have kf : ((chk nmB f : Int) != 0) = true := by simp; omega
  have kf2 : ((chk nmB f : Int) == 0) = false := by simp; omega
  have kh : ((chk nmB (.mk k emp 0 [] [f, g]) : Int) != 0) = true := by simp; omega
  have kh2 : ((chk nmB (.mk k emp 0 [] [f, g]) : Int) == 0) = false := by simp; omega
  generalize chk nmB (.mk k emp 0 [] [f, g]) = ch at *
  generalize chk nmB f = cf at *
  generalize chk nmB g = cg at *
  clear C
  obtain ⟨c0, c1, c2, c3, c4, rfl, hr⟩ := hv
  obtain ⟨d0, d1, d2, d3, d4, rfl, hr'⟩ := hv'
  obtain ⟨t1, t2⟩ := two_boxes w #[c0, c1, c2, c3, c4] #[d0, d1, d2, d3, d4] 27 27
  have hb1 : Below w.heap.size w ((w.alloc (.cells #[c0, c1, c2, c3, c4] 27)).alloc (.cells #[d0, d1, d2, d3, d4] 27)) := bta (bta0 _ _) _
  have hs2 : ((w.alloc (.cells #[c0, c1, c2, c3, c4] 27)).alloc (.cells #[d0, d1, d2, d3, d4] 27)).heap.size = w.heap.size + 2 := by simp
  generalize hW2 : (w.alloc (.cells #[c0, c1, c2, c3, c4] 27)).alloc (.cells #[d0, d1, d2, d3, d4] 27) = W2 at t1 t2 hb1 hs2
  go_enter Try.func7, Try.ntmps7
  go_wp2_with (go_at_call 9; refine (FX.out _).mono ?_; rintro e w1 ⟨rfl, hB1⟩)
  clear hW2
  haveI : Nonempty (ClW W2) := ⟨⟨W2, Below.refl _ _⟩⟩
  have F1 : ∀ (n : ClW W2) o, n.w.cell? ⟨w.heap.size, o, none⟩ = #[c0, c1, c2, c3, c4][o]? := fun n => box_cells t1 (by omega) n.bel
  have F2 : ∀ (n : ClW W2) o, n.w.cell? ⟨w.heap.size + 1, o, none⟩ = #[d0, d1, d2, d3, d4][o]? := fun n => box_cells t2 (by omega) n.bel
  refine wp_region_cls (fun w' => ∃ n : ClW W2, w' = n.w) (by kernel_rfl) (by kernel_rfl) ⟨⟨w1.drew, hB1.drew⟩, rfl⟩ ?_
  first
    | go_big_quiet_step ((go_at_call 16; exact clw_call (fun w1 h => CF.out w1 (bt2 hb1 h)) _))
    | quiet_step ((go_at_call 16; exact clw_call (fun w1 h => CF.out w1 (bt2 hb1 h)) _))
  first
    | go_big_quiet_step ((go_at_call 16; exact clw_call (fun w1 h => CF.out w1 (bt2 hb1 h)) _))
    | quiet_step ((go_at_call 16; exact clw_call (fun w1 h => CF.out w1 (bt2 hb1 h)) _))
  first
    | go_big_quiet_step ((go_at_call 16; exact clw_call (fun w1 h => CG.out w1 (bt2 hb1 h)) _))
    | quiet_step ((go_at_call 16; exact clw_call (fun w1 h => CG.out w1 (bt2 hb1 h)) _))
  first
    | go_big_quiet_step ((go_at_call 16; exact clw_call (fun w1 h => CG.out w1 (bt2 hb1 h)) _))
    | quiet_step ((go_at_call 16; exact clw_call (fun w1 h => CG.out w1 (bt2 hb1 h)) _))
  first
    | go_big_quiet_step ((go_at_call 16; exact clw_call (fun w1 h => CG.out w1 (bt2 hb1 h)) _))
    | quiet_step ((go_at_call 16; exact clw_call (fun w1 h => CG.out w1 (bt2 hb1 h)) _))
  first
    | go_big_quiet_step ((go_at_call 16; exact clw_call (fun w1 h => CG.out w1 (bt2 hb1 h)) _))
    | quiet_step ((go_at_call 16; exact clw_call (fun w1 h => CG.out w1 (bt2 hb1 h)) _))
  refine wpQuiet_nil ?_
  intro _ hw'
  obtain ⟨n1, hw''⟩ := hw'
  subst hw''
  have hB2 := n1.bel
  clear F1 F2 hB1 CF CG FX
  generalize n1.w = w2 at *
  have x2 := box_cells t1 (by omega) hB2
  have y2 := box_cells t2 (by omega) hB2
  go_wp2_with (fail)
  refine (JN.out _ (bt2 hb1 hB2)).mono ?_
  rintro e w3 ⟨G, rfl, hrh, hB3⟩
  have hB4 : Below W2.heap.size W2 (w3.alloc (.cells #[.int .i64 k, .string emp, .int .i64 0, .slice none 0 0, .slice (some ⟨G, 0, none⟩) 2 2] 27)) := bta (bt2 hB2 hB3) _
  have hbox : ∀ o', (w3.alloc (.cells #[.int .i64 k, .string emp, .int .i64 0, .slice none 0 0, .slice (some ⟨G, 0, none⟩) 2 2] 27)).cell? ⟨w3.heap.size, o', none⟩ = #[.int .i64 k, .string emp, .int .i64 0, .slice none 0 0, .slice (some ⟨G, 0, none⟩) 2 2][o']? := fun o' => cell_newO _ _ _ _ rfl o'
  have hvh : FmV (w3.alloc (.cells #[.int .i64 k, .string emp, .int .i64 0, .slice none 0 0, .slice (some ⟨G, 0, none⟩) 2 2] 27)) (.mk k emp 0 [] [f, g]) (.agg #[.int .i64 k, .string emp, .int .i64 0, .slice none 0 0, .slice (some ⟨G, 0, none⟩) 2 2]) := ⟨_, _, _, _, _, rfl, hrh.keep (bta0 _ _)⟩
  have hs4 : (w3.alloc (.cells #[.int .i64 k, .string emp, .int .i64 0, .slice none 0 0, .slice (some ⟨G, 0, none⟩) 2 2] 27)).heap.size = w3.heap.size + 1 := by simp
  have h23 : W2.heap.size ≤ w3.heap.size := (bt2 hB2 hB3).size
  generalize hW4 : w3.alloc (.cells #[.int .i64 k, .string emp, .int .i64 0, .slice none 0 0, .slice (some ⟨G, 0, none⟩) 2 2] 27) = W4 at hB4 hbox hvh hs4
  have x4 := box_cells t1 (by omega) hB4
  have y4 := box_cells t2 (by omega) hB4
  have hb4 := bt2 hb1 hB4
  clear hrh
  go_wp2_with (fail)
  refine (CH.out W4 _ hvh _ (Below.refl _ _)).mono ?_
  rintro e w5 ⟨rfl, hB5⟩
  clear hW4
  go_wp2
  go_ret
  exact ⟨rfl, bt2 hb4 hB5⟩
set_option maxRecDepth 100000 in
set_option maxHeartbeats 8000000 in
theorem joins_a2 (C : TreeC) (f g : Fm) (v v' : Value) (z k : Int) (w : World) (hv : FmV w f v) (hv' : FmV w g v') (hk : 3 ≤ k ∧ k ≤ 6) (hke : wrap64 (3 + wrap64 ((IntKind.u64.wrap z).tmod 4)) = k) (hf : chk nmB f = 0) (hg : ¬ chk nmB g = 0) (hh : ¬ chk nmB (.mk k emp 0 [] [f, g]) = 0) : Calls Try.prog 7 #[v, v', .int .i64 z] w fun e w' => e = .returned (.bool true) ∧ Below w.heap.size w w' := by
  have FX : Hid (∀ w, Calls Try.prog 9 #[] w fun e w' => e = .returned (.bool true) ∧ Below w.heap.size w w') := fun w => lfixed6_at C w
  have CF : Hid (∀ w1, Below w.heap.size w w1 → Calls Try.prog 16 #[v] w1 fun e w' => e = .returned (.int .i64 (chk nmB f)) ∧ Below w1.heap.size w1 w') := fun w1 h => C.check w f v w1 hv h
  have CG : Hid (∀ w1, Below w.heap.size w w1 → Calls Try.prog 16 #[v'] w1 fun e w' => e = .returned (.int .i64 (chk nmB g)) ∧ Below w1.heap.size w1 w') := fun w1 h => C.check w g v' w1 hv' h
  have JN : Hid (∀ w1, Below w.heap.size w w1 → Calls Try.prog 17 #[.int .i64 k, v, v'] w1 fun e w' => ∃ G : Nat, e = .returned (.agg #[.int .i64 k, .string emp, .int .i64 0, .slice none 0 0, .slice (some ⟨G, 0, none⟩) 2 2]) ∧ RdF w' (.mk k emp 0 [] [f, g]) (.int .i64 k) (.string emp) (.int .i64 0) (.slice none 0 0) (.slice (some ⟨G, 0, none⟩) 2 2) ∧ Below w1.heap.size w1 w') := fun w1 h => joined_at w f g k v v' w1 hk hv hv' h
  have CH : Hid (∀ W u, FmV W (.mk k emp 0 [] [f, g]) u → ∀ w1, Below W.heap.size W w1 → Calls Try.prog 16 #[u] w1 fun e w' => e = .returned (.int .i64 (chk nmB (.mk k emp 0 [] [f, g]))) ∧ Below w1.heap.size w1 w') := fun W u h w1 hb => by
    have := C.check W _ u w1 h hb
    exact this
  rw [hf] at CF
  have kg : ((chk nmB g : Int) != 0) = true := by simp; omega
  have kg2 : ((chk nmB g : Int) == 0) = false := by simp; omega
  have kh : ((chk nmB (.mk k emp 0 [] [f, g]) : Int) != 0) = true := by simp; omega
  have kh2 : ((chk nmB (.mk k emp 0 [] [f, g]) : Int) == 0) = false := by simp; omega
  generalize chk nmB (.mk k emp 0 [] [f, g]) = ch at *
  generalize chk nmB g = cg at *
  clear C
  obtain ⟨c0, c1, c2, c3, c4, rfl, hr⟩ := hv
  obtain ⟨d0, d1, d2, d3, d4, rfl, hr'⟩ := hv'
  obtain ⟨t1, t2⟩ := two_boxes w #[c0, c1, c2, c3, c4] #[d0, d1, d2, d3, d4] 27 27
  have hb1 : Below w.heap.size w ((w.alloc (.cells #[c0, c1, c2, c3, c4] 27)).alloc (.cells #[d0, d1, d2, d3, d4] 27)) := bta (bta0 _ _) _
  have hs2 : ((w.alloc (.cells #[c0, c1, c2, c3, c4] 27)).alloc (.cells #[d0, d1, d2, d3, d4] 27)).heap.size = w.heap.size + 2 := by simp
  generalize hW2 : (w.alloc (.cells #[c0, c1, c2, c3, c4] 27)).alloc (.cells #[d0, d1, d2, d3, d4] 27) = W2 at t1 t2 hb1 hs2
  go_enter Try.func7, Try.ntmps7
  go_wp2_with (go_at_call 9; refine (FX.out _).mono ?_; rintro e w1 ⟨rfl, hB1⟩)
  clear hW2
  haveI : Nonempty (ClW W2) := ⟨⟨W2, Below.refl _ _⟩⟩
  have F1 : ∀ (n : ClW W2) o, n.w.cell? ⟨w.heap.size, o, none⟩ = #[c0, c1, c2, c3, c4][o]? := fun n => box_cells t1 (by omega) n.bel
  have F2 : ∀ (n : ClW W2) o, n.w.cell? ⟨w.heap.size + 1, o, none⟩ = #[d0, d1, d2, d3, d4][o]? := fun n => box_cells t2 (by omega) n.bel
  refine wp_region_cls (fun w' => ∃ n : ClW W2, w' = n.w) (by kernel_rfl) (by kernel_rfl) ⟨⟨w1.drew, hB1.drew⟩, rfl⟩ ?_
  first
    | go_big_quiet_step ((go_at_call 16; exact clw_call (fun w1 h => CF.out w1 (bt2 hb1 h)) _))
    | quiet_step ((go_at_call 16; exact clw_call (fun w1 h => CF.out w1 (bt2 hb1 h)) _))
  first
    | go_big_quiet_step ((go_at_call 16; exact clw_call (fun w1 h => CF.out w1 (bt2 hb1 h)) _))
    | quiet_step ((go_at_call 16; exact clw_call (fun w1 h => CF.out w1 (bt2 hb1 h)) _))
  first
    | go_big_quiet_step ((go_at_call 16; exact clw_call (fun w1 h => CG.out w1 (bt2 hb1 h)) _))
    | quiet_step ((go_at_call 16; exact clw_call (fun w1 h => CG.out w1 (bt2 hb1 h)) _))
  first
    | go_big_quiet_step ((go_at_call 16; exact clw_call (fun w1 h => CG.out w1 (bt2 hb1 h)) _))
    | quiet_step ((go_at_call 16; exact clw_call (fun w1 h => CG.out w1 (bt2 hb1 h)) _))
  first
    | go_big_quiet_step ((go_at_call 16; exact clw_call (fun w1 h => CG.out w1 (bt2 hb1 h)) _))
    | quiet_step ((go_at_call 16; exact clw_call (fun w1 h => CG.out w1 (bt2 hb1 h)) _))
  first
    | go_big_quiet_step ((go_at_call 16; exact clw_call (fun w1 h => CG.out w1 (bt2 hb1 h)) _))
    | quiet_step ((go_at_call 16; exact clw_call (fun w1 h => CG.out w1 (bt2 hb1 h)) _))
  refine wpQuiet_nil ?_
  intro _ hw'
  obtain ⟨n1, hw''⟩ := hw'
  subst hw''
  have hB2 := n1.bel
  clear F1 F2 hB1 CF CG FX
  generalize n1.w = w2 at *
  have x2 := box_cells t1 (by omega) hB2
  have y2 := box_cells t2 (by omega) hB2
  go_wp2_with (fail)
  refine (JN.out _ (bt2 hb1 hB2)).mono ?_
  rintro e w3 ⟨G, rfl, hrh, hB3⟩
  have hB4 : Below W2.heap.size W2 (w3.alloc (.cells #[.int .i64 k, .string emp, .int .i64 0, .slice none 0 0, .slice (some ⟨G, 0, none⟩) 2 2] 27)) := bta (bt2 hB2 hB3) _
  have hbox : ∀ o', (w3.alloc (.cells #[.int .i64 k, .string emp, .int .i64 0, .slice none 0 0, .slice (some ⟨G, 0, none⟩) 2 2] 27)).cell? ⟨w3.heap.size, o', none⟩ = #[.int .i64 k, .string emp, .int .i64 0, .slice none 0 0, .slice (some ⟨G, 0, none⟩) 2 2][o']? := fun o' => cell_newO _ _ _ _ rfl o'
  have hvh : FmV (w3.alloc (.cells #[.int .i64 k, .string emp, .int .i64 0, .slice none 0 0, .slice (some ⟨G, 0, none⟩) 2 2] 27)) (.mk k emp 0 [] [f, g]) (.agg #[.int .i64 k, .string emp, .int .i64 0, .slice none 0 0, .slice (some ⟨G, 0, none⟩) 2 2]) := ⟨_, _, _, _, _, rfl, hrh.keep (bta0 _ _)⟩
  have hs4 : (w3.alloc (.cells #[.int .i64 k, .string emp, .int .i64 0, .slice none 0 0, .slice (some ⟨G, 0, none⟩) 2 2] 27)).heap.size = w3.heap.size + 1 := by simp
  have h23 : W2.heap.size ≤ w3.heap.size := (bt2 hB2 hB3).size
  generalize hW4 : w3.alloc (.cells #[.int .i64 k, .string emp, .int .i64 0, .slice none 0 0, .slice (some ⟨G, 0, none⟩) 2 2] 27) = W4 at hB4 hbox hvh hs4
  have x4 := box_cells t1 (by omega) hB4
  have y4 := box_cells t2 (by omega) hB4
  have hb4 := bt2 hb1 hB4
  clear hrh
  go_wp2_with (fail)
  refine (CH.out W4 _ hvh _ (Below.refl _ _)).mono ?_
  rintro e w5 ⟨rfl, hB5⟩
  clear hW4
  go_wp2
  go_ret
  exact ⟨rfl, bt2 hb4 hB5⟩
set_option maxRecDepth 100000 in
set_option maxHeartbeats 8000000 in
theorem joins_b1 (C : TreeC) (f g : Fm) (v v' : Value) (z k : Int) (w : World) (hv : FmV w f v) (hv' : FmV w g v') (hk : 3 ≤ k ∧ k ≤ 6) (hke : wrap64 (3 + wrap64 ((IntKind.u64.wrap z).tmod 4)) = k) (hf : chk nmB f = 0) (hg : chk nmB g = 0) (hh : ¬ chk nmB (.mk k emp 0 [] [f, g]) = 0) (hs : 500 < f.size + g.size + 1) : Calls Try.prog 7 #[v, v', .int .i64 z] w fun e w' => e = .returned (.bool true) ∧ Below w.heap.size w w' := by
  have FX : Hid (∀ w, Calls Try.prog 9 #[] w fun e w' => e = .returned (.bool true) ∧ Below w.heap.size w w') := fun w => lfixed6_at C w
  have CF : Hid (∀ w1, Below w.heap.size w w1 → Calls Try.prog 16 #[v] w1 fun e w' => e = .returned (.int .i64 (chk nmB f)) ∧ Below w1.heap.size w1 w') := fun w1 h => C.check w f v w1 hv h
  have CG : Hid (∀ w1, Below w.heap.size w w1 → Calls Try.prog 16 #[v'] w1 fun e w' => e = .returned (.int .i64 (chk nmB g)) ∧ Below w1.heap.size w1 w') := fun w1 h => C.check w g v' w1 hv' h
  have JN : Hid (∀ w1, Below w.heap.size w w1 → Calls Try.prog 17 #[.int .i64 k, v, v'] w1 fun e w' => ∃ G : Nat, e = .returned (.agg #[.int .i64 k, .string emp, .int .i64 0, .slice none 0 0, .slice (some ⟨G, 0, none⟩) 2 2]) ∧ RdF w' (.mk k emp 0 [] [f, g]) (.int .i64 k) (.string emp) (.int .i64 0) (.slice none 0 0) (.slice (some ⟨G, 0, none⟩) 2 2) ∧ Below w1.heap.size w1 w') := fun w1 h => joined_at w f g k v v' w1 hk hv hv' h
  have SF : Hid (∀ w1, Below w.heap.size w w1 → Calls Try.prog 18 #[v] w1 fun e w' => e = .returned (.tuple #[.int .i64 f.size, .int .i64 0]) ∧ Below w1.heap.size w1 w') := fun w1 h => by
    have := C.size w f v w1 hv h
    rwa [ok0, if_pos hf, hf] at this
  have SG : Hid (∀ w1, Below w.heap.size w w1 → Calls Try.prog 18 #[v'] w1 fun e w' => e = .returned (.tuple #[.int .i64 g.size, .int .i64 0]) ∧ Below w1.heap.size w1 w') := fun w1 h => by
    have := C.size w g v' w1 hv' h
    rwa [ok0, if_pos hg, hg] at this
  have SH : Hid (∀ W u, FmV W (.mk k emp 0 [] [f, g]) u → ∀ w1, Below W.heap.size W w1 → Calls Try.prog 18 #[u] w1 fun e w' => e = .returned (.tuple #[.int .i64 0, .int .i64 (chk nmB (.mk k emp 0 [] [f, g]))]) ∧ Below w1.heap.size w1 w') := fun W u h w1 hb => by
    have := C.size W _ u w1 h hb
    rw [ok0, if_neg hh] at this
    exact this
  rw [hf] at CF
  rw [hg] at CG
  have hsf := ((chk_iff nmB f).1 hf).1
  have hsg := ((chk_iff nmB g).1 hg).1
  have hdf := ((chk_iff nmB f).1 hf).2.1
  have hdg := ((chk_iff nmB g).1 hg).2.1
  have kh : ((chk nmB (.mk k emp 0 [] [f, g]) : Int) != 0) = true := by simp; omega
  have kh2 : ((chk nmB (.mk k emp 0 [] [f, g]) : Int) == 0) = false := by simp; omega
  generalize chk nmB (.mk k emp 0 [] [f, g]) = ch at *
  generalize f.size = m at *
  generalize g.size = n at *
  have hs1 : (500 : Int) < (m : Int) + (n : Int) + 1 := by omega
  clear C
  obtain ⟨c0, c1, c2, c3, c4, rfl, hr⟩ := hv
  obtain ⟨d0, d1, d2, d3, d4, rfl, hr'⟩ := hv'
  obtain ⟨t1, t2⟩ := two_boxes w #[c0, c1, c2, c3, c4] #[d0, d1, d2, d3, d4] 27 27
  have hb1 : Below w.heap.size w ((w.alloc (.cells #[c0, c1, c2, c3, c4] 27)).alloc (.cells #[d0, d1, d2, d3, d4] 27)) := bta (bta0 _ _) _
  have hs2 : ((w.alloc (.cells #[c0, c1, c2, c3, c4] 27)).alloc (.cells #[d0, d1, d2, d3, d4] 27)).heap.size = w.heap.size + 2 := by simp
  generalize hW2 : (w.alloc (.cells #[c0, c1, c2, c3, c4] 27)).alloc (.cells #[d0, d1, d2, d3, d4] 27) = W2 at t1 t2 hb1 hs2
  go_enter Try.func7, Try.ntmps7
  go_wp2_with (go_at_call 9; refine (FX.out _).mono ?_; rintro e w1 ⟨rfl, hB1⟩)
  clear hW2
  haveI : Nonempty (ClW W2) := ⟨⟨W2, Below.refl _ _⟩⟩
  have F1 : ∀ (n : ClW W2) o, n.w.cell? ⟨w.heap.size, o, none⟩ = #[c0, c1, c2, c3, c4][o]? := fun n => box_cells t1 (by omega) n.bel
  have F2 : ∀ (n : ClW W2) o, n.w.cell? ⟨w.heap.size + 1, o, none⟩ = #[d0, d1, d2, d3, d4][o]? := fun n => box_cells t2 (by omega) n.bel
  refine wp_region_cls (fun w' => ∃ n : ClW W2, w' = n.w) (by kernel_rfl) (by kernel_rfl) ⟨⟨w1.drew, hB1.drew⟩, rfl⟩ ?_
  first
    | go_big_quiet_step ((go_at_call 16; exact clw_call (fun w1 h => CF.out w1 (bt2 hb1 h)) _))
    | quiet_step ((go_at_call 16; exact clw_call (fun w1 h => CF.out w1 (bt2 hb1 h)) _))
  first
    | go_big_quiet_step ((go_at_call 16; exact clw_call (fun w1 h => CF.out w1 (bt2 hb1 h)) _))
    | quiet_step ((go_at_call 16; exact clw_call (fun w1 h => CF.out w1 (bt2 hb1 h)) _))
  first
    | go_big_quiet_step ((go_at_call 16; exact clw_call (fun w1 h => CG.out w1 (bt2 hb1 h)) _))
    | quiet_step ((go_at_call 16; exact clw_call (fun w1 h => CG.out w1 (bt2 hb1 h)) _))
  first
    | go_big_quiet_step ((go_at_call 16; exact clw_call (fun w1 h => CG.out w1 (bt2 hb1 h)) _))
    | quiet_step ((go_at_call 16; exact clw_call (fun w1 h => CG.out w1 (bt2 hb1 h)) _))
  first
    | go_big_quiet_step ((go_at_call 16; exact clw_call (fun w1 h => CG.out w1 (bt2 hb1 h)) _))
    | quiet_step ((go_at_call 16; exact clw_call (fun w1 h => CG.out w1 (bt2 hb1 h)) _))
  first
    | go_big_quiet_step ((go_at_call 16; exact clw_call (fun w1 h => CG.out w1 (bt2 hb1 h)) _))
    | quiet_step ((go_at_call 16; exact clw_call (fun w1 h => CG.out w1 (bt2 hb1 h)) _))
  refine wpQuiet_nil ?_
  intro _ hw'
  obtain ⟨n1, hw''⟩ := hw'
  subst hw''
  have hB2 := n1.bel
  clear F1 F2 hB1 CF CG FX
  generalize n1.w = w2 at *
  have x2 := box_cells t1 (by omega) hB2
  have y2 := box_cells t2 (by omega) hB2
  go_wp2_with (fail)
  refine (JN.out _ (bt2 hb1 hB2)).mono ?_
  rintro e w3 ⟨G, rfl, hrh, hB3⟩
  have hB4 : Below W2.heap.size W2 (w3.alloc (.cells #[.int .i64 k, .string emp, .int .i64 0, .slice none 0 0, .slice (some ⟨G, 0, none⟩) 2 2] 27)) := bta (bt2 hB2 hB3) _
  have hbox : ∀ o', (w3.alloc (.cells #[.int .i64 k, .string emp, .int .i64 0, .slice none 0 0, .slice (some ⟨G, 0, none⟩) 2 2] 27)).cell? ⟨w3.heap.size, o', none⟩ = #[.int .i64 k, .string emp, .int .i64 0, .slice none 0 0, .slice (some ⟨G, 0, none⟩) 2 2][o']? := fun o' => cell_newO _ _ _ _ rfl o'
  have hvh : FmV (w3.alloc (.cells #[.int .i64 k, .string emp, .int .i64 0, .slice none 0 0, .slice (some ⟨G, 0, none⟩) 2 2] 27)) (.mk k emp 0 [] [f, g]) (.agg #[.int .i64 k, .string emp, .int .i64 0, .slice none 0 0, .slice (some ⟨G, 0, none⟩) 2 2]) := ⟨_, _, _, _, _, rfl, hrh.keep (bta0 _ _)⟩
  have hs4 : (w3.alloc (.cells #[.int .i64 k, .string emp, .int .i64 0, .slice none 0 0, .slice (some ⟨G, 0, none⟩) 2 2] 27)).heap.size = w3.heap.size + 1 := by simp
  have h23 : W2.heap.size ≤ w3.heap.size := (bt2 hB2 hB3).size
  generalize hW4 : w3.alloc (.cells #[.int .i64 k, .string emp, .int .i64 0, .slice none 0 0, .slice (some ⟨G, 0, none⟩) 2 2] 27) = W4 at hB4 hbox hvh hs4
  have x4 := box_cells t1 (by omega) hB4
  have y4 := box_cells t2 (by omega) hB4
  have hb4 := bt2 hb1 hB4
  clear hrh
  go_wp2_with (fail)
  refine (SF.out _ hb4).mono ?_
  rintro e w5 ⟨rfl, hB5⟩
  have hA5 : Below W4.heap.size W4 w5 := hB5
  have x5 := box_cells x4 (by omega) hA5
  have y5 := box_cells y4 (by omega) hA5
  have z5 := box_cells hbox (by omega) hA5
  clear hW4
  go_wp2_with (fail)
  refine (SG.out _ (bt2 hb4 hA5)).mono ?_
  rintro e w6 ⟨rfl, hB6⟩
  have hA6 : Below W4.heap.size W4 w6 := bt2 hA5 hB6
  have x6 := box_cells x4 (by omega) hA6
  have y6 := box_cells y4 (by omega) hA6
  have z6 := box_cells hbox (by omega) hA6
  go_wp2_with (fail)
  refine (SH.out W4 _ hvh _ hA6).mono ?_
  rintro e w7 ⟨rfl, hB7⟩
  have hA7 : Below W4.heap.size W4 w7 := bt2 hA6 hB7
  have x7 := box_cells x4 (by omega) hA7
  have y7 := box_cells y4 (by omega) hA7
  have z7 := box_cells hbox (by omega) hA7
  go_wp2
  go_ret
  exact ⟨rfl, bt2 hb4 hA7⟩
set_option maxRecDepth 100000 in
set_option maxHeartbeats 8000000 in
theorem joins_b2 (C : TreeC) (f g : Fm) (v v' : Value) (z k : Int) (w : World) (hv : FmV w f v) (hv' : FmV w g v') (hk : 3 ≤ k ∧ k ≤ 6) (hke : wrap64 (3 + wrap64 ((IntKind.u64.wrap z).tmod 4)) = k) (hf : chk nmB f = 0) (hg : chk nmB g = 0) (hh : chk nmB (.mk k emp 0 [] [f, g]) = 72) (hs : f.size + g.size + 1 ≤ 500) (hd : 40 < max f.deep g.deep + 1) : Calls Try.prog 7 #[v, v', .int .i64 z] w fun e w' => e = .returned (.bool true) ∧ Below w.heap.size w w' := by
  have FX : Hid (∀ w, Calls Try.prog 9 #[] w fun e w' => e = .returned (.bool true) ∧ Below w.heap.size w w') := fun w => lfixed6_at C w
  have CF : Hid (∀ w1, Below w.heap.size w w1 → Calls Try.prog 16 #[v] w1 fun e w' => e = .returned (.int .i64 (chk nmB f)) ∧ Below w1.heap.size w1 w') := fun w1 h => C.check w f v w1 hv h
  have CG : Hid (∀ w1, Below w.heap.size w w1 → Calls Try.prog 16 #[v'] w1 fun e w' => e = .returned (.int .i64 (chk nmB g)) ∧ Below w1.heap.size w1 w') := fun w1 h => C.check w g v' w1 hv' h
  have JN : Hid (∀ w1, Below w.heap.size w w1 → Calls Try.prog 17 #[.int .i64 k, v, v'] w1 fun e w' => ∃ G : Nat, e = .returned (.agg #[.int .i64 k, .string emp, .int .i64 0, .slice none 0 0, .slice (some ⟨G, 0, none⟩) 2 2]) ∧ RdF w' (.mk k emp 0 [] [f, g]) (.int .i64 k) (.string emp) (.int .i64 0) (.slice none 0 0) (.slice (some ⟨G, 0, none⟩) 2 2) ∧ Below w1.heap.size w1 w') := fun w1 h => joined_at w f g k v v' w1 hk hv hv' h
  have SF : Hid (∀ w1, Below w.heap.size w w1 → Calls Try.prog 18 #[v] w1 fun e w' => e = .returned (.tuple #[.int .i64 f.size, .int .i64 0]) ∧ Below w1.heap.size w1 w') := fun w1 h => by
    have := C.size w f v w1 hv h
    rwa [ok0, if_pos hf, hf] at this
  have SG : Hid (∀ w1, Below w.heap.size w w1 → Calls Try.prog 18 #[v'] w1 fun e w' => e = .returned (.tuple #[.int .i64 g.size, .int .i64 0]) ∧ Below w1.heap.size w1 w') := fun w1 h => by
    have := C.size w g v' w1 hv' h
    rwa [ok0, if_pos hg, hg] at this
  have DF : Hid (∀ w1, Below w.heap.size w w1 → Calls Try.prog 19 #[v] w1 fun e w' => e = .returned (.tuple #[.int .i64 f.deep, .int .i64 0]) ∧ Below w1.heap.size w1 w') := fun w1 h => by
    have := C.depth w f v w1 hv h
    rwa [ok0, if_pos hf, hf] at this
  have DG : Hid (∀ w1, Below w.heap.size w w1 → Calls Try.prog 19 #[v'] w1 fun e w' => e = .returned (.tuple #[.int .i64 g.deep, .int .i64 0]) ∧ Below w1.heap.size w1 w') := fun w1 h => by
    have := C.depth w g v' w1 hv' h
    rwa [ok0, if_pos hg, hg] at this
  have SH : Hid (∀ W u, FmV W (.mk k emp 0 [] [f, g]) u → ∀ w1, Below W.heap.size W w1 → Calls Try.prog 18 #[u] w1 fun e w' => e = .returned (.tuple #[.int .i64 0, .int .i64 72]) ∧ Below w1.heap.size w1 w') := fun W u h w1 hb => by
    have := C.size W _ u w1 h hb
    rw [ok0, if_neg (by rw [hh]; decide), hh] at this
    exact this
  rw [hf] at CF
  rw [hg] at CG
  have hsf := ((chk_iff nmB f).1 hf).1
  have hsg := ((chk_iff nmB g).1 hg).1
  have hdf := ((chk_iff nmB f).1 hf).2.1
  have hdg := ((chk_iff nmB g).1 hg).2.1
  generalize f.size = m at *
  generalize g.size = n at *
  have hs1 : decide ((500 : Int) < (m : Int) + (n : Int) + 1) = false := decide_eq_false (by omega)
  have hite := ite_max f.deep g.deep
  generalize hD : max f.deep g.deep = D at *
  generalize f.deep = fd at *
  generalize g.deep = gd at *
  have hd1 : (40 : Int) < (D : Int) + 1 := by omega
  clear C hD
  obtain ⟨c0, c1, c2, c3, c4, rfl, hr⟩ := hv
  obtain ⟨d0, d1, d2, d3, d4, rfl, hr'⟩ := hv'
  obtain ⟨t1, t2⟩ := two_boxes w #[c0, c1, c2, c3, c4] #[d0, d1, d2, d3, d4] 27 27
  have hb1 : Below w.heap.size w ((w.alloc (.cells #[c0, c1, c2, c3, c4] 27)).alloc (.cells #[d0, d1, d2, d3, d4] 27)) := bta (bta0 _ _) _
  have hs2 : ((w.alloc (.cells #[c0, c1, c2, c3, c4] 27)).alloc (.cells #[d0, d1, d2, d3, d4] 27)).heap.size = w.heap.size + 2 := by simp
  generalize hW2 : (w.alloc (.cells #[c0, c1, c2, c3, c4] 27)).alloc (.cells #[d0, d1, d2, d3, d4] 27) = W2 at t1 t2 hb1 hs2
  go_enter Try.func7, Try.ntmps7
  go_wp2_with (go_at_call 9; refine (FX.out _).mono ?_; rintro e w1 ⟨rfl, hB1⟩)
  clear hW2
  haveI : Nonempty (ClW W2) := ⟨⟨W2, Below.refl _ _⟩⟩
  have F1 : ∀ (n : ClW W2) o, n.w.cell? ⟨w.heap.size, o, none⟩ = #[c0, c1, c2, c3, c4][o]? := fun n => box_cells t1 (by omega) n.bel
  have F2 : ∀ (n : ClW W2) o, n.w.cell? ⟨w.heap.size + 1, o, none⟩ = #[d0, d1, d2, d3, d4][o]? := fun n => box_cells t2 (by omega) n.bel
  refine wp_region_cls (fun w' => ∃ n : ClW W2, w' = n.w) (by kernel_rfl) (by kernel_rfl) ⟨⟨w1.drew, hB1.drew⟩, rfl⟩ ?_
  first
    | go_big_quiet_step ((go_at_call 16; exact clw_call (fun w1 h => CF.out w1 (bt2 hb1 h)) _))
    | quiet_step ((go_at_call 16; exact clw_call (fun w1 h => CF.out w1 (bt2 hb1 h)) _))
  first
    | go_big_quiet_step ((go_at_call 16; exact clw_call (fun w1 h => CF.out w1 (bt2 hb1 h)) _))
    | quiet_step ((go_at_call 16; exact clw_call (fun w1 h => CF.out w1 (bt2 hb1 h)) _))
  first
    | go_big_quiet_step ((go_at_call 16; exact clw_call (fun w1 h => CG.out w1 (bt2 hb1 h)) _))
    | quiet_step ((go_at_call 16; exact clw_call (fun w1 h => CG.out w1 (bt2 hb1 h)) _))
  first
    | go_big_quiet_step ((go_at_call 16; exact clw_call (fun w1 h => CG.out w1 (bt2 hb1 h)) _))
    | quiet_step ((go_at_call 16; exact clw_call (fun w1 h => CG.out w1 (bt2 hb1 h)) _))
  first
    | go_big_quiet_step ((go_at_call 16; exact clw_call (fun w1 h => CG.out w1 (bt2 hb1 h)) _))
    | quiet_step ((go_at_call 16; exact clw_call (fun w1 h => CG.out w1 (bt2 hb1 h)) _))
  first
    | go_big_quiet_step ((go_at_call 16; exact clw_call (fun w1 h => CG.out w1 (bt2 hb1 h)) _))
    | quiet_step ((go_at_call 16; exact clw_call (fun w1 h => CG.out w1 (bt2 hb1 h)) _))
  refine wpQuiet_nil ?_
  intro _ hw'
  obtain ⟨n1, hw''⟩ := hw'
  subst hw''
  have hB2 := n1.bel
  clear F1 F2 hB1 CF CG FX
  generalize n1.w = w2 at *
  have x2 := box_cells t1 (by omega) hB2
  have y2 := box_cells t2 (by omega) hB2
  go_wp2_with (fail)
  refine (JN.out _ (bt2 hb1 hB2)).mono ?_
  rintro e w3 ⟨G, rfl, hrh, hB3⟩
  have hB4 : Below W2.heap.size W2 (w3.alloc (.cells #[.int .i64 k, .string emp, .int .i64 0, .slice none 0 0, .slice (some ⟨G, 0, none⟩) 2 2] 27)) := bta (bt2 hB2 hB3) _
  have hbox : ∀ o', (w3.alloc (.cells #[.int .i64 k, .string emp, .int .i64 0, .slice none 0 0, .slice (some ⟨G, 0, none⟩) 2 2] 27)).cell? ⟨w3.heap.size, o', none⟩ = #[.int .i64 k, .string emp, .int .i64 0, .slice none 0 0, .slice (some ⟨G, 0, none⟩) 2 2][o']? := fun o' => cell_newO _ _ _ _ rfl o'
  have hvh : FmV (w3.alloc (.cells #[.int .i64 k, .string emp, .int .i64 0, .slice none 0 0, .slice (some ⟨G, 0, none⟩) 2 2] 27)) (.mk k emp 0 [] [f, g]) (.agg #[.int .i64 k, .string emp, .int .i64 0, .slice none 0 0, .slice (some ⟨G, 0, none⟩) 2 2]) := ⟨_, _, _, _, _, rfl, hrh.keep (bta0 _ _)⟩
  have hs4 : (w3.alloc (.cells #[.int .i64 k, .string emp, .int .i64 0, .slice none 0 0, .slice (some ⟨G, 0, none⟩) 2 2] 27)).heap.size = w3.heap.size + 1 := by simp
  have h23 : W2.heap.size ≤ w3.heap.size := (bt2 hB2 hB3).size
  generalize hW4 : w3.alloc (.cells #[.int .i64 k, .string emp, .int .i64 0, .slice none 0 0, .slice (some ⟨G, 0, none⟩) 2 2] 27) = W4 at hB4 hbox hvh hs4
  have x4 := box_cells t1 (by omega) hB4
  have y4 := box_cells t2 (by omega) hB4
  have hb4 := bt2 hb1 hB4
  clear hrh
  go_wp2_with (fail)
  refine (SF.out _ hb4).mono ?_
  rintro e w5 ⟨rfl, hB5⟩
  have hA5 : Below W4.heap.size W4 w5 := hB5
  have x5 := box_cells x4 (by omega) hA5
  have y5 := box_cells y4 (by omega) hA5
  have z5 := box_cells hbox (by omega) hA5
  clear hW4
  go_wp2_with (fail)
  refine (SG.out _ (bt2 hb4 hA5)).mono ?_
  rintro e w6 ⟨rfl, hB6⟩
  have hA6 : Below W4.heap.size W4 w6 := bt2 hA5 hB6
  have x6 := box_cells x4 (by omega) hA6
  have y6 := box_cells y4 (by omega) hA6
  have z6 := box_cells hbox (by omega) hA6
  go_wp2_with (fail)
  refine (SH.out W4 _ hvh _ hA6).mono ?_
  rintro e w7 ⟨rfl, hB7⟩
  have hA7 : Below W4.heap.size W4 w7 := bt2 hA6 hB7
  have x7 := box_cells x4 (by omega) hA7
  have y7 := box_cells y4 (by omega) hA7
  have z7 := box_cells hbox (by omega) hA7
  go_wp2_with (fail)
  refine (DF.out _ (bt2 hb4 hA7)).mono ?_
  rintro e w8 ⟨rfl, hB8⟩
  have hA8 : Below W4.heap.size W4 w8 := bt2 hA7 hB8
  have x8 := box_cells x4 (by omega) hA8
  have y8 := box_cells y4 (by omega) hA8
  have z8 := box_cells hbox (by omega) hA8
  go_wp2_with (fail)
  refine (DG.out _ (bt2 hb4 hA8)).mono ?_
  rintro e w9 ⟨rfl, hB9⟩
  have hA9 : Below W4.heap.size W4 w9 := bt2 hA8 hB9
  have x9 := box_cells x4 (by omega) hA9
  have y9 := box_cells y4 (by omega) hA9
  have z9 := box_cells hbox (by omega) hA9
  go_wp2
  go_ret
  exact ⟨rfl, bt2 hb4 hA9⟩
set_option maxRecDepth 100000 in
set_option maxHeartbeats 8000000 in
theorem joins_b3 (C : TreeC) (f g : Fm) (v v' : Value) (z k : Int) (w : World) (hv : FmV w f v) (hv' : FmV w g v') (hk : 3 ≤ k ∧ k ≤ 6) (hke : wrap64 (3 + wrap64 ((IntKind.u64.wrap z).tmod 4)) = k) (hf : chk nmB f = 0) (hg : chk nmB g = 0) (hh : chk nmB (.mk k emp 0 [] [f, g]) = 0) (hh2 : chk nmB (.mk k emp 0 [] [g, f]) = 0) (hs : f.size + g.size + 1 ≤ 500) (hd : max f.deep g.deep + 1 ≤ 40) : Calls Try.prog 7 #[v, v', .int .i64 z] w fun e w' => e = .returned (.bool true) ∧ Below w.heap.size w w' := by
  have FX : Hid (∀ w, Calls Try.prog 9 #[] w fun e w' => e = .returned (.bool true) ∧ Below w.heap.size w w') := fun w => lfixed6_at C w
  have CF : Hid (∀ w1, Below w.heap.size w w1 → Calls Try.prog 16 #[v] w1 fun e w' => e = .returned (.int .i64 (chk nmB f)) ∧ Below w1.heap.size w1 w') := fun w1 h => C.check w f v w1 hv h
  have CG : Hid (∀ w1, Below w.heap.size w w1 → Calls Try.prog 16 #[v'] w1 fun e w' => e = .returned (.int .i64 (chk nmB g)) ∧ Below w1.heap.size w1 w') := fun w1 h => C.check w g v' w1 hv' h
  have JN : Hid (∀ w1, Below w.heap.size w w1 → Calls Try.prog 17 #[.int .i64 k, v, v'] w1 fun e w' => ∃ G : Nat, e = .returned (.agg #[.int .i64 k, .string emp, .int .i64 0, .slice none 0 0, .slice (some ⟨G, 0, none⟩) 2 2]) ∧ RdF w' (.mk k emp 0 [] [f, g]) (.int .i64 k) (.string emp) (.int .i64 0) (.slice none 0 0) (.slice (some ⟨G, 0, none⟩) 2 2) ∧ Below w1.heap.size w1 w') := fun w1 h => joined_at w f g k v v' w1 hk hv hv' h
  have SF : Hid (∀ w1, Below w.heap.size w w1 → Calls Try.prog 18 #[v] w1 fun e w' => e = .returned (.tuple #[.int .i64 f.size, .int .i64 0]) ∧ Below w1.heap.size w1 w') := fun w1 h => by
    have := C.size w f v w1 hv h
    rwa [ok0, if_pos hf, hf] at this
  have SG : Hid (∀ w1, Below w.heap.size w w1 → Calls Try.prog 18 #[v'] w1 fun e w' => e = .returned (.tuple #[.int .i64 g.size, .int .i64 0]) ∧ Below w1.heap.size w1 w') := fun w1 h => by
    have := C.size w g v' w1 hv' h
    rwa [ok0, if_pos hg, hg] at this
  have DF : Hid (∀ w1, Below w.heap.size w w1 → Calls Try.prog 19 #[v] w1 fun e w' => e = .returned (.tuple #[.int .i64 f.deep, .int .i64 0]) ∧ Below w1.heap.size w1 w') := fun w1 h => by
    have := C.depth w f v w1 hv h
    rwa [ok0, if_pos hf, hf] at this
  have DG : Hid (∀ w1, Below w.heap.size w w1 → Calls Try.prog 19 #[v'] w1 fun e w' => e = .returned (.tuple #[.int .i64 g.deep, .int .i64 0]) ∧ Below w1.heap.size w1 w') := fun w1 h => by
    have := C.depth w g v' w1 hv' h
    rwa [ok0, if_pos hg, hg] at this
  have SH : Hid (∀ W u, FmV W (.mk k emp 0 [] [f, g]) u → ∀ w1, Below W.heap.size W w1 → Calls Try.prog 18 #[u] w1 fun e w' => e = .returned (.tuple #[.int .i64 ((f.size + g.size + 1 : Nat) : Int), .int .i64 0]) ∧ Below w1.heap.size w1 w') := fun W u h w1 hb => by
    have := C.size W _ u w1 h hb
    rwa [ok0, if_pos hh, hh, join_fsize] at this
  have DH : Hid (∀ W u, FmV W (.mk k emp 0 [] [f, g]) u → ∀ w1, Below W.heap.size W w1 → Calls Try.prog 19 #[u] w1 fun e w' => e = .returned (.tuple #[.int .i64 ((max f.deep g.deep + 1 : Nat) : Int), .int .i64 0]) ∧ Below w1.heap.size w1 w') := fun W u h w1 hb => by
    have := C.depth W _ u w1 h hb
    rwa [ok0, if_pos hh, hh, join_deep] at this
  have FF : Hid (∀ w1, Below w.heap.size w w1 → Calls Try.prog 10 #[v] w1 fun e w' => ∃ v', e = .returned (.tuple #[v', .int .i64 0]) ∧ w'.ownsRow w1.heap.size 9 1 v' (freeF f).length (cellsS (freeF f)) ∧ Below w1.heap.size w1 w') := fun w1 h => by
    have := C.free w f v w1 hv h
    rwa [frOf, if_pos hf, hf] at this
  have FG : Hid (∀ w1, Below w.heap.size w w1 → Calls Try.prog 10 #[v'] w1 fun e w' => ∃ v', e = .returned (.tuple #[v', .int .i64 0]) ∧ w'.ownsRow w1.heap.size 9 1 v' (freeF g).length (cellsS (freeF g)) ∧ Below w1.heap.size w1 w') := fun w1 h => by
    have := C.free w g v' w1 hv' h
    rwa [frOf, if_pos hg, hg] at this
  have FH : Hid (∀ W u, FmV W (.mk k emp 0 [] [f, g]) u → ∀ w1, Below W.heap.size W w1 → Calls Try.prog 10 #[u] w1 fun e w' => ∃ v', e = .returned (.tuple #[v', .int .i64 0]) ∧ w'.ownsRow w1.heap.size 9 1 v' (togL (freeF f ++ freeF g)).length (cellsS (togL (freeF f ++ freeF g))) ∧ Below w1.heap.size w1 w') := fun W u h w1 hb => by
    have := C.free W _ u w1 h hb
    rwa [frOf, if_pos hh, hh, join_free k hk] at this
  have FH2 : Hid (∀ W u, FmV W (.mk k emp 0 [] [g, f]) u → ∀ w1, Below W.heap.size W w1 → Calls Try.prog 10 #[u] w1 fun e w' => ∃ v', e = .returned (.tuple #[v', .int .i64 0]) ∧ w'.ownsRow w1.heap.size 9 1 v' (togL (freeF f ++ freeF g)).length (cellsS (togL (freeF f ++ freeF g))) ∧ Below w1.heap.size w1 w') := fun W u h w1 hb => by
    have := C.free W _ u w1 h hb
    rwa [frOf, if_pos hh2, hh2, join_free k hk, tog_comm] at this
  have WF : Hid (∀ w1, Below w.heap.size w w1 → Calls Try.prog 21 #[v] w1 fun e w' => e = .returned (.tuple #[.int .i64 (widF f), .int .i64 0]) ∧ Below w1.heap.size w1 w') := fun w1 h => by
    have := C.widest w f v w1 hv h
    rwa [ok0, if_pos hf, hf] at this
  have WG : Hid (∀ w1, Below w.heap.size w w1 → Calls Try.prog 21 #[v'] w1 fun e w' => e = .returned (.tuple #[.int .i64 (widF g), .int .i64 0]) ∧ Below w1.heap.size w1 w') := fun w1 h => by
    have := C.widest w g v' w1 hv' h
    rwa [ok0, if_pos hg, hg] at this
  have WH : Hid (∀ W u, FmV W (.mk k emp 0 [] [f, g]) u → ∀ w1, Below W.heap.size W w1 → Calls Try.prog 21 #[u] w1 fun e w' => e = .returned (.tuple #[.int .i64 ((max (togL (freeF f ++ freeF g)).length (max (widF f) (widF g)) : Nat) : Int), .int .i64 0]) ∧ Below w1.heap.size w1 w') := fun W u h w1 hb => by
    have := C.widest W _ u w1 h hb
    rwa [ok0, if_pos hh, hh, join_wid, join_free k hk] at this
  have JN2 : Hid (∀ w1, Below w.heap.size w w1 → Calls Try.prog 17 #[.int .i64 k, v', v] w1 fun e w' => ∃ G : Nat, e = .returned (.agg #[.int .i64 k, .string emp, .int .i64 0, .slice none 0 0, .slice (some ⟨G, 0, none⟩) 2 2]) ∧ RdF w' (.mk k emp 0 [] [g, f]) (.int .i64 k) (.string emp) (.int .i64 0) (.slice none 0 0) (.slice (some ⟨G, 0, none⟩) 2 2) ∧ Below w1.heap.size w1 w') := fun w1 h => joined_at w g f k v' v w1 hk hv' hv h
  have rF := freeF_rise ((chk_iff nmB f).1 hf).2.2
  have rG := freeF_rise ((chk_iff nmB g).1 hg).2.2
  have lF := freeF_len f
  have lG := freeF_len g
  have UN : Hid (∀ ao bo c c' w, RdS w ao (freeF f).length c (freeF f) → RdS w bo (freeF g).length c' (freeF g) → Calls Try.prog 20 #[.slice ao (freeF f).length c, .slice bo (freeF g).length c'] w fun e w' => ∃ v, e = .returned (.tuple #[v, .int .i64 0]) ∧ w'.ownsRow w.heap.size 9 1 v (togL (freeF f ++ freeF g)).length (cellsS (togL (freeF f ++ freeF g))) ∧ Below w.heap.size w w') := fun ao bo c c' w h1 h2 =>
    punion_at ao bo _ c _ c' (freeF f) (freeF g) _ 0 w h1 h2 (short_names ((rise_iff _).1 rF).1) (short_names ((rise_iff _).1 rG).1) (.inr ⟨⟨rF, rG⟩, rfl, rfl⟩) (by have := ((chk_iff nmB f).1 hf).1; have := ((chk_iff nmB g).1 hg).1; omega)
  have SM : Hid (∀ ao ao' n c m c' (T : List ByteArray) w, RdS w ao n c T → RdS w ao' m c' T → Calls Try.prog 12 #[.slice ao n c, .slice ao' m c'] w fun e w' => e = .returned (.bool true) ∧ Below w.heap.size w w') := fun ao ao' n c m c' T w h k => lsame_at ao ao' n c m c' T T true w h k ⟨fun _ => rfl, fun _ => rfl⟩
  rw [hf] at CF
  rw [hg] at CG
  have hsf := ((chk_iff nmB f).1 hf).1
  have hsg := ((chk_iff nmB g).1 hg).1
  have hdf := ((chk_iff nmB f).1 hf).2.1
  have hdg := ((chk_iff nmB g).1 hg).2.1
  generalize freeF f = L1 at *
  generalize freeF g = L2 at *
  generalize togL (L1 ++ L2) = U at *
  have hw1 := ite_max (widF f) (widF g)
  generalize widF f = pw at *
  generalize widF g = qw at *
  generalize hM : max pw qw = M at *
  have hw2 := ite_max M U.length
  obtain ⟨Z, hZ⟩ : ∃ Z, max U.length M = Z := ⟨_, rfl⟩
  rw [hZ] at WH
  rw [Nat.max_comm M, hZ] at hw2
  obtain ⟨S, hS⟩ : ∃ S, f.size + g.size + 1 = S := ⟨_, rfl⟩
  rw [hS] at SH
  generalize f.size = m at *
  generalize g.size = n at *
  have hs1 : decide ((500 : Int) < (m : Int) + (n : Int) + 1) = false := decide_eq_false (by omega)
  have hite := ite_max f.deep g.deep
  generalize hD : max f.deep g.deep = D at *
  generalize f.deep = fd at *
  generalize g.deep = gd at *
  have hd1 : decide ((40 : Int) < (D : Int) + 1) = false := decide_eq_false (by omega)
  obtain ⟨X, hX⟩ : ∃ X, D + 1 = X := ⟨_, rfl⟩
  rw [hX] at DH
  have eX : ((X : Int) == (D : Int) + 1) = true := by simp; omega
  have eX2 : (X : Int) = max (fd : Int) (gd : Int) + 1 := by omega
  have eS : ((S : Int) == (m : Int) + (n : Int) + 1) = true := by simp; omega
  clear C hD hM hZ hX hS rF rG lF lG
  obtain ⟨c0, c1, c2, c3, c4, rfl, hr⟩ := hv
  obtain ⟨d0, d1, d2, d3, d4, rfl, hr'⟩ := hv'
  obtain ⟨t1, t2⟩ := two_boxes w #[c0, c1, c2, c3, c4] #[d0, d1, d2, d3, d4] 27 27
  have hb1 : Below w.heap.size w ((w.alloc (.cells #[c0, c1, c2, c3, c4] 27)).alloc (.cells #[d0, d1, d2, d3, d4] 27)) := bta (bta0 _ _) _
  have hs2 : ((w.alloc (.cells #[c0, c1, c2, c3, c4] 27)).alloc (.cells #[d0, d1, d2, d3, d4] 27)).heap.size = w.heap.size + 2 := by simp
  generalize hW2 : (w.alloc (.cells #[c0, c1, c2, c3, c4] 27)).alloc (.cells #[d0, d1, d2, d3, d4] 27) = W2 at t1 t2 hb1 hs2
  go_enter Try.func7, Try.ntmps7
  go_wp2_with (go_at_call 9; refine (FX.out _).mono ?_; rintro e w1 ⟨rfl, hB1⟩)
  clear hW2
  haveI : Nonempty (ClW W2) := ⟨⟨W2, Below.refl _ _⟩⟩
  have F1 : ∀ (n : ClW W2) o, n.w.cell? ⟨w.heap.size, o, none⟩ = #[c0, c1, c2, c3, c4][o]? := fun n => box_cells t1 (by omega) n.bel
  have F2 : ∀ (n : ClW W2) o, n.w.cell? ⟨w.heap.size + 1, o, none⟩ = #[d0, d1, d2, d3, d4][o]? := fun n => box_cells t2 (by omega) n.bel
  refine wp_region_cls (fun w' => ∃ n : ClW W2, w' = n.w) (by kernel_rfl) (by kernel_rfl) ⟨⟨w1.drew, hB1.drew⟩, rfl⟩ ?_
  first
    | go_big_quiet_step ((go_at_call 16; exact clw_call (fun w1 h => CF.out w1 (bt2 hb1 h)) _))
    | quiet_step ((go_at_call 16; exact clw_call (fun w1 h => CF.out w1 (bt2 hb1 h)) _))
  first
    | go_big_quiet_step ((go_at_call 16; exact clw_call (fun w1 h => CF.out w1 (bt2 hb1 h)) _))
    | quiet_step ((go_at_call 16; exact clw_call (fun w1 h => CF.out w1 (bt2 hb1 h)) _))
  first
    | go_big_quiet_step ((go_at_call 16; exact clw_call (fun w1 h => CG.out w1 (bt2 hb1 h)) _))
    | quiet_step ((go_at_call 16; exact clw_call (fun w1 h => CG.out w1 (bt2 hb1 h)) _))
  first
    | go_big_quiet_step ((go_at_call 16; exact clw_call (fun w1 h => CG.out w1 (bt2 hb1 h)) _))
    | quiet_step ((go_at_call 16; exact clw_call (fun w1 h => CG.out w1 (bt2 hb1 h)) _))
  first
    | go_big_quiet_step ((go_at_call 16; exact clw_call (fun w1 h => CG.out w1 (bt2 hb1 h)) _))
    | quiet_step ((go_at_call 16; exact clw_call (fun w1 h => CG.out w1 (bt2 hb1 h)) _))
  first
    | go_big_quiet_step ((go_at_call 16; exact clw_call (fun w1 h => CG.out w1 (bt2 hb1 h)) _))
    | quiet_step ((go_at_call 16; exact clw_call (fun w1 h => CG.out w1 (bt2 hb1 h)) _))
  refine wpQuiet_nil ?_
  intro _ hw'
  obtain ⟨n1, hw''⟩ := hw'
  subst hw''
  have hB2 := n1.bel
  clear F1 F2 hB1 CF CG FX
  generalize n1.w = w2 at *
  have x2 := box_cells t1 (by omega) hB2
  have y2 := box_cells t2 (by omega) hB2
  go_wp2_with (fail)
  refine (JN.out _ (bt2 hb1 hB2)).mono ?_
  rintro e w3 ⟨G, rfl, hrh, hB3⟩
  have hB4 : Below W2.heap.size W2 (w3.alloc (.cells #[.int .i64 k, .string emp, .int .i64 0, .slice none 0 0, .slice (some ⟨G, 0, none⟩) 2 2] 27)) := bta (bt2 hB2 hB3) _
  have hbox : ∀ o', (w3.alloc (.cells #[.int .i64 k, .string emp, .int .i64 0, .slice none 0 0, .slice (some ⟨G, 0, none⟩) 2 2] 27)).cell? ⟨w3.heap.size, o', none⟩ = #[.int .i64 k, .string emp, .int .i64 0, .slice none 0 0, .slice (some ⟨G, 0, none⟩) 2 2][o']? := fun o' => cell_newO _ _ _ _ rfl o'
  have hvh : FmV (w3.alloc (.cells #[.int .i64 k, .string emp, .int .i64 0, .slice none 0 0, .slice (some ⟨G, 0, none⟩) 2 2] 27)) (.mk k emp 0 [] [f, g]) (.agg #[.int .i64 k, .string emp, .int .i64 0, .slice none 0 0, .slice (some ⟨G, 0, none⟩) 2 2]) := ⟨_, _, _, _, _, rfl, hrh.keep (bta0 _ _)⟩
  have hs4 : (w3.alloc (.cells #[.int .i64 k, .string emp, .int .i64 0, .slice none 0 0, .slice (some ⟨G, 0, none⟩) 2 2] 27)).heap.size = w3.heap.size + 1 := by simp
  have h23 : W2.heap.size ≤ w3.heap.size := (bt2 hB2 hB3).size
  generalize hW4 : w3.alloc (.cells #[.int .i64 k, .string emp, .int .i64 0, .slice none 0 0, .slice (some ⟨G, 0, none⟩) 2 2] 27) = W4 at hB4 hbox hvh hs4
  have x4 := box_cells t1 (by omega) hB4
  have y4 := box_cells t2 (by omega) hB4
  have hb4 := bt2 hb1 hB4
  clear hrh
  go_wp2_with (fail)
  refine (SF.out _ hb4).mono ?_
  rintro e w5 ⟨rfl, hB5⟩
  have hA5 : Below W4.heap.size W4 w5 := hB5
  have x5 := box_cells x4 (by omega) hA5
  have y5 := box_cells y4 (by omega) hA5
  have z5 := box_cells hbox (by omega) hA5
  clear hW4
  go_wp2_with (fail)
  refine (SG.out _ (bt2 hb4 hA5)).mono ?_
  rintro e w6 ⟨rfl, hB6⟩
  have hA6 : Below W4.heap.size W4 w6 := bt2 hA5 hB6
  have x6 := box_cells x4 (by omega) hA6
  have y6 := box_cells y4 (by omega) hA6
  have z6 := box_cells hbox (by omega) hA6
  go_wp2_with (fail)
  refine (SH.out W4 _ hvh _ hA6).mono ?_
  rintro e w7 ⟨rfl, hB7⟩
  have hA7 : Below W4.heap.size W4 w7 := bt2 hA6 hB7
  have x7 := box_cells x4 (by omega) hA7
  have y7 := box_cells y4 (by omega) hA7
  have z7 := box_cells hbox (by omega) hA7
  go_wp2_with (fail)
  refine (DF.out _ (bt2 hb4 hA7)).mono ?_
  rintro e w8 ⟨rfl, hB8⟩
  have hA8 : Below W4.heap.size W4 w8 := bt2 hA7 hB8
  have x8 := box_cells x4 (by omega) hA8
  have y8 := box_cells y4 (by omega) hA8
  have z8 := box_cells hbox (by omega) hA8
  go_wp2_with (fail)
  refine (DG.out _ (bt2 hb4 hA8)).mono ?_
  rintro e w9 ⟨rfl, hB9⟩
  have hA9 : Below W4.heap.size W4 w9 := bt2 hA8 hB9
  have x9 := box_cells x4 (by omega) hA9
  have y9 := box_cells y4 (by omega) hA9
  have z9 := box_cells hbox (by omega) hA9
  go_wp2_with (fail)
  refine (DH.out W4 _ hvh _ hA9).mono ?_
  rintro e wa ⟨rfl, hBa⟩
  have hAa : Below W4.heap.size W4 wa := bt2 hA9 hBa
  have xa := box_cells x4 (by omega) hAa
  have ya := box_cells y4 (by omega) hAa
  have za := box_cells hbox (by omega) hAa
  go_wp2_with (fail)
  refine (FF.out _ (bt2 hb4 hAa)).mono ?_
  rintro e wb ⟨vb, rfl, hOb, hBb⟩
  have hAb : Below W4.heap.size W4 wb := bt2 hAa hBb
  have xb := box_cells x4 (by omega) hAb
  have yb := box_cells y4 (by omega) hAb
  have zb := box_cells hbox (by omega) hAb
  obtain ⟨ab, rb, rfl, hRb⟩ := rds_of_owns hOb
  go_wp2_with (fail)
  refine (FG.out _ (bt2 hb4 hAb)).mono ?_
  rintro e wc ⟨vc, rfl, hOc, hBc⟩
  have hAc : Below W4.heap.size W4 wc := bt2 hAb hBc
  have xc := box_cells x4 (by omega) hAc
  have yc := box_cells y4 (by omega) hAc
  have zc := box_cells hbox (by omega) hAc
  obtain ⟨ac, rc, rfl, hRc⟩ := rds_of_owns hOc
  go_wp2_with (fail)
  refine (FH.out W4 _ hvh _ hAc).mono ?_
  rintro e wd ⟨vd, rfl, hOd, hBd⟩
  have hAd : Below W4.heap.size W4 wd := bt2 hAc hBd
  have xd := box_cells x4 (by omega) hAd
  have yd := box_cells y4 (by omega) hAd
  have zd := box_cells hbox (by omega) hAd
  obtain ⟨ad, rd, rfl, hRd⟩ := rds_of_owns hOd
  go_wp2_with (fail)
  refine (UN.out _ _ _ _ _ (hRb.below (Nat.le_refl _) (bt2 hBc hBd)) (hRc.below (Nat.le_refl _) hBd)).mono ?_
  rintro e we ⟨ve, rfl, hOe, hBe⟩
  have hAe : Below W4.heap.size W4 we := bt2 hAd hBe
  have xe := box_cells x4 (by omega) hAe
  have ye := box_cells y4 (by omega) hAe
  have ze := box_cells hbox (by omega) hAe
  obtain ⟨ae, re, rfl, hRe⟩ := rds_of_owns hOe
  go_wp2_with (fail)
  refine (JN2.out _ (bt2 hb4 hAe)).mono ?_
  rintro e wf ⟨G2, rfl, hrj, hBf⟩
  have hAf : Below W4.heap.size W4 wf := bt2 hAe hBf
  have xf := box_cells x4 (by omega) hAf
  have yf := box_cells y4 (by omega) hAf
  have zf := box_cells hbox (by omega) hAf
  go_wp2_with (fail)
  refine (FH2.out wf _ ⟨_, _, _, _, _, rfl, hrj⟩ _ (Below.refl _ _)).mono ?_
  rintro e wg ⟨vg, rfl, hOg, hBg⟩
  have hAg : Below W4.heap.size W4 wg := bt2 hAf hBg
  have xg := box_cells x4 (by omega) hAg
  have yg := box_cells y4 (by omega) hAg
  have zg := box_cells hbox (by omega) hAg
  obtain ⟨ag, rg, rfl, hRg⟩ := rds_of_owns hOg
  go_wp2_with (fail)
  refine (WF.out _ (bt2 hb4 hAg)).mono ?_
  rintro e wh ⟨rfl, hBh⟩
  have hAh : Below W4.heap.size W4 wh := bt2 hAg hBh
  have xh := box_cells x4 (by omega) hAh
  have yh := box_cells y4 (by omega) hAh
  have zh := box_cells hbox (by omega) hAh
  go_wp2_with (fail)
  refine (WG.out _ (bt2 hb4 hAh)).mono ?_
  rintro e wi ⟨rfl, hBi⟩
  have hAi : Below W4.heap.size W4 wi := bt2 hAh hBi
  have xi := box_cells x4 (by omega) hAi
  have yi := box_cells y4 (by omega) hAi
  have zi := box_cells hbox (by omega) hAi
  go_wp2_with (fail)
  refine (WH.out W4 _ hvh _ hAi).mono ?_
  rintro e wj ⟨rfl, hBj⟩
  have hAj : Below W4.heap.size W4 wj := bt2 hAi hBj
  have xj := box_cells x4 (by omega) hAj
  have yj := box_cells y4 (by omega) hAj
  have zj := box_cells hbox (by omega) hAj
  have hRe' := hRe.below (Nat.le_refl _) (bt2 (bt2 (bt2 (bt2 hBf hBg) hBh) hBi) hBj)
  have hRd' := hRd.below (Nat.le_refl _) (bt2 (bt2 (bt2 (bt2 (bt2 hBe hBf) hBg) hBh) hBi) hBj)
  have hRg' := hRg.below (Nat.le_refl _) (bt2 (bt2 hBh hBi) hBj)
  go_wp2_with (fail)
  refine (SM.out _ _ _ _ _ _ U _ hRd' hRe').mono ?_
  rintro e wk ⟨rfl, hBk⟩
  have hAk : Below W4.heap.size W4 wk := bt2 hAj hBk
  have xk := box_cells x4 (by omega) hAk
  have yk := box_cells y4 (by omega) hAk
  have zk := box_cells hbox (by omega) hAk
  go_wp2_with (fail)
  refine (SM.out _ _ _ _ _ _ U _ (hRg'.below (Nat.le_refl _) hBk) (hRe'.below (Nat.le_refl _) hBk)).mono ?_
  rintro e wl ⟨rfl, hBl⟩
  have hAl : Below W4.heap.size W4 wl := bt2 hAk hBl
  have xl := box_cells x4 (by omega) hAl
  have yl := box_cells y4 (by omega) hAl
  have zl := box_cells hbox (by omega) hAl
  go_wp2
  all_goals first | exact absurd eX2 ‹_› | (go_ret; exact ⟨rfl, bt2 hb4 hAl⟩)
theorem joins_walk6 (C : TreeC) (f g : Fm) (v v' : Value) (z : Int) (w : World) (hv : FmV w f v) (hv' : FmV w g v') : Calls Try.prog 7 #[v, v', .int .i64 z] w fun e w' => e = .returned (.bool true) ∧ Below w.heap.size w w' := by
  obtain ⟨k, hke⟩ : ∃ k, wrap64 (3 + wrap64 ((IntKind.u64.wrap z).tmod 4)) = k := ⟨_, rfl⟩
  have hk : 3 ≤ k ∧ k ≤ 6 := by rw [← hke]; exact op_k z
  have hiff := join_right k hk f g
  by_cases hf : chk nmB f = 0
  · by_cases hg : chk nmB g = 0
    · by_cases hs : f.size + g.size + 1 ≤ 500
      · by_cases hd : max f.deep g.deep + 1 ≤ 40
        · exact joins_b3 C f g v v' z k w hv hv' hk hke hf hg (hiff.2 ⟨⟨hf, hg⟩, hs, hd⟩) ((join_right k hk g f).2 ⟨⟨hg, hf⟩, by omega, by omega⟩) hs hd
        · exact joins_b2 C f g v v' z k w hv hv' hk hke hf hg (join_errdeep k hk f g hf hg hs hd) hs (by omega)
      · exact joins_b1 C f g v v' z k w hv hv' hk hke hf hg (fun e => hs (hiff.1 e).2.1) (by omega)
    · exact joins_a2 C f g v v' z k w hv hv' hk hke hf hg (fun e => hg (hiff.1 e).1.2)
  · exact joins_a1 C f g v v' z k w hv hv' hk hke hf (fun e => hf (hiff.1 e).1.1)
end Go.Proofs.Ytiihabecncnbcaa.Gl
