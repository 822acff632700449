/- NormChecks: the walk. -/
import Derived.Test.YtiapkblebbcfbaaNmOy
import Derived.Test.YtiapkblebbcfbaaNmOw
import Derived.Test.YtiapkblebbcfbaaNmU
import Derived.Test.YtiapkblebbcfbaaNmZ
namespace Go.Proofs.Ytiapkblebbcfbaa.Gl
open Go.RowKit
set_option linter.unusedVariables false
set_option linter.unusedSimpArgs false

theorem emp_keep {v : Value} {y z : World} {t : TypeId} (h : ∃ p, v = .slice (some ⟨p, 0, none⟩) 0 0 ∧ y.heap[p]? = some (.cells #[] t (0, 0))) (hb : Below y.heap.size y z) : ∃ p, v = .slice (some ⟨p, 0, none⟩) 0 0 ∧ z.heap[p]? = some (.cells #[] t (0, 0)) := by
  obtain ⟨p, e, hp⟩ := h
  exact ⟨p, e, (hb.block p (Array.getElem?_eq_some_iff.1 hp).1).trans hp⟩
set_option maxRecDepth 100000 in
set_option maxHeartbeats 8000000 in
theorem checks_walk (N : Nr) (v : Value) (w : World) (hv : NrV w N v) (hw : ∀ kd bd md no co l c o e, v = nrV kd bd md no co l c o e → l * 16 ≤ 140737488351232 ∧ o * 8 ≤ 140737488351232) :
    Calls Try.prog 3 #[v] w fun e w' => e = .returned (.bool true) ∧ Below w.heap.size w w' := by
  obtain ⟨no, co, n, c, m, d, rfl, h, hkd, hmd, -, -, -, -⟩ := hv
  obtain ⟨hnm, hmm⟩ := hw _ _ _ _ _ _ _ _ _ rfl
  clear hw
  have hB1 := bal w (.cells (nrA N.kd N.bd N.md no co n c m d) 26)
  have hR1 := rb_new w (nrA N.kd N.bd N.md no co n c m d) 26
  have FX := mkHid nfixed_at
  obtain ⟨r, hr⟩ := bool_of (nrOk N)
  have RG : Hid (∀ w', Below w.heap.size w w' → Calls Try.prog 8 #[nrV N.kd N.bd N.md no co n c m d] w' fun e w'' => e = .returned (.bool r) ∧ Below w'.heap.size w' w'') := fun w' hb => right_at N no co n c m d r w' (h.below hb) hmm hkd hmd hr
  go_enter Try.func3, Try.ntmps3
  go_wp2_with (fail)
  have hw1 : w.heap.size + 1 ≤ (w.alloc (.cells (nrA N.kd N.bd N.md no co n c m d) 26)).heap.size := by simp
  generalize w.alloc (.cells (nrA N.kd N.bd N.md no co n c m d) 26) = w1 at hB1 hR1 hw1 ⊢
  have KD : ∀ y : World, Below w1.drew.heap.size w1.drew y → Rb y w.heap.size (nrA N.kd N.bd N.md no co n c m d) 26 := fun y hy => (hR1.keep (Below.refl _ _).drew).keep hy
  have L0 : ∀ y : World, Below w1.drew.heap.size w1.drew y → y.cell? ⟨w.heap.size, 0, none⟩ = some (.int .i64 N.kd) := fun y hy => (txcell (KD y hy) 0 _ rfl).1
  have L1 : ∀ y : World, Below w1.drew.heap.size w1.drew y → y.cell? ⟨w.heap.size, 1, none⟩ = some (.slice no n c) := fun y hy => (txcell (KD y hy) 1 _ rfl).1
  have L2 : ∀ y : World, Below w1.drew.heap.size w1.drew y → y.cell? ⟨w.heap.size, 2, none⟩ = some (.slice co m d) := fun y hy => (txcell (KD y hy) 2 _ rfl).1
  have L3 : ∀ y : World, Below w1.drew.heap.size w1.drew y → y.cell? ⟨w.heap.size, 3, none⟩ = some (.int .i64 N.bd) := fun y hy => (txcell (KD y hy) 3 _ rfl).1
  have L4 : ∀ y : World, Below w1.drew.heap.size w1.drew y → y.cell? ⟨w.heap.size, 4, none⟩ = some (.int .i64 N.md) := fun y hy => (txcell (KD y hy) 4 _ rfl).1
  have hB1d := hB1.drew
  have hNS : ∀ y : World, Below w1.drew.heap.size w1.drew y → RdS y no n c N.ns := fun y hy => h.ns.below (Nat.le_refl _) (bt2 hB1d hy)
  have hCS : ∀ y : World, Below w1.drew.heap.size w1.drew y → RdZ y co m d N.cs := fun y hy => h.cs.below (Nat.le_refl _) (bt2 hB1d hy)
  have hrr : ∀ y : World, Below y.heap.size y y := fun y => Below.refl _ _
  refine wp_region_lastL (GS [(6, .pointer (some ⟨w.heap.size, 0, none⟩)), (7, .int .i64 N.kd), (9, .pointer (some ⟨w.heap.size, 1, none⟩)), (10, .slice no n c), (13, .pointer (some ⟨w.heap.size, 2, none⟩)), (14, .slice co m d), (16, .pointer (some ⟨w.heap.size, 3, none⟩)), (17, .int .i64 N.bd), (18, .pointer (some ⟨w.heap.size, 4, none⟩)), (19, .int .i64 N.md)] [(8, fun v y => ∃ p, v = .slice (some ⟨p, 0, none⟩) 0 0 ∧ y.heap[p]? = some (.cells #[] 9 (0, 0))), (12, fun v y => ∃ p, v = .slice (some ⟨p, 0, none⟩) 0 0 ∧ y.heap[p]? = some (.cells #[] 2 (0, 0))), (11, fun v y => ∃ a' c', v = .slice a' n c' ∧ RdS y a' n c' N.ns ∧ Bk y a' 9), (15, fun v y => ∃ a' c', v = .slice a' m c' ∧ RdZ y a' m c' N.cs ∧ Bk y a' 2), (20, fun v y => ∃ a1 c1 a2 c2, v = nrV N.kd N.bd N.md a1 a2 n c1 m c2 ∧ RdS y a1 n c1 N.ns ∧ Bk y a1 9 ∧ RdZ y a2 m c2 N.cs ∧ Bk y a2 2), (3, fun v y => ∃ p, v = .pointer (some ⟨p, 0, none⟩) ∧ w1.heap.size ≤ p ∧ Rb y p zN 26)]) (fun x y => Below x.heap.size x y) [6, 7, 8, 9, 10, 11, 12, 13, 14, 15, 16, 17, 18, 19, 20, 3] 16 (by kernel_rfl) (by kernel_rfl) hrr (fun x y z h k => bt2 h k) (by kernel_rfl) (by kernel_rfl) ?_ ?_ ?_
  · refine gs_keep ?_
    intro q hq v y z hP hb
    simp only [List.mem_cons, List.not_mem_nil, or_false] at hq
    rcases hq with rfl | rfl | rfl | rfl | rfl | rfl
    · exact emp_keep hP hb
    · exact emp_keep hP hb
    · obtain ⟨a, c', e, h1, h2⟩ := hP
      exact ⟨a, c', e, h1.below (Nat.le_refl _) hb, h2.below hb⟩
    · obtain ⟨a, c', e, h1, h2⟩ := hP
      exact ⟨a, c', e, h1.below (Nat.le_refl _) hb, h2.below hb⟩
    · obtain ⟨a1, c1, a2, c2, e, h1, h2, h3, h4⟩ := hP
      exact ⟨a1, c1, a2, c2, e, h1.below (Nat.le_refl _) hb, h2.below hb, h3.below (Nat.le_refl _) hb, h4.below hb⟩
    · obtain ⟨p, e, hp, hR⟩ := hP
      exact ⟨p, e, hp, hR.keep hb⟩
  · intro k o hk ho
    have hk' : k < 16 := hk
    rcases (show k = 0 ∨ k = 1 ∨ k = 2 ∨ k = 3 ∨ k = 4 ∨ k = 5 ∨ k = 6 ∨ k = 7 ∨ k = 8 ∨ k = 9 ∨ k = 10 ∨ k = 11 ∨ k = 12 ∨ k = 13 ∨ k = 14 ∨ k = 15 by omega) with rfl | rfl | rfl | rfl | rfl | rfl | rfl | rfl | rfl | rfl | rfl | rfl | rfl | rfl | rfl | rfl
    · have ho' : some _ = some o := ho
      cases ho'
      refine rlstep_of fun a w6 hold hdep hrel K hK => ?_
      have e1 := (hold 1 (by decide)).trans (show _ = some (.pointer (some ⟨w.heap.size, 0, none⟩)) from rfl)
      have h1 := eval_tmp9 e1
      unfold Oper.wp
      simp only [execOp, h1]
      go_simp
      exact hK _ _ (fun d hd => by cases (show some 6 = some d from hd); exact rfl) (hrr _)
    · have ho' : some _ = some o := ho
      cases ho'
      refine rlstep_of fun a w6 hold hdep hrel K hK => ?_
      obtain ⟨u6, e6, g6⟩ := hdep _ (Array.mem_of_getElem? (i := 0) rfl) _ _ rfl rfl rfl
      obtain rfl : u6 = .pointer (some ⟨w.heap.size, 0, none⟩) := g6
      have h6 := eval_tmp9 e6
      unfold Oper.wp
      simp only [execOp, h6]
      have hf := L0 w6 hrel
      go_simp
      exact hK _ _ (fun d hd => by cases (show some 7 = some d from hd); exact rfl) (hrr _)
    · have ho' : some _ = some o := ho
      cases ho'
      refine rlstep_of fun a w6 hold hdep hrel K hK => ?_
      unfold Oper.wp
      simp only [execOp]
      go_simp
      exact hK _ _ (fun d hd => by cases (show some 8 = some d from hd); exact ⟨w6.heap.size, rfl, rb_new w6 _ _⟩) (bal w6 _)
    · have ho' : some _ = some o := ho
      cases ho'
      refine rlstep_of fun a w6 hold hdep hrel K hK => ?_
      have e1 := (hold 1 (by decide)).trans (show _ = some (.pointer (some ⟨w.heap.size, 0, none⟩)) from rfl)
      have h1 := eval_tmp9 e1
      unfold Oper.wp
      simp only [execOp, h1]
      go_simp
      exact hK _ _ (fun d hd => by cases (show some 9 = some d from hd); exact rfl) (hrr _)
    · have ho' : some _ = some o := ho
      cases ho'
      refine rlstep_of fun a w6 hold hdep hrel K hK => ?_
      obtain ⟨u9, e9, g9⟩ := hdep _ (Array.mem_of_getElem? (i := 0) rfl) _ _ rfl rfl rfl
      obtain rfl : u9 = .pointer (some ⟨w.heap.size, 1, none⟩) := g9
      have h9 := eval_tmp9 e9
      unfold Oper.wp
      simp only [execOp, h9]
      have hf := L1 w6 hrel
      go_simp
      exact hK _ _ (fun d hd => by cases (show some 10 = some d from hd); exact rfl) (hrr _)
    · have ho' : some _ = some o := ho
      cases ho'
      refine rlstep_of fun a w6 hold hdep hrel K hK => ?_
      obtain ⟨u8, e8, g8⟩ := hdep _ (Array.mem_of_getElem? (i := 0) rfl) _ _ rfl rfl rfl
      obtain ⟨p8, rfl, b8⟩ := (show ∃ p, u8 = .slice (some ⟨p, 0, none⟩) 0 0 ∧ w6.heap[p]? = some (.cells #[] 9 (0, 0)) from g8)
      have h8 := eval_tmp9 e8
      obtain ⟨u10, e10, g10⟩ := hdep _ (Array.mem_of_getElem? (i := 1) rfl) _ _ rfl rfl rfl
      obtain rfl : u10 = .slice no n c := g10
      have h10 := eval_tmp9 e10
      refine op_copyS w6 p8 (.tmp 8) (.tmp 10) rfl h8 b8 no n c N.ns h10 (hNS w6 hrel) hnm ?_
      intro a' c' w7 hR7 hK7 hB7
      exact hK _ _ (fun d hd => by cases (show some 11 = some d from hd); exact ⟨a', c', rfl, hR7, hK7⟩) hB7
    · have ho' : some _ = some o := ho
      cases ho'
      refine rlstep_of fun a w6 hold hdep hrel K hK => ?_
      unfold Oper.wp
      simp only [execOp]
      go_simp
      exact hK _ _ (fun d hd => by cases (show some 12 = some d from hd); exact ⟨w6.heap.size, rfl, rb_new w6 _ _⟩) (bal w6 _)
    · have ho' : some _ = some o := ho
      cases ho'
      refine rlstep_of fun a w6 hold hdep hrel K hK => ?_
      have e1 := (hold 1 (by decide)).trans (show _ = some (.pointer (some ⟨w.heap.size, 0, none⟩)) from rfl)
      have h1 := eval_tmp9 e1
      unfold Oper.wp
      simp only [execOp, h1]
      go_simp
      exact hK _ _ (fun d hd => by cases (show some 13 = some d from hd); exact rfl) (hrr _)
    · have ho' : some _ = some o := ho
      cases ho'
      refine rlstep_of fun a w6 hold hdep hrel K hK => ?_
      obtain ⟨u13, e13, g13⟩ := hdep _ (Array.mem_of_getElem? (i := 0) rfl) _ _ rfl rfl rfl
      obtain rfl : u13 = .pointer (some ⟨w.heap.size, 2, none⟩) := g13
      have h13 := eval_tmp9 e13
      unfold Oper.wp
      simp only [execOp, h13]
      have hf := L2 w6 hrel
      go_simp
      exact hK _ _ (fun d hd => by cases (show some 14 = some d from hd); exact rfl) (hrr _)
    · have ho' : some _ = some o := ho
      cases ho'
      refine rlstep_of fun a w6 hold hdep hrel K hK => ?_
      obtain ⟨u12, e12, g12⟩ := hdep _ (Array.mem_of_getElem? (i := 0) rfl) _ _ rfl rfl rfl
      obtain ⟨p12, rfl, b12⟩ := (show ∃ p, u12 = .slice (some ⟨p, 0, none⟩) 0 0 ∧ w6.heap[p]? = some (.cells #[] 2 (0, 0)) from g12)
      have h12 := eval_tmp9 e12
      obtain ⟨u14, e14, g14⟩ := hdep _ (Array.mem_of_getElem? (i := 1) rfl) _ _ rfl rfl rfl
      obtain rfl : u14 = .slice co m d := g14
      have h14 := eval_tmp9 e14
      refine op_copyZ w6 p12 (.tmp 12) (.tmp 14) rfl h12 b12 co m d N.cs h14 (hCS w6 hrel) hmm ?_
      intro a' c' w7 hR7 hK7 hB7
      exact hK _ _ (fun d hd => by cases (show some 15 = some d from hd); exact ⟨a', c', rfl, hR7, hK7⟩) hB7
    · have ho' : some _ = some o := ho
      cases ho'
      refine rlstep_of fun a w6 hold hdep hrel K hK => ?_
      have e1 := (hold 1 (by decide)).trans (show _ = some (.pointer (some ⟨w.heap.size, 0, none⟩)) from rfl)
      have h1 := eval_tmp9 e1
      unfold Oper.wp
      simp only [execOp, h1]
      go_simp
      exact hK _ _ (fun d hd => by cases (show some 16 = some d from hd); exact rfl) (hrr _)
    · have ho' : some _ = some o := ho
      cases ho'
      refine rlstep_of fun a w6 hold hdep hrel K hK => ?_
      obtain ⟨u16, e16, g16⟩ := hdep _ (Array.mem_of_getElem? (i := 0) rfl) _ _ rfl rfl rfl
      obtain rfl : u16 = .pointer (some ⟨w.heap.size, 3, none⟩) := g16
      have h16 := eval_tmp9 e16
      unfold Oper.wp
      simp only [execOp, h16]
      have hf := L3 w6 hrel
      go_simp
      exact hK _ _ (fun d hd => by cases (show some 17 = some d from hd); exact rfl) (hrr _)
    · have ho' : some _ = some o := ho
      cases ho'
      refine rlstep_of fun a w6 hold hdep hrel K hK => ?_
      have e1 := (hold 1 (by decide)).trans (show _ = some (.pointer (some ⟨w.heap.size, 0, none⟩)) from rfl)
      have h1 := eval_tmp9 e1
      unfold Oper.wp
      simp only [execOp, h1]
      go_simp
      exact hK _ _ (fun d hd => by cases (show some 18 = some d from hd); exact rfl) (hrr _)
    · have ho' : some _ = some o := ho
      cases ho'
      refine rlstep_of fun a w6 hold hdep hrel K hK => ?_
      obtain ⟨u18, e18, g18⟩ := hdep _ (Array.mem_of_getElem? (i := 0) rfl) _ _ rfl rfl rfl
      obtain rfl : u18 = .pointer (some ⟨w.heap.size, 4, none⟩) := g18
      have h18 := eval_tmp9 e18
      unfold Oper.wp
      simp only [execOp, h18]
      have hf := L4 w6 hrel
      go_simp
      exact hK _ _ (fun d hd => by cases (show some 19 = some d from hd); exact rfl) (hrr _)
    · have ho' : some _ = some o := ho
      cases ho'
      refine rlstep_of fun a w6 hold hdep hrel K hK => ?_
      obtain ⟨u7, e7, g7⟩ := hdep _ (Array.mem_of_getElem? (i := 0) rfl) _ _ rfl rfl rfl
      obtain rfl : u7 = .int .i64 N.kd := g7
      have h7 := eval_tmp9 e7
      obtain ⟨u11, e11, g11⟩ := hdep _ (Array.mem_of_getElem? (i := 1) rfl) _ _ rfl rfl rfl
      obtain ⟨a11, c11, rfl, R11, K11⟩ := (show ∃ a' c', u11 = .slice a' n c' ∧ RdS w6 a' n c' N.ns ∧ Bk w6 a' 9 from g11)
      have h11 := eval_tmp9 e11
      obtain ⟨u15, e15, g15⟩ := hdep _ (Array.mem_of_getElem? (i := 2) rfl) _ _ rfl rfl rfl
      obtain ⟨a15, c15, rfl, R15, K15⟩ := (show ∃ a' c', u15 = .slice a' m c' ∧ RdZ w6 a' m c' N.cs ∧ Bk w6 a' 2 from g15)
      have h15 := eval_tmp9 e15
      obtain ⟨u17, e17, g17⟩ := hdep _ (Array.mem_of_getElem? (i := 3) rfl) _ _ rfl rfl rfl
      obtain rfl : u17 = .int .i64 N.bd := g17
      have h17 := eval_tmp9 e17
      obtain ⟨u19, e19, g19⟩ := hdep _ (Array.mem_of_getElem? (i := 4) rfl) _ _ rfl rfl rfl
      obtain rfl : u19 = .int .i64 N.md := g19
      have h19 := eval_tmp9 e19
      unfold Oper.wp
      simp only [execOp, h7, h11, h15, h17, h19]
      go_simp
      exact hK _ _ (fun d hd => by cases (show some 20 = some d from hd); exact ⟨a11, c11, a15, c15, rfl, R11, K11, R15, K15⟩) (hrr _)
    · have ho' : some _ = some o := ho
      cases ho'
      refine rlstep_of fun a w6 hold hdep hrel K hK => ?_
      unfold Oper.wp
      simp only [execOp]
      go_simp
      exact hK _ _ (fun d hd => by cases (show some 3 = some d from hd); exact ⟨w6.heap.size, rfl, hrel.size, rb_new w6 zN _⟩) (bal w6 _)
  · intro vs w6 o' ho' hrel hG
    have v6 : vs 6 = .pointer (some ⟨w.heap.size, 0, none⟩) := hG 6 (by decide)
    have v7 : vs 7 = .int .i64 N.kd := hG 7 (by decide)
    have v9 : vs 9 = .pointer (some ⟨w.heap.size, 1, none⟩) := hG 9 (by decide)
    have v10 : vs 10 = .slice no n c := hG 10 (by decide)
    have v13 : vs 13 = .pointer (some ⟨w.heap.size, 2, none⟩) := hG 13 (by decide)
    have v14 : vs 14 = .slice co m d := hG 14 (by decide)
    have v16 : vs 16 = .pointer (some ⟨w.heap.size, 3, none⟩) := hG 16 (by decide)
    have v17 : vs 17 = .int .i64 N.bd := hG 17 (by decide)
    have v18 : vs 18 = .pointer (some ⟨w.heap.size, 4, none⟩) := hG 18 (by decide)
    have v19 : vs 19 = .int .i64 N.md := hG 19 (by decide)
    obtain ⟨p, v3, hpl, hRp⟩ : ∃ p, vs 3 = .pointer (some ⟨p, 0, none⟩) ∧ w1.heap.size ≤ p ∧ Rb w6 p zN 26 := hG 3 (by decide)
    obtain ⟨a1, c1, a2, c2, v20, hN6, hK6, hZ6, hL6⟩ : ∃ a1 c1 a2 c2, vs 20 = nrV N.kd N.bd N.md a1 a2 n c1 m c2 ∧ RdS w6 a1 n c1 N.ns ∧ Bk w6 a1 9 ∧ RdZ w6 a2 m c2 N.cs ∧ Bk w6 a2 2 := hG 20 (by decide)
    obtain ⟨x8, v8⟩ : ∃ x, vs 8 = x := ⟨_, rfl⟩
    obtain ⟨x11, v11⟩ : ∃ x, vs 11 = x := ⟨_, rfl⟩
    obtain ⟨x12, v12⟩ : ∃ x, vs 12 = x := ⟨_, rfl⟩
    obtain ⟨x15, v15⟩ : ∃ x, vs 15 = x := ⟨_, rfl⟩
    have ho'' : some _ = some o' := ho'
    cases ho''
    have hne1 := hK6.ne hRp (by decide)
    have hne2 := hL6.ne hRp (by decide)
    have hR6 := KD w6 hrel
    have hB6 := bt2 hB1d hrel
    have z0 : w6.cell? ⟨p, 0, none⟩ = some (.int .i64 0) ∧ w6.frozen? ⟨p, 0, none⟩ = false := txcell (vs := zN) hRp 0 _ rfl
    have z1 : w6.cell? ⟨p, 1, none⟩ = some (.slice none 0 0) ∧ w6.frozen? ⟨p, 1, none⟩ = false := txcell (vs := zN) hRp 1 _ rfl
    have z2 : w6.cell? ⟨p, 2, none⟩ = some (.slice none 0 0) ∧ w6.frozen? ⟨p, 2, none⟩ = false := txcell (vs := zN) hRp 2 _ rfl
    have z3 : w6.cell? ⟨p, 3, none⟩ = some (.int .i64 0) ∧ w6.frozen? ⟨p, 3, none⟩ = false := txcell (vs := zN) hRp 3 _ rfl
    have z4 : w6.cell? ⟨p, 4, none⟩ = some (.int .i64 0) ∧ w6.frozen? ⟨p, 4, none⟩ = false := txcell (vs := zN) hRp 4 _ rfl
    have hRn := rb_five hRp rfl (.int .i64 N.kd) (.slice a1 n c1) (.slice a2 m c2) (.int .i64 N.bd) (.int .i64 N.md)
    have hBn := bel_st5n (B := p) hB6 (by omega) (.int .i64 N.kd) (.slice a1 n c1) (.slice a2 m c2) (.int .i64 N.bd) (.int .i64 N.md)
    have hNn : RdS (st5 w6 p (.int .i64 N.kd) (.slice a1 n c1) (.slice a2 m c2) (.int .i64 N.bd) (.int .i64 N.md)) a1 n c1 N.ns := rds_other (rds_other (rds_st3 hN6 hne1 _ _ _) hne1 _ _) hne1 _ _
    have hZn : RdZ (st5 w6 p (.int .i64 N.kd) (.slice a1 n c1) (.slice a2 m c2) (.int .i64 N.bd) (.int .i64 N.md)) a2 m c2 N.cs := rdz_other (rdz_other (rdz_st3 hZ6 hne2 _ _ _) hne2 _ _) hne2 _ _
    have hRo := hR6.st5 (show w.heap.size ≠ p by omega) (.int .i64 N.kd) (.slice a1 n c1) (.slice a2 m c2) (.int .i64 N.bd) (.int .i64 N.md)
    simp only [putR, v6, v7, v8, v9, v10, v11, v12, v13, v14, v15, v16, v17, v18, v19, v20, v3]
    clear v6 v7 v8 v9 v10 v11 v12 v13 v14 v15 v16 v17 v18 v19 v20 v3 hG hrel L0 L1 L2 L3 L4 KD hNS hCS hN6 hK6 hZ6 hL6 hne1 hne2 hR6 hB6 hR1 hB1 hB1d
    unfold Oper.wp
    simp only [execOp]
    go_simp
    clear z0 z1 z2 z3 z4 hRp
    dsimp only [st5, st4] at hRn hBn hNn hZn hRo
    generalize (((((w6.setCell ⟨p, 0, none⟩ (.int .i64 N.kd)).setCell ⟨p, 1, none⟩ (.slice a1 n c1)).setCell ⟨p, 2, none⟩ (.slice a2 m c2)).setCell ⟨p, 3, none⟩ (.int .i64 N.bd)).setCell ⟨p, 4, none⟩ (.int .i64 N.md)) = w7 at hRn hBn hNn hZn hRo ⊢
    have NM : ∀ y : World, Below w7.heap.size w7 y → NrM y N a1 a2 n c1 m c2 := fun y hb => ⟨hNn.below (Nat.le_refl _) hb, hZn.below (Nat.le_refl _) hb, h.short, h.i64, h.bd, h.max⟩
    have hNo := h.below hBn
    have hRise := hr
    have CK : Hid (∀ er : Int, ((er = 0 ∧ nrOk N) ∨ (er = 3 ∧ ¬ nrOk N)) → Calls Try.prog 7 #[nrV N.kd N.bd N.md a1 a2 n c1 m c2] w7 fun e w' => e = .returned (.int .i64 er) ∧ Below w7.heap.size w7 w') := fun er he => check9_at N a1 a2 n c1 m c2 er w7 (NM w7 (Below.refl _ _)) he
    have NY : Hid (∀ y : World, Below w7.heap.size w7 y → Calls Try.prog 10 #[nrV N.kd N.bd N.md a1 a2 n c1 m c2, nrV N.kd N.bd N.md no co n c m d] y fun e w' => e = .returned (.bool true) ∧ Below y.heap.size y w') := fun y hb => normals_yes N.kd N.bd N.md N.ns N.cs a1 no a2 co n c1 m c2 n c m d y (hNn.below (Nat.le_refl _) hb) (hNo.ns.below (Nat.le_refl _) hb) (hZn.below (Nat.le_refl _) hb) (hNo.cs.below (Nat.le_refl _) hb)
    have hsz7 : w.heap.size + 1 ≤ w7.heap.size := (Array.getElem?_eq_some_iff.1 hRo).1
    clear NM hNo hNn hZn hw1 hpl hrr hnm hmm
    have n0 : w7.cell? ⟨p, 0, none⟩ = some (.int .i64 N.kd) := (txcell (vs := #[.int .i64 N.kd, .slice a1 n c1, .slice a2 m c2, .int .i64 N.bd, .int .i64 N.md]) hRn 0 _ rfl).1
    have n1 : w7.cell? ⟨p, 1, none⟩ = some (.slice a1 n c1) := (txcell (vs := #[.int .i64 N.kd, .slice a1 n c1, .slice a2 m c2, .int .i64 N.bd, .int .i64 N.md]) hRn 1 _ rfl).1
    have n2 : w7.cell? ⟨p, 2, none⟩ = some (.slice a2 m c2) := (txcell (vs := #[.int .i64 N.kd, .slice a1 n c1, .slice a2 m c2, .int .i64 N.bd, .int .i64 N.md]) hRn 2 _ rfl).1
    have n3 : w7.cell? ⟨p, 3, none⟩ = some (.int .i64 N.bd) := (txcell (vs := #[.int .i64 N.kd, .slice a1 n c1, .slice a2 m c2, .int .i64 N.bd, .int .i64 N.md]) hRn 3 _ rfl).1
    have n4 : w7.cell? ⟨p, 4, none⟩ = some (.int .i64 N.md) := (txcell (vs := #[.int .i64 N.kd, .slice a1 n c1, .slice a2 m c2, .int .i64 N.bd, .int .i64 N.md]) hRn 4 _ rfl).1
    cases r with
    | false =>
      have CK3 := mkHid (CK.out 3 (.inr ⟨rfl, fun hh => by have := hr.2 hh; cases this⟩))
      clear CK hRise
      go_wp2_with (fail)
      refine CK3.out.mono ?_
      rintro e w8 ⟨rfl, hB8⟩
      have hRo8 := hRo.keep hB8
      have hRn8 := hRn.keep hB8
      have hBn8 := hBn.trans (hB8.mono (by omega))
      clear n0 n1 n2 n3 n4 CK3
      have o0 : w8.cell? ⟨w.heap.size, 0, none⟩ = some (.int .i64 N.kd) := (txcell (vs := nrA N.kd N.bd N.md no co n c m d) hRo8 0 _ rfl).1
      have o1 : w8.cell? ⟨w.heap.size, 1, none⟩ = some (.slice no n c) := (txcell (vs := nrA N.kd N.bd N.md no co n c m d) hRo8 1 _ rfl).1
      have o2 : w8.cell? ⟨w.heap.size, 2, none⟩ = some (.slice co m d) := (txcell (vs := nrA N.kd N.bd N.md no co n c m d) hRo8 2 _ rfl).1
      have o3 : w8.cell? ⟨w.heap.size, 3, none⟩ = some (.int .i64 N.bd) := (txcell (vs := nrA N.kd N.bd N.md no co n c m d) hRo8 3 _ rfl).1
      have o4 : w8.cell? ⟨w.heap.size, 4, none⟩ = some (.int .i64 N.md) := (txcell (vs := nrA N.kd N.bd N.md no co n c m d) hRo8 4 _ rfl).1
      have RG8 := mkHid (RG.out w8 hBn8)
      clear RG
      go_wp2_with (fail)
      refine RG8.out.mono ?_
      rintro e w9 ⟨rfl, hB9⟩
      have hB79 := bt2 hB8 hB9
      clear o0 o1 o2 o3 o4 RG8
      go_wp2_with (fail)
      refine (FX.out w9).mono ?_
      rintro e w10 ⟨rfl, hB10⟩
      have hB710 := bt2 hB79 hB10
      have hRo10 := hRo.keep hB710
      have hRn10 := hRn.keep hB710
      have o0 : w10.cell? ⟨w.heap.size, 0, none⟩ = some (.int .i64 N.kd) := (txcell (vs := nrA N.kd N.bd N.md no co n c m d) hRo10 0 _ rfl).1
      have o1 : w10.cell? ⟨w.heap.size, 1, none⟩ = some (.slice no n c) := (txcell (vs := nrA N.kd N.bd N.md no co n c m d) hRo10 1 _ rfl).1
      have o2 : w10.cell? ⟨w.heap.size, 2, none⟩ = some (.slice co m d) := (txcell (vs := nrA N.kd N.bd N.md no co n c m d) hRo10 2 _ rfl).1
      have o3 : w10.cell? ⟨w.heap.size, 3, none⟩ = some (.int .i64 N.bd) := (txcell (vs := nrA N.kd N.bd N.md no co n c m d) hRo10 3 _ rfl).1
      have o4 : w10.cell? ⟨w.heap.size, 4, none⟩ = some (.int .i64 N.md) := (txcell (vs := nrA N.kd N.bd N.md no co n c m d) hRo10 4 _ rfl).1
      have n0 : w10.cell? ⟨p, 0, none⟩ = some (.int .i64 N.kd) := (txcell (vs := #[.int .i64 N.kd, .slice a1 n c1, .slice a2 m c2, .int .i64 N.bd, .int .i64 N.md]) hRn10 0 _ rfl).1
      have n1 : w10.cell? ⟨p, 1, none⟩ = some (.slice a1 n c1) := (txcell (vs := #[.int .i64 N.kd, .slice a1 n c1, .slice a2 m c2, .int .i64 N.bd, .int .i64 N.md]) hRn10 1 _ rfl).1
      have n2 : w10.cell? ⟨p, 2, none⟩ = some (.slice a2 m c2) := (txcell (vs := #[.int .i64 N.kd, .slice a1 n c1, .slice a2 m c2, .int .i64 N.bd, .int .i64 N.md]) hRn10 2 _ rfl).1
      have n3 : w10.cell? ⟨p, 3, none⟩ = some (.int .i64 N.bd) := (txcell (vs := #[.int .i64 N.kd, .slice a1 n c1, .slice a2 m c2, .int .i64 N.bd, .int .i64 N.md]) hRn10 3 _ rfl).1
      have n4 : w10.cell? ⟨p, 4, none⟩ = some (.int .i64 N.md) := (txcell (vs := #[.int .i64 N.kd, .slice a1 n c1, .slice a2 m c2, .int .i64 N.bd, .int .i64 N.md]) hRn10 4 _ rfl).1
      have NY10 := mkHid (NY.out w10 hB710)
      clear NY
      go_wp2_with (fail)
      refine NY10.out.mono ?_
      rintro e w11 ⟨rfl, hB11⟩
      have hEnd := hBn.trans ((bt2 hB710 hB11).mono (by omega))
      clear o0 o1 o2 o3 o4 n0 n1 n2 n3 n4
      go_wp2_with (fail)
      go_ret
      exact ⟨rfl, hEnd⟩
    | true =>
      have CK3 := mkHid (CK.out 0 (.inl ⟨rfl, hr.1 rfl⟩))
      clear CK hRise
      go_wp2_with (fail)
      refine CK3.out.mono ?_
      rintro e w8 ⟨rfl, hB8⟩
      have hRo8 := hRo.keep hB8
      have hRn8 := hRn.keep hB8
      have hBn8 := hBn.trans (hB8.mono (by omega))
      clear n0 n1 n2 n3 n4 CK3
      have o0 : w8.cell? ⟨w.heap.size, 0, none⟩ = some (.int .i64 N.kd) := (txcell (vs := nrA N.kd N.bd N.md no co n c m d) hRo8 0 _ rfl).1
      have o1 : w8.cell? ⟨w.heap.size, 1, none⟩ = some (.slice no n c) := (txcell (vs := nrA N.kd N.bd N.md no co n c m d) hRo8 1 _ rfl).1
      have o2 : w8.cell? ⟨w.heap.size, 2, none⟩ = some (.slice co m d) := (txcell (vs := nrA N.kd N.bd N.md no co n c m d) hRo8 2 _ rfl).1
      have o3 : w8.cell? ⟨w.heap.size, 3, none⟩ = some (.int .i64 N.bd) := (txcell (vs := nrA N.kd N.bd N.md no co n c m d) hRo8 3 _ rfl).1
      have o4 : w8.cell? ⟨w.heap.size, 4, none⟩ = some (.int .i64 N.md) := (txcell (vs := nrA N.kd N.bd N.md no co n c m d) hRo8 4 _ rfl).1
      have RG8 := mkHid (RG.out w8 hBn8)
      clear RG
      go_wp2_with (fail)
      refine RG8.out.mono ?_
      rintro e w9 ⟨rfl, hB9⟩
      have hB79 := bt2 hB8 hB9
      clear o0 o1 o2 o3 o4 RG8
      go_wp2_with (fail)
      refine (FX.out w9).mono ?_
      rintro e w10 ⟨rfl, hB10⟩
      have hB710 := bt2 hB79 hB10
      have hRo10 := hRo.keep hB710
      have hRn10 := hRn.keep hB710
      have o0 : w10.cell? ⟨w.heap.size, 0, none⟩ = some (.int .i64 N.kd) := (txcell (vs := nrA N.kd N.bd N.md no co n c m d) hRo10 0 _ rfl).1
      have o1 : w10.cell? ⟨w.heap.size, 1, none⟩ = some (.slice no n c) := (txcell (vs := nrA N.kd N.bd N.md no co n c m d) hRo10 1 _ rfl).1
      have o2 : w10.cell? ⟨w.heap.size, 2, none⟩ = some (.slice co m d) := (txcell (vs := nrA N.kd N.bd N.md no co n c m d) hRo10 2 _ rfl).1
      have o3 : w10.cell? ⟨w.heap.size, 3, none⟩ = some (.int .i64 N.bd) := (txcell (vs := nrA N.kd N.bd N.md no co n c m d) hRo10 3 _ rfl).1
      have o4 : w10.cell? ⟨w.heap.size, 4, none⟩ = some (.int .i64 N.md) := (txcell (vs := nrA N.kd N.bd N.md no co n c m d) hRo10 4 _ rfl).1
      have n0 : w10.cell? ⟨p, 0, none⟩ = some (.int .i64 N.kd) := (txcell (vs := #[.int .i64 N.kd, .slice a1 n c1, .slice a2 m c2, .int .i64 N.bd, .int .i64 N.md]) hRn10 0 _ rfl).1
      have n1 : w10.cell? ⟨p, 1, none⟩ = some (.slice a1 n c1) := (txcell (vs := #[.int .i64 N.kd, .slice a1 n c1, .slice a2 m c2, .int .i64 N.bd, .int .i64 N.md]) hRn10 1 _ rfl).1
      have n2 : w10.cell? ⟨p, 2, none⟩ = some (.slice a2 m c2) := (txcell (vs := #[.int .i64 N.kd, .slice a1 n c1, .slice a2 m c2, .int .i64 N.bd, .int .i64 N.md]) hRn10 2 _ rfl).1
      have n3 : w10.cell? ⟨p, 3, none⟩ = some (.int .i64 N.bd) := (txcell (vs := #[.int .i64 N.kd, .slice a1 n c1, .slice a2 m c2, .int .i64 N.bd, .int .i64 N.md]) hRn10 3 _ rfl).1
      have n4 : w10.cell? ⟨p, 4, none⟩ = some (.int .i64 N.md) := (txcell (vs := #[.int .i64 N.kd, .slice a1 n c1, .slice a2 m c2, .int .i64 N.bd, .int .i64 N.md]) hRn10 4 _ rfl).1
      have NY10 := mkHid (NY.out w10 hB710)
      clear NY
      go_wp2_with (fail)
      refine NY10.out.mono ?_
      rintro e w11 ⟨rfl, hB11⟩
      have hEnd := hBn.trans ((bt2 hB710 hB11).mono (by omega))
      clear o0 o1 o2 o3 o4 n0 n1 n2 n3 n4
      go_wp2_with (fail)
      go_ret
      exact ⟨rfl, hEnd⟩
end Go.Proofs.Ytiapkblebbcfbaa.Gl
