/- Same. -/
import Derived.Test.YtabfhdmcljdjhaaDoorNdU
import Derived.Test.YtabfhdmcljdjhaaDoorNdR
namespace Go.Proofs.YtabfhdmcljdjhaaDoor.Gl
open Go.RowKit Go.Shelf
set_option linter.unusedVariables false
attribute [local go_sem] Oper.semAt_some

theorem nodes_ret (W : World) (f : Fm) (Bf : Nat) (w : World) (hW : Below W.heap.size W w) (hb : BoxF w Bf f W) (hsz : f.size ≤ 500) :
    Calls Tryd.prog 16 #[.func (.func 26) #[] #[.pointer (some ⟨Bf, 0, none⟩)]] w fun e w' => ∃ ao c, e = .returned (.slice ao (ndF f 1).length c) ∧ RdN w' ao (ndF f 1).length c (ndF f 1) ∧ Below w.heap.size w w' := by
  refine (collect_at W f Bf w hW hb hsz).mono ?_
  rintro e w' ⟨v, rfl, h1, h2⟩
  obtain ⟨ao, c, rfl, h3⟩ := rdn_of h1
  exact ⟨ao, c, rfl, h3, h2⟩
/-- the boxes of two formulas -/
structure Two (w : World) (b : Nat) (bf bg : Obj) : Prop where
  f : w.heap[b]? = some bf
  g : w.heap[b + 1]? = some bg
theorem Two.keep {w w' : World} {b : Nat} {bf bg : Obj} (h : Two w b bf bg) (hb : Below w.heap.size w w') : Two w' b bf bg :=
  ⟨(hb.block _ (Array.getElem?_eq_some_iff.1 h.f).1).trans h.f, (hb.block _ (Array.getElem?_eq_some_iff.1 h.g).1).trans h.g⟩
theorem below_alloc (w : World) (o : Obj) : Below w.heap.size w (w.alloc o) := (Below.refl _ _).alloc (Nat.le_refl _) _
theorem below_step {w w' : World} (h : Below w.heap.size w w') {w2 : World} (k : Below w'.heap.size w' w2) : Below w.heap.size w w2 := h.trans (k.mono h.size)
theorem undrew {B : Nat} {w w' : World} (h : Below B w.drew w') : Below B w w' := ⟨h.os, h.tape, h.output, h.size, h.block⟩
theorem below_drew0 (w : World) : Below w.heap.size w w.drew := (Below.refl _ _).drew
set_option maxRecDepth 100000 in
set_option maxHeartbeats 8000000 in
theorem same_run (W : World) (f g : Fm) (v v' : Value) (w : World) (hv : FmV W f v) (hv' : FmV W g v') (hW : Below W.heap.size W w) :
    Calls Tryd.prog 11 #[v, v'] w fun e w' => e = .returned (.bool (decide (chk nmB f = 0) && decide (chk nmB g = 0) && eqB f g)) ∧ Below w.heap.size w w' := by
  obtain ⟨o, x, m, bo, n1, c1, ao, n2, c2, rfl, hr⟩ := fm_open hv
  obtain ⟨o', x', m', bo', n1', c1', ao', n2', c2', rfl, hr'⟩ := fm_open hv'
  obtain ⟨bf, hbf⟩ : ∃ b, Obj.cells #[.int .i64 o, .string x, .int .i64 m, .slice bo n1 c1, .slice ao n2 c2] 27 = b := ⟨_, rfl⟩
  obtain ⟨bg, hbg⟩ : ∃ b, Obj.cells #[.int .i64 o', .string x', .int .i64 m', .slice bo' n1' c1', .slice ao' n2' c2'] 27 = b := ⟨_, rfl⟩
  have hB1 : Below w.heap.size w ((w.alloc bf).alloc bg) := below_step (below_alloc w bf) (below_alloc _ bg)
  have hT1 : Two ((w.alloc bf).alloc bg) w.heap.size bf bg := ⟨(Below.heap_alloc _ _ _ (by simp)).trans (World.alloc_heap_new w bf), by have := World.alloc_heap_new (w.alloc bf) bg; rwa [World.size_alloc] at this⟩
  have RF : Hid (Calls Tryd.prog 12 #[.agg #[.int .i64 o, .string x, .int .i64 m, .slice bo n1 c1, .slice ao n2 c2]] ((w.alloc bf).alloc bg) fun e w' => e = .returned (.int .i64 (chk nmB f : Nat)) ∧ Below w.heap.size w w' ∧ Two w' w.heap.size bf bg) :=
    (check_run W f _ _ hv (hW.trans (hB1.mono hW.size))).mono (fun e w' h => ⟨h.1, below_step hB1 h.2, hT1.keep h.2⟩)
  have RG : Hid (∀ w2, Below w.heap.size w w2 → Two w2 w.heap.size bf bg → Calls Tryd.prog 12 #[.agg #[.int .i64 o', .string x', .int .i64 m', .slice bo' n1' c1', .slice ao' n2' c2']] w2 fun e w' => e = .returned (.int .i64 (chk nmB g : Nat)) ∧ Below w.heap.size w w' ∧ Two w' w.heap.size bf bg) :=
    fun w2 hB hT => (check_run W g _ _ hv' (hW.trans (hB.mono hW.size))).mono (fun e w' h => ⟨h.1, below_step hB h.2, hT.keep h.2⟩)
  refine (callsIn_wide (n := 8)).1 ?_
  have hmx : Tryd.prog.follows .mixedOrders = true := by kernel_rfl
  by_cases hf : chk nmB f = 0
  · have hzf := (right_of hf).1
    rw [hf] at RF
    by_cases hg : chk nmB g = 0
    · have hzg := (right_of hg).1
      rw [hf, hg, show (decide ((0 : Nat) = 0) && decide ((0 : Nat) = 0) && eqB f g) = eqB f g from by simp]
      rw [hg] at RG
      have CF : Hid (∀ w3, Below w.heap.size w w3 → Two w3 w.heap.size bf bg → Calls Tryd.prog 16 #[.func (.func 26) #[] #[.pointer (some ⟨w3.heap.size, 0, none⟩)]] (w3.alloc bf) fun e w' => ∃ ao c, e = .returned (.slice ao (ndF f 1).length c) ∧ RdN w' ao (ndF f 1).length c (ndF f 1) ∧ Below w.heap.size w w' ∧ Two w' w.heap.size bf bg) := by
        intro w3 hB hT
        refine (nodes_ret W f w3.heap.size (w3.alloc bf) (hW.trans ((below_step hB (below_alloc _ _)).mono hW.size)) ⟨_, _, _, _, _, by rw [hbf]; exact World.alloc_heap_new w3 bf, hr⟩ hzf).mono ?_
        rintro e w' ⟨ao, c, rfl, h1, h2⟩
        exact ⟨ao, c, rfl, h1, below_step (below_step hB (below_alloc _ _)) h2, (hT.keep (below_alloc _ _)).keep h2⟩
      have CG : Hid (∀ w3, Below w.heap.size w w3 → ∀ ao c, RdN w3 ao (ndF f 1).length c (ndF f 1) → Calls Tryd.prog 16 #[.func (.func 26) #[] #[.pointer (some ⟨w3.heap.size, 0, none⟩)]] (w3.alloc bg) fun e w' => ∃ bo' c', e = .returned (.slice bo' (ndF g 1).length c') ∧ RdN w' bo' (ndF g 1).length c' (ndF g 1) ∧ RdN w' ao (ndF f 1).length c (ndF f 1) ∧ Below w.heap.size w w') := by
        intro w3 hB ao c hN
        refine (nodes_ret W g w3.heap.size (w3.alloc bg) (hW.trans ((below_step hB (below_alloc _ _)).mono hW.size)) ⟨_, _, _, _, _, by rw [hbg]; exact World.alloc_heap_new w3 bg, hr'⟩ hzg).mono ?_
        rintro e w' ⟨bo', c', rfl, h1, h2⟩
        exact ⟨bo', c', rfl, h1, (hN.keep (below_alloc _ _)).keep h2, below_step (below_step hB (below_alloc _ _)) h2⟩
      have EC : Hid (∀ w3 ao c bo' c', RdN w3 ao (ndF f 1).length c (ndF f 1) → RdN w3 bo' (ndF g 1).length c' (ndF g 1) → Calls Tryd.prog 15 #[.slice ao (ndF f 1).length c, .slice bo' (ndF g 1).length c'] w3 fun e w' => e = .returned (.bool (eqB f g)) ∧ Below w3.heap.size w3 w') :=
        fun w3 ao c bo' c' h1 h2 => equal_at ao bo' _ c _ c' _ _ (eqB f g) w3 h1 h2 ((eqB_iff f g).trans ⟨fun h => by rw [h], fun h => nd_inj h⟩)
      clear hv hv' hr hr' hT1 hB1
      generalize ndF f 1 = L at *
      generalize ndF g 1 = M at *
      obtain ⟨r, hR⟩ : ∃ r, eqB f g = r := ⟨_, rfl⟩
      rw [hR] at EC ⊢
      clear hR
      subst hbf hbg
      refine callsIn_of_wp Tryd.func11 rfl trivial ?_ rfl
      simp only [Tryd.ntmps11, List.size_toArray, List.length_cons, List.length_nil, Nat.reduceAdd, Nat.reduceSub, Array.replicate_succ, Array.replicate_zero, List.push_toArray, List.append_toArray, List.nil_append, List.cons_append]
      gi_wp2
      refine ⟨trivial, ?_⟩
      refine (callsIn_wide.2 RF.out).mono ?_
      rintro e w2 ⟨rfl, hB2, hT2⟩
      have u0 : w2.cell? ⟨w.heap.size + 1, 0, none⟩ = some (.int .i64 o') := cells_at hT2.g 0 _ rfl
      have u1 : w2.cell? ⟨w.heap.size + 1, 1, none⟩ = some (.string x') := cells_at hT2.g 1 _ rfl
      have u2 : w2.cell? ⟨w.heap.size + 1, 2, none⟩ = some (.int .i64 m') := cells_at hT2.g 2 _ rfl
      have u3 : w2.cell? ⟨w.heap.size + 1, 3, none⟩ = some (.slice bo' n1' c1') := cells_at hT2.g 3 _ rfl
      have u4 : w2.cell? ⟨w.heap.size + 1, 4, none⟩ = some (.slice ao' n2' c2') := cells_at hT2.g 4 _ rfl
      gi_wp2
      refine ⟨trivial, ?_⟩
      refine (callsIn_wide.2 (RG.out w2 hB2 hT2)).mono ?_
      rintro e w3 ⟨rfl, hB3, hT3⟩
      clear u0 u1 u2 u3 u4 RF RG hB2 hT2
      have f0 : w3.cell? ⟨w.heap.size, 0, none⟩ = some (.int .i64 o) := cells_at hT3.f 0 _ rfl
      have f1 : w3.cell? ⟨w.heap.size, 1, none⟩ = some (.string x) := cells_at hT3.f 1 _ rfl
      have f2 : w3.cell? ⟨w.heap.size, 2, none⟩ = some (.int .i64 m) := cells_at hT3.f 2 _ rfl
      have f3 : w3.cell? ⟨w.heap.size, 3, none⟩ = some (.slice bo n1 c1) := cells_at hT3.f 3 _ rfl
      have f4 : w3.cell? ⟨w.heap.size, 4, none⟩ = some (.slice ao n2 c2) := cells_at hT3.f 4 _ rfl
      have g0 : w3.cell? ⟨w.heap.size + 1, 0, none⟩ = some (.int .i64 o') := cells_at hT3.g 0 _ rfl
      have g1 : w3.cell? ⟨w.heap.size + 1, 1, none⟩ = some (.string x') := cells_at hT3.g 1 _ rfl
      have g2 : w3.cell? ⟨w.heap.size + 1, 2, none⟩ = some (.int .i64 m') := cells_at hT3.g 2 _ rfl
      have g3 : w3.cell? ⟨w.heap.size + 1, 3, none⟩ = some (.slice bo' n1' c1') := cells_at hT3.g 3 _ rfl
      have g4 : w3.cell? ⟨w.heap.size + 1, 4, none⟩ = some (.slice ao' n2' c2') := cells_at hT3.g 4 _ rfl
      have hB3d := hB3.drew
      have hT3d : Two w3.drew w.heap.size _ _ := ⟨hT3.f, hT3.g⟩
      have hT3a := hT3.keep (below_alloc w3 (.cells #[.int .i64 o, .string x, .int .i64 m, .slice bo n1 c1, .slice ao n2 c2] 27))
      have k0 : (w3.alloc (.cells #[.int .i64 o, .string x, .int .i64 m, .slice bo n1 c1, .slice ao n2 c2] 27)).cell? ⟨w.heap.size + 1, 0, none⟩ = some (.int .i64 o') := cells_at hT3a.g 0 _ rfl
      have k1 : (w3.alloc (.cells #[.int .i64 o, .string x, .int .i64 m, .slice bo n1 c1, .slice ao n2 c2] 27)).cell? ⟨w.heap.size + 1, 1, none⟩ = some (.string x') := cells_at hT3a.g 1 _ rfl
      have k2 : (w3.alloc (.cells #[.int .i64 o, .string x, .int .i64 m, .slice bo n1 c1, .slice ao n2 c2] 27)).cell? ⟨w.heap.size + 1, 2, none⟩ = some (.int .i64 m') := cells_at hT3a.g 2 _ rfl
      have k3 : (w3.alloc (.cells #[.int .i64 o, .string x, .int .i64 m, .slice bo n1 c1, .slice ao n2 c2] 27)).cell? ⟨w.heap.size + 1, 3, none⟩ = some (.slice bo' n1' c1') := cells_at hT3a.g 3 _ rfl
      have k4 : (w3.alloc (.cells #[.int .i64 o, .string x, .int .i64 m, .slice bo n1 c1, .slice ao n2 c2] 27)).cell? ⟨w.heap.size + 1, 4, none⟩ = some (.slice ao' n2' c2') := cells_at hT3a.g 4 _ rfl
      gi_wp2
      refine wpIn_region_any hmx ?_
      change wpAnyIn _ _ _ _ _ _ _ _ _ (World.drew _)
      refine wpAnyIn_ready (rs := [0, 3]) (by kernel_rfl) (by simp) ?_
      refine AllReadyIn.cons rfl (fun K hK => ?_) ?_
      · go_simp
        refine hK _ _ ?_
        clear hK K
        refine wpAnyIn_ready (rs := [1, 3]) (by kernel_rfl) (by simp) ?_
        refine AllReadyIn.cons rfl (fun K hK => ?_) ?_
        · go_simp
          refine ⟨trivial, ?_⟩
          refine (callsIn_wide.2 (nodes_at _ _ _ _ _ _ _ _ _ _)).mono ?_
          rintro e _ ⟨rfl, rfl⟩
          refine hK _ _ ?_
          clear hK K
          refine wpAnyIn_ready (rs := [2, 3]) (by kernel_rfl) (by simp) ?_
          refine AllReadyIn.cons rfl (fun K hK => ?_) ?_
          · go_simp
            refine ⟨trivial, ?_⟩
            refine (callsIn_wide.2 (CF.out w3.drew hB3d hT3d)).mono ?_
            rintro e w5 ⟨ro, rc, rfl, hN5, hB5, hT5⟩
            have l0 : w5.cell? ⟨w.heap.size + 1, 0, none⟩ = some (.int .i64 o') := cells_at hT5.g 0 _ rfl
            have l1 : w5.cell? ⟨w.heap.size + 1, 1, none⟩ = some (.string x') := cells_at hT5.g 1 _ rfl
            have l2 : w5.cell? ⟨w.heap.size + 1, 2, none⟩ = some (.int .i64 m') := cells_at hT5.g 2 _ rfl
            have l3 : w5.cell? ⟨w.heap.size + 1, 3, none⟩ = some (.slice bo' n1' c1') := cells_at hT5.g 3 _ rfl
            have l4 : w5.cell? ⟨w.heap.size + 1, 4, none⟩ = some (.slice ao' n2' c2') := cells_at hT5.g 4 _ rfl
            refine hK _ _ ?_
            clear hK K
            refine wpAnyIn_ready (rs := [3]) (by kernel_rfl) (by simp) ?_
            refine AllReadyIn.cons rfl (fun K hK => ?_) ?_
            · go_simp
              refine hK _ _ ?_
              clear hK K
              refine wpAnyIn_ready (rs := [4]) (by kernel_rfl) (by simp) ?_
              refine AllReadyIn.cons rfl (fun K hK => ?_) ?_
              · go_simp
                refine ⟨trivial, ?_⟩
                refine (callsIn_wide.2 (nodes_at _ _ _ _ _ _ _ _ _ _)).mono ?_
                rintro e _ ⟨rfl, rfl⟩
                refine hK _ _ ?_
                clear hK K
                refine wpAnyIn_ready (rs := [5]) (by kernel_rfl) (by simp) ?_
                refine AllReadyIn.cons rfl (fun K hK => ?_) ?_
                · go_simp
                  refine ⟨trivial, ?_⟩
                  refine (callsIn_wide.2 (CG.out w5 hB5 ro rc hN5)).mono ?_
                  rintro e w6 ⟨ro', rc', rfl, hM6, hN6, hB6⟩
                  refine hK _ _ ?_
                  clear hK K
                  refine wpAnyIn_ready (rs := [6]) (by kernel_rfl) (by simp) ?_
                  refine AllReadyIn.cons rfl (fun K hK => ?_) ?_
                  · go_simp
                    refine ⟨trivial, ?_⟩
                    refine (callsIn_wide.2 (EC.out w6 ro rc ro' rc' hN6 hM6)).mono ?_
                    rintro e w7 ⟨rfl, hB7⟩
                    refine hK _ _ ?_
                    clear hK K
                    refine wpAnyIn_ready (rs := [7]) (by kernel_rfl) (by simp) ?_
                    refine AllReadyIn.cons rfl (fun K hK => ?_) ?_
                    · go_simp
                      refine hK _ _ ?_
                      clear hK K
                      refine wpAnyIn_done (by kernel_rfl) ?_ _
                      gi_wp2
                      go_ret
                      exact ⟨rfl, below_step hB6 hB7⟩
                    exact AllReadyIn.nil
                  exact AllReadyIn.nil
                exact AllReadyIn.nil
              exact AllReadyIn.nil
            exact AllReadyIn.nil
          refine AllReadyIn.cons rfl (fun K hK => ?_) ?_
          · go_simp
            refine hK _ _ ?_
            clear hK K
            refine wpAnyIn_ready (rs := [2]) (by kernel_rfl) (by simp) ?_
            refine AllReadyIn.cons rfl (fun K hK => ?_) ?_
            · go_simp
              refine ⟨trivial, ?_⟩
              refine (callsIn_wide.2 (CF.out w3.drew hB3d hT3d)).mono ?_
              rintro e w5 ⟨ro, rc, rfl, hN5, hB5, hT5⟩
              have l0 : w5.cell? ⟨w.heap.size + 1, 0, none⟩ = some (.int .i64 o') := cells_at hT5.g 0 _ rfl
              have l1 : w5.cell? ⟨w.heap.size + 1, 1, none⟩ = some (.string x') := cells_at hT5.g 1 _ rfl
              have l2 : w5.cell? ⟨w.heap.size + 1, 2, none⟩ = some (.int .i64 m') := cells_at hT5.g 2 _ rfl
              have l3 : w5.cell? ⟨w.heap.size + 1, 3, none⟩ = some (.slice bo' n1' c1') := cells_at hT5.g 3 _ rfl
              have l4 : w5.cell? ⟨w.heap.size + 1, 4, none⟩ = some (.slice ao' n2' c2') := cells_at hT5.g 4 _ rfl
              refine hK _ _ ?_
              clear hK K
              refine wpAnyIn_ready (rs := [4]) (by kernel_rfl) (by simp) ?_
              refine AllReadyIn.cons rfl (fun K hK => ?_) ?_
              · go_simp
                refine ⟨trivial, ?_⟩
                refine (callsIn_wide.2 (nodes_at _ _ _ _ _ _ _ _ _ _)).mono ?_
                rintro e _ ⟨rfl, rfl⟩
                refine hK _ _ ?_
                clear hK K
                refine wpAnyIn_ready (rs := [5]) (by kernel_rfl) (by simp) ?_
                refine AllReadyIn.cons rfl (fun K hK => ?_) ?_
                · go_simp
                  refine ⟨trivial, ?_⟩
                  refine (callsIn_wide.2 (CG.out w5 hB5 ro rc hN5)).mono ?_
                  rintro e w6 ⟨ro', rc', rfl, hM6, hN6, hB6⟩
                  refine hK _ _ ?_
                  clear hK K
                  refine wpAnyIn_ready (rs := [6]) (by kernel_rfl) (by simp) ?_
                  refine AllReadyIn.cons rfl (fun K hK => ?_) ?_
                  · go_simp
                    refine ⟨trivial, ?_⟩
                    refine (callsIn_wide.2 (EC.out w6 ro rc ro' rc' hN6 hM6)).mono ?_
                    rintro e w7 ⟨rfl, hB7⟩
                    refine hK _ _ ?_
                    clear hK K
                    refine wpAnyIn_ready (rs := [7]) (by kernel_rfl) (by simp) ?_
                    refine AllReadyIn.cons rfl (fun K hK => ?_) ?_
                    · go_simp
                      refine hK _ _ ?_
                      clear hK K
                      refine wpAnyIn_done (by kernel_rfl) ?_ _
                      gi_wp2
                      go_ret
                      exact ⟨rfl, below_step hB6 hB7⟩
                    exact AllReadyIn.nil
                  exact AllReadyIn.nil
                exact AllReadyIn.nil
              exact AllReadyIn.nil
            exact AllReadyIn.nil
          exact AllReadyIn.nil
        refine AllReadyIn.cons rfl (fun K hK => ?_) ?_
        · go_simp
          refine hK _ _ ?_
          clear hK K
          refine wpAnyIn_ready (rs := [1]) (by kernel_rfl) (by simp) ?_
          refine AllReadyIn.cons rfl (fun K hK => ?_) ?_
          · go_simp
            refine ⟨trivial, ?_⟩
            refine (callsIn_wide.2 (nodes_at _ _ _ _ _ _ _ _ _ _)).mono ?_
            rintro e _ ⟨rfl, rfl⟩
            refine hK _ _ ?_
            clear hK K
            refine wpAnyIn_ready (rs := [2]) (by kernel_rfl) (by simp) ?_
            refine AllReadyIn.cons rfl (fun K hK => ?_) ?_
            · go_simp
              refine ⟨trivial, ?_⟩
              refine (callsIn_wide.2 (CF.out w3.drew hB3d hT3d)).mono ?_
              rintro e w5 ⟨ro, rc, rfl, hN5, hB5, hT5⟩
              have l0 : w5.cell? ⟨w.heap.size + 1, 0, none⟩ = some (.int .i64 o') := cells_at hT5.g 0 _ rfl
              have l1 : w5.cell? ⟨w.heap.size + 1, 1, none⟩ = some (.string x') := cells_at hT5.g 1 _ rfl
              have l2 : w5.cell? ⟨w.heap.size + 1, 2, none⟩ = some (.int .i64 m') := cells_at hT5.g 2 _ rfl
              have l3 : w5.cell? ⟨w.heap.size + 1, 3, none⟩ = some (.slice bo' n1' c1') := cells_at hT5.g 3 _ rfl
              have l4 : w5.cell? ⟨w.heap.size + 1, 4, none⟩ = some (.slice ao' n2' c2') := cells_at hT5.g 4 _ rfl
              refine hK _ _ ?_
              clear hK K
              refine wpAnyIn_ready (rs := [4]) (by kernel_rfl) (by simp) ?_
              refine AllReadyIn.cons rfl (fun K hK => ?_) ?_
              · go_simp
                refine ⟨trivial, ?_⟩
                refine (callsIn_wide.2 (nodes_at _ _ _ _ _ _ _ _ _ _)).mono ?_
                rintro e _ ⟨rfl, rfl⟩
                refine hK _ _ ?_
                clear hK K
                refine wpAnyIn_ready (rs := [5]) (by kernel_rfl) (by simp) ?_
                refine AllReadyIn.cons rfl (fun K hK => ?_) ?_
                · go_simp
                  refine ⟨trivial, ?_⟩
                  refine (callsIn_wide.2 (CG.out w5 hB5 ro rc hN5)).mono ?_
                  rintro e w6 ⟨ro', rc', rfl, hM6, hN6, hB6⟩
                  refine hK _ _ ?_
                  clear hK K
                  refine wpAnyIn_ready (rs := [6]) (by kernel_rfl) (by simp) ?_
                  refine AllReadyIn.cons rfl (fun K hK => ?_) ?_
                  · go_simp
                    refine ⟨trivial, ?_⟩
                    refine (callsIn_wide.2 (EC.out w6 ro rc ro' rc' hN6 hM6)).mono ?_
                    rintro e w7 ⟨rfl, hB7⟩
                    refine hK _ _ ?_
                    clear hK K
                    refine wpAnyIn_ready (rs := [7]) (by kernel_rfl) (by simp) ?_
                    refine AllReadyIn.cons rfl (fun K hK => ?_) ?_
                    · go_simp
                      refine hK _ _ ?_
                      clear hK K
                      refine wpAnyIn_done (by kernel_rfl) ?_ _
                      gi_wp2
                      go_ret
                      exact ⟨rfl, below_step hB6 hB7⟩
                    exact AllReadyIn.nil
                  exact AllReadyIn.nil
                exact AllReadyIn.nil
              exact AllReadyIn.nil
            exact AllReadyIn.nil
          exact AllReadyIn.nil
        exact AllReadyIn.nil
      refine AllReadyIn.cons rfl (fun K hK => ?_) ?_
      · go_simp
        refine hK _ _ ?_
        clear hK K
        refine wpAnyIn_ready (rs := [0]) (by kernel_rfl) (by simp) ?_
        refine AllReadyIn.cons rfl (fun K hK => ?_) ?_
        · go_simp
          refine hK _ _ ?_
          clear hK K
          refine wpAnyIn_ready (rs := [1]) (by kernel_rfl) (by simp) ?_
          refine AllReadyIn.cons rfl (fun K hK => ?_) ?_
          · go_simp
            refine ⟨trivial, ?_⟩
            refine (callsIn_wide.2 (nodes_at _ _ _ _ _ _ _ _ _ _)).mono ?_
            rintro e _ ⟨rfl, rfl⟩
            refine hK _ _ ?_
            clear hK K
            refine wpAnyIn_ready (rs := [2]) (by kernel_rfl) (by simp) ?_
            refine AllReadyIn.cons rfl (fun K hK => ?_) ?_
            · go_simp
              refine ⟨trivial, ?_⟩
              refine (callsIn_wide.2 (CF.out w3.drew hB3d hT3d)).mono ?_
              rintro e w5 ⟨ro, rc, rfl, hN5, hB5, hT5⟩
              have l0 : w5.cell? ⟨w.heap.size + 1, 0, none⟩ = some (.int .i64 o') := cells_at hT5.g 0 _ rfl
              have l1 : w5.cell? ⟨w.heap.size + 1, 1, none⟩ = some (.string x') := cells_at hT5.g 1 _ rfl
              have l2 : w5.cell? ⟨w.heap.size + 1, 2, none⟩ = some (.int .i64 m') := cells_at hT5.g 2 _ rfl
              have l3 : w5.cell? ⟨w.heap.size + 1, 3, none⟩ = some (.slice bo' n1' c1') := cells_at hT5.g 3 _ rfl
              have l4 : w5.cell? ⟨w.heap.size + 1, 4, none⟩ = some (.slice ao' n2' c2') := cells_at hT5.g 4 _ rfl
              refine hK _ _ ?_
              clear hK K
              refine wpAnyIn_ready (rs := [4]) (by kernel_rfl) (by simp) ?_
              refine AllReadyIn.cons rfl (fun K hK => ?_) ?_
              · go_simp
                refine ⟨trivial, ?_⟩
                refine (callsIn_wide.2 (nodes_at _ _ _ _ _ _ _ _ _ _)).mono ?_
                rintro e _ ⟨rfl, rfl⟩
                refine hK _ _ ?_
                clear hK K
                refine wpAnyIn_ready (rs := [5]) (by kernel_rfl) (by simp) ?_
                refine AllReadyIn.cons rfl (fun K hK => ?_) ?_
                · go_simp
                  refine ⟨trivial, ?_⟩
                  refine (callsIn_wide.2 (CG.out w5 hB5 ro rc hN5)).mono ?_
                  rintro e w6 ⟨ro', rc', rfl, hM6, hN6, hB6⟩
                  refine hK _ _ ?_
                  clear hK K
                  refine wpAnyIn_ready (rs := [6]) (by kernel_rfl) (by simp) ?_
                  refine AllReadyIn.cons rfl (fun K hK => ?_) ?_
                  · go_simp
                    refine ⟨trivial, ?_⟩
                    refine (callsIn_wide.2 (EC.out w6 ro rc ro' rc' hN6 hM6)).mono ?_
                    rintro e w7 ⟨rfl, hB7⟩
                    refine hK _ _ ?_
                    clear hK K
                    refine wpAnyIn_ready (rs := [7]) (by kernel_rfl) (by simp) ?_
                    refine AllReadyIn.cons rfl (fun K hK => ?_) ?_
                    · go_simp
                      refine hK _ _ ?_
                      clear hK K
                      refine wpAnyIn_done (by kernel_rfl) ?_ _
                      gi_wp2
                      go_ret
                      exact ⟨rfl, below_step hB6 hB7⟩
                    exact AllReadyIn.nil
                  exact AllReadyIn.nil
                exact AllReadyIn.nil
              exact AllReadyIn.nil
            exact AllReadyIn.nil
          exact AllReadyIn.nil
        exact AllReadyIn.nil
      exact AllReadyIn.nil
    · rw [show (decide (chk nmB f = 0) && decide (chk nmB g = 0) && eqB f g) = false from by simp [hg]]
      generalize chk nmB g = r at *
      have hk' : ¬ (r : Int) = 0 := by omega
      clear hv hv' hr hr' hT1 hB1
      subst hbf hbg
      refine callsIn_of_wp Tryd.func11 rfl trivial ?_ rfl
      simp only [Tryd.ntmps11, List.size_toArray, List.length_cons, List.length_nil, Nat.reduceAdd, Nat.reduceSub, Array.replicate_succ, Array.replicate_zero, List.push_toArray, List.append_toArray, List.nil_append, List.cons_append]
      gi_wp2
      refine ⟨trivial, ?_⟩
      refine (callsIn_wide.2 RF.out).mono ?_
      rintro e w2 ⟨rfl, hB2, hT2⟩
      have u0 : w2.cell? ⟨w.heap.size + 1, 0, none⟩ = some (.int .i64 o') := cells_at hT2.g 0 _ rfl
      have u1 : w2.cell? ⟨w.heap.size + 1, 1, none⟩ = some (.string x') := cells_at hT2.g 1 _ rfl
      have u2 : w2.cell? ⟨w.heap.size + 1, 2, none⟩ = some (.int .i64 m') := cells_at hT2.g 2 _ rfl
      have u3 : w2.cell? ⟨w.heap.size + 1, 3, none⟩ = some (.slice bo' n1' c1') := cells_at hT2.g 3 _ rfl
      have u4 : w2.cell? ⟨w.heap.size + 1, 4, none⟩ = some (.slice ao' n2' c2') := cells_at hT2.g 4 _ rfl
      gi_wp2
      refine ⟨trivial, ?_⟩
      refine (callsIn_wide.2 (RG.out w2 hB2 hT2)).mono ?_
      rintro e w3 ⟨rfl, hB3, hT3⟩
      gi_wp2
      go_ret
      exact ⟨rfl, hB3⟩
  · rw [show (decide (chk nmB f = 0) && decide (chk nmB g = 0) && eqB f g) = false from by simp [hf]]
    generalize chk nmB f = r at *
    have hk' : ¬ (r : Int) = 0 := by omega
    clear hv hv' hr hr' hT1 hB1 RG
    subst hbf hbg
    refine callsIn_of_wp Tryd.func11 rfl trivial ?_ rfl
    simp only [Tryd.ntmps11, List.size_toArray, List.length_cons, List.length_nil, Nat.reduceAdd, Nat.reduceSub, Array.replicate_succ, Array.replicate_zero, List.push_toArray, List.append_toArray, List.nil_append, List.cons_append]
    gi_wp2
    refine ⟨trivial, ?_⟩
    refine (callsIn_wide.2 RF.out).mono ?_
    rintro e w2 ⟨rfl, hB2, hT2⟩
    gi_wp2
    refine ⟨trivial, ?_⟩
    gi_wp2
    go_ret
    exact ⟨rfl, hB2⟩
end Go.Proofs.YtabfhdmcljdjhaaDoor.Gl
