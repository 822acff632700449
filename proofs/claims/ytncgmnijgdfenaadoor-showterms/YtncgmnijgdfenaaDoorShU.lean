/- The document's Term. -/
import Derived.Test.YtncgmnijgdfenaaDoorShT
import Derived.Test.YtncgmnijgdfenaaDoorGlN
import Derived.Test.YtncgmnijgdfenaaDoorShN
namespace Go.Proofs.YtncgmnijgdfenaaDoor.Gl
open Go Go.RowKit
set_option linter.unusedVariables false
set_option linter.unusedSimpArgs false

structure ClV (W : World) where
  w : World
  bel : Below W.heap.size W w
theorem clv_call {W : World} {f : FuncId} {args : Array Value} {v : Value} (h : ∀ w, Below W.heap.size W w → Calls Tryd.prog f args w fun e w' => e = .returned v ∧ Below w.heap.size w w') (n : ClV W) :
    Calls Tryd.prog f args n.w fun e w'' => e = .returned v ∧ ∃ m : ClV W, w'' = m.w :=
  (h n.w n.bel).mono fun e w' ⟨he, hb⟩ => ⟨he, ⟨w', n.bel.trans (hb.mono n.bel.size)⟩, rfl⟩
theorem blk_cells {W2 : World} {b : Nat} {A : Array Value} {t : TypeId} (h : W2.heap[b]? = some (.cells A t)) (n : ClV W2) (o : Nat) : n.w.cell? ⟨b, o, none⟩ = A[o]? := by
  rw [Lib.cell_of_heap ((n.bel.block b (Array.getElem?_eq_some_iff.1 h).1).trans h)]
theorem hlB_size (v : Int) (pl : Nat) (t : Tm) : (hlB v pl t).size ≤ (shT t).size + 2 := by
  have := hl_len v pl t
  rw [← hlB_tb, tb_len, tb_len] at this
  exact this
theorem sh_neg {n : Int} {x : ByteArray} {t : Tm} : (⟨#[45]⟩ : ByteArray) ++ hlB 2 0 t = shT (.mk 2 n x [t]) := by
  apply tb_inj
  rw [tb_app, hlB_tb, tt_neg]
  rfl
theorem sh_two {o n : Int} {x s : ByteArray} {t u : Tm} (ho : o = 3 ∨ o = 4 ∨ o = 5) (hs : tbs s = 32 :: (tbs (tsg o) ++ [32])) : hlB o 0 t ++ s ++ hlB o 1 u = shT (.mk o n x [t, u]) := by
  apply tb_inj
  rw [tb_app, tb_app, hlB_tb, hlB_tb, hs, tt_two ho]
  simp
set_option maxRecDepth 100000 in
set_option maxHeartbeats 4000000 in
theorem rterm_txt (W : World) : ∀ t : Tm, t.all (wellT nmB) = true → t.all nT = true → t.size ≤ 500 → ∀ c0 c1 c2 c3, RdT W t c0 c1 c2 c3 → ∀ w, Below W.heap.size W w → Calls Tryd.prog 11 #[.agg #[c0, c1, c2, c3]] w fun e w' => e = .returned (.string (shT t)) ∧ Below w.heap.size w w' := by
  refine Tm.ind (fun o n x a ih hw hn hsz c0 c1 c2 c3 hr w hW => ?_)
  have hok := all_own hn
  rw [RdT] at hr
  obtain ⟨rfl, rfl, rfl, hz, ao, cap, rfl, hlc, hcz, hL⟩ := hr
  have hWs := hW.size
  rcases well_tm (all_own hw) with ⟨rfl, h0, rfl, rfl⟩ | ⟨rfl, rfl, hx, rfl⟩ | ⟨rfl, rfl, rfl, t, rfl⟩ | ⟨ho, rfl, rfl, t, u, rfl⟩
  · have NB := mkHid (fun w => rnumber_at n.toNat w (by have := of_decide_eq_true hok; have h2 : n ≤ 9223372036854775807 := this; omega))
    rw [Int.toNat_of_nonneg h0] at NB
    have HE := mkHid (show shT (.mk 0 n emp []) = dec n.toNat from tb_inj tt_num)
    have hB0 := mkHid ((Below.refl w.heap.size w).alloc (Nat.le_refl _) (.cells #[.int .i64 0, .int .i64 n, .string emp, .slice ao 0 cap] 36))
    clear ih hw hn hok hL hz h0
    go_enter Tryd.func11, Tryd.ntmps11
    go_wp2_with (go_at_call 16; refine (NB.out _).mono ?_; rintro e w2 ⟨rfl, hB2⟩)
    go_ret
    exact ⟨by rw [HE.out]; rfl, hB0.out.trans (hB2.mono (by rw [World.size_alloc]; omega))⟩
  · have HE := mkHid (show shT (.mk 1 0 x []) = x from tb_inj tt_nam)
    have hB0 := mkHid ((Below.refl w.heap.size w).alloc (Nat.le_refl _) (.cells #[.int .i64 1, .int .i64 0, .string x, .slice ao 0 cap] 36))
    clear ih hw hn hok hL hz hx
    go_enter Tryd.func11, Tryd.ntmps11
    go_wp2
    go_ret
    exact ⟨by rw [HE.out]; rfl, hB0.out⟩
  · obtain ⟨g, of, d0, d1, d2, d3, rfl, hd, hrt⟩ := rdtl_one hL
    have e0 := hrt.op
    subst e0
    rw [Tm.size, Tm.sizeL, Tm.sizeL] at hsz
    have hln := tm_len t (all_one hw).2 (all_one hn).2
    rw [tb_len] at hln
    have hq := hlB_size 2 0 t
    have hqz : (hlB 2 0 t).size ≤ 100000 := by omega
    have HC := mkHid (fun w hW => rheld_at W t d1 d2 d3 (ih t (by simp) (all_one hw).2 (all_one hn).2 (by omega) _ _ _ _ hrt) (by omega) 2 0 (.inl ⟨rfl, rfl⟩) w hW)
    have HE := mkHid (sh_neg (n := 0) (x := emp) (t := t))
    have hWa := mkHid (hW.alloc hWs (.cells #[.int .i64 2, .int .i64 0, .string emp, .slice (some ⟨g, of, none⟩) 1 cap] 36))
    have hB0 := mkHid ((Below.refl w.heap.size w).alloc (Nat.le_refl _) (.cells #[.int .i64 2, .int .i64 0, .string emp, .slice (some ⟨g, of, none⟩) 1 cap] 36))
    obtain ⟨y0, y1, y2, y3⟩ := hd.to hWa.out
    generalize hlB 2 0 t = r at *
    clear ih hw hn hok hL hz hd hrt hln hq
    go_enter Tryd.func11, Tryd.ntmps11
    go_wp2_with (fail)
    refine (HC.out _ hWa.out).mono ?_
    rintro e w2 ⟨rfl, hB2⟩
    have hBz := mkHid (hB0.out.trans (hB2.mono (by rw [World.size_alloc]; omega)))
    clear hB2 y0 y1 y2 y3
    go_wp2
    go_ret
    exact ⟨by rw [← HE.out]; rfl, hBz.out⟩
  · obtain ⟨g, of, d0, d1, d2, d3, e0, e1, e2, e3, rfl, ⟨hd, hrt⟩, hd', hru⟩ := rdtl_two hL
    have z0 := hrt.op
    have z1 := hru.op
    subst z0 z1
    rw [Tm.size, Tm.sizeL, Tm.sizeL, Tm.sizeL] at hsz
    have hl1 := tm_len t (all_two hw).2.1 (all_two hn).2.1
    have hl2 := tm_len u (all_two hw).2.2 (all_two hn).2.2
    rw [tb_len] at hl1 hl2
    have hq1 := hlB_size o 0 t
    have hq2 := hlB_size o 1 u
    have hz1 : (hlB o 0 t).size ≤ 100000 := by omega
    have hz2 : (hlB o 1 u).size ≤ 100000 := by omega
    have H1 := mkHid (fun w hW => rheld_at W t d1 d2 d3 (ih t (by simp) (all_two hw).2.1 (all_two hn).2.1 (by omega) _ _ _ _ hrt) (by omega) o 0 (by unfold Pls; omega) w hW)
    have H2 := mkHid (fun w hW => rheld_at W u e1 e2 e3 (ih u (by simp) (all_two hw).2.2 (all_two hn).2.2 (by omega) _ _ _ _ hru) (by omega) o 1 (by unfold Pls; omega) w hW)
    have HE := mkHid (fun s h => sh_two (o := o) (n := 0) (x := emp) (s := s) (t := t) (u := u) ho h)
    have HWb := mkHid hW
    have HD := mkHid hd
    have HD' := mkHid hd'
    generalize hlB o 0 t = r1 at *
    generalize hlB o 1 u = r2 at *
    clear ih hw hn hok hL hz hd hd' hrt hru hl1 hl2 hq1 hq2 hW hsz
    rcases ho with rfl | rfl | rfl
    · go_enter Tryd.func11, Tryd.ntmps11
      go_wp2
      obtain ⟨W2, hW2⟩ : ∃ W2, (w.alloc (.cells #[.int .i64 3, .int .i64 0, .string emp, .slice (some ⟨g, of, none⟩) 2 cap] 36)).alloc (.cells #[.string ⟨#[]⟩, .string ⟨#[]⟩, .string ⟨#[]⟩, .string ⟨#[32, 43, 32]⟩, .string ⟨#[32, 45, 32]⟩, .string ⟨#[32, 42, 32]⟩] 9) = W2 := ⟨_, rfl⟩
      have hB2 : Below w.heap.size w W2 := by rw [← hW2]; exact ((Below.refl _ _).alloc (Nat.le_refl _) _).alloc (by simp) _
      have hs2 : W2.heap.size = w.heap.size + 2 := by rw [← hW2]; simp
      have k1 : W2.heap[w.heap.size]? = some (.cells #[.int .i64 3, .int .i64 0, .string emp, .slice (some ⟨g, of, none⟩) 2 cap] 36) := by rw [← hW2, heap_alloc_old _ _ (by simp)]; exact heap_alloc_new w _
      have k2 : W2.heap[w.heap.size + 1]? = some (.cells #[.string ⟨#[]⟩, .string ⟨#[]⟩, .string ⟨#[]⟩, .string ⟨#[32, 43, 32]⟩, .string ⟨#[32, 45, 32]⟩, .string ⟨#[32, 42, 32]⟩] 9) := by
        rw [← hW2]
        have := heap_alloc_new (w.alloc (.cells #[.int .i64 3, .int .i64 0, .string emp, .slice (some ⟨g, of, none⟩) 2 cap] 36)) (.cells #[.string ⟨#[]⟩, .string ⟨#[]⟩, .string ⟨#[]⟩, .string ⟨#[32, 43, 32]⟩, .string ⟨#[32, 45, 32]⟩, .string ⟨#[32, 42, 32]⟩] 9)
        rwa [World.size_alloc] at this
      rw [hW2]
      clear hW2
      haveI : Nonempty (ClV W2) := ⟨⟨W2, Below.refl _ _⟩⟩
      have F1 : ∀ (n : ClV W2), n.w.cell? ⟨w.heap.size, 3, none⟩ = some (.slice (some ⟨g, of, none⟩) 2 cap) := fun n => blk_cells k1 n 3
      have F2 : ∀ (n : ClV W2), n.w.cell? ⟨w.heap.size + 1, 3, none⟩ = some (.string ⟨#[32, 43, 32]⟩) := fun n => blk_cells k2 n 3
      have hW2' := mkHid (HWb.out.trans (hB2.mono hWs))
      have HN : ∀ n : ClV W2, Below W.heap.size W n.w := fun n => hW2'.out.trans (n.bel.mono (by omega))
      have f0 : ∀ (n : ClV W2), n.w.cell? ⟨g, of, none⟩ = some (.int .i64 t.op) := fun n => (HD.out.to (HN n)).1
      have f1 : ∀ (n : ClV W2), n.w.cell? ⟨g, of + 1, none⟩ = some d1 := fun n => (HD.out.to (HN n)).2.1
      have f2 : ∀ (n : ClV W2), n.w.cell? ⟨g, of + 2, none⟩ = some d2 := fun n => (HD.out.to (HN n)).2.2.1
      have f3 : ∀ (n : ClV W2), n.w.cell? ⟨g, of + 3, none⟩ = some d3 := fun n => (HD.out.to (HN n)).2.2.2
      have g0 : ∀ (n : ClV W2), n.w.cell? ⟨g, of + 4, none⟩ = some (.int .i64 u.op) := fun n => (HD'.out.to (HN n)).1
      have g1 : ∀ (n : ClV W2), n.w.cell? ⟨g, of + 4 + 1, none⟩ = some e1 := fun n => (HD'.out.to (HN n)).2.1
      have g2 : ∀ (n : ClV W2), n.w.cell? ⟨g, of + 4 + 2, none⟩ = some e2 := fun n => (HD'.out.to (HN n)).2.2.1
      have g3 : ∀ (n : ClV W2), n.w.cell? ⟨g, of + 4 + 3, none⟩ = some e3 := fun n => (HD'.out.to (HN n)).2.2.2
      have C1 := mkHid (fun n : ClV W2 => clv_call (fun w1 h => H1.out w1 (hW2'.out.trans (h.mono (by omega)))) n)
      have C2 := mkHid (fun n : ClV W2 => clv_call (fun w1 h => H2.out w1 (hW2'.out.trans (h.mono (by omega)))) n)
      have HBz := mkHid hB2
      clear k1 k2 HN hB2
      refine wp_region_cls (fun w' => ∃ n : ClV W2, w' = n.w) (by kernel_rfl) (by kernel_rfl) ⟨⟨W2.drew, (Below.refl _ _).drew⟩, rfl⟩ ?_
      repeat (first | go_big_quiet_step ((fail)) | quiet_step ((fail)))
      first
        | go_big_quiet_step ((go_at_call 21; exact C1.out _))
        | quiet_step ((go_at_call 21; exact C1.out _))
      repeat (first | go_big_quiet_step ((fail)) | quiet_step ((fail)))
      first
        | go_big_quiet_step ((go_at_call 21; exact C2.out _))
        | quiet_step ((go_at_call 21; exact C2.out _))
      repeat (first | go_big_quiet_step ((fail)) | quiet_step ((fail)))
      refine wpQuiet_nil ?_
      intro _ hw'
      obtain ⟨n1, hw''⟩ := hw'
      subst hw''
      have hB1 := mkHid (HBz.out.trans (n1.bel.mono (by omega)))
      clear F1 F2 f0 f1 f2 f3 g0 g1 g2 g3
      go_wp2
      go_ret
      exact ⟨by rw [← HE.out ⟨#[32, 43, 32]⟩ rfl]; rfl, hB1.out⟩
    · go_enter Tryd.func11, Tryd.ntmps11
      go_wp2
      obtain ⟨W2, hW2⟩ : ∃ W2, (w.alloc (.cells #[.int .i64 4, .int .i64 0, .string emp, .slice (some ⟨g, of, none⟩) 2 cap] 36)).alloc (.cells #[.string ⟨#[]⟩, .string ⟨#[]⟩, .string ⟨#[]⟩, .string ⟨#[32, 43, 32]⟩, .string ⟨#[32, 45, 32]⟩, .string ⟨#[32, 42, 32]⟩] 9) = W2 := ⟨_, rfl⟩
      have hB2 : Below w.heap.size w W2 := by rw [← hW2]; exact ((Below.refl _ _).alloc (Nat.le_refl _) _).alloc (by simp) _
      have hs2 : W2.heap.size = w.heap.size + 2 := by rw [← hW2]; simp
      have k1 : W2.heap[w.heap.size]? = some (.cells #[.int .i64 4, .int .i64 0, .string emp, .slice (some ⟨g, of, none⟩) 2 cap] 36) := by rw [← hW2, heap_alloc_old _ _ (by simp)]; exact heap_alloc_new w _
      have k2 : W2.heap[w.heap.size + 1]? = some (.cells #[.string ⟨#[]⟩, .string ⟨#[]⟩, .string ⟨#[]⟩, .string ⟨#[32, 43, 32]⟩, .string ⟨#[32, 45, 32]⟩, .string ⟨#[32, 42, 32]⟩] 9) := by
        rw [← hW2]
        have := heap_alloc_new (w.alloc (.cells #[.int .i64 4, .int .i64 0, .string emp, .slice (some ⟨g, of, none⟩) 2 cap] 36)) (.cells #[.string ⟨#[]⟩, .string ⟨#[]⟩, .string ⟨#[]⟩, .string ⟨#[32, 43, 32]⟩, .string ⟨#[32, 45, 32]⟩, .string ⟨#[32, 42, 32]⟩] 9)
        rwa [World.size_alloc] at this
      rw [hW2]
      clear hW2
      haveI : Nonempty (ClV W2) := ⟨⟨W2, Below.refl _ _⟩⟩
      have F1 : ∀ (n : ClV W2), n.w.cell? ⟨w.heap.size, 3, none⟩ = some (.slice (some ⟨g, of, none⟩) 2 cap) := fun n => blk_cells k1 n 3
      have F2 : ∀ (n : ClV W2), n.w.cell? ⟨w.heap.size + 1, 4, none⟩ = some (.string ⟨#[32, 45, 32]⟩) := fun n => blk_cells k2 n 4
      have hW2' := mkHid (HWb.out.trans (hB2.mono hWs))
      have HN : ∀ n : ClV W2, Below W.heap.size W n.w := fun n => hW2'.out.trans (n.bel.mono (by omega))
      have f0 : ∀ (n : ClV W2), n.w.cell? ⟨g, of, none⟩ = some (.int .i64 t.op) := fun n => (HD.out.to (HN n)).1
      have f1 : ∀ (n : ClV W2), n.w.cell? ⟨g, of + 1, none⟩ = some d1 := fun n => (HD.out.to (HN n)).2.1
      have f2 : ∀ (n : ClV W2), n.w.cell? ⟨g, of + 2, none⟩ = some d2 := fun n => (HD.out.to (HN n)).2.2.1
      have f3 : ∀ (n : ClV W2), n.w.cell? ⟨g, of + 3, none⟩ = some d3 := fun n => (HD.out.to (HN n)).2.2.2
      have g0 : ∀ (n : ClV W2), n.w.cell? ⟨g, of + 4, none⟩ = some (.int .i64 u.op) := fun n => (HD'.out.to (HN n)).1
      have g1 : ∀ (n : ClV W2), n.w.cell? ⟨g, of + 4 + 1, none⟩ = some e1 := fun n => (HD'.out.to (HN n)).2.1
      have g2 : ∀ (n : ClV W2), n.w.cell? ⟨g, of + 4 + 2, none⟩ = some e2 := fun n => (HD'.out.to (HN n)).2.2.1
      have g3 : ∀ (n : ClV W2), n.w.cell? ⟨g, of + 4 + 3, none⟩ = some e3 := fun n => (HD'.out.to (HN n)).2.2.2
      have C1 := mkHid (fun n : ClV W2 => clv_call (fun w1 h => H1.out w1 (hW2'.out.trans (h.mono (by omega)))) n)
      have C2 := mkHid (fun n : ClV W2 => clv_call (fun w1 h => H2.out w1 (hW2'.out.trans (h.mono (by omega)))) n)
      have HBz := mkHid hB2
      clear k1 k2 HN hB2
      refine wp_region_cls (fun w' => ∃ n : ClV W2, w' = n.w) (by kernel_rfl) (by kernel_rfl) ⟨⟨W2.drew, (Below.refl _ _).drew⟩, rfl⟩ ?_
      repeat (first | go_big_quiet_step ((fail)) | quiet_step ((fail)))
      first
        | go_big_quiet_step ((go_at_call 21; exact C1.out _))
        | quiet_step ((go_at_call 21; exact C1.out _))
      repeat (first | go_big_quiet_step ((fail)) | quiet_step ((fail)))
      first
        | go_big_quiet_step ((go_at_call 21; exact C2.out _))
        | quiet_step ((go_at_call 21; exact C2.out _))
      repeat (first | go_big_quiet_step ((fail)) | quiet_step ((fail)))
      refine wpQuiet_nil ?_
      intro _ hw'
      obtain ⟨n1, hw''⟩ := hw'
      subst hw''
      have hB1 := mkHid (HBz.out.trans (n1.bel.mono (by omega)))
      clear F1 F2 f0 f1 f2 f3 g0 g1 g2 g3
      go_wp2
      go_ret
      exact ⟨by rw [← HE.out ⟨#[32, 45, 32]⟩ rfl]; rfl, hB1.out⟩
    · go_enter Tryd.func11, Tryd.ntmps11
      go_wp2
      obtain ⟨W2, hW2⟩ : ∃ W2, (w.alloc (.cells #[.int .i64 5, .int .i64 0, .string emp, .slice (some ⟨g, of, none⟩) 2 cap] 36)).alloc (.cells #[.string ⟨#[]⟩, .string ⟨#[]⟩, .string ⟨#[]⟩, .string ⟨#[32, 43, 32]⟩, .string ⟨#[32, 45, 32]⟩, .string ⟨#[32, 42, 32]⟩] 9) = W2 := ⟨_, rfl⟩
      have hB2 : Below w.heap.size w W2 := by rw [← hW2]; exact ((Below.refl _ _).alloc (Nat.le_refl _) _).alloc (by simp) _
      have hs2 : W2.heap.size = w.heap.size + 2 := by rw [← hW2]; simp
      have k1 : W2.heap[w.heap.size]? = some (.cells #[.int .i64 5, .int .i64 0, .string emp, .slice (some ⟨g, of, none⟩) 2 cap] 36) := by rw [← hW2, heap_alloc_old _ _ (by simp)]; exact heap_alloc_new w _
      have k2 : W2.heap[w.heap.size + 1]? = some (.cells #[.string ⟨#[]⟩, .string ⟨#[]⟩, .string ⟨#[]⟩, .string ⟨#[32, 43, 32]⟩, .string ⟨#[32, 45, 32]⟩, .string ⟨#[32, 42, 32]⟩] 9) := by
        rw [← hW2]
        have := heap_alloc_new (w.alloc (.cells #[.int .i64 5, .int .i64 0, .string emp, .slice (some ⟨g, of, none⟩) 2 cap] 36)) (.cells #[.string ⟨#[]⟩, .string ⟨#[]⟩, .string ⟨#[]⟩, .string ⟨#[32, 43, 32]⟩, .string ⟨#[32, 45, 32]⟩, .string ⟨#[32, 42, 32]⟩] 9)
        rwa [World.size_alloc] at this
      rw [hW2]
      clear hW2
      haveI : Nonempty (ClV W2) := ⟨⟨W2, Below.refl _ _⟩⟩
      have F1 : ∀ (n : ClV W2), n.w.cell? ⟨w.heap.size, 3, none⟩ = some (.slice (some ⟨g, of, none⟩) 2 cap) := fun n => blk_cells k1 n 3
      have F2 : ∀ (n : ClV W2), n.w.cell? ⟨w.heap.size + 1, 5, none⟩ = some (.string ⟨#[32, 42, 32]⟩) := fun n => blk_cells k2 n 5
      have hW2' := mkHid (HWb.out.trans (hB2.mono hWs))
      have HN : ∀ n : ClV W2, Below W.heap.size W n.w := fun n => hW2'.out.trans (n.bel.mono (by omega))
      have f0 : ∀ (n : ClV W2), n.w.cell? ⟨g, of, none⟩ = some (.int .i64 t.op) := fun n => (HD.out.to (HN n)).1
      have f1 : ∀ (n : ClV W2), n.w.cell? ⟨g, of + 1, none⟩ = some d1 := fun n => (HD.out.to (HN n)).2.1
      have f2 : ∀ (n : ClV W2), n.w.cell? ⟨g, of + 2, none⟩ = some d2 := fun n => (HD.out.to (HN n)).2.2.1
      have f3 : ∀ (n : ClV W2), n.w.cell? ⟨g, of + 3, none⟩ = some d3 := fun n => (HD.out.to (HN n)).2.2.2
      have g0 : ∀ (n : ClV W2), n.w.cell? ⟨g, of + 4, none⟩ = some (.int .i64 u.op) := fun n => (HD'.out.to (HN n)).1
      have g1 : ∀ (n : ClV W2), n.w.cell? ⟨g, of + 4 + 1, none⟩ = some e1 := fun n => (HD'.out.to (HN n)).2.1
      have g2 : ∀ (n : ClV W2), n.w.cell? ⟨g, of + 4 + 2, none⟩ = some e2 := fun n => (HD'.out.to (HN n)).2.2.1
      have g3 : ∀ (n : ClV W2), n.w.cell? ⟨g, of + 4 + 3, none⟩ = some e3 := fun n => (HD'.out.to (HN n)).2.2.2
      have C1 := mkHid (fun n : ClV W2 => clv_call (fun w1 h => H1.out w1 (hW2'.out.trans (h.mono (by omega)))) n)
      have C2 := mkHid (fun n : ClV W2 => clv_call (fun w1 h => H2.out w1 (hW2'.out.trans (h.mono (by omega)))) n)
      have HBz := mkHid hB2
      clear k1 k2 HN hB2
      refine wp_region_cls (fun w' => ∃ n : ClV W2, w' = n.w) (by kernel_rfl) (by kernel_rfl) ⟨⟨W2.drew, (Below.refl _ _).drew⟩, rfl⟩ ?_
      repeat (first | go_big_quiet_step ((fail)) | quiet_step ((fail)))
      first
        | go_big_quiet_step ((go_at_call 21; exact C1.out _))
        | quiet_step ((go_at_call 21; exact C1.out _))
      repeat (first | go_big_quiet_step ((fail)) | quiet_step ((fail)))
      first
        | go_big_quiet_step ((go_at_call 21; exact C2.out _))
        | quiet_step ((go_at_call 21; exact C2.out _))
      repeat (first | go_big_quiet_step ((fail)) | quiet_step ((fail)))
      refine wpQuiet_nil ?_
      intro _ hw'
      obtain ⟨n1, hw''⟩ := hw'
      subst hw''
      have hB1 := mkHid (HBz.out.trans (n1.bel.mono (by omega)))
      clear F1 F2 f0 f1 f2 f3 g0 g1 g2 g3
      go_wp2
      go_ret
      exact ⟨by rw [← HE.out ⟨#[32, 42, 32]⟩ rfl]; rfl, hB1.out⟩
end Go.Proofs.YtncgmnijgdfenaaDoor.Gl
