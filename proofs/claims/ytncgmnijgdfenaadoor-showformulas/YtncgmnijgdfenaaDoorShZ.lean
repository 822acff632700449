/- The document's Formula: atoms. -/
import Derived.Test.YtncgmnijgdfenaaDoorShV
namespace Go.Proofs.YtncgmnijgdfenaaDoor.Gl
open Go Go.RowKit
set_option linter.unusedVariables false
set_option linter.unusedSimpArgs false

set_option maxRecDepth 100000 in
set_option maxHeartbeats 4000000 in
theorem rf_atom13 (W : World) (t u : Tm) (m : Int) (ao : Option Addr) (g of bcap cap : Nat) (d0 d1 d2 d3 e0 e1 e2 e3 : Value) (hd : At4 W g of d0 d1 d2 d3) (hd' : At4 W g (of + 4) e0 e1 e2 e3) (hf : RT W t d0 d1 d2 d3) (hg : RT W u e0 e1 e2 e3) (hz : (shT t).size ≤ 1000000) (hz' : (shT u).size ≤ 1000000) (hc1 : 2 ≤ bcap) (hc2 : bcap ≤ 9223372036854775807) (hm0 : 0 ≤ m) (hm1 : m ≤ 9223372036854775807) :
    RF W (.mk 13 emp 0 [t, u] []) (.int .i64 13) (.string emp) (.int .i64 0) (.slice (some ⟨g, of, none⟩) 2 bcap) (.slice ao 0 cap) := by
  intro w hW
  have hWs := hW.size
  have HWb := mkHid hW
  have HD := mkHid hd
  have HD' := mkHid hd'
  have HF := mkHid hf
  have HG := mkHid hg
  have HE := mkHid (sf_rel (o := 13) (x := emp) (m := 0) (t := t) (u := u) (a := []) (s := ⟨#[32, 61, 32]⟩) (by decide) (by decide) rfl)
  clear hd hd' hf hg hW
  · go_enter Tryd.func8, Tryd.ntmps8
    go_wp2
    obtain ⟨W2, hW2⟩ : ∃ W2, (w.alloc (.cells #[.int .i64 13, .string emp, .int .i64 0, .slice (some ⟨g, of, none⟩) 2 bcap, .slice ao 0 cap] 26)).alloc (.cells #[.string ⟨#[116, 114, 117, 101]⟩, .string ⟨#[102, 97, 108, 115, 101]⟩, .string ⟨#[110, 111, 116, 32]⟩, .string ⟨#[32, 97, 110, 100, 32]⟩, .string ⟨#[32, 111, 114, 32]⟩, .string ⟨#[32, 45, 62, 32]⟩, .string ⟨#[32, 60, 45, 62, 32]⟩, .string ⟨#[101, 120, 32]⟩, .string ⟨#[97, 108, 108, 32]⟩, .string ⟨#[32, 60, 61, 32]⟩, .string ⟨#[32, 60, 32]⟩, .string ⟨#[32, 62, 61, 32]⟩, .string ⟨#[32, 62, 32]⟩, .string ⟨#[32, 61, 32]⟩, .string ⟨#[32, 33, 61, 32]⟩, .string ⟨#[32, 126, 32]⟩] 9) = W2 := ⟨_, rfl⟩
    have hB2 : Below w.heap.size w W2 := by rw [← hW2]; exact ((Below.refl _ _).alloc (Nat.le_refl _) _).alloc (by simp) _
    have hs2 : W2.heap.size = w.heap.size + 2 := by rw [← hW2]; simp
    have k1 : W2.heap[w.heap.size]? = some (.cells #[.int .i64 13, .string emp, .int .i64 0, .slice (some ⟨g, of, none⟩) 2 bcap, .slice ao 0 cap] 26) := by rw [← hW2, heap_alloc_old _ _ (by simp)]; exact heap_alloc_new w _
    have k2 : W2.heap[w.heap.size + 1]? = some (.cells #[.string ⟨#[116, 114, 117, 101]⟩, .string ⟨#[102, 97, 108, 115, 101]⟩, .string ⟨#[110, 111, 116, 32]⟩, .string ⟨#[32, 97, 110, 100, 32]⟩, .string ⟨#[32, 111, 114, 32]⟩, .string ⟨#[32, 45, 62, 32]⟩, .string ⟨#[32, 60, 45, 62, 32]⟩, .string ⟨#[101, 120, 32]⟩, .string ⟨#[97, 108, 108, 32]⟩, .string ⟨#[32, 60, 61, 32]⟩, .string ⟨#[32, 60, 32]⟩, .string ⟨#[32, 62, 61, 32]⟩, .string ⟨#[32, 62, 32]⟩, .string ⟨#[32, 61, 32]⟩, .string ⟨#[32, 33, 61, 32]⟩, .string ⟨#[32, 126, 32]⟩] 9) := by
      rw [← hW2]
      have := heap_alloc_new (w.alloc (.cells #[.int .i64 13, .string emp, .int .i64 0, .slice (some ⟨g, of, none⟩) 2 bcap, .slice ao 0 cap] 26)) (.cells #[.string ⟨#[116, 114, 117, 101]⟩, .string ⟨#[102, 97, 108, 115, 101]⟩, .string ⟨#[110, 111, 116, 32]⟩, .string ⟨#[32, 97, 110, 100, 32]⟩, .string ⟨#[32, 111, 114, 32]⟩, .string ⟨#[32, 45, 62, 32]⟩, .string ⟨#[32, 60, 45, 62, 32]⟩, .string ⟨#[101, 120, 32]⟩, .string ⟨#[97, 108, 108, 32]⟩, .string ⟨#[32, 60, 61, 32]⟩, .string ⟨#[32, 60, 32]⟩, .string ⟨#[32, 62, 61, 32]⟩, .string ⟨#[32, 62, 32]⟩, .string ⟨#[32, 61, 32]⟩, .string ⟨#[32, 33, 61, 32]⟩, .string ⟨#[32, 126, 32]⟩] 9)
      rwa [World.size_alloc] at this
    rw [hW2]
    clear hW2
    haveI : Nonempty (ClV W2) := ⟨⟨W2, Below.refl _ _⟩⟩
    have F2 : ∀ (n : ClV W2), n.w.cell? ⟨w.heap.size + 1, 13, none⟩ = some (.string ⟨#[32, 61, 32]⟩) := fun n => blk_cells k2 n 13
    have hW2' := mkHid (HWb.out.trans (hB2.mono hWs))
    have HN : ∀ n : ClV W2, Below W.heap.size W n.w := fun n => hW2'.out.trans (n.bel.mono (by omega))
    have b3 : ∀ (n : ClV W2), n.w.cell? ⟨w.heap.size, 3, none⟩ = some (.slice (some ⟨g, of, none⟩) 2 bcap) := fun n => blk_cells k1 n 3
    have f0 : ∀ (n : ClV W2), n.w.cell? ⟨g, of, none⟩ = some (d0) := fun n => (HD.out.to (HN n)).1
    have f1 : ∀ (n : ClV W2), n.w.cell? ⟨g, of + 1, none⟩ = some (d1) := fun n => (HD.out.to (HN n)).2.1
    have f2 : ∀ (n : ClV W2), n.w.cell? ⟨g, of + 2, none⟩ = some (d2) := fun n => (HD.out.to (HN n)).2.2.1
    have f3 : ∀ (n : ClV W2), n.w.cell? ⟨g, of + 3, none⟩ = some (d3) := fun n => (HD.out.to (HN n)).2.2.2
    have g0 : ∀ (n : ClV W2), n.w.cell? ⟨g, of + 4, none⟩ = some (e0) := fun n => (HD'.out.to (HN n)).1
    have g1 : ∀ (n : ClV W2), n.w.cell? ⟨g, of + 4 + 1, none⟩ = some (e1) := fun n => (HD'.out.to (HN n)).2.1
    have g2 : ∀ (n : ClV W2), n.w.cell? ⟨g, of + 4 + 2, none⟩ = some (e2) := fun n => (HD'.out.to (HN n)).2.2.1
    have g3 : ∀ (n : ClV W2), n.w.cell? ⟨g, of + 4 + 3, none⟩ = some (e3) := fun n => (HD'.out.to (HN n)).2.2.2
    have C1 := mkHid (fun n : ClV W2 => clv_call (fun w1 h => HF.out w1 (hW2'.out.trans (h.mono (by omega)))) n)
    have C2 := mkHid (fun n : ClV W2 => clv_call (fun w1 h => HG.out w1 (hW2'.out.trans (h.mono (by omega)))) n)
    clear k1 k2 HN
    have HBz := mkHid hB2
    refine wp_region_cls (fun w' => ∃ n : ClV W2, w' = n.w) (by kernel_rfl) (by kernel_rfl) ⟨⟨W2.drew, (Below.refl _ _).drew⟩, rfl⟩ ?_
    repeat (first | go_big_quiet_step ((fail)) | quiet_step ((fail)))
    first
        | go_big_quiet_step ((go_at_call 11; exact C1.out _))
        | quiet_step ((go_at_call 11; exact C1.out _))
    repeat (first | go_big_quiet_step ((fail)) | quiet_step ((fail)))
    first
        | go_big_quiet_step ((go_at_call 11; exact C2.out _))
        | quiet_step ((go_at_call 11; exact C2.out _))
    repeat (first | go_big_quiet_step ((fail)) | quiet_step ((fail)))
    refine wpQuiet_nil ?_
    intro _ hw'
    obtain ⟨n1, hw''⟩ := hw'
    subst hw''
    have hB1 := mkHid (HBz.out.trans (n1.bel.mono (by omega)))
    clear F2 b3 f0 f1 f2 f3 g0 g1 g2 g3
    go_wp2
    go_ret
    exact ⟨by rw [← HE.out]; rfl, hB1.out⟩
set_option maxRecDepth 100000 in
set_option maxHeartbeats 4000000 in
theorem rf_atom14 (W : World) (t u : Tm) (m : Int) (ao : Option Addr) (g of bcap cap : Nat) (d0 d1 d2 d3 e0 e1 e2 e3 : Value) (hd : At4 W g of d0 d1 d2 d3) (hd' : At4 W g (of + 4) e0 e1 e2 e3) (hf : RT W t d0 d1 d2 d3) (hg : RT W u e0 e1 e2 e3) (hz : (shT t).size ≤ 1000000) (hz' : (shT u).size ≤ 1000000) (hc1 : 2 ≤ bcap) (hc2 : bcap ≤ 9223372036854775807) (hm0 : 0 ≤ m) (hm1 : m ≤ 9223372036854775807) :
    RF W (.mk 14 emp 0 [t, u] []) (.int .i64 14) (.string emp) (.int .i64 0) (.slice (some ⟨g, of, none⟩) 2 bcap) (.slice ao 0 cap) := by
  intro w hW
  have hWs := hW.size
  have HWb := mkHid hW
  have HD := mkHid hd
  have HD' := mkHid hd'
  have HF := mkHid hf
  have HG := mkHid hg
  have HE := mkHid (sf_rel (o := 14) (x := emp) (m := 0) (t := t) (u := u) (a := []) (s := ⟨#[32, 33, 61, 32]⟩) (by decide) (by decide) rfl)
  clear hd hd' hf hg hW
  · go_enter Tryd.func8, Tryd.ntmps8
    go_wp2
    obtain ⟨W2, hW2⟩ : ∃ W2, (w.alloc (.cells #[.int .i64 14, .string emp, .int .i64 0, .slice (some ⟨g, of, none⟩) 2 bcap, .slice ao 0 cap] 26)).alloc (.cells #[.string ⟨#[116, 114, 117, 101]⟩, .string ⟨#[102, 97, 108, 115, 101]⟩, .string ⟨#[110, 111, 116, 32]⟩, .string ⟨#[32, 97, 110, 100, 32]⟩, .string ⟨#[32, 111, 114, 32]⟩, .string ⟨#[32, 45, 62, 32]⟩, .string ⟨#[32, 60, 45, 62, 32]⟩, .string ⟨#[101, 120, 32]⟩, .string ⟨#[97, 108, 108, 32]⟩, .string ⟨#[32, 60, 61, 32]⟩, .string ⟨#[32, 60, 32]⟩, .string ⟨#[32, 62, 61, 32]⟩, .string ⟨#[32, 62, 32]⟩, .string ⟨#[32, 61, 32]⟩, .string ⟨#[32, 33, 61, 32]⟩, .string ⟨#[32, 126, 32]⟩] 9) = W2 := ⟨_, rfl⟩
    have hB2 : Below w.heap.size w W2 := by rw [← hW2]; exact ((Below.refl _ _).alloc (Nat.le_refl _) _).alloc (by simp) _
    have hs2 : W2.heap.size = w.heap.size + 2 := by rw [← hW2]; simp
    have k1 : W2.heap[w.heap.size]? = some (.cells #[.int .i64 14, .string emp, .int .i64 0, .slice (some ⟨g, of, none⟩) 2 bcap, .slice ao 0 cap] 26) := by rw [← hW2, heap_alloc_old _ _ (by simp)]; exact heap_alloc_new w _
    have k2 : W2.heap[w.heap.size + 1]? = some (.cells #[.string ⟨#[116, 114, 117, 101]⟩, .string ⟨#[102, 97, 108, 115, 101]⟩, .string ⟨#[110, 111, 116, 32]⟩, .string ⟨#[32, 97, 110, 100, 32]⟩, .string ⟨#[32, 111, 114, 32]⟩, .string ⟨#[32, 45, 62, 32]⟩, .string ⟨#[32, 60, 45, 62, 32]⟩, .string ⟨#[101, 120, 32]⟩, .string ⟨#[97, 108, 108, 32]⟩, .string ⟨#[32, 60, 61, 32]⟩, .string ⟨#[32, 60, 32]⟩, .string ⟨#[32, 62, 61, 32]⟩, .string ⟨#[32, 62, 32]⟩, .string ⟨#[32, 61, 32]⟩, .string ⟨#[32, 33, 61, 32]⟩, .string ⟨#[32, 126, 32]⟩] 9) := by
      rw [← hW2]
      have := heap_alloc_new (w.alloc (.cells #[.int .i64 14, .string emp, .int .i64 0, .slice (some ⟨g, of, none⟩) 2 bcap, .slice ao 0 cap] 26)) (.cells #[.string ⟨#[116, 114, 117, 101]⟩, .string ⟨#[102, 97, 108, 115, 101]⟩, .string ⟨#[110, 111, 116, 32]⟩, .string ⟨#[32, 97, 110, 100, 32]⟩, .string ⟨#[32, 111, 114, 32]⟩, .string ⟨#[32, 45, 62, 32]⟩, .string ⟨#[32, 60, 45, 62, 32]⟩, .string ⟨#[101, 120, 32]⟩, .string ⟨#[97, 108, 108, 32]⟩, .string ⟨#[32, 60, 61, 32]⟩, .string ⟨#[32, 60, 32]⟩, .string ⟨#[32, 62, 61, 32]⟩, .string ⟨#[32, 62, 32]⟩, .string ⟨#[32, 61, 32]⟩, .string ⟨#[32, 33, 61, 32]⟩, .string ⟨#[32, 126, 32]⟩] 9)
      rwa [World.size_alloc] at this
    rw [hW2]
    clear hW2
    haveI : Nonempty (ClV W2) := ⟨⟨W2, Below.refl _ _⟩⟩
    have F2 : ∀ (n : ClV W2), n.w.cell? ⟨w.heap.size + 1, 14, none⟩ = some (.string ⟨#[32, 33, 61, 32]⟩) := fun n => blk_cells k2 n 14
    have hW2' := mkHid (HWb.out.trans (hB2.mono hWs))
    have HN : ∀ n : ClV W2, Below W.heap.size W n.w := fun n => hW2'.out.trans (n.bel.mono (by omega))
    have b3 : ∀ (n : ClV W2), n.w.cell? ⟨w.heap.size, 3, none⟩ = some (.slice (some ⟨g, of, none⟩) 2 bcap) := fun n => blk_cells k1 n 3
    have f0 : ∀ (n : ClV W2), n.w.cell? ⟨g, of, none⟩ = some (d0) := fun n => (HD.out.to (HN n)).1
    have f1 : ∀ (n : ClV W2), n.w.cell? ⟨g, of + 1, none⟩ = some (d1) := fun n => (HD.out.to (HN n)).2.1
    have f2 : ∀ (n : ClV W2), n.w.cell? ⟨g, of + 2, none⟩ = some (d2) := fun n => (HD.out.to (HN n)).2.2.1
    have f3 : ∀ (n : ClV W2), n.w.cell? ⟨g, of + 3, none⟩ = some (d3) := fun n => (HD.out.to (HN n)).2.2.2
    have g0 : ∀ (n : ClV W2), n.w.cell? ⟨g, of + 4, none⟩ = some (e0) := fun n => (HD'.out.to (HN n)).1
    have g1 : ∀ (n : ClV W2), n.w.cell? ⟨g, of + 4 + 1, none⟩ = some (e1) := fun n => (HD'.out.to (HN n)).2.1
    have g2 : ∀ (n : ClV W2), n.w.cell? ⟨g, of + 4 + 2, none⟩ = some (e2) := fun n => (HD'.out.to (HN n)).2.2.1
    have g3 : ∀ (n : ClV W2), n.w.cell? ⟨g, of + 4 + 3, none⟩ = some (e3) := fun n => (HD'.out.to (HN n)).2.2.2
    have C1 := mkHid (fun n : ClV W2 => clv_call (fun w1 h => HF.out w1 (hW2'.out.trans (h.mono (by omega)))) n)
    have C2 := mkHid (fun n : ClV W2 => clv_call (fun w1 h => HG.out w1 (hW2'.out.trans (h.mono (by omega)))) n)
    clear k1 k2 HN
    have HBz := mkHid hB2
    refine wp_region_cls (fun w' => ∃ n : ClV W2, w' = n.w) (by kernel_rfl) (by kernel_rfl) ⟨⟨W2.drew, (Below.refl _ _).drew⟩, rfl⟩ ?_
    repeat (first | go_big_quiet_step ((fail)) | quiet_step ((fail)))
    first
        | go_big_quiet_step ((go_at_call 11; exact C1.out _))
        | quiet_step ((go_at_call 11; exact C1.out _))
    repeat (first | go_big_quiet_step ((fail)) | quiet_step ((fail)))
    first
        | go_big_quiet_step ((go_at_call 11; exact C2.out _))
        | quiet_step ((go_at_call 11; exact C2.out _))
    repeat (first | go_big_quiet_step ((fail)) | quiet_step ((fail)))
    refine wpQuiet_nil ?_
    intro _ hw'
    obtain ⟨n1, hw''⟩ := hw'
    subst hw''
    have hB1 := mkHid (HBz.out.trans (n1.bel.mono (by omega)))
    clear F2 b3 f0 f1 f2 f3 g0 g1 g2 g3
    go_wp2
    go_ret
    exact ⟨by rw [← HE.out]; rfl, hB1.out⟩
set_option maxRecDepth 100000 in
set_option maxHeartbeats 4000000 in
theorem rf_atom15 (W : World) (t u : Tm) (m : Int) (ao : Option Addr) (g of bcap cap : Nat) (d0 d1 d2 d3 e0 e1 e2 e3 : Value) (hd : At4 W g of d0 d1 d2 d3) (hd' : At4 W g (of + 4) e0 e1 e2 e3) (hf : RT W t d0 d1 d2 d3) (hg : RT W u e0 e1 e2 e3) (hz : (shT t).size ≤ 1000000) (hz' : (shT u).size ≤ 1000000) (hc1 : 2 ≤ bcap) (hc2 : bcap ≤ 9223372036854775807) (hm0 : 0 ≤ m) (hm1 : m ≤ 9223372036854775807) :
    RF W (.mk 15 emp m [t, u] []) (.int .i64 15) (.string emp) (.int .i64 m) (.slice (some ⟨g, of, none⟩) 2 bcap) (.slice ao 0 cap) := by
  intro w hW
  have hWs := hW.size
  have HWb := mkHid hW
  have HD := mkHid hd
  have HD' := mkHid hd'
  have HF := mkHid hf
  have HG := mkHid hg
  have HE := mkHid (sf_cong (x := emp) (m := m) (t := t) (u := u) (a := []) (s := ⟨#[32, 126, 32]⟩) rfl)
  have NB := mkHid (fun w => rnumber_at m.toNat w (by omega))
  rw [Int.toNat_of_nonneg hm0] at NB
  have hdz := dec_20 hm1
  generalize dec m.toNat = dm at *
  clear hd hd' hf hg hW
  · go_enter Tryd.func8, Tryd.ntmps8
    go_wp2
    obtain ⟨W2, hW2⟩ : ∃ W2, (w.alloc (.cells #[.int .i64 15, .string emp, .int .i64 m, .slice (some ⟨g, of, none⟩) 2 bcap, .slice ao 0 cap] 26)).alloc (.cells #[.string ⟨#[116, 114, 117, 101]⟩, .string ⟨#[102, 97, 108, 115, 101]⟩, .string ⟨#[110, 111, 116, 32]⟩, .string ⟨#[32, 97, 110, 100, 32]⟩, .string ⟨#[32, 111, 114, 32]⟩, .string ⟨#[32, 45, 62, 32]⟩, .string ⟨#[32, 60, 45, 62, 32]⟩, .string ⟨#[101, 120, 32]⟩, .string ⟨#[97, 108, 108, 32]⟩, .string ⟨#[32, 60, 61, 32]⟩, .string ⟨#[32, 60, 32]⟩, .string ⟨#[32, 62, 61, 32]⟩, .string ⟨#[32, 62, 32]⟩, .string ⟨#[32, 61, 32]⟩, .string ⟨#[32, 33, 61, 32]⟩, .string ⟨#[32, 126, 32]⟩] 9) = W2 := ⟨_, rfl⟩
    have hB2 : Below w.heap.size w W2 := by rw [← hW2]; exact ((Below.refl _ _).alloc (Nat.le_refl _) _).alloc (by simp) _
    have hs2 : W2.heap.size = w.heap.size + 2 := by rw [← hW2]; simp
    have k1 : W2.heap[w.heap.size]? = some (.cells #[.int .i64 15, .string emp, .int .i64 m, .slice (some ⟨g, of, none⟩) 2 bcap, .slice ao 0 cap] 26) := by rw [← hW2, heap_alloc_old _ _ (by simp)]; exact heap_alloc_new w _
    have k2 : W2.heap[w.heap.size + 1]? = some (.cells #[.string ⟨#[116, 114, 117, 101]⟩, .string ⟨#[102, 97, 108, 115, 101]⟩, .string ⟨#[110, 111, 116, 32]⟩, .string ⟨#[32, 97, 110, 100, 32]⟩, .string ⟨#[32, 111, 114, 32]⟩, .string ⟨#[32, 45, 62, 32]⟩, .string ⟨#[32, 60, 45, 62, 32]⟩, .string ⟨#[101, 120, 32]⟩, .string ⟨#[97, 108, 108, 32]⟩, .string ⟨#[32, 60, 61, 32]⟩, .string ⟨#[32, 60, 32]⟩, .string ⟨#[32, 62, 61, 32]⟩, .string ⟨#[32, 62, 32]⟩, .string ⟨#[32, 61, 32]⟩, .string ⟨#[32, 33, 61, 32]⟩, .string ⟨#[32, 126, 32]⟩] 9) := by
      rw [← hW2]
      have := heap_alloc_new (w.alloc (.cells #[.int .i64 15, .string emp, .int .i64 m, .slice (some ⟨g, of, none⟩) 2 bcap, .slice ao 0 cap] 26)) (.cells #[.string ⟨#[116, 114, 117, 101]⟩, .string ⟨#[102, 97, 108, 115, 101]⟩, .string ⟨#[110, 111, 116, 32]⟩, .string ⟨#[32, 97, 110, 100, 32]⟩, .string ⟨#[32, 111, 114, 32]⟩, .string ⟨#[32, 45, 62, 32]⟩, .string ⟨#[32, 60, 45, 62, 32]⟩, .string ⟨#[101, 120, 32]⟩, .string ⟨#[97, 108, 108, 32]⟩, .string ⟨#[32, 60, 61, 32]⟩, .string ⟨#[32, 60, 32]⟩, .string ⟨#[32, 62, 61, 32]⟩, .string ⟨#[32, 62, 32]⟩, .string ⟨#[32, 61, 32]⟩, .string ⟨#[32, 33, 61, 32]⟩, .string ⟨#[32, 126, 32]⟩] 9)
      rwa [World.size_alloc] at this
    rw [hW2]
    clear hW2
    haveI : Nonempty (ClV W2) := ⟨⟨W2, Below.refl _ _⟩⟩
    have F2 : ∀ (n : ClV W2), n.w.cell? ⟨w.heap.size + 1, 15, none⟩ = some (.string ⟨#[32, 126, 32]⟩) := fun n => blk_cells k2 n 15
    have hW2' := mkHid (HWb.out.trans (hB2.mono hWs))
    have HN : ∀ n : ClV W2, Below W.heap.size W n.w := fun n => hW2'.out.trans (n.bel.mono (by omega))
    have b3 : ∀ (n : ClV W2), n.w.cell? ⟨w.heap.size, 3, none⟩ = some (.slice (some ⟨g, of, none⟩) 2 bcap) := fun n => blk_cells k1 n 3
    have f0 : ∀ (n : ClV W2), n.w.cell? ⟨g, of, none⟩ = some (d0) := fun n => (HD.out.to (HN n)).1
    have f1 : ∀ (n : ClV W2), n.w.cell? ⟨g, of + 1, none⟩ = some (d1) := fun n => (HD.out.to (HN n)).2.1
    have f2 : ∀ (n : ClV W2), n.w.cell? ⟨g, of + 2, none⟩ = some (d2) := fun n => (HD.out.to (HN n)).2.2.1
    have f3 : ∀ (n : ClV W2), n.w.cell? ⟨g, of + 3, none⟩ = some (d3) := fun n => (HD.out.to (HN n)).2.2.2
    have g0 : ∀ (n : ClV W2), n.w.cell? ⟨g, of + 4, none⟩ = some (e0) := fun n => (HD'.out.to (HN n)).1
    have g1 : ∀ (n : ClV W2), n.w.cell? ⟨g, of + 4 + 1, none⟩ = some (e1) := fun n => (HD'.out.to (HN n)).2.1
    have g2 : ∀ (n : ClV W2), n.w.cell? ⟨g, of + 4 + 2, none⟩ = some (e2) := fun n => (HD'.out.to (HN n)).2.2.1
    have g3 : ∀ (n : ClV W2), n.w.cell? ⟨g, of + 4 + 3, none⟩ = some (e3) := fun n => (HD'.out.to (HN n)).2.2.2
    have C1 := mkHid (fun n : ClV W2 => clv_call (fun w1 h => HF.out w1 (hW2'.out.trans (h.mono (by omega)))) n)
    have C2 := mkHid (fun n : ClV W2 => clv_call (fun w1 h => HG.out w1 (hW2'.out.trans (h.mono (by omega)))) n)
    have K1 := mkHid k1
    clear k1 k2 HN
    have HBz := mkHid hB2
    refine wp_region_cls (fun w' => ∃ n : ClV W2, w' = n.w) (by kernel_rfl) (by kernel_rfl) ⟨⟨W2.drew, (Below.refl _ _).drew⟩, rfl⟩ ?_
    repeat (first | go_big_quiet_step ((fail)) | quiet_step ((fail)))
    first
        | go_big_quiet_step ((go_at_call 11; exact C1.out _))
        | quiet_step ((go_at_call 11; exact C1.out _))
    repeat (first | go_big_quiet_step ((fail)) | quiet_step ((fail)))
    first
        | go_big_quiet_step ((go_at_call 11; exact C2.out _))
        | quiet_step ((go_at_call 11; exact C2.out _))
    repeat (first | go_big_quiet_step ((fail)) | quiet_step ((fail)))
    refine wpQuiet_nil ?_
    intro _ hw'
    obtain ⟨n1, hw''⟩ := hw'
    subst hw''
    have hB1 := mkHid (HBz.out.trans (n1.bel.mono (by omega)))
    have x2 : n1.w.cell? ⟨w.heap.size, 2, none⟩ = some (.int .i64 m) := blk_cells K1.out n1 2
    have hsz := hB1.out.size
    clear F2 b3 f0 f1 f2 f3 g0 g1 g2 g3 C1 C2
    generalize n1.w = w1 at *
    go_wp2_with (go_at_call 16; refine (NB.out _).mono ?_; rintro e w5 ⟨rfl, hB5⟩)
    go_ret
    exact ⟨by rw [← HE.out]; rfl, hB1.out.trans (hB5.mono hsz)⟩
end Go.Proofs.YtncgmnijgdfenaaDoor.Gl
