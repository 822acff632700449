/- The document's Formula: two parts. -/
import Derived.Test.YtncgmnijgdfenaaDoorShV
namespace Go.Proofs.YtncgmnijgdfenaaDoor.Gl
open Go Go.RowKit
set_option linter.unusedVariables false
set_option linter.unusedSimpArgs false

set_option maxRecDepth 100000 in
set_option maxHeartbeats 4000000 in
theorem rf_pair3 (W : World) (f f' : Fm) (bo : Option Addr) (g of bcap cap : Nat) (d0 d1 d2 d3 d4 e0 e1 e2 e3 e4 : Value) (hd : At5 W g of d0 d1 d2 d3 d4) (hd' : At5 W g (of + 5) e0 e1 e2 e3 e4) (hf : RF W f d0 d1 d2 d3 d4) (hg : RF W f' e0 e1 e2 e3 e4) (hz : (shF f).size ≤ 1000000) (hz' : (shF f').size ≤ 1000000) (hc1 : 2 ≤ cap) (hc2 : cap ≤ 9223372036854775807) :
    RF W (.mk 3 emp 0 [] [f, f']) (.int .i64 3) (.string emp) (.int .i64 0) (.slice bo 0 bcap) (.slice (some ⟨g, of, none⟩) 2 cap) := by
  intro w hW
  have hWs := hW.size
  have HWb := mkHid hW
  have HD := mkHid hd
  have HD' := mkHid hd'
  have HF := mkHid hf
  have HG := mkHid hg
  have HE := mkHid (sf_pair (o := 3) (x := emp) (m := 0) (t := []) (f := f) (g := f') (s := ⟨#[32, 97, 110, 100, 32]⟩) (by decide) (by decide) rfl)
  clear hd hd' hf hg hW
  · go_enter Tryd.func8, Tryd.ntmps8
    go_wp2
    obtain ⟨W2, hW2⟩ : ∃ W2, (w.alloc (.cells #[.int .i64 3, .string emp, .int .i64 0, .slice bo 0 bcap, .slice (some ⟨g, of, none⟩) 2 cap] 26)).alloc (.cells #[.string ⟨#[116, 114, 117, 101]⟩, .string ⟨#[102, 97, 108, 115, 101]⟩, .string ⟨#[110, 111, 116, 32]⟩, .string ⟨#[32, 97, 110, 100, 32]⟩, .string ⟨#[32, 111, 114, 32]⟩, .string ⟨#[32, 45, 62, 32]⟩, .string ⟨#[32, 60, 45, 62, 32]⟩, .string ⟨#[101, 120, 32]⟩, .string ⟨#[97, 108, 108, 32]⟩, .string ⟨#[32, 60, 61, 32]⟩, .string ⟨#[32, 60, 32]⟩, .string ⟨#[32, 62, 61, 32]⟩, .string ⟨#[32, 62, 32]⟩, .string ⟨#[32, 61, 32]⟩, .string ⟨#[32, 33, 61, 32]⟩, .string ⟨#[32, 126, 32]⟩] 9) = W2 := ⟨_, rfl⟩
    have hB2 : Below w.heap.size w W2 := by rw [← hW2]; exact ((Below.refl _ _).alloc (Nat.le_refl _) _).alloc (by simp) _
    have hs2 : W2.heap.size = w.heap.size + 2 := by rw [← hW2]; simp
    have k1 : W2.heap[w.heap.size]? = some (.cells #[.int .i64 3, .string emp, .int .i64 0, .slice bo 0 bcap, .slice (some ⟨g, of, none⟩) 2 cap] 26) := by rw [← hW2, heap_alloc_old _ _ (by simp)]; exact heap_alloc_new w _
    have k2 : W2.heap[w.heap.size + 1]? = some (.cells #[.string ⟨#[116, 114, 117, 101]⟩, .string ⟨#[102, 97, 108, 115, 101]⟩, .string ⟨#[110, 111, 116, 32]⟩, .string ⟨#[32, 97, 110, 100, 32]⟩, .string ⟨#[32, 111, 114, 32]⟩, .string ⟨#[32, 45, 62, 32]⟩, .string ⟨#[32, 60, 45, 62, 32]⟩, .string ⟨#[101, 120, 32]⟩, .string ⟨#[97, 108, 108, 32]⟩, .string ⟨#[32, 60, 61, 32]⟩, .string ⟨#[32, 60, 32]⟩, .string ⟨#[32, 62, 61, 32]⟩, .string ⟨#[32, 62, 32]⟩, .string ⟨#[32, 61, 32]⟩, .string ⟨#[32, 33, 61, 32]⟩, .string ⟨#[32, 126, 32]⟩] 9) := by
      rw [← hW2]
      have := heap_alloc_new (w.alloc (.cells #[.int .i64 3, .string emp, .int .i64 0, .slice bo 0 bcap, .slice (some ⟨g, of, none⟩) 2 cap] 26)) (.cells #[.string ⟨#[116, 114, 117, 101]⟩, .string ⟨#[102, 97, 108, 115, 101]⟩, .string ⟨#[110, 111, 116, 32]⟩, .string ⟨#[32, 97, 110, 100, 32]⟩, .string ⟨#[32, 111, 114, 32]⟩, .string ⟨#[32, 45, 62, 32]⟩, .string ⟨#[32, 60, 45, 62, 32]⟩, .string ⟨#[101, 120, 32]⟩, .string ⟨#[97, 108, 108, 32]⟩, .string ⟨#[32, 60, 61, 32]⟩, .string ⟨#[32, 60, 32]⟩, .string ⟨#[32, 62, 61, 32]⟩, .string ⟨#[32, 62, 32]⟩, .string ⟨#[32, 61, 32]⟩, .string ⟨#[32, 33, 61, 32]⟩, .string ⟨#[32, 126, 32]⟩] 9)
      rwa [World.size_alloc] at this
    rw [hW2]
    clear hW2
    haveI : Nonempty (ClV W2) := ⟨⟨W2, Below.refl _ _⟩⟩
    have F2 : ∀ (n : ClV W2), n.w.cell? ⟨w.heap.size + 1, 3, none⟩ = some (.string ⟨#[32, 97, 110, 100, 32]⟩) := fun n => blk_cells k2 n 3
    have hW2' := mkHid (HWb.out.trans (hB2.mono hWs))
    have HN : ∀ n : ClV W2, Below W.heap.size W n.w := fun n => hW2'.out.trans (n.bel.mono (by omega))
    have b4 : ∀ (n : ClV W2), n.w.cell? ⟨w.heap.size, 4, none⟩ = some (.slice (some ⟨g, of, none⟩) 2 cap) := fun n => blk_cells k1 n 4
    have f0 : ∀ (n : ClV W2), n.w.cell? ⟨g, of, none⟩ = some (d0) := fun n => (HD.out.to (HN n)).1
    have f1 : ∀ (n : ClV W2), n.w.cell? ⟨g, of + 1, none⟩ = some (d1) := fun n => (HD.out.to (HN n)).2.1
    have f2 : ∀ (n : ClV W2), n.w.cell? ⟨g, of + 2, none⟩ = some (d2) := fun n => (HD.out.to (HN n)).2.2.1
    have f3 : ∀ (n : ClV W2), n.w.cell? ⟨g, of + 3, none⟩ = some (d3) := fun n => (HD.out.to (HN n)).2.2.2.1
    have f4 : ∀ (n : ClV W2), n.w.cell? ⟨g, of + 4, none⟩ = some (d4) := fun n => (HD.out.to (HN n)).2.2.2.2
    have g0 : ∀ (n : ClV W2), n.w.cell? ⟨g, of + 5, none⟩ = some (e0) := fun n => (HD'.out.to (HN n)).1
    have g1 : ∀ (n : ClV W2), n.w.cell? ⟨g, of + 5 + 1, none⟩ = some (e1) := fun n => (HD'.out.to (HN n)).2.1
    have g2 : ∀ (n : ClV W2), n.w.cell? ⟨g, of + 5 + 2, none⟩ = some (e2) := fun n => (HD'.out.to (HN n)).2.2.1
    have g3 : ∀ (n : ClV W2), n.w.cell? ⟨g, of + 5 + 3, none⟩ = some (e3) := fun n => (HD'.out.to (HN n)).2.2.2.1
    have g4 : ∀ (n : ClV W2), n.w.cell? ⟨g, of + 5 + 4, none⟩ = some (e4) := fun n => (HD'.out.to (HN n)).2.2.2.2
    have C1 := mkHid (fun n : ClV W2 => clv_call (fun w1 h => HF.out w1 (hW2'.out.trans (h.mono (by omega)))) n)
    have C2 := mkHid (fun n : ClV W2 => clv_call (fun w1 h => HG.out w1 (hW2'.out.trans (h.mono (by omega)))) n)
    clear k1 k2 HN
    have HBz := mkHid hB2
    refine wp_region_cls (fun w' => ∃ n : ClV W2, w' = n.w) (by kernel_rfl) (by kernel_rfl) ⟨⟨W2.drew, (Below.refl _ _).drew⟩, rfl⟩ ?_
    repeat (first | go_big_quiet_step ((fail)) | quiet_step ((fail)))
    first
        | go_big_quiet_step ((go_at_call 8; exact C1.out _))
        | quiet_step ((go_at_call 8; exact C1.out _))
    repeat (first | go_big_quiet_step ((fail)) | quiet_step ((fail)))
    first
        | go_big_quiet_step ((go_at_call 8; exact C2.out _))
        | quiet_step ((go_at_call 8; exact C2.out _))
    repeat (first | go_big_quiet_step ((fail)) | quiet_step ((fail)))
    refine wpQuiet_nil ?_
    intro _ hw'
    obtain ⟨n1, hw''⟩ := hw'
    subst hw''
    have hB1 := mkHid (HBz.out.trans (n1.bel.mono (by omega)))
    clear F2 b4 f0 f1 f2 f3 f4 g0 g1 g2 g3 g4
    go_wp2
    go_ret
    exact ⟨by rw [← HE.out]; rfl, hB1.out⟩
set_option maxRecDepth 100000 in
set_option maxHeartbeats 4000000 in
theorem rf_pair4 (W : World) (f f' : Fm) (bo : Option Addr) (g of bcap cap : Nat) (d0 d1 d2 d3 d4 e0 e1 e2 e3 e4 : Value) (hd : At5 W g of d0 d1 d2 d3 d4) (hd' : At5 W g (of + 5) e0 e1 e2 e3 e4) (hf : RF W f d0 d1 d2 d3 d4) (hg : RF W f' e0 e1 e2 e3 e4) (hz : (shF f).size ≤ 1000000) (hz' : (shF f').size ≤ 1000000) (hc1 : 2 ≤ cap) (hc2 : cap ≤ 9223372036854775807) :
    RF W (.mk 4 emp 0 [] [f, f']) (.int .i64 4) (.string emp) (.int .i64 0) (.slice bo 0 bcap) (.slice (some ⟨g, of, none⟩) 2 cap) := by
  intro w hW
  have hWs := hW.size
  have HWb := mkHid hW
  have HD := mkHid hd
  have HD' := mkHid hd'
  have HF := mkHid hf
  have HG := mkHid hg
  have HE := mkHid (sf_pair (o := 4) (x := emp) (m := 0) (t := []) (f := f) (g := f') (s := ⟨#[32, 111, 114, 32]⟩) (by decide) (by decide) rfl)
  clear hd hd' hf hg hW
  · go_enter Tryd.func8, Tryd.ntmps8
    go_wp2
    obtain ⟨W2, hW2⟩ : ∃ W2, (w.alloc (.cells #[.int .i64 4, .string emp, .int .i64 0, .slice bo 0 bcap, .slice (some ⟨g, of, none⟩) 2 cap] 26)).alloc (.cells #[.string ⟨#[116, 114, 117, 101]⟩, .string ⟨#[102, 97, 108, 115, 101]⟩, .string ⟨#[110, 111, 116, 32]⟩, .string ⟨#[32, 97, 110, 100, 32]⟩, .string ⟨#[32, 111, 114, 32]⟩, .string ⟨#[32, 45, 62, 32]⟩, .string ⟨#[32, 60, 45, 62, 32]⟩, .string ⟨#[101, 120, 32]⟩, .string ⟨#[97, 108, 108, 32]⟩, .string ⟨#[32, 60, 61, 32]⟩, .string ⟨#[32, 60, 32]⟩, .string ⟨#[32, 62, 61, 32]⟩, .string ⟨#[32, 62, 32]⟩, .string ⟨#[32, 61, 32]⟩, .string ⟨#[32, 33, 61, 32]⟩, .string ⟨#[32, 126, 32]⟩] 9) = W2 := ⟨_, rfl⟩
    have hB2 : Below w.heap.size w W2 := by rw [← hW2]; exact ((Below.refl _ _).alloc (Nat.le_refl _) _).alloc (by simp) _
    have hs2 : W2.heap.size = w.heap.size + 2 := by rw [← hW2]; simp
    have k1 : W2.heap[w.heap.size]? = some (.cells #[.int .i64 4, .string emp, .int .i64 0, .slice bo 0 bcap, .slice (some ⟨g, of, none⟩) 2 cap] 26) := by rw [← hW2, heap_alloc_old _ _ (by simp)]; exact heap_alloc_new w _
    have k2 : W2.heap[w.heap.size + 1]? = some (.cells #[.string ⟨#[116, 114, 117, 101]⟩, .string ⟨#[102, 97, 108, 115, 101]⟩, .string ⟨#[110, 111, 116, 32]⟩, .string ⟨#[32, 97, 110, 100, 32]⟩, .string ⟨#[32, 111, 114, 32]⟩, .string ⟨#[32, 45, 62, 32]⟩, .string ⟨#[32, 60, 45, 62, 32]⟩, .string ⟨#[101, 120, 32]⟩, .string ⟨#[97, 108, 108, 32]⟩, .string ⟨#[32, 60, 61, 32]⟩, .string ⟨#[32, 60, 32]⟩, .string ⟨#[32, 62, 61, 32]⟩, .string ⟨#[32, 62, 32]⟩, .string ⟨#[32, 61, 32]⟩, .string ⟨#[32, 33, 61, 32]⟩, .string ⟨#[32, 126, 32]⟩] 9) := by
      rw [← hW2]
      have := heap_alloc_new (w.alloc (.cells #[.int .i64 4, .string emp, .int .i64 0, .slice bo 0 bcap, .slice (some ⟨g, of, none⟩) 2 cap] 26)) (.cells #[.string ⟨#[116, 114, 117, 101]⟩, .string ⟨#[102, 97, 108, 115, 101]⟩, .string ⟨#[110, 111, 116, 32]⟩, .string ⟨#[32, 97, 110, 100, 32]⟩, .string ⟨#[32, 111, 114, 32]⟩, .string ⟨#[32, 45, 62, 32]⟩, .string ⟨#[32, 60, 45, 62, 32]⟩, .string ⟨#[101, 120, 32]⟩, .string ⟨#[97, 108, 108, 32]⟩, .string ⟨#[32, 60, 61, 32]⟩, .string ⟨#[32, 60, 32]⟩, .string ⟨#[32, 62, 61, 32]⟩, .string ⟨#[32, 62, 32]⟩, .string ⟨#[32, 61, 32]⟩, .string ⟨#[32, 33, 61, 32]⟩, .string ⟨#[32, 126, 32]⟩] 9)
      rwa [World.size_alloc] at this
    rw [hW2]
    clear hW2
    haveI : Nonempty (ClV W2) := ⟨⟨W2, Below.refl _ _⟩⟩
    have F2 : ∀ (n : ClV W2), n.w.cell? ⟨w.heap.size + 1, 4, none⟩ = some (.string ⟨#[32, 111, 114, 32]⟩) := fun n => blk_cells k2 n 4
    have hW2' := mkHid (HWb.out.trans (hB2.mono hWs))
    have HN : ∀ n : ClV W2, Below W.heap.size W n.w := fun n => hW2'.out.trans (n.bel.mono (by omega))
    have b4 : ∀ (n : ClV W2), n.w.cell? ⟨w.heap.size, 4, none⟩ = some (.slice (some ⟨g, of, none⟩) 2 cap) := fun n => blk_cells k1 n 4
    have f0 : ∀ (n : ClV W2), n.w.cell? ⟨g, of, none⟩ = some (d0) := fun n => (HD.out.to (HN n)).1
    have f1 : ∀ (n : ClV W2), n.w.cell? ⟨g, of + 1, none⟩ = some (d1) := fun n => (HD.out.to (HN n)).2.1
    have f2 : ∀ (n : ClV W2), n.w.cell? ⟨g, of + 2, none⟩ = some (d2) := fun n => (HD.out.to (HN n)).2.2.1
    have f3 : ∀ (n : ClV W2), n.w.cell? ⟨g, of + 3, none⟩ = some (d3) := fun n => (HD.out.to (HN n)).2.2.2.1
    have f4 : ∀ (n : ClV W2), n.w.cell? ⟨g, of + 4, none⟩ = some (d4) := fun n => (HD.out.to (HN n)).2.2.2.2
    have g0 : ∀ (n : ClV W2), n.w.cell? ⟨g, of + 5, none⟩ = some (e0) := fun n => (HD'.out.to (HN n)).1
    have g1 : ∀ (n : ClV W2), n.w.cell? ⟨g, of + 5 + 1, none⟩ = some (e1) := fun n => (HD'.out.to (HN n)).2.1
    have g2 : ∀ (n : ClV W2), n.w.cell? ⟨g, of + 5 + 2, none⟩ = some (e2) := fun n => (HD'.out.to (HN n)).2.2.1
    have g3 : ∀ (n : ClV W2), n.w.cell? ⟨g, of + 5 + 3, none⟩ = some (e3) := fun n => (HD'.out.to (HN n)).2.2.2.1
    have g4 : ∀ (n : ClV W2), n.w.cell? ⟨g, of + 5 + 4, none⟩ = some (e4) := fun n => (HD'.out.to (HN n)).2.2.2.2
    have C1 := mkHid (fun n : ClV W2 => clv_call (fun w1 h => HF.out w1 (hW2'.out.trans (h.mono (by omega)))) n)
    have C2 := mkHid (fun n : ClV W2 => clv_call (fun w1 h => HG.out w1 (hW2'.out.trans (h.mono (by omega)))) n)
    clear k1 k2 HN
    have HBz := mkHid hB2
    refine wp_region_cls (fun w' => ∃ n : ClV W2, w' = n.w) (by kernel_rfl) (by kernel_rfl) ⟨⟨W2.drew, (Below.refl _ _).drew⟩, rfl⟩ ?_
    repeat (first | go_big_quiet_step ((fail)) | quiet_step ((fail)))
    first
        | go_big_quiet_step ((go_at_call 8; exact C1.out _))
        | quiet_step ((go_at_call 8; exact C1.out _))
    repeat (first | go_big_quiet_step ((fail)) | quiet_step ((fail)))
    first
        | go_big_quiet_step ((go_at_call 8; exact C2.out _))
        | quiet_step ((go_at_call 8; exact C2.out _))
    repeat (first | go_big_quiet_step ((fail)) | quiet_step ((fail)))
    refine wpQuiet_nil ?_
    intro _ hw'
    obtain ⟨n1, hw''⟩ := hw'
    subst hw''
    have hB1 := mkHid (HBz.out.trans (n1.bel.mono (by omega)))
    clear F2 b4 f0 f1 f2 f3 f4 g0 g1 g2 g3 g4
    go_wp2
    go_ret
    exact ⟨by rw [← HE.out]; rfl, hB1.out⟩
set_option maxRecDepth 100000 in
set_option maxHeartbeats 4000000 in
theorem rf_pair5 (W : World) (f f' : Fm) (bo : Option Addr) (g of bcap cap : Nat) (d0 d1 d2 d3 d4 e0 e1 e2 e3 e4 : Value) (hd : At5 W g of d0 d1 d2 d3 d4) (hd' : At5 W g (of + 5) e0 e1 e2 e3 e4) (hf : RF W f d0 d1 d2 d3 d4) (hg : RF W f' e0 e1 e2 e3 e4) (hz : (shF f).size ≤ 1000000) (hz' : (shF f').size ≤ 1000000) (hc1 : 2 ≤ cap) (hc2 : cap ≤ 9223372036854775807) :
    RF W (.mk 5 emp 0 [] [f, f']) (.int .i64 5) (.string emp) (.int .i64 0) (.slice bo 0 bcap) (.slice (some ⟨g, of, none⟩) 2 cap) := by
  intro w hW
  have hWs := hW.size
  have HWb := mkHid hW
  have HD := mkHid hd
  have HD' := mkHid hd'
  have HF := mkHid hf
  have HG := mkHid hg
  have HE := mkHid (sf_pair (o := 5) (x := emp) (m := 0) (t := []) (f := f) (g := f') (s := ⟨#[32, 45, 62, 32]⟩) (by decide) (by decide) rfl)
  clear hd hd' hf hg hW
  · go_enter Tryd.func8, Tryd.ntmps8
    go_wp2
    obtain ⟨W2, hW2⟩ : ∃ W2, (w.alloc (.cells #[.int .i64 5, .string emp, .int .i64 0, .slice bo 0 bcap, .slice (some ⟨g, of, none⟩) 2 cap] 26)).alloc (.cells #[.string ⟨#[116, 114, 117, 101]⟩, .string ⟨#[102, 97, 108, 115, 101]⟩, .string ⟨#[110, 111, 116, 32]⟩, .string ⟨#[32, 97, 110, 100, 32]⟩, .string ⟨#[32, 111, 114, 32]⟩, .string ⟨#[32, 45, 62, 32]⟩, .string ⟨#[32, 60, 45, 62, 32]⟩, .string ⟨#[101, 120, 32]⟩, .string ⟨#[97, 108, 108, 32]⟩, .string ⟨#[32, 60, 61, 32]⟩, .string ⟨#[32, 60, 32]⟩, .string ⟨#[32, 62, 61, 32]⟩, .string ⟨#[32, 62, 32]⟩, .string ⟨#[32, 61, 32]⟩, .string ⟨#[32, 33, 61, 32]⟩, .string ⟨#[32, 126, 32]⟩] 9) = W2 := ⟨_, rfl⟩
    have hB2 : Below w.heap.size w W2 := by rw [← hW2]; exact ((Below.refl _ _).alloc (Nat.le_refl _) _).alloc (by simp) _
    have hs2 : W2.heap.size = w.heap.size + 2 := by rw [← hW2]; simp
    have k1 : W2.heap[w.heap.size]? = some (.cells #[.int .i64 5, .string emp, .int .i64 0, .slice bo 0 bcap, .slice (some ⟨g, of, none⟩) 2 cap] 26) := by rw [← hW2, heap_alloc_old _ _ (by simp)]; exact heap_alloc_new w _
    have k2 : W2.heap[w.heap.size + 1]? = some (.cells #[.string ⟨#[116, 114, 117, 101]⟩, .string ⟨#[102, 97, 108, 115, 101]⟩, .string ⟨#[110, 111, 116, 32]⟩, .string ⟨#[32, 97, 110, 100, 32]⟩, .string ⟨#[32, 111, 114, 32]⟩, .string ⟨#[32, 45, 62, 32]⟩, .string ⟨#[32, 60, 45, 62, 32]⟩, .string ⟨#[101, 120, 32]⟩, .string ⟨#[97, 108, 108, 32]⟩, .string ⟨#[32, 60, 61, 32]⟩, .string ⟨#[32, 60, 32]⟩, .string ⟨#[32, 62, 61, 32]⟩, .string ⟨#[32, 62, 32]⟩, .string ⟨#[32, 61, 32]⟩, .string ⟨#[32, 33, 61, 32]⟩, .string ⟨#[32, 126, 32]⟩] 9) := by
      rw [← hW2]
      have := heap_alloc_new (w.alloc (.cells #[.int .i64 5, .string emp, .int .i64 0, .slice bo 0 bcap, .slice (some ⟨g, of, none⟩) 2 cap] 26)) (.cells #[.string ⟨#[116, 114, 117, 101]⟩, .string ⟨#[102, 97, 108, 115, 101]⟩, .string ⟨#[110, 111, 116, 32]⟩, .string ⟨#[32, 97, 110, 100, 32]⟩, .string ⟨#[32, 111, 114, 32]⟩, .string ⟨#[32, 45, 62, 32]⟩, .string ⟨#[32, 60, 45, 62, 32]⟩, .string ⟨#[101, 120, 32]⟩, .string ⟨#[97, 108, 108, 32]⟩, .string ⟨#[32, 60, 61, 32]⟩, .string ⟨#[32, 60, 32]⟩, .string ⟨#[32, 62, 61, 32]⟩, .string ⟨#[32, 62, 32]⟩, .string ⟨#[32, 61, 32]⟩, .string ⟨#[32, 33, 61, 32]⟩, .string ⟨#[32, 126, 32]⟩] 9)
      rwa [World.size_alloc] at this
    rw [hW2]
    clear hW2
    haveI : Nonempty (ClV W2) := ⟨⟨W2, Below.refl _ _⟩⟩
    have F2 : ∀ (n : ClV W2), n.w.cell? ⟨w.heap.size + 1, 5, none⟩ = some (.string ⟨#[32, 45, 62, 32]⟩) := fun n => blk_cells k2 n 5
    have hW2' := mkHid (HWb.out.trans (hB2.mono hWs))
    have HN : ∀ n : ClV W2, Below W.heap.size W n.w := fun n => hW2'.out.trans (n.bel.mono (by omega))
    have b4 : ∀ (n : ClV W2), n.w.cell? ⟨w.heap.size, 4, none⟩ = some (.slice (some ⟨g, of, none⟩) 2 cap) := fun n => blk_cells k1 n 4
    have f0 : ∀ (n : ClV W2), n.w.cell? ⟨g, of, none⟩ = some (d0) := fun n => (HD.out.to (HN n)).1
    have f1 : ∀ (n : ClV W2), n.w.cell? ⟨g, of + 1, none⟩ = some (d1) := fun n => (HD.out.to (HN n)).2.1
    have f2 : ∀ (n : ClV W2), n.w.cell? ⟨g, of + 2, none⟩ = some (d2) := fun n => (HD.out.to (HN n)).2.2.1
    have f3 : ∀ (n : ClV W2), n.w.cell? ⟨g, of + 3, none⟩ = some (d3) := fun n => (HD.out.to (HN n)).2.2.2.1
    have f4 : ∀ (n : ClV W2), n.w.cell? ⟨g, of + 4, none⟩ = some (d4) := fun n => (HD.out.to (HN n)).2.2.2.2
    have g0 : ∀ (n : ClV W2), n.w.cell? ⟨g, of + 5, none⟩ = some (e0) := fun n => (HD'.out.to (HN n)).1
    have g1 : ∀ (n : ClV W2), n.w.cell? ⟨g, of + 5 + 1, none⟩ = some (e1) := fun n => (HD'.out.to (HN n)).2.1
    have g2 : ∀ (n : ClV W2), n.w.cell? ⟨g, of + 5 + 2, none⟩ = some (e2) := fun n => (HD'.out.to (HN n)).2.2.1
    have g3 : ∀ (n : ClV W2), n.w.cell? ⟨g, of + 5 + 3, none⟩ = some (e3) := fun n => (HD'.out.to (HN n)).2.2.2.1
    have g4 : ∀ (n : ClV W2), n.w.cell? ⟨g, of + 5 + 4, none⟩ = some (e4) := fun n => (HD'.out.to (HN n)).2.2.2.2
    have C1 := mkHid (fun n : ClV W2 => clv_call (fun w1 h => HF.out w1 (hW2'.out.trans (h.mono (by omega)))) n)
    have C2 := mkHid (fun n : ClV W2 => clv_call (fun w1 h => HG.out w1 (hW2'.out.trans (h.mono (by omega)))) n)
    clear k1 k2 HN
    have HBz := mkHid hB2
    refine wp_region_cls (fun w' => ∃ n : ClV W2, w' = n.w) (by kernel_rfl) (by kernel_rfl) ⟨⟨W2.drew, (Below.refl _ _).drew⟩, rfl⟩ ?_
    repeat (first | go_big_quiet_step ((fail)) | quiet_step ((fail)))
    first
        | go_big_quiet_step ((go_at_call 8; exact C1.out _))
        | quiet_step ((go_at_call 8; exact C1.out _))
    repeat (first | go_big_quiet_step ((fail)) | quiet_step ((fail)))
    first
        | go_big_quiet_step ((go_at_call 8; exact C2.out _))
        | quiet_step ((go_at_call 8; exact C2.out _))
    repeat (first | go_big_quiet_step ((fail)) | quiet_step ((fail)))
    refine wpQuiet_nil ?_
    intro _ hw'
    obtain ⟨n1, hw''⟩ := hw'
    subst hw''
    have hB1 := mkHid (HBz.out.trans (n1.bel.mono (by omega)))
    clear F2 b4 f0 f1 f2 f3 f4 g0 g1 g2 g3 g4
    go_wp2
    go_ret
    exact ⟨by rw [← HE.out]; rfl, hB1.out⟩
set_option maxRecDepth 100000 in
set_option maxHeartbeats 4000000 in
theorem rf_pair6 (W : World) (f f' : Fm) (bo : Option Addr) (g of bcap cap : Nat) (d0 d1 d2 d3 d4 e0 e1 e2 e3 e4 : Value) (hd : At5 W g of d0 d1 d2 d3 d4) (hd' : At5 W g (of + 5) e0 e1 e2 e3 e4) (hf : RF W f d0 d1 d2 d3 d4) (hg : RF W f' e0 e1 e2 e3 e4) (hz : (shF f).size ≤ 1000000) (hz' : (shF f').size ≤ 1000000) (hc1 : 2 ≤ cap) (hc2 : cap ≤ 9223372036854775807) :
    RF W (.mk 6 emp 0 [] [f, f']) (.int .i64 6) (.string emp) (.int .i64 0) (.slice bo 0 bcap) (.slice (some ⟨g, of, none⟩) 2 cap) := by
  intro w hW
  have hWs := hW.size
  have HWb := mkHid hW
  have HD := mkHid hd
  have HD' := mkHid hd'
  have HF := mkHid hf
  have HG := mkHid hg
  have HE := mkHid (sf_pair (o := 6) (x := emp) (m := 0) (t := []) (f := f) (g := f') (s := ⟨#[32, 60, 45, 62, 32]⟩) (by decide) (by decide) rfl)
  clear hd hd' hf hg hW
  · go_enter Tryd.func8, Tryd.ntmps8
    go_wp2
    obtain ⟨W2, hW2⟩ : ∃ W2, (w.alloc (.cells #[.int .i64 6, .string emp, .int .i64 0, .slice bo 0 bcap, .slice (some ⟨g, of, none⟩) 2 cap] 26)).alloc (.cells #[.string ⟨#[116, 114, 117, 101]⟩, .string ⟨#[102, 97, 108, 115, 101]⟩, .string ⟨#[110, 111, 116, 32]⟩, .string ⟨#[32, 97, 110, 100, 32]⟩, .string ⟨#[32, 111, 114, 32]⟩, .string ⟨#[32, 45, 62, 32]⟩, .string ⟨#[32, 60, 45, 62, 32]⟩, .string ⟨#[101, 120, 32]⟩, .string ⟨#[97, 108, 108, 32]⟩, .string ⟨#[32, 60, 61, 32]⟩, .string ⟨#[32, 60, 32]⟩, .string ⟨#[32, 62, 61, 32]⟩, .string ⟨#[32, 62, 32]⟩, .string ⟨#[32, 61, 32]⟩, .string ⟨#[32, 33, 61, 32]⟩, .string ⟨#[32, 126, 32]⟩] 9) = W2 := ⟨_, rfl⟩
    have hB2 : Below w.heap.size w W2 := by rw [← hW2]; exact ((Below.refl _ _).alloc (Nat.le_refl _) _).alloc (by simp) _
    have hs2 : W2.heap.size = w.heap.size + 2 := by rw [← hW2]; simp
    have k1 : W2.heap[w.heap.size]? = some (.cells #[.int .i64 6, .string emp, .int .i64 0, .slice bo 0 bcap, .slice (some ⟨g, of, none⟩) 2 cap] 26) := by rw [← hW2, heap_alloc_old _ _ (by simp)]; exact heap_alloc_new w _
    have k2 : W2.heap[w.heap.size + 1]? = some (.cells #[.string ⟨#[116, 114, 117, 101]⟩, .string ⟨#[102, 97, 108, 115, 101]⟩, .string ⟨#[110, 111, 116, 32]⟩, .string ⟨#[32, 97, 110, 100, 32]⟩, .string ⟨#[32, 111, 114, 32]⟩, .string ⟨#[32, 45, 62, 32]⟩, .string ⟨#[32, 60, 45, 62, 32]⟩, .string ⟨#[101, 120, 32]⟩, .string ⟨#[97, 108, 108, 32]⟩, .string ⟨#[32, 60, 61, 32]⟩, .string ⟨#[32, 60, 32]⟩, .string ⟨#[32, 62, 61, 32]⟩, .string ⟨#[32, 62, 32]⟩, .string ⟨#[32, 61, 32]⟩, .string ⟨#[32, 33, 61, 32]⟩, .string ⟨#[32, 126, 32]⟩] 9) := by
      rw [← hW2]
      have := heap_alloc_new (w.alloc (.cells #[.int .i64 6, .string emp, .int .i64 0, .slice bo 0 bcap, .slice (some ⟨g, of, none⟩) 2 cap] 26)) (.cells #[.string ⟨#[116, 114, 117, 101]⟩, .string ⟨#[102, 97, 108, 115, 101]⟩, .string ⟨#[110, 111, 116, 32]⟩, .string ⟨#[32, 97, 110, 100, 32]⟩, .string ⟨#[32, 111, 114, 32]⟩, .string ⟨#[32, 45, 62, 32]⟩, .string ⟨#[32, 60, 45, 62, 32]⟩, .string ⟨#[101, 120, 32]⟩, .string ⟨#[97, 108, 108, 32]⟩, .string ⟨#[32, 60, 61, 32]⟩, .string ⟨#[32, 60, 32]⟩, .string ⟨#[32, 62, 61, 32]⟩, .string ⟨#[32, 62, 32]⟩, .string ⟨#[32, 61, 32]⟩, .string ⟨#[32, 33, 61, 32]⟩, .string ⟨#[32, 126, 32]⟩] 9)
      rwa [World.size_alloc] at this
    rw [hW2]
    clear hW2
    haveI : Nonempty (ClV W2) := ⟨⟨W2, Below.refl _ _⟩⟩
    have F2 : ∀ (n : ClV W2), n.w.cell? ⟨w.heap.size + 1, 6, none⟩ = some (.string ⟨#[32, 60, 45, 62, 32]⟩) := fun n => blk_cells k2 n 6
    have hW2' := mkHid (HWb.out.trans (hB2.mono hWs))
    have HN : ∀ n : ClV W2, Below W.heap.size W n.w := fun n => hW2'.out.trans (n.bel.mono (by omega))
    have b4 : ∀ (n : ClV W2), n.w.cell? ⟨w.heap.size, 4, none⟩ = some (.slice (some ⟨g, of, none⟩) 2 cap) := fun n => blk_cells k1 n 4
    have f0 : ∀ (n : ClV W2), n.w.cell? ⟨g, of, none⟩ = some (d0) := fun n => (HD.out.to (HN n)).1
    have f1 : ∀ (n : ClV W2), n.w.cell? ⟨g, of + 1, none⟩ = some (d1) := fun n => (HD.out.to (HN n)).2.1
    have f2 : ∀ (n : ClV W2), n.w.cell? ⟨g, of + 2, none⟩ = some (d2) := fun n => (HD.out.to (HN n)).2.2.1
    have f3 : ∀ (n : ClV W2), n.w.cell? ⟨g, of + 3, none⟩ = some (d3) := fun n => (HD.out.to (HN n)).2.2.2.1
    have f4 : ∀ (n : ClV W2), n.w.cell? ⟨g, of + 4, none⟩ = some (d4) := fun n => (HD.out.to (HN n)).2.2.2.2
    have g0 : ∀ (n : ClV W2), n.w.cell? ⟨g, of + 5, none⟩ = some (e0) := fun n => (HD'.out.to (HN n)).1
    have g1 : ∀ (n : ClV W2), n.w.cell? ⟨g, of + 5 + 1, none⟩ = some (e1) := fun n => (HD'.out.to (HN n)).2.1
    have g2 : ∀ (n : ClV W2), n.w.cell? ⟨g, of + 5 + 2, none⟩ = some (e2) := fun n => (HD'.out.to (HN n)).2.2.1
    have g3 : ∀ (n : ClV W2), n.w.cell? ⟨g, of + 5 + 3, none⟩ = some (e3) := fun n => (HD'.out.to (HN n)).2.2.2.1
    have g4 : ∀ (n : ClV W2), n.w.cell? ⟨g, of + 5 + 4, none⟩ = some (e4) := fun n => (HD'.out.to (HN n)).2.2.2.2
    have C1 := mkHid (fun n : ClV W2 => clv_call (fun w1 h => HF.out w1 (hW2'.out.trans (h.mono (by omega)))) n)
    have C2 := mkHid (fun n : ClV W2 => clv_call (fun w1 h => HG.out w1 (hW2'.out.trans (h.mono (by omega)))) n)
    clear k1 k2 HN
    have HBz := mkHid hB2
    refine wp_region_cls (fun w' => ∃ n : ClV W2, w' = n.w) (by kernel_rfl) (by kernel_rfl) ⟨⟨W2.drew, (Below.refl _ _).drew⟩, rfl⟩ ?_
    repeat (first | go_big_quiet_step ((fail)) | quiet_step ((fail)))
    first
        | go_big_quiet_step ((go_at_call 8; exact C1.out _))
        | quiet_step ((go_at_call 8; exact C1.out _))
    repeat (first | go_big_quiet_step ((fail)) | quiet_step ((fail)))
    first
        | go_big_quiet_step ((go_at_call 8; exact C2.out _))
        | quiet_step ((go_at_call 8; exact C2.out _))
    repeat (first | go_big_quiet_step ((fail)) | quiet_step ((fail)))
    refine wpQuiet_nil ?_
    intro _ hw'
    obtain ⟨n1, hw''⟩ := hw'
    subst hw''
    have hB1 := mkHid (HBz.out.trans (n1.bel.mono (by omega)))
    clear F2 b4 f0 f1 f2 f3 f4 g0 g1 g2 g3 g4
    go_wp2
    go_ret
    exact ⟨by rw [← HE.out]; rfl, hB1.out⟩
end Go.Proofs.YtncgmnijgdfenaaDoor.Gl
