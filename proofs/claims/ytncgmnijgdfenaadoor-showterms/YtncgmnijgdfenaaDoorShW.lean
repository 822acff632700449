/- The document's Formula: one part. -/
import Derived.Test.YtncgmnijgdfenaaDoorShV
namespace Go.Proofs.YtncgmnijgdfenaaDoor.Gl
open Go Go.RowKit
set_option linter.unusedVariables false
set_option linter.unusedSimpArgs false

set_option maxRecDepth 100000 in
set_option maxHeartbeats 4000000 in
theorem rf_not (W : World) (f : Fm) (x : ByteArray) (bo : Option Addr) (g of bcap cap : Nat) (d0 d1 d2 d3 d4 : Value) (hd : At5 W g of d0 d1 d2 d3 d4) (hf : RF W f d0 d1 d2 d3 d4) (hz : (shF f).size ≤ 1000000) (hx : x.size ≤ 1000000) (hc1 : 1 ≤ cap) (hc2 : cap ≤ 9223372036854775807) :
    RF W (.mk 2 emp 0 [] [f]) (.int .i64 2) (.string emp) (.int .i64 0) (.slice bo 0 bcap) (.slice (some ⟨g, of, none⟩) 1 cap) := by
  intro w hW
  have hWs := hW.size
  have HWb := mkHid hW
  have HD := mkHid hd
  have HF := mkHid hf
  have HE := mkHid (sf_not (x := emp) (m := 0) (t := []) (f := f) (s := ⟨#[110, 111, 116, 32]⟩) rfl)
  clear hd hf hW
  · go_enter Tryd.func8, Tryd.ntmps8
    go_wp2
    obtain ⟨W2, hW2⟩ : ∃ W2, (w.alloc (.cells #[.int .i64 2, .string emp, .int .i64 0, .slice bo 0 bcap, .slice (some ⟨g, of, none⟩) 1 cap] 26)).alloc (.cells #[.string ⟨#[116, 114, 117, 101]⟩, .string ⟨#[102, 97, 108, 115, 101]⟩, .string ⟨#[110, 111, 116, 32]⟩, .string ⟨#[32, 97, 110, 100, 32]⟩, .string ⟨#[32, 111, 114, 32]⟩, .string ⟨#[32, 45, 62, 32]⟩, .string ⟨#[32, 60, 45, 62, 32]⟩, .string ⟨#[101, 120, 32]⟩, .string ⟨#[97, 108, 108, 32]⟩, .string ⟨#[32, 60, 61, 32]⟩, .string ⟨#[32, 60, 32]⟩, .string ⟨#[32, 62, 61, 32]⟩, .string ⟨#[32, 62, 32]⟩, .string ⟨#[32, 61, 32]⟩, .string ⟨#[32, 33, 61, 32]⟩, .string ⟨#[32, 126, 32]⟩] 9) = W2 := ⟨_, rfl⟩
    have hB2 : Below w.heap.size w W2 := by rw [← hW2]; exact ((Below.refl _ _).alloc (Nat.le_refl _) _).alloc (by simp) _
    have hs2 : W2.heap.size = w.heap.size + 2 := by rw [← hW2]; simp
    have k1 : W2.heap[w.heap.size]? = some (.cells #[.int .i64 2, .string emp, .int .i64 0, .slice bo 0 bcap, .slice (some ⟨g, of, none⟩) 1 cap] 26) := by rw [← hW2, heap_alloc_old _ _ (by simp)]; exact heap_alloc_new w _
    have k2 : W2.heap[w.heap.size + 1]? = some (.cells #[.string ⟨#[116, 114, 117, 101]⟩, .string ⟨#[102, 97, 108, 115, 101]⟩, .string ⟨#[110, 111, 116, 32]⟩, .string ⟨#[32, 97, 110, 100, 32]⟩, .string ⟨#[32, 111, 114, 32]⟩, .string ⟨#[32, 45, 62, 32]⟩, .string ⟨#[32, 60, 45, 62, 32]⟩, .string ⟨#[101, 120, 32]⟩, .string ⟨#[97, 108, 108, 32]⟩, .string ⟨#[32, 60, 61, 32]⟩, .string ⟨#[32, 60, 32]⟩, .string ⟨#[32, 62, 61, 32]⟩, .string ⟨#[32, 62, 32]⟩, .string ⟨#[32, 61, 32]⟩, .string ⟨#[32, 33, 61, 32]⟩, .string ⟨#[32, 126, 32]⟩] 9) := by
      rw [← hW2]
      have := heap_alloc_new (w.alloc (.cells #[.int .i64 2, .string emp, .int .i64 0, .slice bo 0 bcap, .slice (some ⟨g, of, none⟩) 1 cap] 26)) (.cells #[.string ⟨#[116, 114, 117, 101]⟩, .string ⟨#[102, 97, 108, 115, 101]⟩, .string ⟨#[110, 111, 116, 32]⟩, .string ⟨#[32, 97, 110, 100, 32]⟩, .string ⟨#[32, 111, 114, 32]⟩, .string ⟨#[32, 45, 62, 32]⟩, .string ⟨#[32, 60, 45, 62, 32]⟩, .string ⟨#[101, 120, 32]⟩, .string ⟨#[97, 108, 108, 32]⟩, .string ⟨#[32, 60, 61, 32]⟩, .string ⟨#[32, 60, 32]⟩, .string ⟨#[32, 62, 61, 32]⟩, .string ⟨#[32, 62, 32]⟩, .string ⟨#[32, 61, 32]⟩, .string ⟨#[32, 33, 61, 32]⟩, .string ⟨#[32, 126, 32]⟩] 9)
      rwa [World.size_alloc] at this
    rw [hW2]
    clear hW2
    haveI : Nonempty (ClV W2) := ⟨⟨W2, Below.refl _ _⟩⟩
    have F2 : ∀ (n : ClV W2), n.w.cell? ⟨w.heap.size + 1, 2, none⟩ = some (.string ⟨#[110, 111, 116, 32]⟩) := fun n => blk_cells k2 n 2
    have hW2' := mkHid (HWb.out.trans (hB2.mono hWs))
    have HN : ∀ n : ClV W2, Below W.heap.size W n.w := fun n => hW2'.out.trans (n.bel.mono (by omega))
    have b4 : ∀ (n : ClV W2), n.w.cell? ⟨w.heap.size, 4, none⟩ = some (.slice (some ⟨g, of, none⟩) 1 cap) := fun n => blk_cells k1 n 4
    have f0 : ∀ (n : ClV W2), n.w.cell? ⟨g, of, none⟩ = some (d0) := fun n => (HD.out.to (HN n)).1
    have f1 : ∀ (n : ClV W2), n.w.cell? ⟨g, of + 1, none⟩ = some (d1) := fun n => (HD.out.to (HN n)).2.1
    have f2 : ∀ (n : ClV W2), n.w.cell? ⟨g, of + 2, none⟩ = some (d2) := fun n => (HD.out.to (HN n)).2.2.1
    have f3 : ∀ (n : ClV W2), n.w.cell? ⟨g, of + 3, none⟩ = some (d3) := fun n => (HD.out.to (HN n)).2.2.2.1
    have f4 : ∀ (n : ClV W2), n.w.cell? ⟨g, of + 4, none⟩ = some (d4) := fun n => (HD.out.to (HN n)).2.2.2.2
    have C1 := mkHid (fun n : ClV W2 => clv_call (fun w1 h => HF.out w1 (hW2'.out.trans (h.mono (by omega)))) n)
    have hB2' := hB2
    clear k1 k2 HN
    have HBz := mkHid hB2
    refine wp_region_cls (fun w' => ∃ n : ClV W2, w' = n.w) (by kernel_rfl) (by kernel_rfl) ⟨⟨W2.drew, (Below.refl _ _).drew⟩, rfl⟩ ?_
    repeat (first | go_big_quiet_step ((fail)) | quiet_step ((fail)))
    first
        | go_big_quiet_step ((go_at_call 8; exact C1.out _))
        | quiet_step ((go_at_call 8; exact C1.out _))
    repeat (first | go_big_quiet_step ((fail)) | quiet_step ((fail)))
    refine wpQuiet_nil ?_
    intro _ hw'
    obtain ⟨n1, hw''⟩ := hw'
    subst hw''
    have hB1 := mkHid (HBz.out.trans (n1.bel.mono (by omega)))
    clear F2 b4 f0 f1 f2 f3 f4
    go_wp2
    go_ret
    exact ⟨by rw [← HE.out]; rfl, hB1.out⟩
set_option maxRecDepth 100000 in
set_option maxHeartbeats 4000000 in
theorem rf_ex (W : World) (f : Fm) (x : ByteArray) (bo : Option Addr) (g of bcap cap : Nat) (d0 d1 d2 d3 d4 : Value) (hd : At5 W g of d0 d1 d2 d3 d4) (hf : RF W f d0 d1 d2 d3 d4) (hz : (shF f).size ≤ 1000000) (hx : x.size ≤ 1000000) (hc1 : 1 ≤ cap) (hc2 : cap ≤ 9223372036854775807) :
    RF W (.mk 7 x 0 [] [f]) (.int .i64 7) (.string x) (.int .i64 0) (.slice bo 0 bcap) (.slice (some ⟨g, of, none⟩) 1 cap) := by
  intro w hW
  have hWs := hW.size
  have HWb := mkHid hW
  have HD := mkHid hd
  have HF := mkHid hf
  have HE := mkHid (sf_qu (o := 7) (x := x) (m := 0) (t := []) (f := f) (s := ⟨#[101, 120, 32]⟩) (.inl rfl) rfl)
  clear hd hf hW
  · go_enter Tryd.func8, Tryd.ntmps8
    go_wp2
    obtain ⟨W2, hW2⟩ : ∃ W2, (w.alloc (.cells #[.int .i64 7, .string x, .int .i64 0, .slice bo 0 bcap, .slice (some ⟨g, of, none⟩) 1 cap] 26)).alloc (.cells #[.string ⟨#[116, 114, 117, 101]⟩, .string ⟨#[102, 97, 108, 115, 101]⟩, .string ⟨#[110, 111, 116, 32]⟩, .string ⟨#[32, 97, 110, 100, 32]⟩, .string ⟨#[32, 111, 114, 32]⟩, .string ⟨#[32, 45, 62, 32]⟩, .string ⟨#[32, 60, 45, 62, 32]⟩, .string ⟨#[101, 120, 32]⟩, .string ⟨#[97, 108, 108, 32]⟩, .string ⟨#[32, 60, 61, 32]⟩, .string ⟨#[32, 60, 32]⟩, .string ⟨#[32, 62, 61, 32]⟩, .string ⟨#[32, 62, 32]⟩, .string ⟨#[32, 61, 32]⟩, .string ⟨#[32, 33, 61, 32]⟩, .string ⟨#[32, 126, 32]⟩] 9) = W2 := ⟨_, rfl⟩
    have hB2 : Below w.heap.size w W2 := by rw [← hW2]; exact ((Below.refl _ _).alloc (Nat.le_refl _) _).alloc (by simp) _
    have hs2 : W2.heap.size = w.heap.size + 2 := by rw [← hW2]; simp
    have k1 : W2.heap[w.heap.size]? = some (.cells #[.int .i64 7, .string x, .int .i64 0, .slice bo 0 bcap, .slice (some ⟨g, of, none⟩) 1 cap] 26) := by rw [← hW2, heap_alloc_old _ _ (by simp)]; exact heap_alloc_new w _
    have k2 : W2.heap[w.heap.size + 1]? = some (.cells #[.string ⟨#[116, 114, 117, 101]⟩, .string ⟨#[102, 97, 108, 115, 101]⟩, .string ⟨#[110, 111, 116, 32]⟩, .string ⟨#[32, 97, 110, 100, 32]⟩, .string ⟨#[32, 111, 114, 32]⟩, .string ⟨#[32, 45, 62, 32]⟩, .string ⟨#[32, 60, 45, 62, 32]⟩, .string ⟨#[101, 120, 32]⟩, .string ⟨#[97, 108, 108, 32]⟩, .string ⟨#[32, 60, 61, 32]⟩, .string ⟨#[32, 60, 32]⟩, .string ⟨#[32, 62, 61, 32]⟩, .string ⟨#[32, 62, 32]⟩, .string ⟨#[32, 61, 32]⟩, .string ⟨#[32, 33, 61, 32]⟩, .string ⟨#[32, 126, 32]⟩] 9) := by
      rw [← hW2]
      have := heap_alloc_new (w.alloc (.cells #[.int .i64 7, .string x, .int .i64 0, .slice bo 0 bcap, .slice (some ⟨g, of, none⟩) 1 cap] 26)) (.cells #[.string ⟨#[116, 114, 117, 101]⟩, .string ⟨#[102, 97, 108, 115, 101]⟩, .string ⟨#[110, 111, 116, 32]⟩, .string ⟨#[32, 97, 110, 100, 32]⟩, .string ⟨#[32, 111, 114, 32]⟩, .string ⟨#[32, 45, 62, 32]⟩, .string ⟨#[32, 60, 45, 62, 32]⟩, .string ⟨#[101, 120, 32]⟩, .string ⟨#[97, 108, 108, 32]⟩, .string ⟨#[32, 60, 61, 32]⟩, .string ⟨#[32, 60, 32]⟩, .string ⟨#[32, 62, 61, 32]⟩, .string ⟨#[32, 62, 32]⟩, .string ⟨#[32, 61, 32]⟩, .string ⟨#[32, 33, 61, 32]⟩, .string ⟨#[32, 126, 32]⟩] 9)
      rwa [World.size_alloc] at this
    rw [hW2]
    clear hW2
    haveI : Nonempty (ClV W2) := ⟨⟨W2, Below.refl _ _⟩⟩
    have F2 : ∀ (n : ClV W2), n.w.cell? ⟨w.heap.size + 1, 7, none⟩ = some (.string ⟨#[101, 120, 32]⟩) := fun n => blk_cells k2 n 7
    have hW2' := mkHid (HWb.out.trans (hB2.mono hWs))
    have HN : ∀ n : ClV W2, Below W.heap.size W n.w := fun n => hW2'.out.trans (n.bel.mono (by omega))
    have b1 : ∀ (n : ClV W2), n.w.cell? ⟨w.heap.size, 1, none⟩ = some (.string x) := fun n => blk_cells k1 n 1
    have b4 : ∀ (n : ClV W2), n.w.cell? ⟨w.heap.size, 4, none⟩ = some (.slice (some ⟨g, of, none⟩) 1 cap) := fun n => blk_cells k1 n 4
    have f0 : ∀ (n : ClV W2), n.w.cell? ⟨g, of, none⟩ = some (d0) := fun n => (HD.out.to (HN n)).1
    have f1 : ∀ (n : ClV W2), n.w.cell? ⟨g, of + 1, none⟩ = some (d1) := fun n => (HD.out.to (HN n)).2.1
    have f2 : ∀ (n : ClV W2), n.w.cell? ⟨g, of + 2, none⟩ = some (d2) := fun n => (HD.out.to (HN n)).2.2.1
    have f3 : ∀ (n : ClV W2), n.w.cell? ⟨g, of + 3, none⟩ = some (d3) := fun n => (HD.out.to (HN n)).2.2.2.1
    have f4 : ∀ (n : ClV W2), n.w.cell? ⟨g, of + 4, none⟩ = some (d4) := fun n => (HD.out.to (HN n)).2.2.2.2
    have C1 := mkHid (fun n : ClV W2 => clv_call (fun w1 h => HF.out w1 (hW2'.out.trans (h.mono (by omega)))) n)
    have hB2' := hB2
    clear k1 k2 HN
    have HBz := mkHid hB2
    refine wp_region_cls (fun w' => ∃ n : ClV W2, w' = n.w) (by kernel_rfl) (by kernel_rfl) ⟨⟨W2.drew, (Below.refl _ _).drew⟩, rfl⟩ ?_
    repeat (first | go_big_quiet_step ((fail)) | quiet_step ((fail)))
    first
        | go_big_quiet_step ((go_at_call 8; exact C1.out _))
        | quiet_step ((go_at_call 8; exact C1.out _))
    repeat (first | go_big_quiet_step ((fail)) | quiet_step ((fail)))
    refine wpQuiet_nil ?_
    intro _ hw'
    obtain ⟨n1, hw''⟩ := hw'
    subst hw''
    have hB1 := mkHid (HBz.out.trans (n1.bel.mono (by omega)))
    clear F2 b1 b4 f0 f1 f2 f3 f4
    go_wp2
    go_ret
    exact ⟨by rw [← HE.out]; rfl, hB1.out⟩
set_option maxRecDepth 100000 in
set_option maxHeartbeats 4000000 in
theorem rf_all (W : World) (f : Fm) (x : ByteArray) (bo : Option Addr) (g of bcap cap : Nat) (d0 d1 d2 d3 d4 : Value) (hd : At5 W g of d0 d1 d2 d3 d4) (hf : RF W f d0 d1 d2 d3 d4) (hz : (shF f).size ≤ 1000000) (hx : x.size ≤ 1000000) (hc1 : 1 ≤ cap) (hc2 : cap ≤ 9223372036854775807) :
    RF W (.mk 8 x 0 [] [f]) (.int .i64 8) (.string x) (.int .i64 0) (.slice bo 0 bcap) (.slice (some ⟨g, of, none⟩) 1 cap) := by
  intro w hW
  have hWs := hW.size
  have HWb := mkHid hW
  have HD := mkHid hd
  have HF := mkHid hf
  have HE := mkHid (sf_qu (o := 8) (x := x) (m := 0) (t := []) (f := f) (s := ⟨#[97, 108, 108, 32]⟩) (.inr rfl) rfl)
  clear hd hf hW
  · go_enter Tryd.func8, Tryd.ntmps8
    go_wp2
    obtain ⟨W2, hW2⟩ : ∃ W2, (w.alloc (.cells #[.int .i64 8, .string x, .int .i64 0, .slice bo 0 bcap, .slice (some ⟨g, of, none⟩) 1 cap] 26)).alloc (.cells #[.string ⟨#[116, 114, 117, 101]⟩, .string ⟨#[102, 97, 108, 115, 101]⟩, .string ⟨#[110, 111, 116, 32]⟩, .string ⟨#[32, 97, 110, 100, 32]⟩, .string ⟨#[32, 111, 114, 32]⟩, .string ⟨#[32, 45, 62, 32]⟩, .string ⟨#[32, 60, 45, 62, 32]⟩, .string ⟨#[101, 120, 32]⟩, .string ⟨#[97, 108, 108, 32]⟩, .string ⟨#[32, 60, 61, 32]⟩, .string ⟨#[32, 60, 32]⟩, .string ⟨#[32, 62, 61, 32]⟩, .string ⟨#[32, 62, 32]⟩, .string ⟨#[32, 61, 32]⟩, .string ⟨#[32, 33, 61, 32]⟩, .string ⟨#[32, 126, 32]⟩] 9) = W2 := ⟨_, rfl⟩
    have hB2 : Below w.heap.size w W2 := by rw [← hW2]; exact ((Below.refl _ _).alloc (Nat.le_refl _) _).alloc (by simp) _
    have hs2 : W2.heap.size = w.heap.size + 2 := by rw [← hW2]; simp
    have k1 : W2.heap[w.heap.size]? = some (.cells #[.int .i64 8, .string x, .int .i64 0, .slice bo 0 bcap, .slice (some ⟨g, of, none⟩) 1 cap] 26) := by rw [← hW2, heap_alloc_old _ _ (by simp)]; exact heap_alloc_new w _
    have k2 : W2.heap[w.heap.size + 1]? = some (.cells #[.string ⟨#[116, 114, 117, 101]⟩, .string ⟨#[102, 97, 108, 115, 101]⟩, .string ⟨#[110, 111, 116, 32]⟩, .string ⟨#[32, 97, 110, 100, 32]⟩, .string ⟨#[32, 111, 114, 32]⟩, .string ⟨#[32, 45, 62, 32]⟩, .string ⟨#[32, 60, 45, 62, 32]⟩, .string ⟨#[101, 120, 32]⟩, .string ⟨#[97, 108, 108, 32]⟩, .string ⟨#[32, 60, 61, 32]⟩, .string ⟨#[32, 60, 32]⟩, .string ⟨#[32, 62, 61, 32]⟩, .string ⟨#[32, 62, 32]⟩, .string ⟨#[32, 61, 32]⟩, .string ⟨#[32, 33, 61, 32]⟩, .string ⟨#[32, 126, 32]⟩] 9) := by
      rw [← hW2]
      have := heap_alloc_new (w.alloc (.cells #[.int .i64 8, .string x, .int .i64 0, .slice bo 0 bcap, .slice (some ⟨g, of, none⟩) 1 cap] 26)) (.cells #[.string ⟨#[116, 114, 117, 101]⟩, .string ⟨#[102, 97, 108, 115, 101]⟩, .string ⟨#[110, 111, 116, 32]⟩, .string ⟨#[32, 97, 110, 100, 32]⟩, .string ⟨#[32, 111, 114, 32]⟩, .string ⟨#[32, 45, 62, 32]⟩, .string ⟨#[32, 60, 45, 62, 32]⟩, .string ⟨#[101, 120, 32]⟩, .string ⟨#[97, 108, 108, 32]⟩, .string ⟨#[32, 60, 61, 32]⟩, .string ⟨#[32, 60, 32]⟩, .string ⟨#[32, 62, 61, 32]⟩, .string ⟨#[32, 62, 32]⟩, .string ⟨#[32, 61, 32]⟩, .string ⟨#[32, 33, 61, 32]⟩, .string ⟨#[32, 126, 32]⟩] 9)
      rwa [World.size_alloc] at this
    rw [hW2]
    clear hW2
    haveI : Nonempty (ClV W2) := ⟨⟨W2, Below.refl _ _⟩⟩
    have F2 : ∀ (n : ClV W2), n.w.cell? ⟨w.heap.size + 1, 8, none⟩ = some (.string ⟨#[97, 108, 108, 32]⟩) := fun n => blk_cells k2 n 8
    have hW2' := mkHid (HWb.out.trans (hB2.mono hWs))
    have HN : ∀ n : ClV W2, Below W.heap.size W n.w := fun n => hW2'.out.trans (n.bel.mono (by omega))
    have b1 : ∀ (n : ClV W2), n.w.cell? ⟨w.heap.size, 1, none⟩ = some (.string x) := fun n => blk_cells k1 n 1
    have b4 : ∀ (n : ClV W2), n.w.cell? ⟨w.heap.size, 4, none⟩ = some (.slice (some ⟨g, of, none⟩) 1 cap) := fun n => blk_cells k1 n 4
    have f0 : ∀ (n : ClV W2), n.w.cell? ⟨g, of, none⟩ = some (d0) := fun n => (HD.out.to (HN n)).1
    have f1 : ∀ (n : ClV W2), n.w.cell? ⟨g, of + 1, none⟩ = some (d1) := fun n => (HD.out.to (HN n)).2.1
    have f2 : ∀ (n : ClV W2), n.w.cell? ⟨g, of + 2, none⟩ = some (d2) := fun n => (HD.out.to (HN n)).2.2.1
    have f3 : ∀ (n : ClV W2), n.w.cell? ⟨g, of + 3, none⟩ = some (d3) := fun n => (HD.out.to (HN n)).2.2.2.1
    have f4 : ∀ (n : ClV W2), n.w.cell? ⟨g, of + 4, none⟩ = some (d4) := fun n => (HD.out.to (HN n)).2.2.2.2
    have C1 := mkHid (fun n : ClV W2 => clv_call (fun w1 h => HF.out w1 (hW2'.out.trans (h.mono (by omega)))) n)
    have hB2' := hB2
    clear k1 k2 HN
    have HBz := mkHid hB2
    refine wp_region_cls (fun w' => ∃ n : ClV W2, w' = n.w) (by kernel_rfl) (by kernel_rfl) ⟨⟨W2.drew, (Below.refl _ _).drew⟩, rfl⟩ ?_
    repeat (first | go_big_quiet_step ((fail)) | quiet_step ((fail)))
    first
        | go_big_quiet_step ((go_at_call 8; exact C1.out _))
        | quiet_step ((go_at_call 8; exact C1.out _))
    repeat (first | go_big_quiet_step ((fail)) | quiet_step ((fail)))
    refine wpQuiet_nil ?_
    intro _ hw'
    obtain ⟨n1, hw''⟩ := hw'
    subst hw''
    have hB1 := mkHid (HBz.out.trans (n1.bel.mono (by omega)))
    clear F2 b1 b4 f0 f1 f2 f3 f4
    go_wp2
    go_ret
    exact ⟨by rw [← HE.out]; rfl, hB1.out⟩
set_option maxRecDepth 100000 in
set_option maxHeartbeats 4000000 in
theorem rf_leaf0 (W : World) (bo ao : Option Addr) (bcap cap : Nat) : RF W (.mk 0 emp 0 [] []) (.int .i64 0) (.string emp) (.int .i64 0) (.slice bo 0 bcap) (.slice ao 0 cap) := by
  intro w hW
  have HE := mkHid (show shF (.mk 0 emp 0 [] []) = kTrue from tb_inj tf_tru)
  have hB0 := mkHid (((Below.refl w.heap.size w).alloc (Nat.le_refl _) (.cells #[.int .i64 0, .string emp, .int .i64 0, .slice bo 0 bcap, .slice ao 0 cap] 26)).alloc (by simp) (.cells #[.string ⟨#[116, 114, 117, 101]⟩, .string ⟨#[102, 97, 108, 115, 101]⟩, .string ⟨#[110, 111, 116, 32]⟩, .string ⟨#[32, 97, 110, 100, 32]⟩, .string ⟨#[32, 111, 114, 32]⟩, .string ⟨#[32, 45, 62, 32]⟩, .string ⟨#[32, 60, 45, 62, 32]⟩, .string ⟨#[101, 120, 32]⟩, .string ⟨#[97, 108, 108, 32]⟩, .string ⟨#[32, 60, 61, 32]⟩, .string ⟨#[32, 60, 32]⟩, .string ⟨#[32, 62, 61, 32]⟩, .string ⟨#[32, 62, 32]⟩, .string ⟨#[32, 61, 32]⟩, .string ⟨#[32, 33, 61, 32]⟩, .string ⟨#[32, 126, 32]⟩] 9))
  go_enter Tryd.func8, Tryd.ntmps8
  go_wp2
  go_ret
  exact ⟨by rw [HE.out]; rfl, hB0.out⟩
set_option maxRecDepth 100000 in
set_option maxHeartbeats 4000000 in
theorem rf_leaf1 (W : World) (bo ao : Option Addr) (bcap cap : Nat) : RF W (.mk 1 emp 0 [] []) (.int .i64 1) (.string emp) (.int .i64 0) (.slice bo 0 bcap) (.slice ao 0 cap) := by
  intro w hW
  have HE := mkHid (show shF (.mk 1 emp 0 [] []) = kFalse from tb_inj tf_fls)
  have hB0 := mkHid (((Below.refl w.heap.size w).alloc (Nat.le_refl _) (.cells #[.int .i64 1, .string emp, .int .i64 0, .slice bo 0 bcap, .slice ao 0 cap] 26)).alloc (by simp) (.cells #[.string ⟨#[116, 114, 117, 101]⟩, .string ⟨#[102, 97, 108, 115, 101]⟩, .string ⟨#[110, 111, 116, 32]⟩, .string ⟨#[32, 97, 110, 100, 32]⟩, .string ⟨#[32, 111, 114, 32]⟩, .string ⟨#[32, 45, 62, 32]⟩, .string ⟨#[32, 60, 45, 62, 32]⟩, .string ⟨#[101, 120, 32]⟩, .string ⟨#[97, 108, 108, 32]⟩, .string ⟨#[32, 60, 61, 32]⟩, .string ⟨#[32, 60, 32]⟩, .string ⟨#[32, 62, 61, 32]⟩, .string ⟨#[32, 62, 32]⟩, .string ⟨#[32, 61, 32]⟩, .string ⟨#[32, 33, 61, 32]⟩, .string ⟨#[32, 126, 32]⟩] 9))
  go_enter Tryd.func8, Tryd.ntmps8
  go_wp2
  go_ret
  exact ⟨by rw [HE.out]; rfl, hB0.out⟩
end Go.Proofs.YtncgmnijgdfenaaDoor.Gl
