/- The program's linear: numbers, names, negation. -/
import Derived.Test.YtiapkblebbcfbaaNmG
namespace Go.Proofs.Ytiapkblebbcfbaa.Gl
open Go.RowKit
set_option linter.unusedVariables false
set_option linter.unusedSimpArgs false

set_option maxRecDepth 100000 in
set_option maxHeartbeats 4000000 in
theorem linear_num (n : Int) (hn : 0 ≤ n) : LinC (.mk 0 n emp []) := by
  rintro W v w ⟨c0, c1, c2, c3, rfl, hr⟩ hW hsz
  rw [RdT] at hr
  obtain ⟨rfl, rfl, rfl, ⟨-, hi, -⟩, ao, cap, rfl, -, -, -⟩ := hr
  have HF := mkHid (fr2_new w (.int .i64 0) (.int .i64 n) (.string emp) (.slice ao 0 cap))
  have HL : Hid (lin (.mk 0 n emp []) = .ok ⟨[], [], n⟩) := by show _ = _; rw [lin_num]; exact mkS_yes (by show (([] : List Int).all in64 && in64 n) = true; rw [(in64_iff n).2 hi]; rfl)
  go_enter Try.func24, Try.ntmps24
  go_wp2_with (fail)
  refine bodyPost_ret (v := .tuple #[.agg #[.slice none 0 0, .slice none 0 0, .int .i64 n], .int .i64 0]) (by simp [results, Try.results24, go_sem]) rfl ⟨_, rfl, ?_, ?_⟩
  · rw [HL.out]
    exact ⟨none, none, 0, 0, 0, 0, rfl, ⟨rds_nil _, rdz_nil _⟩, newA_none _, newA_none _⟩
  · first
      | exact bt2 (bal _ _) (bal _ _)
      | exact HF.out.bel
      | exact bel_st3 HF.out.bel (by omega) _ _ _
      | exact HF.out.bel.setCell (p := ⟨w.heap.size + 1, 2, none⟩) (by show w.heap.size ≤ w.heap.size + 1; omega) _
set_option maxRecDepth 100000 in
set_option maxHeartbeats 4000000 in
theorem linear_name (x : ByteArray) (hx : nmB x = true) : LinC (.mk 1 0 x []) := by
  rintro W v w ⟨c0, c1, c2, c3, rfl, hr⟩ hW hsz
  rw [RdT] at hr
  obtain ⟨rfl, rfl, rfl, -, ao, cap, rfl, -, -, -⟩ := hr
  have hx2 := name_small ((nmB_iff x).1 hx)
  have HF := mkHid (fr2_new w (.int .i64 1) (.int .i64 0) (.string x) (.slice ao 0 cap))
  go_enter Try.func24, Try.ntmps24
  go_wp2_with (fail)
  generalize ((w.alloc (.cells #[.int .i64 1, .int .i64 0, .string x, .slice ao 0 cap] 35)).alloc (.cells #[.slice none 0 0, .slice none 0 0, .int .i64 0] 58)) = w2 at HF ⊢
  refine (nclone_at x w2 hx2).mono ?_
  rintro e w3 ⟨rfl, hB3⟩
  have HF3 := HF.out.keep hB3
  have HF4 := HF3.keep (bal w3 (.cells #[.string x] 9))
  have HF5 := HF4.keep (bal (w3.alloc (.cells #[.string x] 9)) (.cells #[.int .i64 1] 2))
  obtain ⟨r0, s0⟩ := txcell HF5.res 0 _ rfl
  obtain ⟨r1, s1⟩ := txcell HF5.res 1 _ rfl
  obtain ⟨r2, s2⟩ := txcell HF5.res 2 _ rfl
  have hs3 : w.heap.size + 2 ≤ w3.heap.size := HF3.size
  have hS := rds_built w3 [x] 1 9 w3.heap.size rfl rfl (by decide)
  have hZ := rdz_built (w3.alloc (.cells #[.string x] 9)) [1] 1 2 (w3.heap.size + 1) (by simp) rfl (by decide)
  have hS5 := mkHid (rds_st3 (X := w.heap.size + 1) (hS.below (Nat.le_refl _) (bal _ (.cells #[.int .i64 1] 2))) (fun ad e => by cases e; show w3.heap.size ≠ _; omega) (.slice (some ⟨w3.heap.size, 0, none⟩) 1 1) (.slice (some ⟨w3.heap.size + 1, 0, none⟩) 1 1) (.int .i64 0))
  have hZ5 := mkHid (rdz_st3 (X := w.heap.size + 1) hZ (fun ad e => by cases e; show w3.heap.size + 1 ≠ _; omega) (.slice (some ⟨w3.heap.size, 0, none⟩) 1 1) (.slice (some ⟨w3.heap.size + 1, 0, none⟩) 1 1) (.int .i64 0))
  have hR9 := rb_three HF5.res rfl (.slice (some ⟨w3.heap.size, 0, none⟩) 1 1) (.slice (some ⟨w3.heap.size + 1, 0, none⟩) 1 1) (.int .i64 0)
  have hB9 := mkHid (bel_st3 (B := w.heap.size + 1) HF5.bel (by omega) (.slice (some ⟨w3.heap.size, 0, none⟩) 1 1) (.slice (some ⟨w3.heap.size + 1, 0, none⟩) 1 1) (.int .i64 0))
  clear hS hZ
  go_wp2_with (fail)
  obtain ⟨k0, -⟩ := txcell hR9 0 _ rfl
  obtain ⟨k1, -⟩ := txcell hR9 1 _ rfl
  obtain ⟨k2, -⟩ := txcell hR9 2 _ rfl
  refine bodyPost_ret (v := .tuple #[.agg #[.slice (some ⟨w3.heap.size, 0, none⟩) 1 1, .slice (some ⟨w3.heap.size + 1, 0, none⟩) 1 1, .int .i64 0], .int .i64 0]) (by simp [results, Try.results24, go_sem, k0, k1, k2]) rfl ⟨_, rfl, ?_, hB9.out⟩
  rw [lin_name]
  exact ⟨_, _, 1, 1, 1, 1, rfl, ⟨hS5.out, hZ5.out⟩, fun ad e => by cases e; show w.heap.size ≤ w3.heap.size; omega, fun ad e => by cases e; show w.heap.size ≤ w3.heap.size + 1; omega⟩
end Go.Proofs.Ytiapkblebbcfbaa.Gl
