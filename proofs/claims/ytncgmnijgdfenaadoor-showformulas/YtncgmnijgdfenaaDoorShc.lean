/- Answers that the document fixes; ShowFormulas and ShowTerms. -/
import Derived.Test.YtncgmnijgdfenaaDoorShQ
import Derived.Test.YtncgmnijgdfenaaDoorSha
import Derived.Test.YtncgmnijgdfenaaDoorTrV
namespace Go.Proofs.YtncgmnijgdfenaaDoor.Gl
open Go Go.RowKit
set_option linter.unusedVariables false
set_option linter.unusedSimpArgs false

theorem nm_kx : nmB ⟨#[120]⟩ = true := by
  rw [nmB_iff]
  refine ⟨⟨1, ⟨by decide +kernel, fun k hk => ?_⟩, by decide, by decide, fun j hj => ?_⟩, by decide +kernel⟩
  · obtain rfl : k = 0 := by omega
    decide +kernel
  · obtain rfl : j = 0 := by omega
    exact ⟨by decide +kernel, by decide +kernel, by decide +kernel, fun _ => by decide +kernel⟩
abbrev x8F : Fm := .mk 7 ⟨#[120]⟩ 0 [] [.mk 9 emp 0 [.mk 1 0 ⟨#[120]⟩ [], .mk 0 10 emp []] []]
abbrev n8F : Fm := .mk 2 emp 0 [] []
theorem x8_chk : chk nmB x8F = 0 := by
  have hx := nm_kx
  simp [chk, meterF, meterFL, meterTL, meterT, St.node, wellF, wellT, wF, wT, hx]
theorem n8_chk : chk nmB n8F = 3 := by
  simp [chk, meterF, meterFL, meterTL, meterT, St.node, wellF, wellT, wF, wT]
theorem dec10 : dec 10 = ⟨#[49, 48]⟩ := by
  unfold dec
  rw [dec_ge (by decide), dec_lt (by decide)]
  rfl
theorem x8_text : shF x8F = ⟨#[101, 120, 32, 120, 46, 32, 120, 32, 60, 61, 32, 49, 48]⟩ := by
  apply tb_inj
  rw [tf_qu (.inl rfl), tf_rel (by decide) (by decide), tt_nam, tt_num]
  have e : dec (10 : Int).toNat = dec 10 := rfl
  rw [e, dec10]
  rfl
abbrev xTs : Array Value := #[.int .i64 1, .int .i64 0, .string ⟨#[120]⟩, .slice none 0 0, .int .i64 0, .int .i64 10, .string emp, .slice none 0 0]
theorem x8_fm (w : World) : FmV ((w.alloc (.cells xTs 36)).alloc (.cells #[.int .i64 9, .string emp, .int .i64 0, .slice (some ⟨w.heap.size, 0, none⟩) 2 2, .slice none 0 0] 26)) x8F (.agg #[.int .i64 7, .string ⟨#[120]⟩, .int .i64 0, .slice none 0 0, .slice (some ⟨w.heap.size + 1, 0, none⟩) 1 1]) := by
  have k1 : ∀ o, ((w.alloc (.cells xTs 36)).alloc (.cells #[.int .i64 9, .string emp, .int .i64 0, .slice (some ⟨w.heap.size, 0, none⟩) 2 2, .slice none 0 0] 26)).cell? ⟨w.heap.size, o, none⟩ = xTs[o]? := fun o => by
    rw [Lib.cell_of_heap ((heap_alloc_old _ _ (by simp)).trans (heap_alloc_new w _))]
  have k2 : ∀ o, ((w.alloc (.cells xTs 36)).alloc (.cells #[.int .i64 9, .string emp, .int .i64 0, .slice (some ⟨w.heap.size, 0, none⟩) 2 2, .slice none 0 0] 26)).cell? ⟨w.heap.size + 1, o, none⟩ = #[.int .i64 9, .string emp, .int .i64 0, .slice (some ⟨w.heap.size, 0, none⟩) 2 2, .slice none 0 0][o]? := fun o => by
    have := heap_alloc_new (w.alloc (.cells xTs 36)) (.cells #[.int .i64 9, .string emp, .int .i64 0, .slice (some ⟨w.heap.size, 0, none⟩) 2 2, .slice none 0 0] 26)
    rw [World.size_alloc] at this
    rw [Lib.cell_of_heap this]
  refine ⟨_, _, _, _, _, rfl, ?_⟩
  rw [RdF]
  refine ⟨rfl, rfl, rfl, ⟨by unfold I64; omega, by unfold I64; omega, by unfold Sz; decide⟩, ⟨none, 0, rfl, Nat.le_refl _, by unfold Sz; omega, by rw [RdTL]; trivial⟩, some ⟨w.heap.size + 1, 0, none⟩, 1, rfl, Nat.le_refl _, by unfold Sz; omega, ?_⟩
  rw [RdFL, RdFL]
  refine ⟨⟨w.heap.size + 1, 0, _, _, _, _, _, rfl, by simp, k2 0, k2 1, k2 2, k2 3, k2 4, ?_⟩, trivial⟩
  rw [RdF]
  refine ⟨rfl, rfl, rfl, ⟨by unfold I64; omega, by unfold I64; omega, by unfold Sz; decide⟩, ⟨some ⟨w.heap.size, 0, none⟩, 2, rfl, Nat.le_refl _, by unfold Sz; omega, ?_⟩, none, 0, rfl, Nat.le_refl _, by unfold Sz; omega, by rw [RdFL]; trivial⟩
  rw [RdTL, RdTL, RdTL]
  refine ⟨⟨w.heap.size, 0, _, _, _, _, rfl, by simp; omega, k1 0, k1 1, k1 2, k1 3, ?_⟩, ⟨w.heap.size, 0, _, _, _, _, rfl, by simp; omega, k1 4, k1 5, k1 6, k1 7, ?_⟩, trivial⟩
  · rw [RdT]
    exact ⟨rfl, rfl, rfl, ⟨by unfold I64; omega, by unfold I64; omega, by unfold Sz; decide⟩, none, 0, rfl, Nat.le_refl _, by unfold Sz; omega, by rw [RdTL]; trivial⟩
  · rw [RdT]
    exact ⟨rfl, rfl, rfl, ⟨by unfold I64; omega, by unfold I64; omega, by unfold Sz; decide⟩, none, 0, rfl, Nat.le_refl _, by unfold Sz; omega, by rw [RdTL]; trivial⟩
theorem n8_fm (w : World) : FmV w n8F (.agg #[.int .i64 2, .string emp, .int .i64 0, .slice none 0 0, .slice none 0 0]) := by
  refine ⟨_, _, _, _, _, rfl, ?_⟩
  rw [RdF]
  exact ⟨rfl, rfl, rfl, ⟨by unfold I64; omega, by unfold I64; omega, by unfold Sz; decide⟩, ⟨none, 0, rfl, Nat.le_refl _, by unfold Sz; omega, by rw [RdTL]; trivial⟩, none, 0, rfl, Nat.le_refl _, by unfold Sz; omega, by rw [RdFL]; trivial⟩
set_option maxRecDepth 100000 in
set_option maxHeartbeats 1000000 in
theorem fixed8_at (w : World) (hP : Pw w) : Calls Tryd.prog 7 #[] w fun e w' => e = .returned (.bool true) ∧ Below w.heap.size w w' := by
  have hB0 : Below w.heap.size w ((w.alloc (.cells xTs 36)).alloc (.cells #[.int .i64 9, .string emp, .int .i64 0, .slice (some ⟨w.heap.size, 0, none⟩) 2 2, .slice none 0 0] 26)) := ((Below.refl w.heap.size w).alloc (Nat.le_refl _) _).alloc (by simp) _
  have S1 := mkHid (fm_show _ x8F _ _ (x8_fm w) (Below.refl _ _) (hP.below hB0 hP.lt))
  rw [x8_chk, if_pos rfl, x8_text] at S1
  have S2 := mkHid (fun w1 (h : Pw w1) => fm_show w1 n8F _ w1 (n8_fm w1) (Below.refl _ _) h)
  rw [n8_chk, if_neg (by decide)] at S2
  have HP := mkHid hP
  have HB := mkHid hB0
  clear hP hB0
  go_enter Tryd.func7, Tryd.ntmps7
  go_wp2_with (fail)
  refine S1.out.mono ?_
  rintro e w2 ⟨rfl, hB2⟩
  have hBx := mkHid (HB.out.trans (hB2.mono HB.out.size))
  have S3 := mkHid (S2.out w2 (HP.out.below hBx.out HP.out.lt))
  clear hB2
  go_wp2_with (fail)
  refine S3.out.mono ?_
  rintro e w3 ⟨rfl, hB3⟩
  have hBz := mkHid (hBx.out.trans (hB3.mono hBx.out.size))
  clear hB3
  go_wp2
  go_ret
  exact ⟨rfl, hBz.out⟩
end Go.Proofs.YtncgmnijgdfenaaDoor.Gl
