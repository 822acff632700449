/- ChkTotals: the walks. -/
import Derived.Test.YtgmnohfleadohaaTotals
import Derived.Test.YtgmnohfleadohaaPartsW
namespace Go.Proofs.Ytgmnohfleadohaa.Chk
open Go.RowKit
open Go.Proofs.Ytgmnohfleadohaa.Wd (nOf eOf)
set_option linter.unusedVariables false

theorem row_open {w : World} {v : Value} {zs : List Int} {len : Nat} (h : Row w v zs) (hz : zs.length = len) (hp : 0 < len) :
    ∃ mb mo mc, v = .slice (some ⟨mb, mo, none⟩) len mc ∧ ∀ i, i < len → w.cell? ⟨mb, mo + i, none⟩ = some (.int .i64 (zs.getD i 0)) := by
  obtain ⟨ao, cap, rfl, hm, hc, hw⟩ := h
  subst hz
  obtain ⟨b, off, rfl, hc'⟩ := hc hp
  exact ⟨b, off, cap, rfl, hc'⟩

set_option maxHeartbeats 2000000 in
theorem totals_walk (b off len cap : Nat) (zs : List Int) (w : World) (hz : Hid (zs.length = len)) (hpos : 0 < len) (hlen : len * 8 ≤ 140737488351232)
   (hc : Hid (∀ i, i < len → w.cell? ⟨b, off + i, none⟩ = some (.int .i64 (zs.getD i 0)))) (hw : Hid (∀ z ∈ zs, (Lit.int .i64 z).wf = true)) :
    Calls Try.prog 6 #[.slice (some ⟨b, off, none⟩) len cap] w fun e w' => e = .returned (.bool true) ∧ Below w.heap.size w w' := by
  have hbel0 := Below.refl w.heap.size w
  have hrow : Hid (∀ W, Below w.heap.size w W → Row W (.slice (some ⟨b, off, none⟩) len cap) zs) := fun W hW =>
    ⟨some ⟨b, off, none⟩, cap, by rw [hz.out], by unfold maxLen; rw [hz.out]; omega, fun _ => ⟨b, off, rfl, fun i hi => by
      have h := hc.out i (by rw [← hz.out]; exact hi)
      rw [hW.cell (World.block_lt_of_cell? _ _ h), h]⟩, hw.out⟩
  go_enter Try.func6, Try.ntmps6
  go_wp2_with (first
    | (at_builtin; refine wp_copy w _ rfl (.tmp 9) (.tmp 10) rfl hbel0 rfl ⟨b, off, none⟩ len _ zs rfl hz.out (all_cells hbel0 hc.out) hw.out (by omega) ?_; intro vA wA hA hbA; obtain ⟨mb, mo, mc, hv, hmc⟩ := row_open hA hz.out hpos; rw [hv] at hA ⊢; have HA : Hid (Row wA (.slice (some ⟨mb, mo, none⟩) len mc) zs) := hA; have HM : Hid (∀ i, i < len → wA.cell? ⟨mb, mo + i, none⟩ = some (.int .i64 (zs.getD i 0))) := hmc; clear hA hmc hv)
    | (go_at_call 25; refine (total_at _ _ _ HA.out).mono ?_; rintro e w' ⟨rfl, rfl⟩)
    | (go_at_call 26; refine (ref_total _ zs _ (hrow.out _ hbA) (by rw [hz.out]; exact hlen)).mono ?_; rintro e wB ⟨rfl, hB⟩; have hbB := hbA.trans (hB.mono hbA.size))
    | (go_at_call 13; refine (fixed_is _).mono ?_; rintro e w' ⟨rfl, rfl⟩)
    | (go_at_call 14; refine (told_at _ _ _).mono ?_; rintro e w' ⟨rfl, rfl⟩))
  go_loopw [41] (fun i wr => ∃ k : Nat, k ≤ len ∧ i = .int .i64 k ∧ Below wB.heap.size wB wr) (fun i _ => len - (intOf i).toNat)
  case atStart => exact ⟨0, Nat.zero_le _, rfl, Below.refl _ _⟩
  case round =>
    obtain ⟨k, hk, rfl, hnx⟩ := hrel
    have hbw : Below w.heap.size w wr := hbB.trans (hnx.mono hbB.size)
    by_cases hlt : k < len
    · have hcell : wr.cell? ⟨b, off + k, none⟩ = some (.int .i64 (zs.getD k 0)) := by
        have h := hc.out k hlt
        rw [hbw.cell (World.block_lt_of_cell? _ _ h), h]
      have hcell2 : wr.cell? ⟨mb, mo + k, none⟩ = some (.int .i64 (zs.getD k 0)) := by
        have h := HM.out k hlt
        have h2 := (hB.trans (hnx.mono hB.size)).cell (p := ⟨mb, mo + k, none⟩) (World.block_lt_of_cell? _ _ h)
        rw [h2, h]
      obtain ⟨z, hze⟩ : ∃ z, zs.getD k 0 = z := ⟨_, rfl⟩
      rw [hze] at hcell hcell2
      clear hze
      have hzz : (z != z) = false := by simp
      go_wp2
      go_region
      go_wp2
      go_roundw
      case rel => exact ⟨k + 1, by omega, by go_num, hnx.drew⟩
      case measure => simp [intOf]; omega
    · go_wp2
      go_ret
      exact ⟨rfl, hbw⟩

set_option maxHeartbeats 1000000 in
theorem totals_none (x : Addr) (cap : Nat) (w : World) :
    Calls Try.prog 6 #[.slice (some x) 0 cap] w fun e w' => e = .returned (.bool true) ∧ Below w.heap.size w w' := by
  have hbel0 := Below.refl w.heap.size w
  go_enter Try.func6, Try.ntmps6
  go_wp2_with (first
    | (at_builtin; refine wp_copy w _ rfl (.tmp 9) (.tmp 10) rfl hbel0 rfl x 0 _ [] rfl rfl (no_cells 0 rfl) (by simp) (by omega) ?_; intro vA wA hA hbA; obtain ⟨ma, mc, hv, hmm, hmc, hmw⟩ := hA; have HA : Row wA (.slice ma 0 mc) [] := ⟨ma, mc, rfl, hmm, hmc, hmw⟩; rw [hv]; clear hv hmm hmc hmw; simp only [List.length_nil])
    | (go_at_call 25; refine (total_at _ _ _ HA).mono ?_; rintro e w' ⟨rfl, rfl⟩)
    | (go_at_call 26; refine (ref_total _ [] _ ⟨some x, cap, rfl, Nat.zero_le _, (fun h => absurd h (by simp)), (by simp)⟩ (by simp)).mono ?_; rintro e wB ⟨rfl, hB⟩; have hbB := hbA.trans (hB.mono hbA.size))
    | (go_at_call 13; refine (fixed_is _).mono ?_; rintro e w' ⟨rfl, rfl⟩)
    | (go_at_call 14; refine (told_at _ _ _).mono ?_; rintro e w' ⟨rfl, rfl⟩))
  refine wp_loop_rounds 1 ?_
  rw [rounds_succ]
  go_wp2
  go_ret
  exact ⟨rfl, hbB⟩

theorem totals_empty (x : Addr) (w : World) : Calls Try.prog 6 #[.slice (some x) 0 0] w fun e w' => e = .returned (.bool true) ∧ Below w.heap.size w w' := totals_none x 0 w

set_option maxHeartbeats 1000000 in
theorem totals_nil (w : World) :
    Calls Try.prog 6 #[.slice none 0 0] w fun e w' => e = .returned (.bool true) ∧ Below w.heap.size w w' := by
  have hbel0 := Below.refl w.heap.size w
  go_enter Try.func6, Try.ntmps6
  go_wp2_with (first
    | (at_builtin; refine wp_copy_nil w _ rfl (.tmp 9) (.tmp 10) rfl hbel0 rfl rfl ?_; intro vA wA hA hbA; obtain ⟨ma, mc, hv, hmm, hmc, hmw⟩ := hA; have HA : Row wA (.slice ma 0 mc) [] := ⟨ma, mc, rfl, hmm, hmc, hmw⟩; rw [hv]; clear hv hmm hmc hmw; simp only [List.length_nil])
    | (go_at_call 25; refine (total_at _ _ _ HA).mono ?_; rintro e w' ⟨rfl, rfl⟩)
    | (go_at_call 26; refine (ref_total _ [] _ ⟨none, 0, rfl, Nat.zero_le _, (fun h => absurd h (by simp)), (by simp)⟩ (by simp)).mono ?_; rintro e wB ⟨rfl, hB⟩; have hbB := hbA.trans (hB.mono hbA.size))
    | (go_at_call 13; refine (fixed_is _).mono ?_; rintro e w' ⟨rfl, rfl⟩)
    | (go_at_call 14; refine (told_at _ _ _).mono ?_; rintro e w' ⟨rfl, rfl⟩))
  refine wp_loop_rounds 1 ?_
  rw [rounds_succ]
  go_wp2
  go_ret
  exact ⟨rfl, hbB⟩
end Go.Proofs.Ytgmnohfleadohaa.Chk
