/- What firstWord answers. -/
import Derived.Test.YthimmohbedaimaaDoorLyD
namespace Go.Proofs.YthimmohbedaimaaDoor.Gl
open Go.RowKit
set_option linter.unusedVariables false

theorem run_digs {u : ByteArray} {p q : Nat} (h : RunTo isDig u p q) : p ≤ q ∧ ∀ j, p ≤ j → j < q → 48 ≤ bt u j ∧ bt u j ≤ 57 := by
  induction h with
  | nil => exact ⟨Nat.le_refl _, fun j h1 h2 => by omega⟩
  | @cons p q a b c _ ih =>
    have hd := of_decide_eq_true c
    obtain ⟨e1, e2, _⟩ := rd_ascii (s := u) (p := p) (by omega)
    rw [e2] at ih
    refine ⟨by omega, fun j h1 h2 => ?_⟩
    rcases Nat.lt_or_eq_of_le h1 with hlt | rfl
    · exact ih.2 j (by omega) h2
    · rw [e1]; exact hd
theorem digs_run {u : ByteArray} (h0 : 0 < u.size) (hok : (rdS u 0).2.2 = true) (hd : isDig (rdS u 0).1 = true) : Digs (u.extract 0 (run isDig u 0)) ∧ valF (u.extract 0 (run isDig u 0)) 0 (u.extract 0 (run isDig u 0)).size = valF u 0 (run isDig u 0 - 0) ∧ run isDig u 0 ≤ u.size := by
  have hle := (run_run isDig u 0).le_size (Nat.zero_le _)
  have hgt := run_gt h0 hok hd
  have hz := size_win u 0 (run isDig u 0) hle
  obtain ⟨_, hb⟩ := run_digs (run_run isDig u 0)
  refine ⟨⟨by omega, fun j hj => ?_⟩, ?_, hle⟩
  · rw [bt_win u 0 _ j hle (by omega), Nat.zero_add]
    exact hb j (Nat.zero_le _) (by omega)
  · rw [hz]
    exact valF_congr _ (fun j hj => by rw [Nat.zero_add, bt_win u 0 _ j hle (by omega), Nat.zero_add])
theorem name_run {u : ByteArray} (h0 : 0 < u.size) (hok : (rdS u 0).2.2 = true) (hst : stB ((rdS u 0).1 : Nat) = true) : run reN u 0 ≤ u.size ∧ (rsB (u.extract 0 (run reN u 0)) = false → (decide (cnt (u.extract 0 (run reN u 0)) ≤ 16) = true ↔ IsName (u.extract 0 (run reN u 0)))) := by
  have hle := (run_run reN u 0).le_size (Nat.zero_le _)
  have hgt := run_gt h0 hok (show reN (rdS u 0).1 = true from reB_of hst)
  have hz := size_win u 0 (run reN u 0) hle
  refine ⟨hle, fun hr => ?_⟩
  have hrt : RunTo reN (u.extract 0 (run reN u 0)) 0 (u.extract 0 (run reN u 0)).size := by
    rw [hz]
    exact (run_run reN u 0).win hle 0 (run reN u 0 - 0) (by omega) (by omega) (Nat.le_refl _)
  have e0 : rdS (u.extract 0 (run reN u 0)) 0 = rdS u 0 := rd_win u 0 _ 0 hle ((run_run reN u 0).bd.step hgt) hgt
  exact nm_iff hrt (by omega) (by rw [e0]; exact hst) hr
theorem fw_word (u : ByteArray) (w : World) (hS : Sg w) (h0 : 0 < u.size) (hu : u.size ≤ 4096) {k v q : Nat} {t : ByteArray} (h : tok u 0 = .word k t v q) :
    Calls Tryd.prog 14 #[.string u, .int .i32 ((rdS u 0).1 : Nat)] w fun e w' => e = .returned (.tuple #[wordV k t v 0 0, .int .i64 q, .int .i64 0]) ∧ Below w.heap.size w w' := by
  rcases tok_cases u 0 with ⟨_, e⟩ | ⟨hbl, ⟨_, e⟩ | ⟨hok, ⟨hst, hc⟩ | ⟨hst, hdg, ⟨_, e⟩ | ⟨hv, e⟩⟩ | ⟨hst, hdg, hpl, e⟩ | ⟨hst, hdg, hpl, ⟨_, e⟩ | ⟨hne, e⟩⟩⟩⟩
  · rw [h] at e; cases e
  · rw [h] at e; cases e
  · obtain ⟨hle, hnm⟩ := name_run h0 hok hst
    have hz : (u.extract 0 (run reN u 0)).size ≤ 4096 := by rw [size_win u 0 _ hle]; omega
    rcases hc with ⟨h1, e⟩ | ⟨_, _, e⟩ | ⟨h1, h2, e⟩
    · rw [h] at e; cases e
      exact fw_st u w _ 2 0 _ _ hu hst rfl hle (fun w => name_sign _ w hz h1)
    · rw [h] at e; cases e
    · rw [h] at e; cases e
      exact fw_st u w _ 0 0 _ _ hu hst rfl hle (fun w => name_name _ w hz h1 0 0 _ _ (hnm h1) (.inl ⟨decide_eq_true (by omega), rfl, rfl⟩))
  · rw [h] at e; cases e
  · rw [h] at e; cases e
    obtain ⟨hd, hval, hle⟩ := digs_run h0 hok hdg
    have hz : (u.extract 0 (run isDig u 0)).size ≤ 4096 := by rw [size_win u 0 _ hle]; omega
    exact fw_dig u w hS _ 1 0 _ _ emp hu hst hdg rfl hle (fun w _ => number_ok _ _ w hd hz hval (by omega))
  · rw [h] at e; cases e
    have hm : ((rdS u 0).1 : Int) ∈ marks := by
      by_cases hm : ((rdS u 0).1 : Int) ∈ marks
      · exact hm
      · exact absurd (pl_none _ (fun m h' e => hm (by rw [← e]; exact h'))) hpl
    exact fw_plain u w _ _ _ hu hst hdg rfl hpl (by rw [enc_marks _ hm, Nat.zero_add, wd_is hok]; rfl)
  · rw [h] at e; cases e
  · rw [h] at e; cases e
    have := fw_sign u w hS _ _ hu hst hdg hpl rfl hne
    rwa [Nat.zero_add]
theorem fw_bad (u : ByteArray) (w : World) (hS : Sg w) (h0 : 0 < u.size) (hu : u.size ≤ 4096) {c : Nat} (hok : (rdS u 0).2.2 = true) (h : tok u 0 = .bad c) :
    Calls Tryd.prog 14 #[.string u, .int .i32 ((rdS u 0).1 : Nat)] w fun e w' => ∃ z : Nat, e = .returned (.tuple #[wordV 0 emp 0 0 0, .int .i64 z, .int .i64 c]) ∧ Below w.heap.size w w' := by
  rcases tok_cases u 0 with ⟨_, e⟩ | ⟨hbl, ⟨ho, e⟩ | ⟨hok, ⟨hst, hc⟩ | ⟨hst, hdg, ⟨hv, e⟩ | ⟨hv, e⟩⟩ | ⟨hst, hdg, hpl, e⟩ | ⟨hst, hdg, hpl, ⟨hne, e⟩ | ⟨hne, e⟩⟩⟩⟩
  · rw [h] at e; cases e
  · rw [hok] at ho; cases ho
  · obtain ⟨hle, hnm⟩ := name_run h0 hok hst
    have hz : (u.extract 0 (run reN u 0)).size ≤ 4096 := by rw [size_win u 0 _ hle]; omega
    rcases hc with ⟨h1, e⟩ | ⟨h1, h2, e⟩ | ⟨h1, h2, e⟩
    · rw [h] at e; cases e
    · rw [h] at e; cases e
      exact (fw_st u w _ 0 6 _ emp hu hst rfl hle (fun w => name_name _ w hz h1 0 6 _ _ (hnm h1) (.inr ⟨decide_eq_false (by omega), rfl, rfl⟩))).mono fun e w' ⟨he, hb⟩ => ⟨_, he, hb⟩
    · rw [h] at e; cases e
  · rw [h] at e; cases e
    obtain ⟨hd, hval, hle⟩ := digs_run h0 hok hdg
    have hz : (u.extract 0 (run isDig u 0)).size ≤ 4096 := by rw [size_win u 0 _ hle]; omega
    exact (fw_dig u w hS _ 0 52 _ 0 emp hu hst hdg rfl hle (fun w hS => number_bad _ w hS hd hz (by rw [hval]; exact hv))).mono fun e w' ⟨he, hb⟩ => ⟨_, he, hb⟩
  · rw [h] at e; cases e
  · rw [h] at e; cases e
  · rw [h] at e; cases e
    exact (fw_none u w hS _ hu hst hdg hpl hne).mono fun e w' ⟨he, hb⟩ => ⟨0, he, hb⟩
  · rw [h] at e; cases e
end Go.Proofs.YthimmohbedaimaaDoor.Gl
