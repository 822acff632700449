/- The contract of chk.Total: the sum of the absolute values of the numbers of a slice, or ErrOver. -/
import Derived.Test.YtiapkblebbcfbaaChk
import Derived.WalkSpells
namespace Go.Proofs.Ytiapkblebbcfbaa.Chk
open Go.RowKit
set_option linter.unusedVariables false

/-- the sum of the absolute values -/
def tot : List Int → Nat
  | [] => 0
  | z :: r => z.natAbs + tot r
theorem tot_append (a b : List Int) : tot (a ++ b) = tot a + tot b := by
  induction a with
  | nil => simp [tot]
  | cons z r ih => simp only [List.cons_append, tot, ih]; omega
theorem tot_take (zs : List Int) (k : Nat) (h : k < zs.length) : tot (zs.take (k + 1)) = tot (zs.take k) + (zs.getD k 0).natAbs := by
  rw [List.take_succ_eq_append_getElem h, tot_append]
  simp [tot, List.getD_eq_getElem?_getD, List.getElem?_eq_getElem h]
theorem tot_le (zs : List Int) (k : Nat) : tot (zs.take k) ≤ tot zs := by
  have h := tot_append (zs.take k) (zs.drop k)
  rw [List.take_append_drop] at h
  omega
def outT (n : Nat) : Int := if n ≤ 9223372036854775807 then n else 0
def errT (n : Nat) : Int := if n ≤ 9223372036854775807 then 0 else 10

theorem abs_at (z s : Int) (w : World) (hz : -9223372036854775808 < z) (hs : s = z.natAbs) :
    Calls Try.prog 49 #[.int .i64 z] w fun e w' => e = .returned (.tuple #[.int .i64 s, .int .i64 0]) ∧ w' = w := by
  by_cases h : z < 0
  · have e : s = -z := by omega
    rw [e]; exact abs_neg z w hz h
  · have e : s = z := by omega
    rw [e]; exact abs_pos z w h

theorem ret_two {a b c d : Int} (h : a = c) (k : b = d) : Ending.returned (.tuple #[.int .i64 a, .int .i64 b]) = .returned (.tuple #[.int .i64 c, .int .i64 d]) := by rw [h, k]

theorem total_none (a : Option Addr) (cap : Nat) (w : World) :
    Calls Try.prog 33 #[.slice a 0 cap] w fun e w' => e = .returned (.tuple #[.int .i64 (outT (tot [])), .int .i64 (errT (tot []))]) ∧ w' = w := by
  go_enter Try.func33, Try.ntmps33
  go_wp2
  refine wp_loop_rounds 1 ?_
  rw [rounds_succ]
  go_wp2
  go_ret2
  exact ⟨ret_two rfl rfl, rfl⟩

set_option maxHeartbeats 800000 in
theorem total_row (b off : Nat) (zs : List Int) (cap : Nat) (w : World) (hm : zs.length ≤ maxLen)
    (hc : ∀ i, i < zs.length → w.cell? ⟨b, off + i, none⟩ = some (.int .i64 (zs.getD i 0))) (hw : ∀ z ∈ zs, (Lit.int .i64 z).wf = true) :
    Calls Try.prog 33 #[.slice (some ⟨b, off, none⟩) zs.length cap] w fun e w' => e = .returned (.tuple #[.int .i64 (outT (tot zs)), .int .i64 (errT (tot zs))]) ∧ w' = w := by
  unfold maxLen at hm
  have hb : ∀ z ∈ zs, -9223372036854775808 ≤ z ∧ z ≤ 9223372036854775807 := by
    intro z hz
    simpa [Lit.wf, IntKind.min, IntKind.max, IntKind.signed, IntKind.bits] using hw z hz
  obtain ⟨len, hlen⟩ : ∃ len, zs.length = len := ⟨_, rfl⟩
  rw [hlen] at hm hc ⊢
  have HL : Hid (zs.length = len) := hlen
  clear hlen hw
  go_enter Try.func33, Try.ntmps33
  go_wp2
  go_loop [4, 11] (fun t i => ∃ k : Nat, k ≤ len ∧ tot (zs.take k) ≤ 9223372036854775807 ∧ i = .int .i64 k ∧ t = .int .i64 (tot (zs.take k))) (fun _ i => len - (intOf i).toNat)
  case atStart => exact ⟨0, Nat.zero_le _, by simp [tot], rfl, by simp [tot]⟩
  case round =>
    obtain ⟨k, hk, ht, rfl, rfl⟩ := hrel
    by_cases hlt : k < len
    · have hcell := hc k hlt
      have hz := hb (zs.getD k 0) (by rw [List.getD_eq_getElem?_getD, List.getElem?_eq_getElem (by rw [HL.out]; exact hlt)]; simp)
      have HS : Hid (tot (zs.take (k + 1)) = tot (zs.take k) + (zs.getD k 0).natAbs) := tot_take zs k (by rw [HL.out]; exact hlt)
      have HT : Hid (tot (zs.take (k + 1)) ≤ tot zs) := tot_le zs (k + 1)
      obtain ⟨z, hze⟩ : ∃ z, zs.getD k 0 = z := ⟨_, rfl⟩
      rw [hze] at hcell hz HS
      clear hze hc hb
      obtain ⟨t, hte⟩ : ∃ t : Nat, tot (zs.take k) = t := ⟨_, rfl⟩
      rw [hte] at ht HS ⊢
      clear hte
      by_cases h1 : z = -9223372036854775808
      · subst h1
        go_wp2_with (go_at_call 49; refine (abs_no _).mono ?_; rintro e w' ⟨rfl, rfl⟩)
        go_ret2
        have h2 := HS.out
        have h3 := HT.out
        exact ⟨ret_two (by unfold outT; rw [if_neg (by omega)]) (by unfold errT; rw [if_neg (by omega)]), rfl⟩
      · obtain ⟨s, hs⟩ : ∃ s : Int, s = z.natAbs := ⟨_, rfl⟩
        have hs1 : 0 ≤ s := by omega
        have hs2 : s ≤ 9223372036854775807 := by omega
        have hs3 : Hid (s = z.natAbs) := hs
        have hz1 : -9223372036854775808 < z := by omega
        clear hs h1 hz
        by_cases h2 : (t : Int) + s ≤ 9223372036854775807
        · go_wp2_with (first | (go_at_call 49; refine (abs_at z s _ hz1 hs3.out).mono ?_; rintro e w' ⟨rfl, rfl⟩) | (go_at_call 43; refine (add_ok _ _ _ (by omega) (by omega) (by omega) (by omega) (by omega) (by omega)).mono ?_; rintro e w' ⟨rfl, rfl⟩))
          have e1 := HS.out
          have e2 := hs3.out
          go_round
          case rel => exact ⟨k + 1, by omega, by omega, by go_num, congrArg (Value.int .i64) (by omega)⟩
          case measure => simp [intOf]; omega
        · have h3 : (t : Int) + s < -9223372036854775808 ∨ 9223372036854775807 < (t : Int) + s := by omega
          go_wp2_with (first | (go_at_call 49; refine (abs_at z s _ hz1 hs3.out).mono ?_; rintro e w' ⟨rfl, rfl⟩) | (go_at_call 43; refine (add_no _ _ _ (by omega) (by omega) (by omega) (by omega) h3).mono ?_; rintro e w' ⟨rfl, rfl⟩))
          go_ret2
          have e1 := HS.out
          have e2 := hs3.out
          have e3 := HT.out
          exact ⟨ret_two (by unfold outT; rw [if_neg (by omega)]) (by unfold errT; rw [if_neg (by omega)]), rfl⟩
    · have hkl : zs.take k = zs := List.take_of_length_le (by rw [HL.out]; omega)
      rw [hkl] at ht ⊢
      clear hkl
      go_wp2
      go_ret2
      exact ⟨ret_two (by unfold outT; rw [if_pos ht]) (by unfold errT; rw [if_pos ht]), rfl⟩
end Go.Proofs.Ytiapkblebbcfbaa.Chk
