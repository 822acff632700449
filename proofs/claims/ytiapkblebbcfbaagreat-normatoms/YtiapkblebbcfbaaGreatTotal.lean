/- Contracts of the calls of package chk: what each returns, for every two numbers of 64 bits. -/
import Derived.Test.YtiapkblebbcfbaaGreatProg
import Derived.WalkKit
import Derived.WalkLawsBesides
import Derived.WalkSpells
namespace Go.Proofs.YtiapkblebbcfbaaGreat.Chk
open Go.RowKit
set_option linter.unusedVariables false

theorem wrap_up (x : Int) (h : 9223372036854775808 ≤ x) (h2 : x < 18446744073709551616) : wrap64 x < 0 := by
  unfold wrap64; omega
theorem wrap_dn (x : Int) (h : x < -9223372036854775808) (h2 : -18446744073709551616 ≤ x) : ¬ wrap64 x < 0 := by
  unfold wrap64; omega

theorem add_ok (a b : Int) (w : World) (ha : -9223372036854775808 ≤ a) (ha' : a ≤ 9223372036854775807) (hb : -9223372036854775808 ≤ b) (hb' : b ≤ 9223372036854775807)
    (hs : -9223372036854775808 ≤ a + b) (hs' : a + b ≤ 9223372036854775807) :
    Calls Tryz.prog 37 #[.int .i64 a, .int .i64 b] w fun e w' => e = .returned (.tuple #[.int .i64 (a + b), .int .i64 0]) ∧ w' = w := by
  by_cases h1 : a < 0 <;> by_cases h2 : b < 0 <;> by_cases h3 : a + b < 0 <;> first | omega | skip
  all_goals
    go_enter Tryz.func37, Tryz.ntmps37
    go_wp2
    go_ret2
    exact ⟨rfl, rfl⟩

theorem add_no (a b : Int) (w : World) (ha : -9223372036854775808 ≤ a) (ha' : a ≤ 9223372036854775807) (hb : -9223372036854775808 ≤ b) (hb' : b ≤ 9223372036854775807)
    (hs : a + b < -9223372036854775808 ∨ 9223372036854775807 < a + b) :
    Calls Tryz.prog 37 #[.int .i64 a, .int .i64 b] w fun e w' => e = .returned (.tuple #[.int .i64 0, .int .i64 10]) ∧ w' = w := by
  rcases hs with hs | hs
  · have h1 : a < 0 := by omega
    have h2 : b < 0 := by omega
    have h3 := wrap_dn (a + b) (by omega) (by omega)
    go_enter Tryz.func37, Tryz.ntmps37
    go_wp2
    go_ret2
    exact ⟨rfl, rfl⟩
  · have h1 : ¬ a < 0 := by omega
    have h2 : ¬ b < 0 := by omega
    have h3 := wrap_up (a + b) (by omega) (by omega)
    go_enter Tryz.func37, Tryz.ntmps37
    go_wp2
    go_ret2
    exact ⟨rfl, rfl⟩

theorem sub_ok (a b : Int) (w : World) (ha : -9223372036854775808 ≤ a) (ha' : a ≤ 9223372036854775807) (hb : -9223372036854775808 ≤ b) (hb' : b ≤ 9223372036854775807)
    (hs : -9223372036854775808 ≤ a - b) (hs' : a - b ≤ 9223372036854775807) :
    Calls Tryz.prog 36 #[.int .i64 a, .int .i64 b] w fun e w' => e = .returned (.tuple #[.int .i64 (a - b), .int .i64 0]) ∧ w' = w := by
  by_cases h1 : a < 0 <;> by_cases h2 : b < 0 <;> by_cases h3 : a - b < 0 <;> first | omega | skip
  all_goals
    go_enter Tryz.func36, Tryz.ntmps36
    go_wp2
    go_ret2
    exact ⟨rfl, rfl⟩

theorem sub_no (a b : Int) (w : World) (ha : -9223372036854775808 ≤ a) (ha' : a ≤ 9223372036854775807) (hb : -9223372036854775808 ≤ b) (hb' : b ≤ 9223372036854775807)
    (hs : a - b < -9223372036854775808 ∨ 9223372036854775807 < a - b) :
    Calls Tryz.prog 36 #[.int .i64 a, .int .i64 b] w fun e w' => e = .returned (.tuple #[.int .i64 0, .int .i64 10]) ∧ w' = w := by
  rcases hs with hs | hs
  · have h1 : a < 0 := by omega
    have h2 : ¬ b < 0 := by omega
    have h3 := wrap_dn (a - b) (by omega) (by omega)
    go_enter Tryz.func36, Tryz.ntmps36
    go_wp2
    go_ret2
    exact ⟨rfl, rfl⟩
  · have h1 : ¬ a < 0 := by omega
    have h2 : b < 0 := by omega
    have h3 := wrap_up (a - b) (by omega) (by omega)
    go_enter Tryz.func36, Tryz.ntmps36
    go_wp2
    go_ret2
    exact ⟨rfl, rfl⟩

theorem neg_ok (a : Int) (w : World) (ha : -9223372036854775808 < a) (ha' : a ≤ 9223372036854775807) :
    Calls Tryz.prog 42 #[.int .i64 a] w fun e w' => e = .returned (.tuple #[.int .i64 (-a), .int .i64 0]) ∧ w' = w := by
  go_enter Tryz.func42, Tryz.ntmps42
  go_wp2_with (go_at_call 36; refine (sub_ok _ _ _ (by omega) (by omega) (by omega) (by omega) (by omega) (by omega)).mono ?_; rintro e w' ⟨rfl, rfl⟩)
  go_ret2
  exact ⟨rfl, rfl⟩

theorem neg_no (w : World) :
    Calls Tryz.prog 42 #[.int .i64 (-9223372036854775808)] w fun e w' => e = .returned (.tuple #[.int .i64 0, .int .i64 10]) ∧ w' = w := by
  go_enter Tryz.func42, Tryz.ntmps42
  go_wp2_with (go_at_call 36; refine (sub_no _ _ _ (by omega) (by omega) (by omega) (by omega) (by omega)).mono ?_; rintro e w' ⟨rfl, rfl⟩)
  go_ret2
  exact ⟨rfl, rfl⟩

theorem abs_pos (a : Int) (w : World) (ha : ¬ a < 0) :
    Calls Tryz.prog 72 #[.int .i64 a] w fun e w' => e = .returned (.tuple #[.int .i64 a, .int .i64 0]) ∧ w' = w := by
  go_enter Tryz.func72, Tryz.ntmps72
  go_wp2
  go_ret2
  exact ⟨rfl, rfl⟩

theorem abs_neg (a : Int) (w : World) (ha : -9223372036854775808 < a) (ha' : a < 0) :
    Calls Tryz.prog 72 #[.int .i64 a] w fun e w' => e = .returned (.tuple #[.int .i64 (-a), .int .i64 0]) ∧ w' = w := by
  go_enter Tryz.func72, Tryz.ntmps72
  go_wp2_with (go_at_call 42; refine (neg_ok _ _ (by omega) (by omega)).mono ?_; rintro e w' ⟨rfl, rfl⟩)
  go_ret2
  exact ⟨rfl, rfl⟩

theorem abs_no (w : World) :
    Calls Tryz.prog 72 #[.int .i64 (-9223372036854775808)] w fun e w' => e = .returned (.tuple #[.int .i64 0, .int .i64 10]) ∧ w' = w := by
  go_enter Tryz.func72, Tryz.ntmps72
  go_wp2_with (go_at_call 42; refine (neg_no _).mono ?_; rintro e w' ⟨rfl, rfl⟩)
  go_ret2
  exact ⟨rfl, rfl⟩

/-! ### numbers alone -/
theorem tdiv_abs (q b : Int) (hb : b ≠ 0) : (q.tdiv b).natAbs ≤ q.natAbs := by
  rw [Int.natAbs_tdiv]; exact Nat.div_le_self _ _
theorem tmod_abs (q b : Int) (hb : b ≠ 0) : (q.tmod b).natAbs < b.natAbs := by
  rw [Int.natAbs_tmod]; exact Nat.mod_lt _ (by omega)
theorem tdiv_half (q b : Int) (hb : 2 ≤ b.natAbs) : (q.tdiv b).natAbs ≤ q.natAbs / 2 := by
  rw [Int.natAbs_tdiv]; exact Nat.div_le_div_left hb (by omega)

theorem tdiv_in (q b : Int) (hb : b ≠ 0) (h : -9223372036854775808 ≤ q) (h' : q ≤ 9223372036854775807) (hx : ¬ (q = -9223372036854775808 ∧ b = -1)) :
    -9223372036854775808 ≤ q.tdiv b ∧ q.tdiv b ≤ 9223372036854775807 := by
  have h1 := tdiv_abs q b hb
  by_cases h2 : 2 ≤ b.natAbs
  · have := tdiv_half q b h2; omega
  · have h3 : b = 1 ∨ b = -1 := by omega
    rcases h3 with rfl | rfl
    · rw [Int.tdiv_one]; omega
    · rw [Int.tdiv_neg, Int.tdiv_one]; omega

theorem mul_tell (a b : Int) (hb : b ≠ 0) (ha : -9223372036854775808 ≤ a) (ha' : a ≤ 9223372036854775807) (hbl : -9223372036854775808 ≤ b) (hbu : b ≤ 9223372036854775807)
    (hp : a * b < -9223372036854775808 ∨ 9223372036854775807 < a * b) (hx : ¬ (a = -9223372036854775808 ∧ b = -1)) :
    (wrap64 ((wrap64 (a * b)).tdiv b) != a) = true := by
  have hq : -9223372036854775808 ≤ wrap64 (a * b) ∧ wrap64 (a * b) ≤ 9223372036854775807 := by unfold wrap64; omega
  have hk : ∃ k : Int, wrap64 (a * b) = a * b + 18446744073709551616 * k := ⟨-((a * b + 9223372036854775808) / 18446744073709551616), by unfold wrap64; omega⟩
  generalize wrap64 (a * b) = q at *
  obtain ⟨k, hk⟩ := hk
  rw [bne_iff_ne]
  intro he
  by_cases h1 : q = -9223372036854775808 ∧ b = -1
  · obtain ⟨rfl, rfl⟩ := h1
    simp [wrap64] at he
    omega
  · have h2 := tdiv_in q b hb hq.1 hq.2 h1
    rw [IntWalk.wrap64_in _ h2] at he
    have h3 := Int.mul_tdiv_add_tmod q b
    have h4 := tmod_abs q b hb
    rw [he, Int.mul_comm b a] at h3
    omega

theorem fdiv_same (a b : Int) (h : a.tmod b = 0) : a.fdiv b = a.tdiv b := by
  rw [Int.fdiv_eq_tdiv, if_pos (Int.dvd_of_tmod_eq_zero h)]; omega
theorem fdiv_like (a b : Int) (h : (a < 0 ∧ b < 0) ∨ (0 ≤ a ∧ 0 ≤ b)) : a.fdiv b = a.tdiv b := by
  rw [Int.fdiv_eq_tdiv]; rcases h with h | h
  · rw [if_neg (show ¬ 0 ≤ a by omega), if_neg (show ¬ 0 ≤ b by omega), Int.sign_eq_neg_one_of_neg h.2]; simp
  · rw [if_pos h.1, if_pos h.2]; simp
theorem fdiv_less (a b : Int) (hb : b ≠ 0) (hm : a.tmod b ≠ 0) (h : (a < 0 ∧ 0 ≤ b) ∨ (0 ≤ a ∧ b < 0)) : a.fdiv b = a.tdiv b - 1 := by
  have hd : ¬ b ∣ a := fun hd => hm (Int.tmod_eq_zero_of_dvd hd)
  rw [Int.fdiv_eq_tdiv, if_neg hd]; rcases h with h | h
  · rw [if_neg (show ¬ 0 ≤ a by omega), if_pos h.2, Int.sign_eq_one_of_pos (by omega)]
  · rw [if_pos h.1, if_neg (show ¬ 0 ≤ b by omega)]

theorem rest_pos (a m : Int) (h : 0 ≤ a.tmod m) (hm : 1 ≤ m) : a.tmod m = a % m := by
  have h1 := Int.emod_eq_tmod (a := a) (b := m)
  have h2 := Int.emod_lt_of_pos a (show 0 < m by omega)
  split at h1 <;> omega
theorem rest_neg (a m : Int) (h : a.tmod m < 0) (hm : 1 ≤ m) : a.tmod m + m = a % m := by
  have h1 := Int.emod_eq_tmod (a := a) (b := m)
  have h2 := Int.emod_nonneg a (show m ≠ 0 by omega)
  split at h1 <;> omega

/-! ### products, quotients, rests -/
theorem mul_zero (a b : Int) (w : World) (h : a = 0 ∨ b = 0) :
    Calls Tryz.prog 88 #[.int .i64 a, .int .i64 b] w fun e w' => e = .returned (.tuple #[.int .i64 0, .int .i64 0]) ∧ w' = w := by
  by_cases h1 : a = 0
  · subst h1
    go_enter Tryz.func88, Tryz.ntmps88
    go_wp2
    go_ret2
    exact ⟨rfl, rfl⟩
  · have h2 : b = 0 := by omega
    subst h2
    have h3 : (a == 0) = false := beq_eq_false_iff_ne.2 h1
    clear h1 h
    go_enter Tryz.func88, Tryz.ntmps88
    go_wp2
    go_ret2
    exact ⟨rfl, rfl⟩

theorem mul_ok (a b : Int) (w : World) (ha : -9223372036854775808 ≤ a) (ha' : a ≤ 9223372036854775807) (hb : -9223372036854775808 ≤ b) (hb' : b ≤ 9223372036854775807)
    (hs : -9223372036854775808 ≤ a * b) (hs' : a * b ≤ 9223372036854775807) :
    Calls Tryz.prog 88 #[.int .i64 a, .int .i64 b] w fun e w' => e = .returned (.tuple #[.int .i64 (a * b), .int .i64 0]) ∧ w' = w := by
  by_cases h0 : a = 0 ∨ b = 0
  · have e : a * b = 0 := by rcases h0 with h | h <;> simp [h]
    rw [e]
    exact mul_zero a b w h0
  · have h1 : (a == 0) = false := beq_eq_false_iff_ne.2 (by omega)
    have h2 : (b == 0) = false := beq_eq_false_iff_ne.2 (by omega)
    have h3 : (wrap64 a != a) = false := by rw [IntWalk.wrap64_in a ⟨ha, ha'⟩]; simp
    have hb0 : ¬ b = 0 := by omega
    by_cases h4 : a = -9223372036854775808
    · have h5 : (b == -1) = false := beq_eq_false_iff_ne.2 (by intro h; subst h; omega)
      have h6 : (a == -9223372036854775808) = true := beq_iff_eq.2 h4
      clear h4 h0
      go_enter Tryz.func88, Tryz.ntmps88
      go_wp2
      go_ret2
      exact ⟨rfl, rfl⟩
    · have h6 : (a == -9223372036854775808) = false := beq_eq_false_iff_ne.2 h4
      clear h4 h0
      go_enter Tryz.func88, Tryz.ntmps88
      go_wp2
      go_ret2
      exact ⟨rfl, rfl⟩

theorem mul_no (a b : Int) (w : World) (ha : -9223372036854775808 ≤ a) (ha' : a ≤ 9223372036854775807) (hb : -9223372036854775808 ≤ b) (hb' : b ≤ 9223372036854775807)
    (hs : a * b < -9223372036854775808 ∨ 9223372036854775807 < a * b) :
    Calls Tryz.prog 88 #[.int .i64 a, .int .i64 b] w fun e w' => e = .returned (.tuple #[.int .i64 0, .int .i64 10]) ∧ w' = w := by
  have hb0 : b ≠ 0 := by intro h; subst h; simp at hs
  have ha0 : a ≠ 0 := by intro h; subst h; simp at hs
  have h1 : (a == 0) = false := beq_eq_false_iff_ne.2 ha0
  have h2 : (b == 0) = false := beq_eq_false_iff_ne.2 hb0
  by_cases hx : a = -9223372036854775808 ∧ b = -1
  · obtain ⟨rfl, rfl⟩ := hx
    go_enter Tryz.func88, Tryz.ntmps88
    go_wp2
    go_ret2
    exact ⟨rfl, rfl⟩
  · have h3 := mul_tell a b hb0 ha ha' hb hb' hs hx
    by_cases h4 : a = -9223372036854775808
    · have h5 : (b == -1) = false := beq_eq_false_iff_ne.2 (by omega)
      have h6 : (a == -9223372036854775808) = true := beq_iff_eq.2 h4
      clear h4 hx ha0 hs
      go_enter Tryz.func88, Tryz.ntmps88
      go_wp2
      go_ret2
      exact ⟨rfl, rfl⟩
    · have h6 : (a == -9223372036854775808) = false := beq_eq_false_iff_ne.2 h4
      clear h4 hx ha0 hs
      go_enter Tryz.func88, Tryz.ntmps88
      go_wp2
      go_ret2
      exact ⟨rfl, rfl⟩

theorem rest_no (a m : Int) (w : World) (hm : m < 1) :
    Calls Tryz.prog 43 #[.int .i64 a, .int .i64 m] w fun e w' => e = .returned (.tuple #[.int .i64 0, .int .i64 2]) ∧ w' = w := by
  go_enter Tryz.func43, Tryz.ntmps43
  go_wp2
  go_ret2
  exact ⟨rfl, rfl⟩

theorem rest_ok (a m : Int) (w : World) (ha : -9223372036854775808 ≤ a) (ha' : a ≤ 9223372036854775807) (hm : 1 ≤ m) (hm' : m ≤ 9223372036854775807) :
    Calls Tryz.prog 43 #[.int .i64 a, .int .i64 m] w fun e w' => e = .returned (.tuple #[.int .i64 (a % m), .int .i64 0]) ∧ w' = w := by
  have h1 : ¬ m < 1 := by omega
  have h2 := tmod_abs a m (by omega)
  by_cases h : a.tmod m < 0
  · have e := rest_neg a m h hm
    rw [← e]
    clear e
    have h3 : -9223372036854775808 ≤ a.tmod m ∧ a.tmod m ≤ 9223372036854775807 := by omega
    have h4 : -9223372036854775808 ≤ a.tmod m + m ∧ a.tmod m + m ≤ 9223372036854775807 := by omega
    go_enter Tryz.func43, Tryz.ntmps43
    go_wp2
    go_ret2
    exact ⟨rfl, rfl⟩
  · have e := rest_pos a m (by omega) hm
    rw [← e]
    clear e
    have h3 : -9223372036854775808 ≤ a.tmod m ∧ a.tmod m ≤ 9223372036854775807 := by omega
    go_enter Tryz.func43, Tryz.ntmps43
    go_wp2
    go_ret2
    exact ⟨rfl, rfl⟩

end Go.Proofs.YtiapkblebbcfbaaGreat.Chk
/- The contract of chk.Total: the sum of the absolute values of the numbers of a slice, or ErrOver. -/
namespace Go.Proofs.YtiapkblebbcfbaaGreat.Chk
open Go.RowKit
set_option linter.unusedVariables false

/-- the sum of the absolute values -/
def tot : List Int → Nat
  | [] => 0
  | z :: r => z.natAbs + tot r
theorem tot_append (a b : List Int) : tot (a ++ b) = tot a + tot b := by
  induction a with
  | nil => simp [tot]
  | cons z r ih => simp only [List.cons_append, tot, ih]; omega
theorem tot_take (zs : List Int) (k : Nat) (h : k < zs.length) : tot (zs.take (k + 1)) = tot (zs.take k) + (zs.getD k 0).natAbs := by
  rw [List.take_succ_eq_append_getElem h, tot_append]
  simp [tot, List.getD_eq_getElem?_getD, List.getElem?_eq_getElem h]
theorem tot_le (zs : List Int) (k : Nat) : tot (zs.take k) ≤ tot zs := by
  have h := tot_append (zs.take k) (zs.drop k)
  rw [List.take_append_drop] at h
  omega
def outT (n : Nat) : Int := if n ≤ 9223372036854775807 then n else 0
def errT (n : Nat) : Int := if n ≤ 9223372036854775807 then 0 else 10

theorem abs_at (z s : Int) (w : World) (hz : -9223372036854775808 < z) (hs : s = z.natAbs) :
    Calls Tryz.prog 72 #[.int .i64 z] w fun e w' => e = .returned (.tuple #[.int .i64 s, .int .i64 0]) ∧ w' = w := by
  by_cases h : z < 0
  · have e : s = -z := by omega
    rw [e]; exact abs_neg z w hz h
  · have e : s = z := by omega
    rw [e]; exact abs_pos z w h

theorem ret_two {a b c d : Int} (h : a = c) (k : b = d) : Ending.returned (.tuple #[.int .i64 a, .int .i64 b]) = .returned (.tuple #[.int .i64 c, .int .i64 d]) := by rw [h, k]

theorem total_none (a : Option Addr) (cap : Nat) (w : World) :
    Calls Tryz.prog 44 #[.slice a 0 cap] w fun e w' => e = .returned (.tuple #[.int .i64 (outT (tot [])), .int .i64 (errT (tot []))]) ∧ w' = w := by
  go_enter Tryz.func44, Tryz.ntmps44
  go_wp2
  refine wp_loop_rounds 1 ?_
  rw [rounds_succ]
  go_wp2
  go_ret2
  exact ⟨ret_two rfl rfl, rfl⟩

set_option maxHeartbeats 800000 in
theorem total_row (b off : Nat) (zs : List Int) (cap : Nat) (w : World) (hm : zs.length ≤ maxLen)
    (hc : ∀ i, i < zs.length → w.cell? ⟨b, off + i, none⟩ = some (.int .i64 (zs.getD i 0))) (hw : ∀ z ∈ zs, (Lit.int .i64 z).wf = true) :
    Calls Tryz.prog 44 #[.slice (some ⟨b, off, none⟩) zs.length cap] w fun e w' => e = .returned (.tuple #[.int .i64 (outT (tot zs)), .int .i64 (errT (tot zs))]) ∧ w' = w := by
  unfold maxLen at hm
  have hb : ∀ z ∈ zs, -9223372036854775808 ≤ z ∧ z ≤ 9223372036854775807 := by
    intro z hz
    simpa [Lit.wf, IntKind.min, IntKind.max, IntKind.signed, IntKind.bits] using hw z hz
  obtain ⟨len, hlen⟩ : ∃ len, zs.length = len := ⟨_, rfl⟩
  rw [hlen] at hm hc ⊢
  have HL : Hid (zs.length = len) := hlen
  clear hlen hw
  go_enter Tryz.func44, Tryz.ntmps44
  go_wp2
  go_loop [4, 11] (fun t i => ∃ k : Nat, k ≤ len ∧ tot (zs.take k) ≤ 9223372036854775807 ∧ i = .int .i64 k ∧ t = .int .i64 (tot (zs.take k))) (fun _ i => len - (intOf i).toNat)
  case atStart => exact ⟨0, Nat.zero_le _, by simp [tot], rfl, by simp [tot]⟩
  case round =>
    obtain ⟨k, hk, ht, rfl, rfl⟩ := hrel
    by_cases hlt : k < len
    · have hcell := hc k hlt
      have hz := hb (zs.getD k 0) (by rw [List.getD_eq_getElem?_getD, List.getElem?_eq_getElem (by rw [HL.out]; exact hlt)]; simp)
      have HS : Hid (tot (zs.take (k + 1)) = tot (zs.take k) + (zs.getD k 0).natAbs) := tot_take zs k (by rw [HL.out]; exact hlt)
      have HT : Hid (tot (zs.take (k + 1)) ≤ tot zs) := tot_le zs (k + 1)
      obtain ⟨z, hze⟩ : ∃ z, zs.getD k 0 = z := ⟨_, rfl⟩
      rw [hze] at hcell hz HS
      clear hze hc hb
      obtain ⟨t, hte⟩ : ∃ t : Nat, tot (zs.take k) = t := ⟨_, rfl⟩
      rw [hte] at ht HS ⊢
      clear hte
      by_cases h1 : z = -9223372036854775808
      · subst h1
        go_wp2_with (go_at_call 72; refine (abs_no _).mono ?_; rintro e w' ⟨rfl, rfl⟩)
        go_ret2
        have h2 := HS.out
        have h3 := HT.out
        exact ⟨ret_two (by unfold outT; rw [if_neg (by omega)]) (by unfold errT; rw [if_neg (by omega)]), rfl⟩
      · obtain ⟨s, hs⟩ : ∃ s : Int, s = z.natAbs := ⟨_, rfl⟩
        have hs1 : 0 ≤ s := by omega
        have hs2 : s ≤ 9223372036854775807 := by omega
        have hs3 : Hid (s = z.natAbs) := hs
        have hz1 : -9223372036854775808 < z := by omega
        clear hs h1 hz
        by_cases h2 : (t : Int) + s ≤ 9223372036854775807
        · go_wp2_with (first | (go_at_call 72; refine (abs_at z s _ hz1 hs3.out).mono ?_; rintro e w' ⟨rfl, rfl⟩) | (go_at_call 37; refine (add_ok _ _ _ (by omega) (by omega) (by omega) (by omega) (by omega) (by omega)).mono ?_; rintro e w' ⟨rfl, rfl⟩))
          have e1 := HS.out
          have e2 := hs3.out
          go_round
          case rel => exact ⟨k + 1, by omega, by omega, by go_num, congrArg (Value.int .i64) (by omega)⟩
          case measure => simp [intOf]; omega
        · have h3 : (t : Int) + s < -9223372036854775808 ∨ 9223372036854775807 < (t : Int) + s := by omega
          go_wp2_with (first | (go_at_call 72; refine (abs_at z s _ hz1 hs3.out).mono ?_; rintro e w' ⟨rfl, rfl⟩) | (go_at_call 37; refine (add_no _ _ _ (by omega) (by omega) (by omega) (by omega) h3).mono ?_; rintro e w' ⟨rfl, rfl⟩))
          go_ret2
          have e1 := HS.out
          have e2 := hs3.out
          have e3 := HT.out
          exact ⟨ret_two (by unfold outT; rw [if_neg (by omega)]) (by unfold errT; rw [if_neg (by omega)]), rfl⟩
    · have hkl : zs.take k = zs := List.take_of_length_le (by rw [HL.out]; omega)
      rw [hkl] at ht ⊢
      clear hkl
      go_wp2
      go_ret2
      exact ⟨ret_two (by unfold outT; rw [if_pos ht]) (by unfold errT; rw [if_pos ht]), rfl⟩
end Go.Proofs.YtiapkblebbcfbaaGreat.Chk
