/- For every two numbers a and b of 64 bits, chk's calls agree with one another (ChkAgrees returns true, and changes nothing). No condition. -/
import Derived.Test.YtgmnohfleadohaaRows
import Derived.Test.YtgmnohfleadohaaChk
import Derived.WalkKit
import Derived.ProofKit
import Derived.OpenShut
import Derived.ShutString
import Derived.Deep.RegionWith
namespace Go.Proofs.Ytgmnohfleadohaa.chkAgrees
open Go.ChangeShapes Go.WideShapes Go.ChangeAt Go.RowKit
open Go.ChangeMaps (open_string shut_string)
set_option linter.unusedVariables false      -- a walk need not use every 'w<i>' (that an integer argument fits its kind)

theorem own : ownKnob Try.prog.godebug = none := by kernel_rfl

/-! ### numbers alone -/
theorem back (a b : Int) (ha : -9223372036854775808 ≤ a) (ha' : a ≤ 9223372036854775807) (q r : Int) (h : b * q + r = a) :
    (wrap64 (wrap64 (q * b) + r) == a) = true := by
  have e : q * b = a - r := by rw [Int.mul_comm]; omega
  rw [e, beq_iff_eq]
  unfold wrap64
  omega

theorem floor_low (a b : Int) (ha : -9223372036854775808 ≤ a) (hb : 1 ≤ b) : -9223372036854775808 ≤ a.fdiv b := by
  rw [Int.fdiv_eq_ediv_of_nonneg a (by omega)]
  by_cases h : 0 ≤ a
  · have := Int.ediv_nonneg h (show 0 ≤ b by omega); omega
  · have h1 : a ≤ a / b := by
      rw [Int.le_ediv_iff_mul_le (by omega)]
      have h2 : a * b ≤ a * 1 := Int.mul_le_mul_of_nonpos_left (by omega) hb
      omega
    omega
theorem floor_at (a b q : Int) (w : World) (ha : -9223372036854775808 ≤ a) (ha' : a ≤ 9223372036854775807) (hb : b ≠ 0) (hx : ¬ (a = -9223372036854775808 ∧ b = -1))
    (hq : a.fdiv b = q) (hl : -9223372036854775808 ≤ q) :
    Calls Try.prog 22 #[.int .i64 a, .int .i64 b] w fun e w' => e = .returned (.tuple #[.int .i64 q, .int .i64 0]) ∧ w' = w := by
  subst hq; exact Chk.floor_ok a b w ha ha' hb hx hl
theorem rest_at (a m r : Int) (w : World) (ha : -9223372036854775808 ≤ a) (ha' : a ≤ 9223372036854775807) (hm : 1 ≤ m) (hm' : m ≤ 9223372036854775807) (hr : a % m = r) :
    Calls Try.prog 20 #[.int .i64 a, .int .i64 m] w fun e w' => e = .returned (.tuple #[.int .i64 r, .int .i64 0]) ∧ w' = w := by
  subst hr; exact Chk.rest_ok a m w ha ha' hm hm'

/-! ### the walk -/
set_option maxHeartbeats 1000000 in
theorem walk (a0 : Int) (a1 : Int) (w0 : (Lit.int .i64 a0).wf = true) (w1 : (Lit.int .i64 a1).wf = true) (w : World) :
    Calls Try.prog 7 #[.int .i64 a0, .int .i64 a1] w fun e w' => e = .returned (.bool true) ∧ Grown w w' := by
  have b0 : -9223372036854775808 ≤ a0 ∧ a0 ≤ 9223372036854775807 := by simpa [Lit.wf, IntKind.min, IntKind.max, IntKind.signed, IntKind.bits] using w0
  have b1 : -9223372036854775808 ≤ a1 ∧ a1 ≤ 9223372036854775807 := by simpa [Lit.wf, IntKind.min, IntKind.max, IntKind.signed, IntKind.bits] using w1
  obtain ⟨l0, u0⟩ := b0
  obtain ⟨l1, u1⟩ := b1
  clear w0 w1
  by_cases hR : a1 < 1
  · by_cases hZ : a1 = 0
    · subst hZ
      go_enter Try.func7, Try.ntmps7
      go_wp2_with (first | (go_at_call 13; refine (Chk.fixed_any _).mono ?_; rintro e w' ⟨rfl, rfl⟩) | (go_at_call 9; refine (Chk.add_ok _ _ _ (by omega) (by omega) (by omega) (by omega) (by omega) (by omega)).mono ?_; rintro e w' ⟨rfl, rfl⟩) | (go_at_call 11; refine (Chk.sub_ok _ _ _ (by omega) (by omega) (by omega) (by omega) (by omega) (by omega)).mono ?_; rintro e w' ⟨rfl, rfl⟩) | (go_at_call 18; refine (Chk.mul_zero _ _ _ (by omega)).mono ?_; rintro e w' ⟨rfl, rfl⟩) | (go_at_call 20; refine (Chk.rest_no _ _ _ (by omega)).mono ?_; rintro e w' ⟨rfl, rfl⟩))
      go_ret
      exact ⟨rfl, Grown.refl _⟩
    · have hN : a1 < 0 := by omega
      clear hZ
      by_cases hA : -9223372036854775808 ≤ a0 + a1 ∧ a0 + a1 ≤ 9223372036854775807
      · obtain ⟨hA1, hA2⟩ := hA
        by_cases hM : -9223372036854775808 ≤ a0 * a1 ∧ a0 * a1 ≤ 9223372036854775807
        · obtain ⟨hM1, hM2⟩ := hM
          have hc1 : -9223372036854775808 ≤ a1 * a0 := by rw [Int.mul_comm]; exact hM1
          have hc2 : a1 * a0 ≤ 9223372036854775807 := by rw [Int.mul_comm]; exact hM2
          have hc3 : (a0 * a1 != a1 * a0) = false := by rw [Int.mul_comm]; simp
          have hX : Hid (¬ (a0 * a1 = -9223372036854775808 ∧ a1 = -1)) := by unfold Hid; rintro ⟨h, rfl⟩; omega
          have hF : Hid ((a0 * a1).fdiv a1 = a0) := Int.mul_fdiv_cancel _ (by omega)
          go_enter Try.func7, Try.ntmps7
          go_wp2_with (first | (go_at_call 13; refine (Chk.fixed_any _).mono ?_; rintro e w' ⟨rfl, rfl⟩) | (go_at_call 9; refine (Chk.add_ok _ _ _ (by omega) (by omega) (by omega) (by omega) (by omega) (by omega)).mono ?_; rintro e w' ⟨rfl, rfl⟩) | (go_at_call 11; refine (Chk.sub_ok _ _ _ (by omega) (by omega) (by omega) (by omega) (by omega) (by omega)).mono ?_; rintro e w' ⟨rfl, rfl⟩) | (go_at_call 18; refine (Chk.mul_ok _ _ _ (by omega) (by omega) (by omega) (by omega) (by omega) (by omega)).mono ?_; rintro e w' ⟨rfl, rfl⟩) | (go_at_call_of 22 (Value.int .i64 (a0 * a1)); refine (floor_at (a0 * a1) a1 a0 _ (by omega) (by omega) (by omega) hX.out hF.out (by omega)).mono ?_; rintro e w' ⟨rfl, rfl⟩) | (go_at_call 20; refine (Chk.rest_no _ _ _ (by omega)).mono ?_; rintro e w' ⟨rfl, rfl⟩))
          go_ret
          exact ⟨rfl, Grown.refl _⟩
        · have hM3 : a0 * a1 < -9223372036854775808 ∨ 9223372036854775807 < a0 * a1 := by omega
          have hM4 : a1 * a0 < -9223372036854775808 ∨ 9223372036854775807 < a1 * a0 := by rw [Int.mul_comm]; exact hM3
          clear hM
          go_enter Try.func7, Try.ntmps7
          go_wp2_with (first | (go_at_call 13; refine (Chk.fixed_any _).mono ?_; rintro e w' ⟨rfl, rfl⟩) | (go_at_call 9; refine (Chk.add_ok _ _ _ (by omega) (by omega) (by omega) (by omega) (by omega) (by omega)).mono ?_; rintro e w' ⟨rfl, rfl⟩) | (go_at_call 11; refine (Chk.sub_ok _ _ _ (by omega) (by omega) (by omega) (by omega) (by omega) (by omega)).mono ?_; rintro e w' ⟨rfl, rfl⟩) | (go_at_call 18; refine (Chk.mul_no _ _ _ (by omega) (by omega) (by omega) (by omega) (by omega)).mono ?_; rintro e w' ⟨rfl, rfl⟩) | (go_at_call 20; refine (Chk.rest_no _ _ _ (by omega)).mono ?_; rintro e w' ⟨rfl, rfl⟩))
          go_ret
          exact ⟨rfl, Grown.refl _⟩
      · have hA3 : a0 + a1 < -9223372036854775808 ∨ 9223372036854775807 < a0 + a1 := by omega
        clear hA
        by_cases hM : -9223372036854775808 ≤ a0 * a1 ∧ a0 * a1 ≤ 9223372036854775807
        · obtain ⟨hM1, hM2⟩ := hM
          have hc1 : -9223372036854775808 ≤ a1 * a0 := by rw [Int.mul_comm]; exact hM1
          have hc2 : a1 * a0 ≤ 9223372036854775807 := by rw [Int.mul_comm]; exact hM2
          have hc3 : (a0 * a1 != a1 * a0) = false := by rw [Int.mul_comm]; simp
          have hX : Hid (¬ (a0 * a1 = -9223372036854775808 ∧ a1 = -1)) := by unfold Hid; rintro ⟨h, rfl⟩; omega
          have hF : Hid ((a0 * a1).fdiv a1 = a0) := Int.mul_fdiv_cancel _ (by omega)
          go_enter Try.func7, Try.ntmps7
          go_wp2_with (first | (go_at_call 13; refine (Chk.fixed_any _).mono ?_; rintro e w' ⟨rfl, rfl⟩) | (go_at_call 9; refine (Chk.add_no _ _ _ (by omega) (by omega) (by omega) (by omega) (by omega)).mono ?_; rintro e w' ⟨rfl, rfl⟩) | (go_at_call 18; refine (Chk.mul_ok _ _ _ (by omega) (by omega) (by omega) (by omega) (by omega) (by omega)).mono ?_; rintro e w' ⟨rfl, rfl⟩) | (go_at_call_of 22 (Value.int .i64 (a0 * a1)); refine (floor_at (a0 * a1) a1 a0 _ (by omega) (by omega) (by omega) hX.out hF.out (by omega)).mono ?_; rintro e w' ⟨rfl, rfl⟩) | (go_at_call 20; refine (Chk.rest_no _ _ _ (by omega)).mono ?_; rintro e w' ⟨rfl, rfl⟩))
          go_ret
          exact ⟨rfl, Grown.refl _⟩
        · have hM3 : a0 * a1 < -9223372036854775808 ∨ 9223372036854775807 < a0 * a1 := by omega
          have hM4 : a1 * a0 < -9223372036854775808 ∨ 9223372036854775807 < a1 * a0 := by rw [Int.mul_comm]; exact hM3
          clear hM
          go_enter Try.func7, Try.ntmps7
          go_wp2_with (first | (go_at_call 13; refine (Chk.fixed_any _).mono ?_; rintro e w' ⟨rfl, rfl⟩) | (go_at_call 9; refine (Chk.add_no _ _ _ (by omega) (by omega) (by omega) (by omega) (by omega)).mono ?_; rintro e w' ⟨rfl, rfl⟩) | (go_at_call 18; refine (Chk.mul_no _ _ _ (by omega) (by omega) (by omega) (by omega) (by omega)).mono ?_; rintro e w' ⟨rfl, rfl⟩) | (go_at_call 20; refine (Chk.rest_no _ _ _ (by omega)).mono ?_; rintro e w' ⟨rfl, rfl⟩))
          go_ret
          exact ⟨rfl, Grown.refl _⟩
  · have hP : 1 ≤ a1 := by omega
    have hr1 := Int.emod_nonneg a0 (show a1 ≠ 0 by omega)
    have hr2 := Int.emod_lt_of_pos a0 (show 0 < a1 by omega)
    have hqr := Int.mul_ediv_add_emod a0 a1
    have hqe := Int.fdiv_eq_ediv_of_nonneg a0 (show 0 ≤ a1 by omega)
    have hql := floor_low a0 a1 l0 hP
    obtain ⟨r, hr⟩ : ∃ r, a0 % a1 = r := ⟨_, rfl⟩
    obtain ⟨q, hq⟩ : ∃ q, a0.fdiv a1 = q := ⟨_, rfl⟩
    rw [hr] at hr1 hr2 hqr
    rw [← hqe, hq] at hqr
    rw [hq] at hql
    have hB := back a0 a1 l0 u0 q r hqr
    have hr : Hid (a0 % a1 = r) := hr
    have hq : Hid (a0.fdiv a1 = q) := hq
    clear hqr hqe hR
    by_cases hA : -9223372036854775808 ≤ a0 + a1 ∧ a0 + a1 ≤ 9223372036854775807
    · obtain ⟨hA1, hA2⟩ := hA
      by_cases hM : -9223372036854775808 ≤ a0 * a1 ∧ a0 * a1 ≤ 9223372036854775807
      · obtain ⟨hM1, hM2⟩ := hM
        have hc1 : -9223372036854775808 ≤ a1 * a0 := by rw [Int.mul_comm]; exact hM1
        have hc2 : a1 * a0 ≤ 9223372036854775807 := by rw [Int.mul_comm]; exact hM2
        have hc3 : (a0 * a1 != a1 * a0) = false := by rw [Int.mul_comm]; simp
        have hX : Hid (¬ (a0 * a1 = -9223372036854775808 ∧ a1 = -1)) := by unfold Hid; rintro ⟨h, rfl⟩; omega
        have hF : Hid ((a0 * a1).fdiv a1 = a0) := Int.mul_fdiv_cancel _ (by omega)
        go_enter Try.func7, Try.ntmps7
        go_wp2_with (first | (go_at_call 13; refine (Chk.fixed_any _).mono ?_; rintro e w' ⟨rfl, rfl⟩) | (go_at_call 9; refine (Chk.add_ok _ _ _ (by omega) (by omega) (by omega) (by omega) (by omega) (by omega)).mono ?_; rintro e w' ⟨rfl, rfl⟩) | (go_at_call 11; refine (Chk.sub_ok _ _ _ (by omega) (by omega) (by omega) (by omega) (by omega) (by omega)).mono ?_; rintro e w' ⟨rfl, rfl⟩) | (go_at_call 18; refine (Chk.mul_ok _ _ _ (by omega) (by omega) (by omega) (by omega) (by omega) (by omega)).mono ?_; rintro e w' ⟨rfl, rfl⟩) | (go_at_call_of 22 (Value.int .i64 (a0 * a1)); refine (floor_at (a0 * a1) a1 a0 _ (by omega) (by omega) (by omega) hX.out hF.out (by omega)).mono ?_; rintro e w' ⟨rfl, rfl⟩) | (go_at_call 20; refine (rest_at a0 a1 r _ (by omega) (by omega) (by omega) (by omega) hr.out).mono ?_; rintro e w' ⟨rfl, rfl⟩) | (go_at_call_of 22 (Value.int .i64 a0); refine (floor_at a0 a1 q _ (by omega) (by omega) (by omega) (by omega) hq.out hql).mono ?_; rintro e w' ⟨rfl, rfl⟩))
        go_ret
        exact ⟨rfl, Grown.refl _⟩
      · have hM3 : a0 * a1 < -9223372036854775808 ∨ 9223372036854775807 < a0 * a1 := by omega
        have hM4 : a1 * a0 < -9223372036854775808 ∨ 9223372036854775807 < a1 * a0 := by rw [Int.mul_comm]; exact hM3
        clear hM
        go_enter Try.func7, Try.ntmps7
        go_wp2_with (first | (go_at_call 13; refine (Chk.fixed_any _).mono ?_; rintro e w' ⟨rfl, rfl⟩) | (go_at_call 9; refine (Chk.add_ok _ _ _ (by omega) (by omega) (by omega) (by omega) (by omega) (by omega)).mono ?_; rintro e w' ⟨rfl, rfl⟩) | (go_at_call 11; refine (Chk.sub_ok _ _ _ (by omega) (by omega) (by omega) (by omega) (by omega) (by omega)).mono ?_; rintro e w' ⟨rfl, rfl⟩) | (go_at_call 18; refine (Chk.mul_no _ _ _ (by omega) (by omega) (by omega) (by omega) (by omega)).mono ?_; rintro e w' ⟨rfl, rfl⟩) | (go_at_call 20; refine (rest_at a0 a1 r _ (by omega) (by omega) (by omega) (by omega) hr.out).mono ?_; rintro e w' ⟨rfl, rfl⟩) | (go_at_call_of 22 (Value.int .i64 a0); refine (floor_at a0 a1 q _ (by omega) (by omega) (by omega) (by omega) hq.out hql).mono ?_; rintro e w' ⟨rfl, rfl⟩))
        go_ret
        exact ⟨rfl, Grown.refl _⟩
    · have hA3 : a0 + a1 < -9223372036854775808 ∨ 9223372036854775807 < a0 + a1 := by omega
      clear hA
      by_cases hM : -9223372036854775808 ≤ a0 * a1 ∧ a0 * a1 ≤ 9223372036854775807
      · obtain ⟨hM1, hM2⟩ := hM
        have hc1 : -9223372036854775808 ≤ a1 * a0 := by rw [Int.mul_comm]; exact hM1
        have hc2 : a1 * a0 ≤ 9223372036854775807 := by rw [Int.mul_comm]; exact hM2
        have hc3 : (a0 * a1 != a1 * a0) = false := by rw [Int.mul_comm]; simp
        have hX : Hid (¬ (a0 * a1 = -9223372036854775808 ∧ a1 = -1)) := by unfold Hid; rintro ⟨h, rfl⟩; omega
        have hF : Hid ((a0 * a1).fdiv a1 = a0) := Int.mul_fdiv_cancel _ (by omega)
        go_enter Try.func7, Try.ntmps7
        go_wp2_with (first | (go_at_call 13; refine (Chk.fixed_any _).mono ?_; rintro e w' ⟨rfl, rfl⟩) | (go_at_call 9; refine (Chk.add_no _ _ _ (by omega) (by omega) (by omega) (by omega) (by omega)).mono ?_; rintro e w' ⟨rfl, rfl⟩) | (go_at_call 18; refine (Chk.mul_ok _ _ _ (by omega) (by omega) (by omega) (by omega) (by omega) (by omega)).mono ?_; rintro e w' ⟨rfl, rfl⟩) | (go_at_call_of 22 (Value.int .i64 (a0 * a1)); refine (floor_at (a0 * a1) a1 a0 _ (by omega) (by omega) (by omega) hX.out hF.out (by omega)).mono ?_; rintro e w' ⟨rfl, rfl⟩) | (go_at_call 20; refine (rest_at a0 a1 r _ (by omega) (by omega) (by omega) (by omega) hr.out).mono ?_; rintro e w' ⟨rfl, rfl⟩) | (go_at_call_of 22 (Value.int .i64 a0); refine (floor_at a0 a1 q _ (by omega) (by omega) (by omega) (by omega) hq.out hql).mono ?_; rintro e w' ⟨rfl, rfl⟩))
        go_ret
        exact ⟨rfl, Grown.refl _⟩
      · have hM3 : a0 * a1 < -9223372036854775808 ∨ 9223372036854775807 < a0 * a1 := by omega
        have hM4 : a1 * a0 < -9223372036854775808 ∨ 9223372036854775807 < a1 * a0 := by rw [Int.mul_comm]; exact hM3
        clear hM
        go_enter Try.func7, Try.ntmps7
        go_wp2_with (first | (go_at_call 13; refine (Chk.fixed_any _).mono ?_; rintro e w' ⟨rfl, rfl⟩) | (go_at_call 9; refine (Chk.add_no _ _ _ (by omega) (by omega) (by omega) (by omega) (by omega)).mono ?_; rintro e w' ⟨rfl, rfl⟩) | (go_at_call 18; refine (Chk.mul_no _ _ _ (by omega) (by omega) (by omega) (by omega) (by omega)).mono ?_; rintro e w' ⟨rfl, rfl⟩) | (go_at_call 20; refine (rest_at a0 a1 r _ (by omega) (by omega) (by omega) (by omega) hr.out).mono ?_; rintro e w' ⟨rfl, rfl⟩) | (go_at_call_of 22 (Value.int .i64 a0); refine (floor_at a0 a1 q _ (by omega) (by omega) (by omega) (by omega) hq.out hql).mono ?_; rintro e w' ⟨rfl, rfl⟩))
        go_ret
        exact ⟨rfl, Grown.refl _⟩

/-! ### THE ROW's STEP: WRITTEN OUT: LEAVE IT -/
set_option maxRecDepth 100000 in
theorem lifted (os : Os) (started : os.Started) (H : Type) (enc : TypeId × Value → H) :
    ReturnsInHanded {} Try.checked os 7 .any (Rows.chkAgreesSpec.pre6 enc Try.prog Try.f7 Rows.chkAgreesRow.domain false) (Rows.chkAgreesSpec.post enc Try.prog Try.f7 false true false false) := by
  refine returnsInHanded_of_change (C := Try.checked) own started (by kernel_rfl) Try.func7
    (ChangeSpec.witness6 (enc := enc) (C := Try.checked) false ⟨#[], #[.int .i64 0, .int .i64 0], []⟩ 8 (by kernel_rfl) (by kernel_rfl) (by kernel_rfl) (by kernel_rfl)) ?_
  intro W base args ds gs before hval0 hW hcnd _
  have hval : ∀ (j : Nat) t v, Try.f7.params[j]? = some t → args[j]? = some v → Value.okWide Try.prog W .any base t v := hval0
  have hW' := hW
  obtain ⟨p, q, hA0, hV, rfl, hfz, hnd⟩ := hW
  have hA : DataW.TrodAll enc Try.prog W 0 (fun _ => true) true Try.f7.params.toList args.toList ds p := hA0
  rw [Try.params7] at hA hval
  obtain ⟨v0, vs0, d0, ds0, p0, q0, hargs, rfl, rfl, h0, r0⟩ := trodAll_cons hA
  obtain ⟨v1, vs1, d1, ds1, p1, q1, rfl, rfl, rfl, h1, r1⟩ := trodAll_cons r0
  obtain ⟨rfl, rfl, rfl⟩ := trodAll_nil r1
  obtain rfl : args = #[v0, v1] := by cases args; simp_all
  obtain ⟨rfl, rfl⟩ := trodVars_none hV
  obtain ⟨a0, rfl, rfl, rfl, w0⟩ := open_int Try.underlying2 (hval 0 2 v0 rfl rfl) h0
  obtain ⟨a1, rfl, rfl, rfl, w1⟩ := open_int Try.underlying2 (hval 1 2 v1 rfl rfl) h1
  clear hA0 hval0
  simp only [List.append_nil] at hW'
  refine (walk a0 a1 w0 w1 W).mono fun e W' ⟨he, hg⟩ => ?_
  subst he
  exact ⟨_, rfl, post_of_same (pa := []) (pv := []) hW' (fun _ _ _ => (trodAll_cons_mk (shut_bool Try.underlying4 _) trodAll_mk0)) (fun sp _ => (trodAll_cons_mk (shut_int Try.underlying2 w0) (trodAll_cons_mk (shut_int Try.underlying2 w1) trodAll_mk0))) (fun _ _ => rfl) rfl
    (hg.frame _) hg.2.1 (ok_one (by kernel_rfl) rfl (okWide_bool_mk Try.underlying4 _))⟩

theorem over : Rows.chkAgreesRow.holds Try.pinned (OpenSpec.ofChange Rows.chkAgreesSpec) :=
  OpenClaim.holds_of_wide 7 Try.f7 rfl rfl rfl rfl rfl rfl rfl ⟨rfl, rfl, rfl, rfl, rfl⟩ rfl rfl rfl rfl rfl (by kernel_rfl) Try.func7 (by kernel_rfl)
    (of_decide_eq_true (by kernel_rfl)) (by unfold Func.isWrapper; first | (rw [if_pos (by decide +kernel)]; kernel_rfl) | (rw [if_neg (by decide +kernel)]; exact ⟨rfl, rfl⟩))
    (fun os started H enc _ => lifted os started H enc)

/-- ████ THE STATEMENT ████ -/
theorem proved : Rows.ChkAgreesSaid :=
  over
#print axioms proved
end Go.Proofs.Ytgmnohfleadohaa.chkAgrees
